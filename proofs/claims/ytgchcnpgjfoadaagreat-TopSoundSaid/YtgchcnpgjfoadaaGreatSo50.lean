import Derived.Test.YtgchcnpgjfoadaaGreatSoMc
import Derived.Test.YtgchcnpgjfoadaaGreatFg33
import Derived.Test.YtgchcnpgjfoadaaGreatChRow
namespace Go.Proofs.YtgchcnpgjfoadaaGreat
open Go.ChangeShapes Go.WideShapes Go.RowKit
open Sh
theorem chcodes_zero {Q:Nat→Ch}:∀ {n:Nat},(∀ k,k < n→chcode (Q k)=0)→chcodes Q n=0
  | 0,_=>rfl
  | n + 1,h=>by
    show (if chcodes Q n=0 then chcode (Q n) else chcodes Q n)=0
    rw [if_pos (chcodes_zero fun k hk=>h k (by omega)),h n (by omega)]
theorem ccode_pu {Q:Nat→Pu} {n:Nat} (h:vpcode n Q=0):ccode n (fun k=>chp (Q k))=0:=by
  obtain ⟨h0,h1⟩:=vpk_ok h
  unfold ccode
  rw [if_neg (by omega)]
  refine chcodes_zero fun k hk=>?_
  have:=h1 k hk
  rw [pucode_of] at this
  by_cases z:chcode (chp (Q k))=0
  · exact z
  · rw [if_neg z] at this;exact this
def totR (n:Nat) (Q:Nat→Pu) (x:P3) (D:Int):Sp.R:=if vpcode n Q=0 then (if akc x D=0 then sceR (fun k=>potC x D (chp (Q k))) n else ((0,0),akc x D)) else ((0,0),vpcode n Q)
theorem tot_pot {Q:Nat→Pu} {n:Nat} {x:P3} {D:Int} (h:vpcode n Q=0):potF n (fun k=>chp (Q k)) x D=totR n Q x D:=by
  unfold potF totR
  rw [if_pos (ccode_pu h),if_pos h]
theorem ac_akc (x:P3) (D:Int):acode8 x 1 0 D=akc x D:=by
  unfold acode8 akc
  cases inP 256 x <;> cases rngB D 0 3 <;> rfl
theorem ccs_snoc (Q:Nat→Ch) (k:Nat) (q:Ch) (h:Q k=q):ccs Q k ++ [.int .i64 q.1.1.1,.int .i64 q.1.1.2.1,.int .i64 q.1.1.2.2,.int .i64 q.1.2.1.1,.int .i64 q.1.2.1.2.1,.int .i64 q.1.2.1.2.2,.int .i64 q.1.2.2.1,.int .i64 q.1.2.2.2.1,.int .i64 q.1.2.2.2.2,.int .i64 q.2]=ccs Q (k + 1):=by
  subst h
  rw [ccs_succ]
theorem ch_new8 (w:World) (q:Ch) (t:TypeId) (b:Nat) (h:b=w.heap.size):∀ j u,[.int .i64 q.1.1.1,.int .i64 q.1.1.2.1,.int .i64 q.1.1.2.2,.int .i64 q.1.2.1.1,.int .i64 q.1.2.1.2.1,.int .i64 q.1.2.1.2.2,.int .i64 q.1.2.2.1,.int .i64 q.1.2.2.2.1,.int .i64 q.1.2.2.2.2,.int .i64 q.2][j]?=some u→(w.alloc (.cells #[.int .i64 q.1.1.1,.int .i64 q.1.1.2.1,.int .i64 q.1.1.2.2,.int .i64 q.1.2.1.1,.int .i64 q.1.2.1.2.1,.int .i64 q.1.2.1.2.2,.int .i64 q.1.2.2.1,.int .i64 q.1.2.2.2.1,.int .i64 q.1.2.2.2.2,.int .i64 q.2] t)).cell? ((⟨b,0,none⟩:Addr).add j)=some u:=by
  subst h
  exact cells10 w _ _ _ _ _ _ _ _ _ _ t
theorem lstC_own {w:World} {u:Value} {n:Nat} {Q:Nat→Ch} (h:w.ownsRow 0 65 10 u n (ccs Q n)):∃ a c,u=.slice a n c∧LstC w a n Q:=by
  rcases Nat.eq_zero_or_pos n with h0 | h0
  · subst h0
    rcases h.2 with ⟨e,_⟩ | ⟨g,cap,cur,e,_⟩
    · exact ⟨none,0,e,fun k=>absurd k (Nat.lt_irrefl 0)⟩
    · exact ⟨_,cap,e,fun k=>absurd k (Nat.lt_irrefl 0)⟩
  · obtain ⟨g,cap,e,_,r⟩:=rowC_of h h0
    exact ⟨_,cap,e,fun _=>⟨g,0,rfl,r⟩⟩
set_option maxRecDepth 100000 in
set_option maxHeartbeats 2000000 in
theorem tot_v (a:Option Addr) (n c:Nat) (x:P3) (D:Int) (vc:Int) (w:World) (V:Hid (∀ W,Below w.heap.size w W→Calls Tryz.prog 27 #[.slice a n c] W fun e w'=>e=.returned (.int .i64 vc)∧Below W.heap.size W w')) (z:(vc != 0)=true):Calls Tryz.prog 8 #[.slice a n c,ptv x,.int .i64 D] w fun e w'=>e=.returned (spr ((0,0),vc))∧Below w.heap.size w w':=by
  have X0:=Lib.hid (own_alloc (own_new w x 24) (.cells #[.int .i64 0,.int .i64 0] 34))
  have R0:=Lib.hid (pair_new (w.alloc (ptc x 24)) 0 0 34)
  have B0:=Lib.hid (show Below w.heap.size w ((w.alloc (ptc x 24)).alloc (.cells #[.int .i64 0,.int .i64 0] 34)) by (repeat' (first | exact Below.refl _ _ | refine Below.setCell ?_ (by simp <;> omega) _ | refine balloc ?_ _ | refine Below.drew ?_ | refine bdrewN ?_ _)))
  simp only [World.size_alloc] at R0
  go_enter Tryz.func8,Tryz.ntmps8
  go_wp2_with fail
  refine (V.out _ B0.out).mono ?_
  rintro e w1 ⟨rfl,hb1⟩
  obtain ⟨g0,g1,g2,g3,gl⟩:=pair_below R0.out hb1
  go_wp2
  refine bodyPost_ret (v:=spr ((0,0),vc)) (by rw [results_cell_tmp rfl];go_simp) rfl ⟨rfl,?_⟩
  (repeat' (first | exact Below.refl _ _ | refine bstep ?_ hb1 | refine Below.setCell ?_ (by simp <;> omega) _ | refine balloc ?_ _ | refine Below.drew ?_ | refine bdrewN ?_ _))
set_option maxRecDepth 100000 in
set_option maxHeartbeats 2000000 in
theorem tot_ok (a:Option Addr) (n c:Nat) (x:P3) (D:Int) (Q:Nat→Pu) (Q':Nat→Ch) (r:Sp.R) (w:World) (V:Hid (∀ W,Below w.heap.size w W→Calls Tryz.prog 27 #[.slice a n c] W fun e w'=>e=.returned (.int .i64 0)∧Below W.heap.size W w')) (rr:LstU w a n Q) (hn:n≤16) (hQ:∀ k,chp (Q k)=Q' k) (PO:Hid (∀ a' c' W,LstC W a' n Q'→Calls Tryz.prog 29 #[.slice a' n c',ptv x,.int .i64 D] W fun e w'=>e=.returned (spr r)∧Below W.heap.size W w')):Calls Tryz.prog 8 #[.slice a n c,ptv x,.int .i64 D] w fun e w'=>e=.returned (spr r)∧Below w.heap.size w w':=by
  obtain ⟨i0,hi,hz0,hz1,hz2⟩:=info_parts infoC
  have HI:=Lib.hid hi
  have HZ0:=Lib.hid hz0
  have HZ1:=Lib.hid hz1
  have HZ2:=Lib.hid hz2
  have RR:=Lib.hid rr
  have hn':(n:Int)≤16:=by omega
  clear hi hz0 hz1 hz2 rr
  have X0:=Lib.hid (own_alloc (own_new w x 24) (.cells #[.int .i64 0,.int .i64 0] 34))
  have R0:=Lib.hid (pair_new (w.alloc (ptc x 24)) 0 0 34)
  have B0:=Lib.hid (show Below w.heap.size w ((w.alloc (ptc x 24)).alloc (.cells #[.int .i64 0,.int .i64 0] 34)) by (repeat' (first | exact Below.refl _ _ | refine Below.setCell ?_ (by simp <;> omega) _ | refine balloc ?_ _ | refine Below.drew ?_ | refine bdrewN ?_ _)))
  simp only [World.size_alloc] at R0
  go_enter Tryz.func8,Tryz.ntmps8
  go_wp2_with fail
  refine (V.out _ B0.out).mono ?_
  rintro e w1 ⟨rfl,hb1⟩
  have X1:=Lib.hid (own_below X0.out hb1)
  have R1:=Lib.hid (pair_below R0.out hb1)
  have B1:=Lib.hid (bstep B0.out hb1)
  have l0:w.heap.size < w1.heap.size:=by have:=hb1.size;simp at this;omega
  have l1:w.heap.size + 1 < w1.heap.size:=by have:=hb1.size;simp at this;omega
  clear hb1 X0 R0 B0
  go_wp2
  go_loopw [9,20] (fun sv kv wr=>∃ k:Nat,k≤n∧kv=.int .i64 k∧wr.ownsRow w1.heap.size 65 10 sv k (ccs Q' k)∧Below w1.heap.size w1 wr) (fun _ kv _=>n - (intOf kv).toNat)
  case atStart=>exact ⟨0,Nat.zero_le _,rfl,World.ownsRow_nil _ _ _ _,Below.refl _ _⟩
  case round =>
    obtain ⟨k,hk,rfl,how,hbb⟩:=hrel
    have OW0:=Lib.hid how
    have BB:=Lib.hid hbb
    have szw:=hbb.size
    clear how hbb
    by_cases hlt:k < n
    · have hk1:(k:Int) < (n:Int):=by omega
      obtain ⟨b,off,rfl,rw0⟩:=RR.out (show 0 < n by omega)
      have hbl:b < w.heap.size:=rw0.1
      have r2:=rowU_in (rowU_in rw0 B1.out hbl) BB.out (by omega)
      obtain ⟨c0,c1,c2,c3,c4,c5,c6,c7,c8,c9,c10⟩:=r2.2 k hlt
      have r5:=r2.1
      have NX:=Lib.hid (ccs_snoc Q' k (chp (Q k)) (hQ k).symm)
      clear r2 rw0
      generalize Q k=q at *
      have CH:=Lib.hid (fun W=>chg_any q W)
      obtain ⟨q1,hq1⟩:∃ q1,chp q=q1:=⟨_,rfl⟩
      rw [hq1] at CH NX
      clear hq1
      go_wp2_with fail
      with_reducible refine (CH.out _).mono ?_
      rintro e w4 ⟨rfl,hb4⟩
      have O4:=Lib.hid (own_below9 (World.ownsRow.alloc OW0.out _) hb4)
      have B4:=Lib.hid (show Below w1.heap.size wr w4 from ((Below.refl w1.heap.size wr).alloc szw _).trans (hb4.mono (by simp;omega)))
      have sz4:wr.heap.size≤w4.heap.size:=B4.out.size
      clear hb4 c0 c1 c2 c3 c4 c5 c6 c7 c8 c9 c10
      go_wp2_with (at_builtin;go_loud (refine wpList_append_own _ rfl _ _ 63 rfl w1.heap.size 65 i0 (.agg #[.int .i64 0,.int .i64 0,.int .i64 0,.int .i64 0,.int .i64 0,.int .i64 0,.int .i64 0,.int .i64 0,.int .i64 0,.int .i64 0]) 10 80 Tryz.underlying63 HI.out HZ0.out HZ1.out HZ2.out rfl (by decide) _ k (ccs Q' k) rfl (World.ownsRow.alloc O4.out _) ⟨_,0,none⟩ 1 1 [.int .i64 q1.1.1.1,.int .i64 q1.1.1.2.1,.int .i64 q1.1.1.2.2,.int .i64 q1.1.2.1.1,.int .i64 q1.1.2.1.2.1,.int .i64 q1.1.2.1.2.2,.int .i64 q1.1.2.2.1,.int .i64 q1.1.2.2.2.1,.int .i64 q1.1.2.2.2.2,.int .i64 q1.2] rfl rfl (ch_new8 _ q1 _ _ (by simp)) (one10 _ _ _ _ _ _ _ _ _ _) (by unfold maxLen;omega) (by omega) (by simp;omega) ?_);intro v' w7 hown' hgrow _;have OW:=Lib.hid hown';have GR:=Lib.hid hgrow;clear hown' hgrow)
      have BG:=Lib.hid (BB.out.trans ((B4.out.alloc (by omega) _).grown GR.out (by simp;omega) (fun gg hg=>(OW0.out.lt gg hg).1)))
      go_roundw
      case rel=>exact ⟨k + 1,by omega,by go_num,by rw [← NX.out];exact OW.out,BG.out⟩
      case measure=>simp [intOf];omega
    · obtain rfl:k=n:=by omega
      obtain ⟨x0,x1,x2⟩:=own_cells (own_in' X1.out BB.out l0)
      have R2:=Lib.hid (pair_in R1.out BB.out l1)
      have B2:=Lib.hid (B1.out.trans (BB.out.mono (by omega)))
      obtain ⟨a',c',rfl,lc⟩:=lstC_own (own_base9 OW0.out (Nat.zero_le _))
      have PO1:=Lib.hid (PO.out a' c' _ lc)
      clear lc OW0
      go_wp2_with fail
      with_reducible refine PO1.out.mono ?_
      rintro e w5 ⟨rfl,hb5⟩
      obtain ⟨g0,g1,g2,g3,gl⟩:=pair_below R2.out hb5
      have hB:=bstep B2.out hb5
      clear hb5 x0 x1 x2
      go_wp2
      refine bodyPost_ret (v:=spr r) (by rw [results_cell_tmp rfl];go_simp) rfl ⟨rfl,?_⟩
      (repeat' (first | with_reducible exact hB | with_reducible refine Below.drew ?_ | (with_reducible refine balloc ?_ _) | (with_reducible refine Below.setCell ?_ (by simp <;> omega) _)))
theorem tot_any (a:Option Addr) (n c:Nat) (Q:Nat→Pu) (x:P3) (D:Int) (w:World) (rr:LstU w a n Q) (hn:n≤140737488355328):Calls Tryz.prog 8 #[.slice a n c,ptv x,.int .i64 D] w fun e w'=>e=.returned (spr (totR n Q x D))∧Below w.heap.size w w':=by
  have V:=fun W (B:Below w.heap.size w W)=>svp_any a n c Q W (lstU_below rr B) hn
  by_cases z:vpcode n Q=0
  · rw [z] at V
    rw [← tot_pot z]
    have h16:=(vpk_ok z).1
    exact tot_ok a n c x D Q (fun k=>chp (Q k)) _ w (Lib.hid V) rr h16 (fun _=>rfl) (Lib.hid fun a' c' W lc=>pot_any a' n c' _ x D W lc (by omega))
  · unfold totR
    rw [if_neg z]
    exact tot_v a n c x D _ w (Lib.hid V) (bne_iff_ne.2 z)
end Go.Proofs.YtgchcnpgjfoadaaGreat
