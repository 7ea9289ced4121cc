import Derived.Test.YtbcjiigmbcfkeaaGreatHo7
import Derived.Test.YtbcjiigmbcfkeaaGreatSoMb
namespace Go.Proofs.YtbcjiigmbcfkeaaGreat
open Go.ChangeShapes Go.WideShapes Go.RowKit
open Sh
theorem h7sp2 (w:World) (b:Nat) (x y:Int) (t:TypeId) (hb:b=w.heap.size):∀ j u,([.int .i64 x,.int .i64 y]:List Value)[j]?=some u→(w.alloc (.cells #[.int .i64 x,.int .i64 y] t)).cell? ((⟨b,0,none⟩:Addr).add j)=some u:=by
  subst hb
  exact sp2_new w x y t
def lsF (g:Nat→Int × Int):Nat→List (Int × Int)
  | 0=>[]
  | k+1=>lsF g k ++ [g k]
theorem lsF_len (g:Nat→Int × Int):∀ k,(lsF g k).length=k
  | 0=>rfl
  | k+1=>by show (lsF g k ++ [g k]).length=_;rw [List.length_append,lsF_len g k];rfl
theorem lsF_at (g:Nat→Int × Int) {k:Nat}:∀ {n:Nat},k<n→(lsF g n).getD k (0,0)=g k
  | n+1,h=>by
    show (lsF g n ++ [g n]).getD k (0,0)=g k
    rw [List.getD_eq_getElem?_getD]
    by_cases e:k=n
    · subst e
      rw [List.getElem?_append_right (by rw [lsF_len];omega),lsF_len,Nat.sub_self]
      rfl
    · rw [List.getElem?_append_left (by rw [lsF_len];omega),← List.getD_eq_getElem?_getD]
      exact lsF_at g (by omega)
theorem row_ext {w:World} {b off n:Nat} {l h l' h':Nat→Int} (r:Row w b off n l h) (e:∀ k,k<n→l k=l' k∧h k=h' k):Row w b off n l' h' :=
  ⟨r.1,fun k hk=>by rw [← (e k hk).1,← (e k hk).2];exact r.2 k hk⟩
theorem row_lsF {w:World} {base n:Nat} {v:Value} {g:Nat→Int × Int} (h:w.ownsRow base 39 2 v n (svs (lsF g n))) (h0:0<n):∃ q cap,v=.slice (some ⟨q,0,none⟩) n cap∧Row w q 0 n (fun k=>(g k).1) (fun k=>(g k).2):=by
  obtain ⟨q,cap,rfl⟩:=own_slice8 h h0
  exact ⟨q,cap,rfl,row_ext (row_of8 h (lsF_len g n)) fun k hk=>by rw [lsF_at g hk];exact ⟨rfl,rfl⟩⟩
def TabM (w:World) (g n:Nat) (f:Nat→Nat→Int × Int):Prop:=g<w.heap.size∧∀ j,j<n→∃ b cap,g<b∧w.cell? ⟨g,j,none⟩=some (.slice (some ⟨b,0,none⟩) n cap)∧Row w b 0 n (fun i=>(f j i).1) (fun i=>(f j i).2)
theorem tabM_below {w w1:World} {g n:Nat} {f:Nat→Nat→Int × Int} (h:TabM w g n f) (hb:Below w.heap.size w w1):TabM w1 g n f:=by
  refine ⟨Nat.lt_of_lt_of_le h.1 hb.size,fun j hj=>?_⟩
  obtain ⟨b,cap,l,c,r⟩:=h.2 j hj
  exact ⟨b,cap,l,(hb.cell (p:=⟨g,j,none⟩) h.1).trans c,row_below r hb⟩
theorem tabM_set {w:World} {g n p:Nat} {f:Nat→Nat→Int × Int} (h:TabM w g n f) (hp:p<g) (i:Nat) (v:Value):TabM (w.setCell ⟨p,i,none⟩ v) g n f:=by
  refine ⟨by simpa using h.1,fun j hj=>?_⟩
  obtain ⟨b,cap,l,c,r1,r2⟩:=h.2 j hj
  have e1:¬ (p=g):=by omega
  have e2:¬ (p=b):=by omega
  refine ⟨b,cap,l,by go_simp,by simpa using r1,fun k hk=>?_⟩
  obtain ⟨c0,c1⟩:=r2 k hk
  simp only [Nat.zero_add] at c0 c1 ⊢
  exact ⟨by go_simp,by go_simp⟩
theorem pt_ok {n:Nat} {f:Nat→Nat→Int × Int} {c:Nat→Int} (t:TB n f) (hn:n≤96) (hc:∀ i,i<n→0≤c i∧c i≤100) {j:Nat} (hj:j<n) :
    wtR (fun i=>(f j i).1) (fun i=>(f j i).2) c n=((ptL f c n j,ptH f c n j),0)∧0≤ptL f c n j∧ptL f c n j≤ptH f c n j∧ptH f c n j≤644245113600:=by
  have a:=pt_lo t hc hj
  have b:=pt_le t hc hj
  have d:=pt_hi t hc hj
  have e:=ch_sm hn hc
  have q:ptH f c n j≤644245113600:=by omega
  have q0:0≤ptL f c n j:=by omega
  exact ⟨Sp.told_yes (Sp.vld_iff.2 (show -1099511627776≤ptL f c n j∧ptL f c n j≤ptH f c n j∧ptH f c n j≤1099511627776 from ⟨by omega,b,by omega⟩)),q0,b,q⟩
set_option maxRecDepth 100000 in
set_option maxHeartbeats 4000000 in
theorem hpt_any (g0 cap0 b1 off1 cap1 n:Nat) (f:Nat→Nat→Int × Int) (c:Nat→Int) (w:World) (rt:TabM w g0 n f) (rc:RowI w b1 off1 n c) (h0:0<n) (hn:n≤96) (tb:TB n f) (hc:∀ i,i<n→0≤c i∧c i≤100) :
    Calls Tryz.prog 56 #[.slice (some ⟨g0,0,none⟩) n cap0,.slice (some ⟨b1,off1,none⟩) n cap1] w fun e w'=>∃ q cap,e=.returned (.tuple #[.slice (some ⟨q,0,none⟩) n cap,.int .i64 0])∧Row w' q 0 n (ptL f c n) (ptH f c n)∧Below w.heap.size w w':=by
  obtain ⟨i0,hi,hz0,hz1,hz2⟩:=info_parts infoSp8
  have HI:=Lib.hid hi
  have HZ0:=Lib.hid hz0
  have HZ1:=Lib.hid hz1
  have HZ2:=Lib.hid hz2
  have hn':(n:Int)≤96:=by omega
  have RT:=Lib.hid rt
  have RC:=Lib.hid rc
  have TBH:=Lib.hid tb
  have HC:=Lib.hid hc
  obtain ⟨g,hg⟩:∃ g:Nat→Int × Int,g=fun j=>(ptL f c n j,ptH f c n j):=⟨_,rfl⟩
  have G:=Lib.hid hg
  clear hi hz0 hz1 hz2 rt rc tb hc hg
  go_enter Tryz.func56,Tryz.ntmps56
  go_wp2
  go_loopw [6,13] (fun sv kv wr=>∃ k:Nat,k≤n∧kv=.int .i64 k∧wr.ownsRow w.heap.size 39 2 sv k (svs (lsF g k))∧Below w.heap.size w wr) (fun _ kv _=>n - (intOf kv).toNat)
  case atStart=>exact ⟨0,Nat.zero_le _,rfl,World.ownsRow_nil _ _ _ _,Below.refl _ _⟩
  case round =>
    obtain ⟨k,hk,rfl,how,hbb⟩:=hrel
    have ROW:=Lib.hid how
    have BB:=Lib.hid hbb
    have szw:=hbb.size
    clear how hbb
    by_cases hlt:k<n
    · have hk1:(k:Int)<(n:Int):=by omega
      have hk0:0≤(k:Int):=by omega
      have t0:=tabM_below RT.out BB.out
      have r1:=rowI_below RC.out BB.out
      obtain ⟨b,cap,_,c0,rw0⟩:=t0.2 k hlt
      have l0:=t0.1
      have q:=pt_ok TBH.out hn HC.out hlt
      have W5:=Lib.hid (hwt_any b cap b1 off1 cap1 n (fun i=>(f k i).1) (fun i=>(f k i).2) c wr rw0 r1 h0 hn (fun i hi=>by have:=TBH.out k i hlt hi;omega) HC.out)
      rw [q.1] at W5
      have GK:Hid (g k=(ptL f c n k,ptH f c n k)):=Lib.hid (by rw [G.out])
      have GS:=Lib.hid (show lsF g (k+1)=lsF g k ++ [g k] from rfl)
      clear t0 r1 rw0 q
      generalize ptL f c n k=u at *
      generalize ptH f c n k=v at *
      go_wp2_with fail
      with_reducible refine W5.out.mono ?_
      rintro e w5 ⟨rfl,hb5⟩
      have BW:=Lib.hid (BB.out.trans (hb5.mono szw))
      have ROWd:=Lib.hid (own_below9 ROW.out hb5)
      have sz5:=BW.out.size
      clear hb5 ROW c0 W5
      obtain ⟨e0,e1,e2,e3,el⟩:=pair_new w5 u v 39
      have ROWc:=Lib.hid (ROWd.out.alloc (.cells #[.int .i64 u,.int .i64 v] 39))
      have hm60:k+1≤96:=by omega
      go_wp2_with (at_builtin;(refine wpList_append_own _ rfl _ _ 34 rfl w.heap.size 39 i0 (.agg #[.int .i64 0,.int .i64 0]) 2 16 Tryz.underlying34 HI.out HZ0.out HZ1.out HZ2.out rfl (by decide) _ k (svs (lsF g k)) rfl (ROWc.out.alloc _) ⟨_,0,none⟩ 1 1 [.int .i64 u,.int .i64 v] rfl rfl (h7sp2 _ _ _ _ _ (by simp)) (by intro u hu;simp at hu;rcases hu with rfl|rfl <;> rfl) (by unfold maxLen;omega) (by omega) (by simp;omega) ?_);intro v' w7 hown' hgrow _;have OW:=Lib.hid hown';have GR:=Lib.hid hgrow;clear hown' hgrow)
      have BG:=Lib.hid (BW.out.trans ((((Below.refl w.heap.size w5).alloc (by omega) _).alloc (by simp;omega) _).grown GR.out (by simp;omega) (fun gg hg=>(ROWd.out.lt gg hg).1)))
      go_roundw
      case rel=>exact ⟨k+1,by omega,by go_num,by rw [GS.out,GK.out,← svs_snoc];exact OW.out,BG.out⟩
      case measure=>simp [intOf];omega
    · obtain rfl:k=n:=by omega
      obtain ⟨q,cap,rfl,rr⟩:=row_lsF ROW.out h0
      have RR:Hid (Row wr q 0 k (ptL f c k) (ptH f c k)):=Lib.hid (by rw [G.out] at rr;exact rr)
      clear rr
      have hB:=BB.out
      go_wp2
      go_ret2
      exact ⟨q,cap,rfl,RR.out,hB⟩
set_option maxRecDepth 100000 in
set_option maxHeartbeats 4000000 in
theorem hen_any (g0 cap0 b1 off1 cap1 n:Nat) (f:Nat→Nat→Int × Int) (c:Nat→Int) (w:World) (rt:TabM w g0 n f) (rc:RowI w b1 off1 n c) (h0:0<n) (hn:n≤96) (tb:TB n f) (hc:∀ i,i<n→0≤c i∧c i≤100) :
    Calls Tryz.prog 63 #[.slice (some ⟨g0,0,none⟩) n cap0,.slice (some ⟨b1,off1,none⟩) n cap1] w fun e w'=>e=.returned (spr (enR f c n))∧Below w.heap.size w w':=by
  have PT:=Lib.hid (fun W (B:Below w.heap.size w W)=>hpt_any g0 cap0 b1 off1 cap1 n f c W (tabM_below rt B) (rowI_below rc B) h0 hn tb hc)
  have WT:=Lib.hid (fun q cap W (B:Below w.heap.size w W) (r:Row W q 0 n (ptL f c n) (ptH f c n))=>hwt_any q cap b1 off1 cap1 n (ptL f c n) (ptH f c n) c W r (rowI_below rc B) h0 hn (fun i hi=>by have:=pt_ok tb hn hc hi;omega) hc)
  have R0:=Lib.hid (pair_new w 0 0 39)
  have B0:=Lib.hid (show Below w.heap.size w (w.alloc (.cells #[.int .i64 0,.int .i64 0] 39)) from balloc (Below.refl _ w) _)
  show Calls _ _ _ _ fun e w'=>e=.returned (spr (wtR (ptL f c n) (ptH f c n) c n))∧_
  generalize wtR (ptL f c n) (ptH f c n) c n=r at *
  obtain ⟨⟨ru,rv⟩,rz⟩:=r
  clear rt rc tb hc
  go_enter Tryz.func63,Tryz.ntmps63
  go_wp2_with fail
  with_reducible refine (PT.out _ B0.out).mono ?_
  rintro e w1 ⟨q,cap,rfl,rr,hb1⟩
  have R1:=Lib.hid (pair_below R0.out hb1)
  have B1:=Lib.hid (bstep B0.out hb1)
  have W1:=Lib.hid (WT.out q cap w1 B1.out rr)
  clear hb1 rr PT WT
  go_wp2_with fail
  with_reducible refine W1.out.mono ?_
  rintro e w2 ⟨rfl,hb2⟩
  obtain ⟨z0,z1,z2,z3,z4⟩:=pair_below R1.out hb2
  have hB:=bstep B1.out hb2
  clear hb2 W1
  go_wp2
  refine bodyPost_ret (v:=spr ((ru,rv),rz)) (by rw [results_cell_tmp rfl];go_simp) rfl ⟨rfl,?_⟩
  (repeat' (first|with_reducible exact hB|with_reducible refine Below.drew ?_|(with_reducible refine Below.setCell ?_ (by simp <;> omega) _)))
end Go.Proofs.YtbcjiigmbcfkeaaGreat
