import Derived.Test.YtpocbdompamnnaaTr14
namespace Go.Proofs.Ytpocbdompamnnaa
open Go.ChangeShapes Go.WideShapes Go.RowKit
open Sh
def rowQ (k:Nat):Ch:=(((9 * (k:Int),0,0),(9 * (k:Int) + 1,0,0),(9 * (k:Int),1,0)),1)
theorem rowQ_ccs (k:Nat):ccs rowQ (k + 1)=ccs rowQ k ++ [.int .i64 (9 * (k:Int)),.int .i64 0,.int .i64 0,.int .i64 (9 * (k:Int) + 1),.int .i64 0,.int .i64 0,.int .i64 (9 * (k:Int)),.int .i64 1,.int .i64 0,.int .i64 1]:=ccs_succ rowQ k
theorem tr_ch10v (w:World) (k b:Nat) (t:TypeId) (h:b=w.heap.size):∀ j u,([.int .i64 (9 * (k:Int)),.int .i64 0,.int .i64 0,.int .i64 (9 * (k:Int) + 1),.int .i64 0,.int .i64 0,.int .i64 (9 * (k:Int)),.int .i64 1,.int .i64 0,.int .i64 1]:List Value)[j]?=some u→(w.alloc (.cells #[.int .i64 (9 * (k:Int)),.int .i64 0,.int .i64 0,.int .i64 (9 * (k:Int) + 1),.int .i64 0,.int .i64 0,.int .i64 (9 * (k:Int)),.int .i64 1,.int .i64 0,.int .i64 1] t)).cell? ((⟨b,0,none⟩:Addr).add j)=some u:=by
  subst h
  exact cells10 w _ _ _ _ _ _ _ _ _ _ t
set_option maxRecDepth 100000 in
set_option maxHeartbeats 4000000 in
theorem row_any (w:World):Calls Try.prog 21 #[] w fun e w'=>∃ v,e=.returned v∧w'.ownsRow w.heap.size 75 10 v 4 (ccs rowQ 4)∧Below w.heap.size w w':=by
  obtain ⟨i0,hi,hz0,hz1,hz2⟩:=info_parts infoC
  have HI:=Lib.hid hi
  have HZ0:=Lib.hid hz0
  have HZ1:=Lib.hid hz1
  have HZ2:=Lib.hid hz2
  clear hi hz0 hz1 hz2
  go_enter Try.func21,Try.ntmps21
  go_wp2
  go_loopw [1,2] (fun sv kv wr=>∃ k:Nat,k≤4∧kv=.int .i64 k∧wr.ownsRow w.heap.size 75 10 sv k (ccs rowQ k)∧Below w.heap.size w wr) (fun _ kv _=>4 - (intOf kv).toNat)
  case atStart=>exact ⟨0,Nat.zero_le _,rfl,World.ownsRow_nil _ _ _ _,Below.refl _ _⟩
  case round =>
    obtain ⟨k,hk,rfl,how,hbb⟩:=hrel
    have OW0:=Lib.hid how
    have BB:=Lib.hid hbb
    have szw:=hbb.size
    clear how hbb
    by_cases hlt:k < 4
    · have hk1:(k:Int) < 4:=by omega
      have hk0:(0:Int)≤(k:Int):=by omega
      go_wp2_with (at_builtin;go_loud (refine wpList_append_own _ rfl _ _ 22 rfl w.heap.size 75 i0 (.agg #[.int .i64 0,.int .i64 0,.int .i64 0,.int .i64 0,.int .i64 0,.int .i64 0,.int .i64 0,.int .i64 0,.int .i64 0,.int .i64 0]) 10 80 Try.underlying22 HI.out HZ0.out HZ1.out HZ2.out rfl (by decide) _ k (ccs rowQ k) rfl (World.ownsRow.alloc OW0.out _) ⟨_,0,none⟩ 1 1 [.int .i64 (9 * (k:Int)),.int .i64 0,.int .i64 0,.int .i64 (9 * (k:Int) + 1),.int .i64 0,.int .i64 0,.int .i64 (9 * (k:Int)),.int .i64 1,.int .i64 0,.int .i64 1] rfl rfl (tr_ch10v _ _ _ _ (by simp)) (one10 _ _ _ _ _ _ _ _ _ _) (by unfold maxLen;omega) (by omega) (by simp;omega) ?_);intro v' w7 hown' hgrow _;have OW:=Lib.hid hown';have GR:=Lib.hid hgrow;clear hown' hgrow)
      have BG:=Lib.hid ((BB.out.alloc szw _).grown GR.out (by simp;omega) (fun gg hg=>(OW0.out.lt gg hg).1))
      go_roundw
      case rel=>exact ⟨k + 1,by omega,by go_num,by rw [rowQ_ccs];exact OW.out,BG.out⟩
      case measure=>simp [intOf];omega
    · obtain rfl:k=4:=by omega
      have hB:=BB.out
      have how:=OW0.out
      clear BB OW0
      go_wp2
      go_ret
      exact ⟨_,rfl,how,hB⟩
abbrev Ni:=Int × Int × Int × Int × P3 × Int
abbrev niv (x:Ni):Value:=.agg #[.int .i64 x.1,.int .i64 x.2.1,.int .i64 x.2.2.1,.int .i64 x.2.2.2.1,.int .i64 x.2.2.2.2.1.1,.int .i64 x.2.2.2.2.1.2.1,.int .i64 x.2.2.2.2.1.2.2,.int .i64 x.2.2.2.2.2]
abbrev nib (x:Ni) (t:TypeId):Obj:=.cells #[.int .i64 x.1,.int .i64 x.2.1,.int .i64 x.2.2.1,.int .i64 x.2.2.2.1,.int .i64 x.2.2.2.2.1.1,.int .i64 x.2.2.2.2.1.2.1,.int .i64 x.2.2.2.2.1.2.2,.int .i64 x.2.2.2.2.2] t
def niO (x:Nd):Ni:=((x.1:Int),(x.2.1:Int),x.2.2)
def RowD (w:World) (b off n:Nat) (T:Nat→Ni):Prop:=b < w.heap.size∧∀ k,k < n→w.cell? ⟨b,off + k * 8,none⟩=some (.int .i64 (T k).1)∧w.cell? ⟨b,off + k * 8 + 1,none⟩=some (.int .i64 (T k).2.1)∧w.cell? ⟨b,off + k * 8 + 2,none⟩=some (.int .i64 (T k).2.2.1)∧w.cell? ⟨b,off + k * 8 + 3,none⟩=some (.int .i64 (T k).2.2.2.1)∧w.cell? ⟨b,off + k * 8 + 4,none⟩=some (.int .i64 (T k).2.2.2.2.1.1)∧w.cell? ⟨b,off + k * 8 + 5,none⟩=some (.int .i64 (T k).2.2.2.2.1.2.1)∧w.cell? ⟨b,off + k * 8 + 6,none⟩=some (.int .i64 (T k).2.2.2.2.1.2.2)∧w.cell? ⟨b,off + k * 8 + 7,none⟩=some (.int .i64 (T k).2.2.2.2.2)
theorem rowD_below {w w1:World} {b off n:Nat} {T:Nat→Ni} (r:RowD w b off n T) (hb:Below w.heap.size w w1):RowD w1 b off n T:=by
  refine ⟨Nat.lt_of_lt_of_le r.1 hb.size,fun k hk=>?_⟩
  have z:=fun o=>hb.cell (p:=⟨b,o,none⟩) r.1
  simp only [z]
  exact r.2 k hk
def LstD (w:World) (a:Option Addr) (n:Nat) (T:Nat→Ni):Prop:=0 < n→∃ b off,a=some ⟨b,off,none⟩∧RowD w b off n T
theorem lstD_below {w w1:World} {a:Option Addr} {n:Nat} {T:Nat→Ni} (h:LstD w a n T) (hb:Below w.heap.size w w1):LstD w1 a n T:=fun h0=>by
  obtain ⟨b,off,e,r⟩:=h h0
  exact ⟨b,off,e,rowD_below r hb⟩
def niL (L:List Nd) (k:Nat):Ni:=niO (L.getD k (0,0,0,0,(0,0,0),0))
theorem lstD_own {w:World} {B:Nat} {v:Value} {L:List Nd} (h:w.ownsRow B 44 8 v L.length (nds L)):∃ A c,v=.slice A L.length c∧LstD w A L.length (niL L):=by
  rcases Nat.eq_zero_or_pos L.length with h0 | h0
  · obtain ⟨A,c,e⟩:=tr_own_slice h
    exact ⟨A,c,e,fun z=>by omega⟩
  · obtain ⟨g,c,rfl⟩:=tr_own_form h h0
    refine ⟨_,c,rfl,fun _=>⟨g,0,rfl,(h.lt g rfl).2,fun k hk=>?_⟩⟩
    have e:L[k]?=some (L.getD k (0,0,0,0,(0,0,0),0)):=by
      rw [List.getD_eq_getElem?_getD,List.getElem?_eq_getElem hk]
      rfl
    have at_:∀ j,j < 8→w.cell? ⟨g,k * 8 + j,none⟩=(ndv (L.getD k (0,0,0,0,(0,0,0),0)))[j]?:=fun j hj=>by
      rw [h.cellAt (k * 8 + j) (by omega)]
      exact nds_at e hj
    simp only [Nat.zero_add]
    exact ⟨at_ 0 (by decide),at_ 1 (by decide),at_ 2 (by decide),at_ 3 (by decide),at_ 4 (by decide),at_ 5 (by decide),at_ 6 (by decide),at_ 7 (by decide)⟩
def lvT (T:Nat→Ni):Nat→Int
  | 0=>0
  | k + 1=>lvT T k + (if (T k).2.2.1 == -1 then 1 else 0)
theorem lvT_bd (T:Nat→Ni):∀ n:Nat,0≤lvT T n∧lvT T n≤n
  | 0=>⟨Int.le_refl 0,Int.le_refl 0⟩
  | n + 1=>by
    have:=lvT_bd T n
    show 0≤lvT T n + (if _ then (1:Int) else 0)∧lvT T n + (if _ then (1:Int) else 0)≤_
    split <;> omega
set_option maxRecDepth 100000 in
set_option maxHeartbeats 4000000 in
theorem isleaf_any (x:Ni) (w:World):Calls Try.prog 32 #[niv x] w fun e w'=>e=.returned (.bool (x.2.2.1 == -1))∧Below w.heap.size w w':=by
  obtain ⟨f,t,l,r,⟨c1,c2,c3⟩,r2⟩:=x
  go_enter Try.func32,Try.ntmps32
  go_wp2
  go_ret
  exact ⟨rfl,by (repeat' (first | exact Below.refl _ _ | refine Below.setCell ?_ (by simp <;> omega) _ | refine balloc ?_ _ | refine Below.drew ?_ | refine bdrewN ?_ _))⟩
set_option maxRecDepth 100000 in
set_option maxHeartbeats 4000000 in
theorem leaves_any (A B:Option Addr) (n cO K cN:Nat) (T:Nat→Ni) (w:World) (r:LstD w B K T) (hK:K≤1000):Calls Try.prog 14 #[.agg #[.slice A n cO,.slice B K cN]] w fun e w'=>e=.returned (.int .i64 (lvT T K))∧Below w.heap.size w w':=by
  have hK':(K:Int)≤1000:=by omega
  have TB0:=Lib.hid ((Below.refl w.heap.size w).alloc (Nat.le_refl _) (.cells #[.slice A n cO,.slice B K cN] 27))
  have RR:=Lib.hid (lstD_below r TB0.out)
  clear r
  go_enter Try.func14,Try.ntmps14
  go_upto_region 3 with fail
  generalize w.alloc (.cells #[.slice A n cO,.slice B K cN] 27)=w1 at *
  go_wp2
  go_loopw [3,9] (fun sv kv wr=>∃ k:Nat,k≤K∧kv=.int .i64 k∧sv=.int .i64 (lvT T k)∧Below w1.heap.size w1 wr) (fun _ kv _=>K - (intOf kv).toNat)
  case atStart=>exact ⟨0,Nat.zero_le _,rfl,rfl,Below.refl _ _⟩
  case round =>
    obtain ⟨k,hk,rfl,rfl,hbb⟩:=hrel
    have BB:=Lib.hid hbb
    clear hbb
    by_cases hlt:k < K
    · have hk1:(k:Int) < (K:Int):=by omega
      obtain ⟨b,off,rfl,rw0⟩:=RR.out (show 0 < K by omega)
      have r2:=rowD_below rw0 BB.out
      obtain ⟨c0,c1,c2,c3,c4,c5,c6,c7⟩:=r2.2 k hlt
      have lb:=r2.1
      have NX:=Lib.hid (show lvT T (k + 1)=lvT T k + (if (T k).2.2.1 == -1 then 1 else 0) from rfl)
      have bd:=lvT_bd T k
      clear r2 rw0
      generalize T k=x at *
      generalize lvT T k=s at *
      have ILF:=Lib.hid (fun W=>isleaf_any x W)
      have AB:=Lib.hid ((Below.refl wr.heap.size wr).alloc (Nat.le_refl _) (nib x 44))
      obtain ⟨x1,x2,x3,x4,⟨x5,x6,x7⟩,x8⟩:=x
      dsimp only at NX ILF
      cases hb:(x3 == -1) with
      | true =>
        rw [hb] at ILF NX
        clear hb
        go_wp2_with fail
        with_reducible refine (ILF.out _).mono ?_
        rintro e w4 ⟨rfl,hb4⟩
        have hB:=BB.out.trans ((bstep AB.out hb4).mono BB.out.size)
        clear hb4
        go_wp2
        go_roundw
        case rel=>exact ⟨k + 1,by omega,by go_num,by rw [NX.out];go_num,hB⟩
        case measure=>simp [intOf];omega
      | false =>
        rw [hb] at ILF NX
        clear hb
        go_wp2_with fail
        with_reducible refine (ILF.out _).mono ?_
        rintro e w4 ⟨rfl,hb4⟩
        have hB:=BB.out.trans ((bstep AB.out hb4).mono BB.out.size)
        clear hb4
        go_wp2
        go_roundw
        case rel=>exact ⟨k + 1,by omega,by go_num,by rw [NX.out];simp,hB⟩
        case measure=>simp [intOf];omega
    · obtain rfl:k=K:=by omega
      have hB:=TB0.out.trans (BB.out.mono TB0.out.size)
      clear BB
      go_wp2
      go_ret
      exact ⟨rfl,hB⟩
end Go.Proofs.Ytpocbdompamnnaa
