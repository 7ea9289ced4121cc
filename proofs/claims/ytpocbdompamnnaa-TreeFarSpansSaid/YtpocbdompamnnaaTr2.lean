import Derived.Deep.RegionHeld3
import Derived.Deep.Cut
import Derived.Shelf.SlSortCmp.QuietGrown
import Derived.Test.YtpocbdompamnnaaVecM
import Derived.Test.YtpocbdompamnnaaMoM
import Derived.Test.YtpocbdompamnnaaTr1
namespace Go.Proofs.Ytpocbdompamnnaa
open Go.ChangeShapes Go.WideShapes Go.RowKit
open Sh
open Go.Sort (grow)
theorem grw_refl (w:World):Grw w w:=⟨Below.refl _ _,Nat.le_refl _⟩
theorem grw_alloc {w W:World} (h:Grw w W) (o:Obj):Grw w (W.alloc o):=⟨balloc h.1 o,h.2⟩
theorem grw_set {w W:World} (h:Grw w W) {a:Addr} (ha:w.heap.size≤a.block) (v:Value):Grw w (W.setCell a v):=⟨h.1.setCell ha v,h.2⟩
theorem grw_drew {w W:World} (h:Grw w W):Grw w W.drew:=⟨Below.drew h.1,Nat.le_succ_of_le h.2⟩
theorem grw_step {w W W':World} (h:Grw w W) (k:Grw W W'):Grw w W':=⟨bstep h.1 k.1,Nat.le_trans h.2 k.2⟩
theorem wrap9 {x:Int} (h:-1000000000000≤x) (k:x≤1000000000000):IntKind.i64.wrap x=x:=by
  simp [IntKind.wrap,IntKind.bits,IntKind.signed]
  omega
abbrev ar3 (p:P3):Value:=.agg #[.int .i64 p.1,.int .i64 p.2.1,.int .i64 p.2.2]
abbrev ar9 (t:P3 × P3 × P3):Value:=.agg #[.int .i64 t.1.1,.int .i64 t.1.2.1,.int .i64 t.1.2.2,.int .i64 t.2.1.1,.int .i64 t.2.1.2.1,.int .i64 t.2.1.2.2,.int .i64 t.2.2.1,.int .i64 t.2.2.2.1,.int .i64 t.2.2.2.2]
def crn (t:P3 × P3 × P3) (j:Nat):P3:=if j=0 then t.1 else if j=1 then t.2.1 else t.2.2
theorem crn_bd {B:Int} {t:P3 × P3 × P3} (h:BdP B t.1∧BdP B t.2.1∧BdP B t.2.2) (j:Nat):BdP B (crn t j):=by
  unfold crn
  split
  · exact h.1
  · split
    · exact h.2.1
    · exact h.2.2
def kySum (k:Nat) (t:P3 × P3 × P3):Nat→Int
  | 0=>0
  | j + 1=>kySum k t j + axC k (crn t j)
theorem kySum3 (Q:Nat→Ch) (k i:Nat):kySum k (Q i).1 3=keyC Q k i:=by
  show 0 + _ + _ + _=_
  unfold keyC crn
  simp
theorem kySum_bd {k:Nat} {t:P3 × P3 × P3} (h:BdP 64 t.1∧BdP 64 t.2.1∧BdP 64 t.2.2):∀ (j:Nat),-((j:Int) * 64)≤kySum k t j∧kySum k t j≤(j:Int) * 64
  | 0=>⟨by simp [kySum],by simp [kySum]⟩
  | j + 1=>by
    have a:=kySum_bd (k:=k) h j
    have b:=axC_bd (crn_bd h j) k
    show -(((j + 1:Nat):Int) * 64)≤kySum k t j + axC k (crn t j)∧kySum k t j + axC k (crn t j)≤_
    omega
theorem ix3_any (p:P3) {k:Nat} (h:k < 3) (w:World):(Instr.index 103 (ar3 p) (.int .i64 (k:Int))).run Try.prog w=.ok (.int .i64 (axC k p)) w:=by
  have:k=0∨k=1∨k=2:=by omega
  rcases this with rfl | rfl | rfl
  · show _=_;kernel_rfl
  · show _=_;kernel_rfl
  · show _=_;kernel_rfl
theorem ix9_any (t:P3 × P3 × P3) {k:Nat} (h:k < 3) (w:World):(Instr.index 97 (ar9 t) (.int .i64 (k:Int))).run Try.prog w=.ok (ptv (crn t k)) w:=by
  have:k=0∨k=1∨k=2:=by omega
  rcases this with rfl | rfl | rfl
  · show _=_;kernel_rfl
  · show _=_;kernel_rfl
  · show _=_;kernel_rfl
set_option maxRecDepth 100000 in
set_option maxHeartbeats 4000000 in
theorem axes_any (p:P3) (w:World):Calls Try.prog 77 #[ptv p] w fun e w'=>e=.returned (ar3 p)∧Grw w w':=by
  obtain ⟨x,y,z⟩:=p
  go_enter Try.func77,Try.ntmps77
  go_wp2
  refine bodyPost_ret (v:=ar3 (x,y,z)) (by rw [results_cell rfl];go_simp) rfl ⟨rfl,?_⟩
  (repeat' (first | exact grw_refl _ | refine grw_set ?_ (by simp <;> omega) _ | refine grw_alloc ?_ _ | refine grw_drew ?_))
set_option maxRecDepth 100000 in
set_option maxHeartbeats 4000000 in
theorem corners_tr (q:Ch) (w:World):Calls Try.prog 78 #[chv q] w fun e w'=>e=.returned (ar9 q.1)∧Grw w w':=by
  obtain ⟨⟨⟨a1,a2,a3⟩,⟨b1,b2,b3⟩,⟨c1,c2,c3⟩⟩,d⟩:=q
  go_enter Try.func78,Try.ntmps78
  go_wp2
  refine bodyPost_ret (v:=ar9 ((a1,a2,a3),(b1,b2,b3),(c1,c2,c3))) (by rw [results_cell rfl];go_simp) rfl ⟨rfl,?_⟩
  (repeat' (first | exact grw_refl _ | refine grw_set ?_ (by simp <;> omega) _ | refine grw_alloc ?_ _ | refine grw_drew ?_))
def OwnSo (w:World) (p b off n c k:Nat):Prop:=(w.cell? ⟨p,0,none⟩=some (.slice (some ⟨b,off,none⟩) n c)∧w.cell? ⟨p,1,none⟩=some (.int .i64 (k:Int)))∧p < w.heap.size
theorem ownSo_new (w:World) (b off n c k:Nat):OwnSo (w.alloc (.cells #[.slice (some ⟨b,off,none⟩) n c,.int .i64 ((k:Nat):Int)] 100)) w.heap.size b off n c k:=⟨⟨by go_simp,by go_simp⟩,by simp⟩
theorem ownSo_below {w w1:World} {p b off n c k:Nat} (h:OwnSo w p b off n c k) (hb:Below w.heap.size w w1):OwnSo w1 p b off n c k :=
  ⟨⟨(hb.cell (p:=⟨p,0,none⟩) h.2).trans h.1.1,(hb.cell (p:=⟨p,1,none⟩) h.2).trans h.1.2⟩,Nat.lt_of_lt_of_le h.2 hb.size⟩
def KyS (w1 W:World) (pb sb:Nat) (u:P3) (k:Nat):Prop:=Own W pb u∧(W.cell? ⟨sb,1,none⟩=some (.int .i64 (k:Int))∧sb < W.heap.size)∧Grw w1 W
theorem kyS_grw {w1 W W':World} {pb sb:Nat} {u:P3} {k:Nat} (h:KyS w1 W pb sb u k) (g:Grw W W'):KyS w1 W' pb sb u k :=
  ⟨own_below h.1 g.1,⟨(g.1.cell (p:=⟨sb,1,none⟩) h.2.1.2).trans h.2.1.1,Nat.lt_of_lt_of_le h.2.1.2 g.1.size⟩,grw_step h.2.2 g⟩
theorem kyS_cells {w1 W:World} {pb sb:Nat} {u1 u2 u3:Int} {k:Nat} (h:KyS w1 W pb sb (u1,u2,u3) k):W.cell? ⟨pb,0,none⟩=some (.int .i64 u1)∧W.cell? ⟨pb,1,none⟩=some (.int .i64 u2)∧W.cell? ⟨pb,2,none⟩=some (.int .i64 u3)∧W.cell? ⟨sb,1,none⟩=some (.int .i64 (k:Int)):=by
  obtain ⟨a,b,c⟩:=own_cells h.1
  exact ⟨a,b,c,h.2.1.1⟩
theorem kyS_new {w1 wr:World} {sb b off n c k:Nat} {u:P3} (h:OwnSo wr sb b off n c k) (g:Grw w1 wr) (t:TypeId):KyS w1 (wr.alloc (ptc u t)).drew wr.heap.size sb u k :=
  have z:=grw_drew (grw_alloc (grw_refl wr) (ptc u t))
  ⟨own_new wr u t,⟨(z.1.cell (p:=⟨sb,1,none⟩) h.2).trans h.1.2,Nat.lt_of_lt_of_le h.2 z.1.size⟩,grw_step g z⟩
set_option maxRecDepth 100000 in
set_option maxHeartbeats 4000000 in
theorem key_any (b off n c:Nat) (Q:Nat→Ch) (k i:Nat) (w:World) (r:RowC w b off n Q) (hi:i < n) (hk:k < 3) (hb:BdP 64 (Q i).1.1∧BdP 64 (Q i).1.2.1∧BdP 64 (Q i).1.2.2):Calls Try.prog 95 #[.agg #[.slice (some ⟨b,off,none⟩) n c,.int .i64 ((k:Nat):Int)],.int .i64 (i:Int)] w fun e w'=>e=.returned (.int .i64 (keyC Q k i))∧Grw w w':=by
  have hk3:(k:Int) < 3:=by omega
  have hi1:(i:Int) < (n:Int):=by omega
  have hi0:(0:Int)≤(i:Int):=by omega
  have K3:=Lib.hid (kySum3 Q k i)
  have RB:=Lib.hid ((Below.refl w.heap.size w).alloc (Nat.le_refl _) (.cells #[.slice (some ⟨b,off,none⟩) n c,.int .i64 ((k:Nat):Int)] 100))
  have O0:=Lib.hid (ownSo_new w b off n c k)
  have rr:=rowC_in r RB.out r.1
  obtain ⟨c0,c1,c2,c3,c4,c5,c6,c7,c8,c9⟩:=rr.2 i hi
  obtain ⟨⟨s0,s1⟩,s2⟩:=O0.out
  have lb:=rr.1
  have CR:=Lib.hid (fun W=>corners_tr (Q i) W)
  have KB:=Lib.hid (kySum_bd (k:=k) hb)
  generalize Q i=q at *
  obtain ⟨t,d⟩:=q
  dsimp only at *
  have IX:=Lib.hid (fun j (h:j < 3) (W:World)=>ix9_any t (k:=j) h W)
  have AX:=Lib.hid (fun j (W:World)=>axes_any (crn t j) W)
  have I3:=Lib.hid (fun j (W:World)=>ix3_any (crn t j) hk W)
  go_enter Try.func95,Try.ntmps95
  go_wp2_with fail
  with_reducible refine (CR.out _).mono ?_
  rintro e w1 ⟨rfl,g1⟩
  have G1:=Lib.hid (grw_step (grw_alloc (grw_refl w) (.cells #[.slice (some ⟨b,off,none⟩) n c,.int .i64 ((k:Nat):Int)] 100)) g1)
  have O1:=Lib.hid (ownSo_below O0.out g1.1)
  clear g1 c0 c1 c2 c3 c4 c5 c6 c7 c8 c9 s0 s1 s2 rr r
  go_wp2
  go_loopw [5,14] (fun sv kv wr=>∃ j:Nat,j≤3∧kv=.int .i64 j∧sv=.int .i64 (kySum k t j)∧Grw w1 wr) (fun _ kv _=>3 - (intOf kv).toNat)
  case atStart=>exact ⟨0,Nat.zero_le _,rfl,rfl,grw_refl _⟩
  case round =>
    obtain ⟨j,hj,rfl,rfl,gg⟩:=hrel
    have GG:=Lib.hid gg
    clear gg
    by_cases hlt:j < 3
    · have hj1:(j:Int) < 3:=by omega
      have X:=IX.out j hlt
      have A:=Lib.hid (AX.out j)
      have Y:=I3.out j
      have kb:=KB.out j
      have ab:=axC_bd (crn_bd (B:=64) (t:=t) (by simpa using hb) j) k
      have NX:=Lib.hid (show kySum k t (j + 1)=kySum k t j + axC k (crn t j) from rfl)
      have O2:=Lib.hid (ownSo_below O1.out GG.out.1)
      generalize crn t j=u at *
      generalize axC k u=v at *
      generalize kySum k t j=sm at *
      obtain ⟨u1,u2,u3⟩:=u
      have wv:IntKind.i64.wrap (sm + v)=sm + v:=wrap9 (by omega) (by omega)
      go_upto_region 5 with fail
      have p0:KyS w1 (wr.alloc (ptc (u1,u2,u3) 38)).drew wr.heap.size w.heap.size (u1,u2,u3) k:=kyS_new O2.out GG.out _
      go_region_held3 (fun w'=>w'.cell? ⟨wr.heap.size,0,none⟩=some (.int .i64 u1)∧w'.cell? ⟨wr.heap.size,1,none⟩=some (.int .i64 u2)∧w'.cell? ⟨wr.heap.size,2,none⟩=some (.int .i64 u3)∧w'.cell? ⟨w.heap.size,1,none⟩=some (.int .i64 (k:Int)))
        (first | (with_reducible exact kyS_cells p0) | (with_reducible exact kyS_cells p1) | fail)
        (first | (go_at_call 77;(with_reducible refine (A.out _).mono ?_);rintro e y ⟨rfl,hv⟩;have p1:=kyS_grw p0 hv) | fail)
      go_wp2
      go_roundw
      case rel=>exact ⟨j + 1,by omega,by go_num,by rw [NX.out],p1.2.2⟩
      case measure=>simp [intOf];omega
    · obtain rfl:j=3:=by omega
      go_wp2
      go_ret
      exact ⟨by rw [K3.out];rfl,grw_step G1.out GG.out⟩
end Go.Proofs.Ytpocbdompamnnaa
