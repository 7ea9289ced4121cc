import Derived.Test.YtpocbdompamnnaaBase
import Derived.Test.YtpocbdompamnnaaPtM
import Derived.Deep.RegionHeld3
import Derived.LoopTactic
import Derived.Deep.QuietTactic
import Derived.BigGuardPart
namespace Go.Proofs.Ytpocbdompamnnaa
open Go.ChangeShapes Go.WideShapes Go.RowKit
open Sh
abbrev ptv (a:P3):Value:=.agg #[.int .i64 a.1,.int .i64 a.2.1,.int .i64 a.2.2]
abbrev pnv (a b c:P3):Value:=.agg #[.int .i64 a.1,.int .i64 a.2.1,.int .i64 a.2.2,.int .i64 b.1,.int .i64 b.2.1,.int .i64 b.2.2,.int .i64 c.1,.int .i64 c.2.1,.int .i64 c.2.2]
abbrev ptc (a:P3) (t:TypeId):Obj:=.cells #[.int .i64 a.1,.int .i64 a.2.1,.int .i64 a.2.2] t
abbrev pnc (a b c:P3) (t:TypeId):Obj:=.cells #[.int .i64 a.1,.int .i64 a.2.1,.int .i64 a.2.2,.int .i64 b.1,.int .i64 b.2.1,.int .i64 b.2.2,.int .i64 c.1,.int .i64 c.2.1,.int .i64 c.2.2] t
theorem results_cell {fn:Func} {p:Tmp} {ty:TypeId} (h:fn.results=#[.cell p ty]) (tmps:Array Value) (P:Program) (w:World) :
    (results fn tmps).run P w =
      ((asAddr (tmps.getD p undef)).run P w).andThen fun a w₁=>(loadVar ty a).run P w₁:=by
  simp only [results,h]
  simp [Sem.run_bind,Result.andThen]
def Tri (w:World) (b off:Nat) (a:P3):Prop :=
  w.cell? ⟨b,off,none⟩=some (.int .i64 a.1)∧w.cell? ⟨b,off + 1,none⟩=some (.int .i64 a.2.1)∧w.cell? ⟨b,off + 1 + 1,none⟩=some (.int .i64 a.2.2)∧b < w.heap.size
theorem tri_below {w w1:World} {b off:Nat} {a:P3} (h:Tri w b off a) (hb:Below w.heap.size w w1):Tri w1 b off a:=by
  obtain ⟨h1,h2,h3,h5⟩:=h
  exact ⟨(hb.cell (p:=⟨b,off,none⟩) h5).trans h1,(hb.cell (p:=⟨b,off + 1,none⟩) h5).trans h2,(hb.cell (p:=⟨b,off + 1 + 1,none⟩) h5).trans h3,Nat.lt_of_lt_of_le h5 hb.size⟩
theorem tri_alloc {w:World} {b off:Nat} {a:P3} (h:Tri w b off a) (o:Obj):Tri (w.alloc o) b off a:=tri_below h ((Below.refl _ _).alloc (Nat.le_refl _) _)
def Own (w:World) (b:Nat) (a:P3):Prop :=
  w.cell? ⟨b,0,none⟩=some (.int .i64 a.1)∧w.cell? ⟨b,1,none⟩=some (.int .i64 a.2.1)∧w.cell? ⟨b,2,none⟩=some (.int .i64 a.2.2)∧w.frozen? ⟨b,0,none⟩=false∧w.frozen? ⟨b,1,none⟩=false∧w.frozen? ⟨b,2,none⟩=false∧b < w.heap.size
theorem own_new (w:World) (a:P3) (t:TypeId):Own (w.alloc (ptc a t)) w.heap.size a:=⟨by go_simp,by go_simp,by go_simp,by go_simp,by go_simp,by go_simp,by simp⟩
theorem own_below {w w1:World} {b:Nat} {a:P3} (h:Own w b a) (hb:Below w.heap.size w w1):Own w1 b a:=by
  obtain ⟨h1,h2,h3,h4,h5,h6,h7⟩:=h
  exact ⟨(hb.cell (p:=⟨b,0,none⟩) h7).trans h1,(hb.cell (p:=⟨b,1,none⟩) h7).trans h2,(hb.cell (p:=⟨b,2,none⟩) h7).trans h3,(hb.frozen (p:=⟨b,0,none⟩) h7).trans h4,(hb.frozen (p:=⟨b,1,none⟩) h7).trans h5,(hb.frozen (p:=⟨b,2,none⟩) h7).trans h6,Nat.lt_of_lt_of_le h7 hb.size⟩
theorem own_alloc {w:World} {b:Nat} {a:P3} (h:Own w b a) (o:Obj):Own (w.alloc o) b a:=own_below h ((Below.refl _ _).alloc (Nat.le_refl _) _)
theorem own_drew {w:World} {b:Nat} {a:P3} (h:Own w b a):Own w.drew b a:=h
theorem keep2 {a b c d e f:Prop} (h:a∧b∧c) (k:d∧e∧f):a∧b∧c∧d∧e∧f:=⟨h.1,h.2.1,h.2.2,k⟩
def Pan (w:World) (q:Nat) (a b c:P3):Prop :=
  w.cell? ⟨q,0,none⟩=some (.int .i64 a.1)∧w.cell? ⟨q,1,none⟩=some (.int .i64 a.2.1)∧w.cell? ⟨q,2,none⟩=some (.int .i64 a.2.2) ∧
  w.cell? ⟨q,3,none⟩=some (.int .i64 b.1)∧w.cell? ⟨q,4,none⟩=some (.int .i64 b.2.1)∧w.cell? ⟨q,5,none⟩=some (.int .i64 b.2.2) ∧
  w.cell? ⟨q,6,none⟩=some (.int .i64 c.1)∧w.cell? ⟨q,7,none⟩=some (.int .i64 c.2.1)∧w.cell? ⟨q,8,none⟩=some (.int .i64 c.2.2)∧q < w.heap.size
theorem pan_new (w:World) (a b c:P3) (t:TypeId):Pan (w.alloc (pnc a b c t)) w.heap.size a b c :=
  ⟨by go_simp,by go_simp,by go_simp,by go_simp,by go_simp,by go_simp,by go_simp,by go_simp,by go_simp,by simp⟩
theorem pan_below {w w1:World} {q:Nat} {a b c:P3} (h:Pan w q a b c) (hb:Below w.heap.size w w1):Pan w1 q a b c:=by
  obtain ⟨h1,h2,h3,h4,h5,h6,h7,h8,h9,hq⟩:=h
  exact ⟨(hb.cell (p:=⟨q,0,none⟩) hq).trans h1,(hb.cell (p:=⟨q,1,none⟩) hq).trans h2,(hb.cell (p:=⟨q,2,none⟩) hq).trans h3,(hb.cell (p:=⟨q,3,none⟩) hq).trans h4,(hb.cell (p:=⟨q,4,none⟩) hq).trans h5,(hb.cell (p:=⟨q,5,none⟩) hq).trans h6,(hb.cell (p:=⟨q,6,none⟩) hq).trans h7,(hb.cell (p:=⟨q,7,none⟩) hq).trans h8,(hb.cell (p:=⟨q,8,none⟩) hq).trans h9,Nat.lt_of_lt_of_le hq hb.size⟩
theorem pan_alloc {w:World} {q:Nat} {a b c:P3} (h:Pan w q a b c) (o:Obj):Pan (w.alloc o) q a b c:=pan_below h ((Below.refl _ _).alloc (Nat.le_refl _) _)
theorem own_cells {w:World} {b:Nat} {a:P3} (h:Own w b a):w.cell? ⟨b,0,none⟩=some (.int .i64 a.1)∧w.cell? ⟨b,1,none⟩=some (.int .i64 a.2.1)∧w.cell? ⟨b,2,none⟩=some (.int .i64 a.2.2):=⟨h.1,h.2.1,h.2.2.1⟩
theorem pan_cells {w:World} {q:Nat} {a b c:P3} (h:Pan w q a b c):w.cell? ⟨q,0,none⟩=some (.int .i64 a.1)∧w.cell? ⟨q,1,none⟩=some (.int .i64 a.2.1)∧w.cell? ⟨q,2,none⟩=some (.int .i64 a.2.2) ∧
  w.cell? ⟨q,3,none⟩=some (.int .i64 b.1)∧w.cell? ⟨q,4,none⟩=some (.int .i64 b.2.1)∧w.cell? ⟨q,5,none⟩=some (.int .i64 b.2.2) ∧
  w.cell? ⟨q,6,none⟩=some (.int .i64 c.1)∧w.cell? ⟨q,7,none⟩=some (.int .i64 c.2.1)∧w.cell? ⟨q,8,none⟩=some (.int .i64 c.2.2):=by
  obtain ⟨h1,h2,h3,h4,h5,h6,h7,h8,h9,_⟩:=h
  exact ⟨h1,h2,h3,h4,h5,h6,h7,h8,h9⟩
theorem pan_set {w:World} {q r o:Nat} {v:Value} {a b c:P3} (h:Pan w q a b c) (n:q ≠ r):Pan (w.setCell ⟨r,o,none⟩ v) q a b c:=by
  obtain ⟨h1,h2,h3,h4,h5,h6,h7,h8,h9,hq⟩:=h
  have n':¬ r=q:=fun e=>n e.symm
  exact ⟨by go_simp,by go_simp,by go_simp,by go_simp,by go_simp,by go_simp,by go_simp,by go_simp,by go_simp,by simpa using hq⟩
theorem own_set {w:World} {q r o:Nat} {v:Value} {a:P3} (h:Own w q a) (n:q ≠ r):Own (w.setCell ⟨r,o,none⟩ v) q a:=by
  obtain ⟨h1,h2,h3,h4,h5,h6,h7⟩:=h
  have n':¬ r=q:=fun e=>n e.symm
  exact ⟨by go_simp,by go_simp,by go_simp,by go_simp,by go_simp,by go_simp,by simpa using h7⟩
theorem pan_drew {w:World} {q:Nat} {a b c:P3} (h:Pan w q a b c):Pan w.drew q a b c:=h
theorem times_any (k:Int) (a:P3) (w:World) (h:BdP 4611686018427387904 (tim k a)) :
    Calls Try.prog 111 #[.int .i64 k,ptv a] w fun e w'=>e=.returned (ptv (tim k a))∧Below w.heap.size w w':=by
  simp only [BdP,tim] at h
  obtain ⟨h1,h2,h3,h4,h5,h6⟩:=h
  go_enter Try.func111,Try.ntmps111
  go_wp2
  refine bodyPost_ret (v:=ptv (tim k a)) (by rw [results_cell rfl];go_simp;exact ⟨rfl,rfl,rfl⟩) rfl ⟨rfl,?_⟩
  (repeat' (first | exact Below.refl _ _ | refine Below.setCell ?_ (by simp <;> omega) _ | refine balloc ?_ _ | refine Below.drew ?_ | refine bdrewN ?_ _))
theorem plus_any (a b:P3) (w:World) (h:BdP 4611686018427387904 (add a b)) :
    Calls Try.prog 110 #[ptv a,ptv b] w fun e w'=>e=.returned (ptv (add a b))∧Below w.heap.size w w':=by
  simp only [BdP,add] at h
  obtain ⟨h1,h2,h3,h4,h5,h6⟩:=h
  go_enter Try.func110,Try.ntmps110
  go_wp2
  refine bodyPost_ret (v:=ptv (add a b)) (by rw [results_cell rfl];go_simp;exact ⟨rfl,rfl,rfl⟩) rfl ⟨rfl,?_⟩
  (repeat' (first | exact Below.refl _ _ | refine Below.setCell ?_ (by simp <;> omega) _ | refine balloc ?_ _ | refine Below.drew ?_ | refine bdrewN ?_ _))
theorem rminus_any (a b:P3) (w:World) (h:BdP 4611686018427387904 (sub a b)) :
    Calls Try.prog 105 #[ptv a,ptv b] w fun e w'=>e=.returned (ptv (sub a b))∧Below w.heap.size w w':=by
  simp only [BdP,sub] at h
  obtain ⟨h1,h2,h3,h4,h5,h6⟩:=h
  go_enter Try.func105,Try.ntmps105
  go_wp2
  refine bodyPost_ret (v:=ptv (sub a b)) (by rw [results_cell rfl];go_simp;exact ⟨rfl,rfl,rfl⟩) rfl ⟨rfl,?_⟩
  (repeat' (first | exact Below.refl _ _ | refine Below.setCell ?_ (by simp <;> omega) _ | refine balloc ?_ _ | refine Below.drew ?_ | refine bdrewN ?_ _))
theorem mul20 {x y:Int} (h1:-1048576≤x) (h2:x≤1048576) (h3:-1048576≤y) (h4:y≤1048576):-1099511627776≤x * y∧x * y≤1099511627776:=mul_bd h1 h2 h3 h4
theorem vector_any (a b:P3) (w:World) (h:BdP 1048576 a) (k:BdP 1048576 b) :
    Calls Try.prog 93 #[ptv a,ptv b] w fun e w'=>e=.returned (ptv (vec a b))∧Below w.heap.size w w':=by
  obtain ⟨a1,a2,a3,a4,a5,a6⟩:=h
  obtain ⟨b1,b2,b3,b4,b5,b6⟩:=k
  obtain ⟨x1,x2⟩:=mul20 a3 a4 b5 b6
  obtain ⟨x3,x4⟩:=mul20 a5 a6 b3 b4
  obtain ⟨y1,y2⟩:=mul20 a5 a6 b1 b2
  obtain ⟨y3,y4⟩:=mul20 a1 a2 b5 b6
  obtain ⟨z1,z2⟩:=mul20 a1 a2 b3 b4
  obtain ⟨z3,z4⟩:=mul20 a3 a4 b1 b2
  clear a1 a2 a3 a4 a5 a6 b1 b2 b3 b4 b5 b6
  go_enter Try.func93,Try.ntmps93
  go_wp2
  refine bodyPost_ret (v:=ptv (vec a b)) (by rw [results_cell rfl];go_simp;exact ⟨rfl,rfl,rfl⟩) rfl ⟨rfl,?_⟩
  (repeat' (first | exact Below.refl _ _ | refine Below.setCell ?_ (by simp <;> omega) _ | refine balloc ?_ _ | refine Below.drew ?_ | refine bdrewN ?_ _))
theorem cross_any (a b:P3) (w:World) (h:BdP 1048576 a) (k:BdP 1048576 b) :
    Calls Try.prog 104 #[ptv a,ptv b] w fun e w'=>e=.returned (ptv (vec a b))∧Below w.heap.size w w':=by
  obtain ⟨a1,a2,a3,a4,a5,a6⟩:=h
  obtain ⟨b1,b2,b3,b4,b5,b6⟩:=k
  obtain ⟨x1,x2⟩:=mul20 a3 a4 b5 b6
  obtain ⟨x3,x4⟩:=mul20 a5 a6 b3 b4
  obtain ⟨y1,y2⟩:=mul20 a5 a6 b1 b2
  obtain ⟨y3,y4⟩:=mul20 a1 a2 b5 b6
  obtain ⟨z1,z2⟩:=mul20 a1 a2 b3 b4
  obtain ⟨z3,z4⟩:=mul20 a3 a4 b1 b2
  clear a1 a2 a3 a4 a5 a6 b1 b2 b3 b4 b5 b6
  go_enter Try.func104,Try.ntmps104
  go_wp2
  refine bodyPost_ret (v:=ptv (vec a b)) (by rw [results_cell rfl];go_simp;exact ⟨rfl,rfl,rfl⟩) rfl ⟨rfl,?_⟩
  (repeat' (first | exact Below.refl _ _ | refine Below.setCell ?_ (by simp <;> omega) _ | refine balloc ?_ _ | refine Below.drew ?_ | refine bdrewN ?_ _))
def pw (a b:P3):P3:=(a.1 * b.1,a.2.1 * b.2.1,a.2.2 * b.2.2)
set_option maxRecDepth 100000 in
theorem minus_any (a b:P3) (w:World) (h:BdP 1152921504606846976 a) (k:BdP 1152921504606846976 b) :
    Calls Try.prog 94 #[ptv a,ptv b] w fun e w'=>e=.returned (ptv (sub a b))∧Below w.heap.size w w':=by
  have H1:Hid (BdP 4611686018427387904 (tim (-1) b)):=Lib.hid (by unfold BdP tim at *;dsimp only;omega)
  have H2:Hid (BdP 4611686018427387904 (add a (tim (-1) b))):=Lib.hid (by unfold BdP add tim at *;dsimp only;omega)
  rw [← sub_neg]
  have ne0:¬ (w.heap.size + 1 + 1=w.heap.size):=by omega
  have ne1:¬ (w.heap.size=w.heap.size + 1 + 1):=by omega
  clear h k
  go_enter Try.func94,Try.ntmps94
  go_wp2_with fail
  have i0:=(own_drew (own_alloc (own_alloc (own_new w a 38) (.cells #[.int .i64 b.1,.int .i64 b.2.1,.int .i64 b.2.2] 38)) (.cells #[.int .i64 0,.int .i64 0,.int .i64 0] 38)))
  have i1:=(own_drew (own_alloc (own_new (w.alloc (.cells #[.int .i64 a.1,.int .i64 a.2.1,.int .i64 a.2.2] 38)) b 38) (.cells #[.int .i64 0,.int .i64 0,.int .i64 0] 38)))
  simp only [World.size_alloc] at i1
  have i2:=(own_drew (own_new ((w.alloc (.cells #[.int .i64 a.1,.int .i64 a.2.1,.int .i64 a.2.2] 38)).alloc (.cells #[.int .i64 b.1,.int .i64 b.2.1,.int .i64 b.2.2] 38)) (0,0,0) 38))
  simp only [World.size_alloc] at i2
  go_region_held3 (fun w'=>w'.cell? ⟨w.heap.size,0,none⟩=some (.int .i64 a.1)∧w'.cell? ⟨w.heap.size,1,none⟩=some (.int .i64 a.2.1)∧w'.cell? ⟨w.heap.size,2,none⟩=some (.int .i64 a.2.2)∧w'.cell? ⟨w.heap.size + 1,0,none⟩=some (.int .i64 b.1)∧w'.cell? ⟨w.heap.size + 1,1,none⟩=some (.int .i64 b.2.1)∧w'.cell? ⟨w.heap.size + 1,2,none⟩=some (.int .i64 b.2.2))
    (first | (refine keep2 (own_cells ?_) (own_cells ?_) <;> assumption) | (refine keep2 (own_cells ?_) (own_cells ?_) <;> (refine own_set ?_ (by omega);refine own_set ?_ (by omega);refine own_set ?_ (by omega);assumption)))
    (first | (go_at_call 111;(with_reducible refine (times_any (-1) b _ H1.out).mono ?_);rintro e v0 ⟨rfl,hv0⟩;have q0_0:=own_below i0 hv0;have q0_1:=own_below i1 hv0;have q0_2:=own_below i2 hv0) | (go_at_call 110;(with_reducible refine (plus_any a (tim (-1) b) _ H2.out).mono ?_);rintro e v1 ⟨rfl,hv1⟩;have q1_0:=own_below q0_0 hv1;have q1_1:=own_below q0_1 hv1;have q1_2:=own_below q0_2 hv1;have r1:=q1_2;obtain ⟨x1_0,x1_1,x1_2,x1_3,x1_4,x1_5,x1_6⟩:=r1))
  all_goals
    go_wp2
    refine bodyPost_ret (v:=ptv (add a (tim (-1) b))) (by rw [results_cell rfl];go_simp) rfl ⟨rfl,?_⟩
    (repeat' (first | exact Below.refl _ _ | refine bstep ?_ hv0 | refine bstep ?_ hv1 | refine Below.setCell ?_ (by simp <;> omega) _ | refine balloc ?_ _ | refine Below.drew ?_ | refine bdrewN ?_ _))
end Go.Proofs.Ytpocbdompamnnaa
namespace Go.Proofs.Ytpocbdompamnnaa
open Go.ChangeShapes Go.WideShapes Go.RowKit
open Sh
theorem big_of {a:P3} (h:BdP 1048576 a):BdP 1152921504606846976 a:=h.mono (by decide)
theorem sub_20 {a b:P3} (h:BdP 65536 a) (k:BdP 65536 b):BdP 1048576 (sub a b):=(sub_bd h k).mono (by decide)
theorem sub_62 {a b:P3} (h:BdP 65536 a) (k:BdP 65536 b):BdP 4611686018427387904 (sub a b):=(sub_bd h k).mono (by decide)
set_option maxRecDepth 100000 in
set_option maxHeartbeats 1000000 in
theorem normal_any (a b c:P3) (w:World) (ha:BdP 65536 a) (hb:BdP 65536 b) (hc:BdP 65536 c) :
    Calls Try.prog 73 #[pnv a b c] w fun e w'=>e=.returned (ptv (nrm a b c))∧Below w.heap.size w w':=by
  have A:=Lib.hid (ha.mono (by decide):BdP 1152921504606846976 a)
  have B:=Lib.hid (hb.mono (by decide):BdP 1152921504606846976 b)
  have C:=Lib.hid (hc.mono (by decide):BdP 1152921504606846976 c)
  have D:=Lib.hid (sub_20 hb ha)
  have E:=Lib.hid (sub_20 hc ha)
  clear ha hb hc
  have ne0:¬ (w.heap.size + 1=w.heap.size):=by omega
  have ne1:¬ (w.heap.size=w.heap.size + 1):=by omega
  go_enter Try.func73,Try.ntmps73
  go_wp2_with fail
  have i0:=(pan_drew (pan_alloc (pan_new w a b c 73) (.cells #[.int .i64 0,.int .i64 0,.int .i64 0] 38)))
  have i1:=(own_drew (own_new (w.alloc (.cells #[.int .i64 a.1,.int .i64 a.2.1,.int .i64 a.2.2,.int .i64 b.1,.int .i64 b.2.1,.int .i64 b.2.2,.int .i64 c.1,.int .i64 c.2.1,.int .i64 c.2.2] 73)) (0,0,0) 38))
  simp only [World.size_alloc] at i1
  go_region_held3 (fun w'=>w'.cell? ⟨w.heap.size,0,none⟩=some (.int .i64 a.1)∧w'.cell? ⟨w.heap.size,1,none⟩=some (.int .i64 a.2.1)∧w'.cell? ⟨w.heap.size,2,none⟩=some (.int .i64 a.2.2)∧w'.cell? ⟨w.heap.size,3,none⟩=some (.int .i64 b.1)∧w'.cell? ⟨w.heap.size,4,none⟩=some (.int .i64 b.2.1)∧w'.cell? ⟨w.heap.size,5,none⟩=some (.int .i64 b.2.2)∧w'.cell? ⟨w.heap.size,6,none⟩=some (.int .i64 c.1)∧w'.cell? ⟨w.heap.size,7,none⟩=some (.int .i64 c.2.1)∧w'.cell? ⟨w.heap.size,8,none⟩=some (.int .i64 c.2.2))
    (first | (refine pan_cells ?_ <;> assumption) | (refine pan_cells ?_ <;> (refine pan_set ?_ (by omega);refine pan_set ?_ (by omega);refine pan_set ?_ (by omega);assumption)))
    (first | (go_at_call 94;(with_reducible refine (minus_any b a _ B.out A.out).mono ?_);rintro e v0 ⟨rfl,hv0⟩;have q0_0:=pan_below i0 hv0;have q0_1:=own_below i1 hv0) | (go_at_call 94;(with_reducible refine (minus_any c a _ C.out A.out).mono ?_);rintro e v1 ⟨rfl,hv1⟩;have q1_0:=pan_below q0_0 hv1;have q1_1:=own_below q0_1 hv1) | (go_at_call 93;(with_reducible refine (vector_any (sub b a) (sub c a) _ D.out E.out).mono ?_);rintro e v2 ⟨rfl,hv2⟩;have q2_0:=pan_below q1_0 hv2;have q2_1:=own_below q1_1 hv2;have r2:=q2_1;obtain ⟨x2_0,x2_1,x2_2,x2_3,x2_4,x2_5,x2_6⟩:=r2))
  all_goals
    go_wp2
    refine bodyPost_ret (v:=ptv (vec (sub b a) (sub c a))) (by rw [results_cell rfl];go_simp) rfl ⟨rfl,?_⟩
    (repeat' (first | exact Below.refl _ _ | refine bstep ?_ hv0 | refine bstep ?_ hv1 | refine bstep ?_ hv2 | refine Below.setCell ?_ (by simp <;> omega) _ | refine balloc ?_ _ | refine Below.drew ?_ | refine bdrewN ?_ _))
set_option maxRecDepth 100000 in
set_option maxHeartbeats 1000000 in
theorem across_any (a b c:P3) (w:World) (ha:BdP 65536 a) (hb:BdP 65536 b) (hc:BdP 65536 c) :
    Calls Try.prog 85 #[pnv a b c] w fun e w'=>e=.returned (ptv (nrm a b c))∧Below w.heap.size w w':=by
  have A:=Lib.hid (sub_62 hb ha)
  have B:=Lib.hid (sub_62 hc ha)
  have D:=Lib.hid (sub_20 hb ha)
  have E:=Lib.hid (sub_20 hc ha)
  clear ha hb hc
  have ne0:¬ (w.heap.size + 1=w.heap.size):=by omega
  have ne1:¬ (w.heap.size=w.heap.size + 1):=by omega
  go_enter Try.func85,Try.ntmps85
  go_wp2_with fail
  have i0:=(pan_drew (pan_alloc (pan_new w a b c 73) (.cells #[.int .i64 0,.int .i64 0,.int .i64 0] 38)))
  have i1:=(own_drew (own_new (w.alloc (.cells #[.int .i64 a.1,.int .i64 a.2.1,.int .i64 a.2.2,.int .i64 b.1,.int .i64 b.2.1,.int .i64 b.2.2,.int .i64 c.1,.int .i64 c.2.1,.int .i64 c.2.2] 73)) (0,0,0) 38))
  simp only [World.size_alloc] at i1
  go_region_held3 (fun w'=>w'.cell? ⟨w.heap.size,0,none⟩=some (.int .i64 a.1)∧w'.cell? ⟨w.heap.size,1,none⟩=some (.int .i64 a.2.1)∧w'.cell? ⟨w.heap.size,2,none⟩=some (.int .i64 a.2.2)∧w'.cell? ⟨w.heap.size,3,none⟩=some (.int .i64 b.1)∧w'.cell? ⟨w.heap.size,4,none⟩=some (.int .i64 b.2.1)∧w'.cell? ⟨w.heap.size,5,none⟩=some (.int .i64 b.2.2)∧w'.cell? ⟨w.heap.size,6,none⟩=some (.int .i64 c.1)∧w'.cell? ⟨w.heap.size,7,none⟩=some (.int .i64 c.2.1)∧w'.cell? ⟨w.heap.size,8,none⟩=some (.int .i64 c.2.2))
    (first | (refine pan_cells ?_ <;> assumption) | (refine pan_cells ?_ <;> (refine pan_set ?_ (by omega);refine pan_set ?_ (by omega);refine pan_set ?_ (by omega);assumption)))
    (first | (go_at_call 105;(with_reducible refine (rminus_any b a _ A.out).mono ?_);rintro e v0 ⟨rfl,hv0⟩;have q0_0:=pan_below i0 hv0;have q0_1:=own_below i1 hv0) | (go_at_call 105;(with_reducible refine (rminus_any c a _ B.out).mono ?_);rintro e v1 ⟨rfl,hv1⟩;have q1_0:=pan_below q0_0 hv1;have q1_1:=own_below q0_1 hv1) | (go_at_call 104;(with_reducible refine (cross_any (sub b a) (sub c a) _ D.out E.out).mono ?_);rintro e v2 ⟨rfl,hv2⟩;have q2_0:=pan_below q1_0 hv2;have q2_1:=own_below q1_1 hv2;have r2:=q2_1;obtain ⟨x2_0,x2_1,x2_2,x2_3,x2_4,x2_5,x2_6⟩:=r2))
  all_goals
    go_wp2
    refine bodyPost_ret (v:=ptv (vec (sub b a) (sub c a))) (by rw [results_cell rfl];go_simp) rfl ⟨rfl,?_⟩
    (repeat' (first | exact Below.refl _ _ | refine bstep ?_ hv0 | refine bstep ?_ hv1 | refine bstep ?_ hv2 | refine Below.setCell ?_ (by simp <;> omega) _ | refine balloc ?_ _ | refine Below.drew ?_ | refine bdrewN ?_ _))
end Go.Proofs.Ytpocbdompamnnaa
namespace Go.Proofs.Ytpocbdompamnnaa
open Go.ChangeShapes Go.WideShapes Go.RowKit
open Sh
theorem det_fit {a b c:P3} (h:BdP 1024 a) (k:BdP 1024 b) (l:BdP 1024 c):BdP 1152921504606846976 (pw a (vec b c)):=by
  have v:=vec_bd k l
  obtain ⟨a1,a2,a3,a4,a5,a6⟩:=h
  obtain ⟨b1,b2,b3,b4,b5,b6⟩:=v
  have x:=mul_bd a1 a2 b1 b2
  have y:=mul_bd a3 a4 b3 b4
  have z:=mul_bd a5 a6 b5 b6
  exact ⟨by simp only [pw];omega,by simp only [pw];omega,by simp only [pw];omega,by simp only [pw];omega,by simp only [pw];omega,by simp only [pw];omega⟩
theorem inP_of {L:Int} {a:P3}:inP L a=(decide (-L≤a.1∧a.1≤L) && (decide (-L≤a.2.1∧a.2.1≤L) && decide (-L≤a.2.2∧a.2.2≤L))):=by
  rw [Bool.eq_iff_iff]
  simp only [inP,Bool.and_eq_true,decide_eq_true_eq]
  omega
theorem within_yes (a:P3) (L:Int) (w:World) (hL:0≤L) (hM:L≤1099511627776) (l0:-L≤a.1) (u0:a.1≤L) (l1:-L≤a.2.1) (u1:a.2.1≤L) (l2:-L≤a.2.2) (u2:a.2.2≤L) :
    Calls Try.prog 72 #[ptv a,.int .i64 L] w fun e w'=>e=.returned (.bool true)∧Below w.heap.size w w':=by
  have nl0:decide (a.1 < -L)=false:=decide_eq_false (by omega)
  have nl1:decide (a.2.1 < -L)=false:=decide_eq_false (by omega)
  have nl2:decide (a.2.2 < -L)=false:=decide_eq_false (by omega)
  have nu0:decide (L < a.1)=false:=decide_eq_false (by omega)
  have nu1:decide (L < a.2.1)=false:=decide_eq_false (by omega)
  have nu2:decide (L < a.2.2)=false:=decide_eq_false (by omega)
  clear l0 u0 l1 u1 l2 u2
  have i0:∀ w,(Instr.index 103 (.agg #[.int .i64 a.1,.int .i64 a.2.1,.int .i64 a.2.2]) (.int .i64 0)).run Try.prog w=.ok (.int .i64 a.1) w:=fun _=>by kernel_rfl
  have i1:∀ w,(Instr.index 103 (.agg #[.int .i64 a.1,.int .i64 a.2.1,.int .i64 a.2.2]) (.int .i64 1)).run Try.prog w=.ok (.int .i64 a.2.1) w:=fun _=>by kernel_rfl
  have i2:∀ w,(Instr.index 103 (.agg #[.int .i64 a.1,.int .i64 a.2.1,.int .i64 a.2.2]) (.int .i64 2)).run Try.prog w=.ok (.int .i64 a.2.2) w:=fun _=>by kernel_rfl
  go_enter Try.func72,Try.ntmps72
  go_wp2
  refine wp_loop_rounds 4 ?_
  rw [rounds_succ]
  go_wp2
  rw [rounds_succ]
  go_wp2
  rw [rounds_succ]
  go_wp2
  rw [rounds_succ]
  go_wp2
  go_ret
  exact ⟨rfl,by (repeat' (first | exact Below.refl _ _ | refine Below.setCell ?_ (by simp <;> omega) _ | refine balloc ?_ _ | refine Below.drew ?_ | refine bdrewN ?_ _))⟩
theorem within_lo0 (a:P3) (L:Int) (w:World) (hL:0≤L) (hM:L≤1099511627776) (n:a.1 < -L) :
    Calls Try.prog 72 #[ptv a,.int .i64 L] w fun e w'=>e=.returned (.bool false)∧Below w.heap.size w w':=by
  have i0:∀ w,(Instr.index 103 (.agg #[.int .i64 a.1,.int .i64 a.2.1,.int .i64 a.2.2]) (.int .i64 0)).run Try.prog w=.ok (.int .i64 a.1) w:=fun _=>by kernel_rfl
  have i1:∀ w,(Instr.index 103 (.agg #[.int .i64 a.1,.int .i64 a.2.1,.int .i64 a.2.2]) (.int .i64 1)).run Try.prog w=.ok (.int .i64 a.2.1) w:=fun _=>by kernel_rfl
  have i2:∀ w,(Instr.index 103 (.agg #[.int .i64 a.1,.int .i64 a.2.1,.int .i64 a.2.2]) (.int .i64 2)).run Try.prog w=.ok (.int .i64 a.2.2) w:=fun _=>by kernel_rfl
  go_enter Try.func72,Try.ntmps72
  go_wp2
  refine wp_loop_rounds 1 ?_
  rw [rounds_succ]
  go_wp2
  go_ret
  exact ⟨rfl,by (repeat' (first | exact Below.refl _ _ | refine Below.setCell ?_ (by simp <;> omega) _ | refine balloc ?_ _ | refine Below.drew ?_ | refine bdrewN ?_ _))⟩
theorem within_hi0 (a:P3) (L:Int) (w:World) (hL:0≤L) (hM:L≤1099511627776) (m:-L≤a.1) (n:L < a.1) :
    Calls Try.prog 72 #[ptv a,.int .i64 L] w fun e w'=>e=.returned (.bool false)∧Below w.heap.size w w':=by
  have nl0:decide (a.1 < -L)=false:=decide_eq_false (by omega)
  clear  m
  have i0:∀ w,(Instr.index 103 (.agg #[.int .i64 a.1,.int .i64 a.2.1,.int .i64 a.2.2]) (.int .i64 0)).run Try.prog w=.ok (.int .i64 a.1) w:=fun _=>by kernel_rfl
  have i1:∀ w,(Instr.index 103 (.agg #[.int .i64 a.1,.int .i64 a.2.1,.int .i64 a.2.2]) (.int .i64 1)).run Try.prog w=.ok (.int .i64 a.2.1) w:=fun _=>by kernel_rfl
  have i2:∀ w,(Instr.index 103 (.agg #[.int .i64 a.1,.int .i64 a.2.1,.int .i64 a.2.2]) (.int .i64 2)).run Try.prog w=.ok (.int .i64 a.2.2) w:=fun _=>by kernel_rfl
  go_enter Try.func72,Try.ntmps72
  go_wp2
  refine wp_loop_rounds 1 ?_
  rw [rounds_succ]
  go_wp2
  go_ret
  exact ⟨rfl,by (repeat' (first | exact Below.refl _ _ | refine Below.setCell ?_ (by simp <;> omega) _ | refine balloc ?_ _ | refine Below.drew ?_ | refine bdrewN ?_ _))⟩
theorem within_lo1 (a:P3) (L:Int) (w:World) (hL:0≤L) (hM:L≤1099511627776) (l0:-L≤a.1) (u0:a.1≤L) (n:a.2.1 < -L) :
    Calls Try.prog 72 #[ptv a,.int .i64 L] w fun e w'=>e=.returned (.bool false)∧Below w.heap.size w w':=by
  have nl0:decide (a.1 < -L)=false:=decide_eq_false (by omega)
  have nu0:decide (L < a.1)=false:=decide_eq_false (by omega)
  clear l0 u0
  have i0:∀ w,(Instr.index 103 (.agg #[.int .i64 a.1,.int .i64 a.2.1,.int .i64 a.2.2]) (.int .i64 0)).run Try.prog w=.ok (.int .i64 a.1) w:=fun _=>by kernel_rfl
  have i1:∀ w,(Instr.index 103 (.agg #[.int .i64 a.1,.int .i64 a.2.1,.int .i64 a.2.2]) (.int .i64 1)).run Try.prog w=.ok (.int .i64 a.2.1) w:=fun _=>by kernel_rfl
  have i2:∀ w,(Instr.index 103 (.agg #[.int .i64 a.1,.int .i64 a.2.1,.int .i64 a.2.2]) (.int .i64 2)).run Try.prog w=.ok (.int .i64 a.2.2) w:=fun _=>by kernel_rfl
  go_enter Try.func72,Try.ntmps72
  go_wp2
  refine wp_loop_rounds 2 ?_
  rw [rounds_succ]
  go_wp2
  rw [rounds_succ]
  go_wp2
  go_ret
  exact ⟨rfl,by (repeat' (first | exact Below.refl _ _ | refine Below.setCell ?_ (by simp <;> omega) _ | refine balloc ?_ _ | refine Below.drew ?_ | refine bdrewN ?_ _))⟩
theorem within_hi1 (a:P3) (L:Int) (w:World) (hL:0≤L) (hM:L≤1099511627776) (l0:-L≤a.1) (u0:a.1≤L) (m:-L≤a.2.1) (n:L < a.2.1) :
    Calls Try.prog 72 #[ptv a,.int .i64 L] w fun e w'=>e=.returned (.bool false)∧Below w.heap.size w w':=by
  have nl0:decide (a.1 < -L)=false:=decide_eq_false (by omega)
  have nl1:decide (a.2.1 < -L)=false:=decide_eq_false (by omega)
  have nu0:decide (L < a.1)=false:=decide_eq_false (by omega)
  clear l0 u0 m
  have i0:∀ w,(Instr.index 103 (.agg #[.int .i64 a.1,.int .i64 a.2.1,.int .i64 a.2.2]) (.int .i64 0)).run Try.prog w=.ok (.int .i64 a.1) w:=fun _=>by kernel_rfl
  have i1:∀ w,(Instr.index 103 (.agg #[.int .i64 a.1,.int .i64 a.2.1,.int .i64 a.2.2]) (.int .i64 1)).run Try.prog w=.ok (.int .i64 a.2.1) w:=fun _=>by kernel_rfl
  have i2:∀ w,(Instr.index 103 (.agg #[.int .i64 a.1,.int .i64 a.2.1,.int .i64 a.2.2]) (.int .i64 2)).run Try.prog w=.ok (.int .i64 a.2.2) w:=fun _=>by kernel_rfl
  go_enter Try.func72,Try.ntmps72
  go_wp2
  refine wp_loop_rounds 2 ?_
  rw [rounds_succ]
  go_wp2
  rw [rounds_succ]
  go_wp2
  go_ret
  exact ⟨rfl,by (repeat' (first | exact Below.refl _ _ | refine Below.setCell ?_ (by simp <;> omega) _ | refine balloc ?_ _ | refine Below.drew ?_ | refine bdrewN ?_ _))⟩
theorem within_lo2 (a:P3) (L:Int) (w:World) (hL:0≤L) (hM:L≤1099511627776) (l0:-L≤a.1) (u0:a.1≤L) (l1:-L≤a.2.1) (u1:a.2.1≤L) (n:a.2.2 < -L) :
    Calls Try.prog 72 #[ptv a,.int .i64 L] w fun e w'=>e=.returned (.bool false)∧Below w.heap.size w w':=by
  have nl0:decide (a.1 < -L)=false:=decide_eq_false (by omega)
  have nl1:decide (a.2.1 < -L)=false:=decide_eq_false (by omega)
  have nu0:decide (L < a.1)=false:=decide_eq_false (by omega)
  have nu1:decide (L < a.2.1)=false:=decide_eq_false (by omega)
  clear l0 u0 l1 u1
  have i0:∀ w,(Instr.index 103 (.agg #[.int .i64 a.1,.int .i64 a.2.1,.int .i64 a.2.2]) (.int .i64 0)).run Try.prog w=.ok (.int .i64 a.1) w:=fun _=>by kernel_rfl
  have i1:∀ w,(Instr.index 103 (.agg #[.int .i64 a.1,.int .i64 a.2.1,.int .i64 a.2.2]) (.int .i64 1)).run Try.prog w=.ok (.int .i64 a.2.1) w:=fun _=>by kernel_rfl
  have i2:∀ w,(Instr.index 103 (.agg #[.int .i64 a.1,.int .i64 a.2.1,.int .i64 a.2.2]) (.int .i64 2)).run Try.prog w=.ok (.int .i64 a.2.2) w:=fun _=>by kernel_rfl
  go_enter Try.func72,Try.ntmps72
  go_wp2
  refine wp_loop_rounds 3 ?_
  rw [rounds_succ]
  go_wp2
  rw [rounds_succ]
  go_wp2
  rw [rounds_succ]
  go_wp2
  go_ret
  exact ⟨rfl,by (repeat' (first | exact Below.refl _ _ | refine Below.setCell ?_ (by simp <;> omega) _ | refine balloc ?_ _ | refine Below.drew ?_ | refine bdrewN ?_ _))⟩
theorem within_hi2 (a:P3) (L:Int) (w:World) (hL:0≤L) (hM:L≤1099511627776) (l0:-L≤a.1) (u0:a.1≤L) (l1:-L≤a.2.1) (u1:a.2.1≤L) (m:-L≤a.2.2) (n:L < a.2.2) :
    Calls Try.prog 72 #[ptv a,.int .i64 L] w fun e w'=>e=.returned (.bool false)∧Below w.heap.size w w':=by
  have nl0:decide (a.1 < -L)=false:=decide_eq_false (by omega)
  have nl1:decide (a.2.1 < -L)=false:=decide_eq_false (by omega)
  have nl2:decide (a.2.2 < -L)=false:=decide_eq_false (by omega)
  have nu0:decide (L < a.1)=false:=decide_eq_false (by omega)
  have nu1:decide (L < a.2.1)=false:=decide_eq_false (by omega)
  clear l0 u0 l1 u1 m
  have i0:∀ w,(Instr.index 103 (.agg #[.int .i64 a.1,.int .i64 a.2.1,.int .i64 a.2.2]) (.int .i64 0)).run Try.prog w=.ok (.int .i64 a.1) w:=fun _=>by kernel_rfl
  have i1:∀ w,(Instr.index 103 (.agg #[.int .i64 a.1,.int .i64 a.2.1,.int .i64 a.2.2]) (.int .i64 1)).run Try.prog w=.ok (.int .i64 a.2.1) w:=fun _=>by kernel_rfl
  have i2:∀ w,(Instr.index 103 (.agg #[.int .i64 a.1,.int .i64 a.2.1,.int .i64 a.2.2]) (.int .i64 2)).run Try.prog w=.ok (.int .i64 a.2.2) w:=fun _=>by kernel_rfl
  go_enter Try.func72,Try.ntmps72
  go_wp2
  refine wp_loop_rounds 3 ?_
  rw [rounds_succ]
  go_wp2
  rw [rounds_succ]
  go_wp2
  rw [rounds_succ]
  go_wp2
  go_ret
  exact ⟨rfl,by (repeat' (first | exact Below.refl _ _ | refine Below.setCell ?_ (by simp <;> omega) _ | refine balloc ?_ _ | refine Below.drew ?_ | refine bdrewN ?_ _))⟩
theorem within_any (a:P3) (L:Int) (w:World) (hL:0≤L) (hM:L≤1099511627776) :
    Calls Try.prog 72 #[ptv a,.int .i64 L] w fun e w'=>e=.returned (.bool (inP L a))∧Below w.heap.size w w':=by
  cases h:inP L a with
  | true =>
    obtain ⟨h1,h2,h3,h4,h5,h6⟩:=inP_iff.1 h
    exact within_yes a L w hL hM h1 h2 h3 h4 h5 h6
  | false =>
    have h:=inP_not.1 h
    unfold BdP at h
    rcases Int.lt_or_le a.1 (-L) with c | h1
    · exact within_lo0 a L w hL hM c
    rcases Int.lt_or_le L a.1 with c | h2
    · exact within_hi0 a L w hL hM h1 c
    rcases Int.lt_or_le a.2.1 (-L) with c | h3
    · exact within_lo1 a L w hL hM h1 h2 c
    rcases Int.lt_or_le L a.2.1 with c | h4
    · exact within_hi1 a L w hL hM h1 h2 h3 c
    rcases Int.lt_or_le a.2.2 (-L) with c | h5
    · exact within_lo2 a L w hL hM h1 h2 h3 h4 c
    rcases Int.lt_or_le L a.2.2 with c | h6
    · exact within_hi2 a L w hL hM h1 h2 h3 h4 h5 c
    exact absurd ⟨h1,h2,h3,h4,h5,h6⟩ h
theorem rwithin_any (n lo hi:Int) (w:World) :
    Calls Try.prog 103 #[.int .i64 n,.int .i64 lo,.int .i64 hi] w fun e w'=>e=.returned (.bool (decide (lo≤n∧n≤hi)))∧w=w':=by
  by_cases h:lo≤n
  · by_cases k:n≤hi
    · rw [decide_eq_true (show lo≤n∧n≤hi from ⟨h,k⟩)]
      go_enter Try.func103,Try.ntmps103
      go_wp2
      go_ret
      exact ⟨rfl,rfl⟩
    · rw [decide_eq_false (show ¬ (lo≤n∧n≤hi) from fun x=>k x.2)]
      have k':decide (n≤hi)=false:=decide_eq_false k
      clear k
      go_enter Try.func103,Try.ntmps103
      go_wp2
      go_ret
      exact ⟨rfl,rfl⟩
  · rw [decide_eq_false (show ¬ (lo≤n∧n≤hi) from fun x=>h x.1)]
    go_enter Try.func103,Try.ntmps103
    go_wp2
    go_ret
    exact ⟨rfl,rfl⟩
theorem near_any (a:P3) (L:Int) (w:World) (hL:0≤L) (hM:L≤1099511627776) :
    Calls Try.prog 84 #[ptv a,.int .i64 L] w fun e w'=>e=.returned (.bool (inP L a))∧Below w.heap.size w w':=by
  rw [inP_of]
  cases h1:decide (-L≤a.1∧a.1≤L) with
  | false =>
    go_enter Try.func84,Try.ntmps84
    go_wp2_with (go_at_call 103;refine (rwithin_any _ _ _ _).mono ?_;rintro e w' ⟨rfl,rfl⟩)
    go_ret
    exact ⟨by simp [*],by (repeat' (first | exact Below.refl _ _ | refine Below.setCell ?_ (by simp <;> omega) _ | refine balloc ?_ _ | refine Below.drew ?_ | refine bdrewN ?_ _))⟩
  | true =>
    cases h2:decide (-L≤a.2.1∧a.2.1≤L) with
    | false =>
      go_enter Try.func84,Try.ntmps84
      go_wp2_with (go_at_call 103;refine (rwithin_any _ _ _ _).mono ?_;rintro e w' ⟨rfl,rfl⟩)
      go_ret
      exact ⟨by simp [*],by (repeat' (first | exact Below.refl _ _ | refine Below.setCell ?_ (by simp <;> omega) _ | refine balloc ?_ _ | refine Below.drew ?_ | refine bdrewN ?_ _))⟩
    | true =>
      cases h3:decide (-L≤a.2.2∧a.2.2≤L) with
      | false =>
        go_enter Try.func84,Try.ntmps84
        go_wp2_with (go_at_call 103;refine (rwithin_any _ _ _ _).mono ?_;rintro e w' ⟨rfl,rfl⟩)
        go_ret
        exact ⟨by simp [*],by (repeat' (first | exact Below.refl _ _ | refine Below.setCell ?_ (by simp <;> omega) _ | refine balloc ?_ _ | refine Below.drew ?_ | refine bdrewN ?_ _))⟩
      | true =>
        go_enter Try.func84,Try.ntmps84
        go_wp2_with (go_at_call 103;refine (rwithin_any _ _ _ _).mono ?_;rintro e w' ⟨rfl,rfl⟩)
        go_ret
        exact ⟨by simp [*],by (repeat' (first | exact Below.refl _ _ | refine Below.setCell ?_ (by simp <;> omega) _ | refine balloc ?_ _ | refine Below.drew ?_ | refine bdrewN ?_ _))⟩
end Go.Proofs.Ytpocbdompamnnaa
namespace Go.Proofs.Ytpocbdompamnnaa
open Go.ChangeShapes Go.WideShapes Go.RowKit
open Sh
theorem pcode_bd {a b c:P3} (h:pcode a b c=0):BdP 65536 a∧BdP 65536 b∧BdP 65536 c:=by
  unfold pcode at h
  split at h
  · rename_i v
    simp only [Bool.and_eq_true] at v
    exact ⟨(inP_iff.1 v.1.1).mono (by decide),(inP_iff.1 v.1.2).mono (by decide),(inP_iff.1 v.2).mono (by decide)⟩
  · exact absurd h (by decide)
theorem w16 {a:P3} (h:inP 64 a=true):BdP 65536 a:=(inP_iff.1 h).mono (by decide)
set_option maxHeartbeats 400000 in
theorem vp_arg0 (a b c:P3) (w:World) (h0:inP 64 a=false) :
    Calls Try.prog 45 #[pnv a b c] w fun e w'=>e=.returned (.int .i64 1)∧Below w.heap.size w w':=by
  have i0:∀ w,(Instr.index 97 (.agg #[.int .i64 a.1,.int .i64 a.2.1,.int .i64 a.2.2,.int .i64 b.1,.int .i64 b.2.1,.int .i64 b.2.2,.int .i64 c.1,.int .i64 c.2.1,.int .i64 c.2.2]) (.int .i64 0)).run Try.prog w=.ok (ptv a) w:=fun _=>by kernel_rfl
  have i1:∀ w,(Instr.index 97 (.agg #[.int .i64 a.1,.int .i64 a.2.1,.int .i64 a.2.2,.int .i64 b.1,.int .i64 b.2.1,.int .i64 b.2.2,.int .i64 c.1,.int .i64 c.2.1,.int .i64 c.2.2]) (.int .i64 1)).run Try.prog w=.ok (ptv b) w:=fun _=>by kernel_rfl
  have i2:∀ w,(Instr.index 97 (.agg #[.int .i64 a.1,.int .i64 a.2.1,.int .i64 a.2.2,.int .i64 b.1,.int .i64 b.2.1,.int .i64 b.2.2,.int .i64 c.1,.int .i64 c.2.1,.int .i64 c.2.2]) (.int .i64 2)).run Try.prog w=.ok (ptv c) w:=fun _=>by kernel_rfl
  go_enter Try.func45,Try.ntmps45
  go_wp2
  refine wp_loop_rounds 4 ?_
  rw [rounds_succ]
  go_wp2_with fail
  have W0:=within_any a 64
  rw [h0] at W0
  have W0:=Lib.hid W0
  refine (W0.out _ (by decide) (by decide)).mono ?_
  rintro e w1 ⟨rfl,hb1⟩
  have q1:=pan_below (pan_alloc (pan_new w a b c _) _) hb1
  go_wp2
  go_ret
  exact ⟨rfl,by (repeat' (first | exact Below.refl _ _ | refine bstep ?_ hb1 | refine Below.setCell ?_ (by simp <;> omega) _ | refine balloc ?_ _ | refine Below.drew ?_ | refine bdrewN ?_ _))⟩
set_option maxHeartbeats 400000 in
theorem vp_arg1 (a b c:P3) (w:World) (h0:inP 64 a=true) (h1:inP 64 b=false) :
    Calls Try.prog 45 #[pnv a b c] w fun e w'=>e=.returned (.int .i64 1)∧Below w.heap.size w w':=by
  have i0:∀ w,(Instr.index 97 (.agg #[.int .i64 a.1,.int .i64 a.2.1,.int .i64 a.2.2,.int .i64 b.1,.int .i64 b.2.1,.int .i64 b.2.2,.int .i64 c.1,.int .i64 c.2.1,.int .i64 c.2.2]) (.int .i64 0)).run Try.prog w=.ok (ptv a) w:=fun _=>by kernel_rfl
  have i1:∀ w,(Instr.index 97 (.agg #[.int .i64 a.1,.int .i64 a.2.1,.int .i64 a.2.2,.int .i64 b.1,.int .i64 b.2.1,.int .i64 b.2.2,.int .i64 c.1,.int .i64 c.2.1,.int .i64 c.2.2]) (.int .i64 1)).run Try.prog w=.ok (ptv b) w:=fun _=>by kernel_rfl
  have i2:∀ w,(Instr.index 97 (.agg #[.int .i64 a.1,.int .i64 a.2.1,.int .i64 a.2.2,.int .i64 b.1,.int .i64 b.2.1,.int .i64 b.2.2,.int .i64 c.1,.int .i64 c.2.1,.int .i64 c.2.2]) (.int .i64 2)).run Try.prog w=.ok (ptv c) w:=fun _=>by kernel_rfl
  go_enter Try.func45,Try.ntmps45
  go_wp2
  refine wp_loop_rounds 4 ?_
  rw [rounds_succ]
  go_wp2_with fail
  have W0:=within_any a 64
  rw [h0] at W0
  have W0:=Lib.hid W0
  refine (W0.out _ (by decide) (by decide)).mono ?_
  rintro e w1 ⟨rfl,hb1⟩
  have q1:=pan_below (pan_alloc (pan_new w a b c _) _) hb1
  go_wp2
  rw [rounds_succ]
  go_wp2_with fail
  have W1:=within_any b 64
  rw [h1] at W1
  have W1:=Lib.hid W1
  refine (W1.out _ (by decide) (by decide)).mono ?_
  rintro e w2 ⟨rfl,hb2⟩
  have q2:=pan_below (pan_alloc q1 _) hb2
  clear q1
  go_wp2
  go_ret
  exact ⟨rfl,by (repeat' (first | exact Below.refl _ _ | refine bstep ?_ hb1 | refine bstep ?_ hb2 | refine Below.setCell ?_ (by simp <;> omega) _ | refine balloc ?_ _ | refine Below.drew ?_ | refine bdrewN ?_ _))⟩
set_option maxHeartbeats 400000 in
theorem vp_arg2 (a b c:P3) (w:World) (h0:inP 64 a=true) (h1:inP 64 b=true) (h2:inP 64 c=false) :
    Calls Try.prog 45 #[pnv a b c] w fun e w'=>e=.returned (.int .i64 1)∧Below w.heap.size w w':=by
  have i0:∀ w,(Instr.index 97 (.agg #[.int .i64 a.1,.int .i64 a.2.1,.int .i64 a.2.2,.int .i64 b.1,.int .i64 b.2.1,.int .i64 b.2.2,.int .i64 c.1,.int .i64 c.2.1,.int .i64 c.2.2]) (.int .i64 0)).run Try.prog w=.ok (ptv a) w:=fun _=>by kernel_rfl
  have i1:∀ w,(Instr.index 97 (.agg #[.int .i64 a.1,.int .i64 a.2.1,.int .i64 a.2.2,.int .i64 b.1,.int .i64 b.2.1,.int .i64 b.2.2,.int .i64 c.1,.int .i64 c.2.1,.int .i64 c.2.2]) (.int .i64 1)).run Try.prog w=.ok (ptv b) w:=fun _=>by kernel_rfl
  have i2:∀ w,(Instr.index 97 (.agg #[.int .i64 a.1,.int .i64 a.2.1,.int .i64 a.2.2,.int .i64 b.1,.int .i64 b.2.1,.int .i64 b.2.2,.int .i64 c.1,.int .i64 c.2.1,.int .i64 c.2.2]) (.int .i64 2)).run Try.prog w=.ok (ptv c) w:=fun _=>by kernel_rfl
  go_enter Try.func45,Try.ntmps45
  go_wp2
  refine wp_loop_rounds 4 ?_
  rw [rounds_succ]
  go_wp2_with fail
  have W0:=within_any a 64
  rw [h0] at W0
  have W0:=Lib.hid W0
  refine (W0.out _ (by decide) (by decide)).mono ?_
  rintro e w1 ⟨rfl,hb1⟩
  have q1:=pan_below (pan_alloc (pan_new w a b c _) _) hb1
  go_wp2
  rw [rounds_succ]
  go_wp2_with fail
  have W1:=within_any b 64
  rw [h1] at W1
  have W1:=Lib.hid W1
  refine (W1.out _ (by decide) (by decide)).mono ?_
  rintro e w2 ⟨rfl,hb2⟩
  have q2:=pan_below (pan_alloc q1 _) hb2
  clear q1
  go_wp2
  rw [rounds_succ]
  go_wp2_with fail
  have W2:=within_any c 64
  rw [h2] at W2
  have W2:=Lib.hid W2
  refine (W2.out _ (by decide) (by decide)).mono ?_
  rintro e w3 ⟨rfl,hb3⟩
  have q3:=pan_below (pan_alloc q2 _) hb3
  clear q2
  go_wp2
  go_ret
  exact ⟨rfl,by (repeat' (first | exact Below.refl _ _ | refine bstep ?_ hb1 | refine bstep ?_ hb2 | refine bstep ?_ hb3 | refine Below.setCell ?_ (by simp <;> omega) _ | refine balloc ?_ _ | refine Below.drew ?_ | refine bdrewN ?_ _))⟩
set_option maxRecDepth 100000 in
set_option maxHeartbeats 400000 in
theorem vp_flat (a b c:P3) (w:World) (h0:inP 64 a=true) (h1:inP 64 b=true) (h2:inP 64 c=true) (hn:nrm a b c=(0,0,0)) :
    Calls Try.prog 45 #[pnv a b c] w fun e w'=>e=.returned (.int .i64 6)∧Below w.heap.size w w':=by
  have A:=Lib.hid (w16 h0)
  have B:=Lib.hid (w16 h1)
  have C:=Lib.hid (w16 h2)
  have n1:(nrm a b c).1=0:=by rw [hn]
  have n2:(nrm a b c).2.1=0:=by rw [hn]
  have n3:(nrm a b c).2.2=0:=by rw [hn]
  clear hn
  have i0:∀ w,(Instr.index 97 (.agg #[.int .i64 a.1,.int .i64 a.2.1,.int .i64 a.2.2,.int .i64 b.1,.int .i64 b.2.1,.int .i64 b.2.2,.int .i64 c.1,.int .i64 c.2.1,.int .i64 c.2.2]) (.int .i64 0)).run Try.prog w=.ok (ptv a) w:=fun _=>by kernel_rfl
  have i1:∀ w,(Instr.index 97 (.agg #[.int .i64 a.1,.int .i64 a.2.1,.int .i64 a.2.2,.int .i64 b.1,.int .i64 b.2.1,.int .i64 b.2.2,.int .i64 c.1,.int .i64 c.2.1,.int .i64 c.2.2]) (.int .i64 1)).run Try.prog w=.ok (ptv b) w:=fun _=>by kernel_rfl
  have i2:∀ w,(Instr.index 97 (.agg #[.int .i64 a.1,.int .i64 a.2.1,.int .i64 a.2.2,.int .i64 b.1,.int .i64 b.2.1,.int .i64 b.2.2,.int .i64 c.1,.int .i64 c.2.1,.int .i64 c.2.2]) (.int .i64 2)).run Try.prog w=.ok (ptv c) w:=fun _=>by kernel_rfl
  go_enter Try.func45,Try.ntmps45
  go_wp2
  refine wp_loop_rounds 4 ?_
  rw [rounds_succ]
  go_wp2_with fail
  have W0:=within_any a 64
  rw [h0] at W0
  have W0:=Lib.hid W0
  refine (W0.out _ (by decide) (by decide)).mono ?_
  rintro e w1 ⟨rfl,hb1⟩
  have q1:=pan_below (pan_alloc (pan_new w a b c _) _) hb1
  go_wp2
  rw [rounds_succ]
  go_wp2_with fail
  have W1:=within_any b 64
  rw [h1] at W1
  have W1:=Lib.hid W1
  refine (W1.out _ (by decide) (by decide)).mono ?_
  rintro e w2 ⟨rfl,hb2⟩
  have q2:=pan_below (pan_alloc q1 _) hb2
  clear q1
  go_wp2
  rw [rounds_succ]
  go_wp2_with fail
  have W2:=within_any c 64
  rw [h2] at W2
  have W2:=Lib.hid W2
  refine (W2.out _ (by decide) (by decide)).mono ?_
  rintro e w3 ⟨rfl,hb3⟩
  have q3:=pan_below (pan_alloc q2 _) hb3
  clear q2
  go_wp2
  rw [rounds_succ]
  obtain ⟨y1,y2,y3,y4,y5,y6,y7,y8,y9,y10⟩:=q3
  go_wp2_with fail
  refine (normal_any a b c _ A.out B.out C.out).mono ?_
  rintro e w4 ⟨rfl,hb4⟩
  go_wp2
  go_ret
  exact ⟨rfl,by (repeat' (first | exact Below.refl _ _ | refine bstep ?_ hb1 | refine bstep ?_ hb2 | refine bstep ?_ hb3 | refine bstep ?_ hb4 | refine Below.setCell ?_ (by simp <;> omega) _ | refine balloc ?_ _ | refine Below.drew ?_ | refine bdrewN ?_ _))⟩
theorem p3_zero {p:P3} (x:p.1=0) (y:p.2.1=0) (z:p.2.2=0):p=(0,0,0):=by
  obtain ⟨a,b,c⟩:=p
  dsimp only at x y z
  rw [x,y,z]
set_option maxRecDepth 100000 in
set_option maxHeartbeats 400000 in
theorem vp_ok (a b c:P3) (w:World) (h0:inP 64 a=true) (h1:inP 64 b=true) (h2:inP 64 c=true) (hn:nrm a b c ≠ (0,0,0)) :
    Calls Try.prog 45 #[pnv a b c] w fun e w'=>e=.returned (.int .i64 0)∧Below w.heap.size w w':=by
  have A:=Lib.hid (w16 h0)
  have B:=Lib.hid (w16 h1)
  have C:=Lib.hid (w16 h2)
  have i0:∀ w,(Instr.index 97 (.agg #[.int .i64 a.1,.int .i64 a.2.1,.int .i64 a.2.2,.int .i64 b.1,.int .i64 b.2.1,.int .i64 b.2.2,.int .i64 c.1,.int .i64 c.2.1,.int .i64 c.2.2]) (.int .i64 0)).run Try.prog w=.ok (ptv a) w:=fun _=>by kernel_rfl
  have i1:∀ w,(Instr.index 97 (.agg #[.int .i64 a.1,.int .i64 a.2.1,.int .i64 a.2.2,.int .i64 b.1,.int .i64 b.2.1,.int .i64 b.2.2,.int .i64 c.1,.int .i64 c.2.1,.int .i64 c.2.2]) (.int .i64 1)).run Try.prog w=.ok (ptv b) w:=fun _=>by kernel_rfl
  have i2:∀ w,(Instr.index 97 (.agg #[.int .i64 a.1,.int .i64 a.2.1,.int .i64 a.2.2,.int .i64 b.1,.int .i64 b.2.1,.int .i64 b.2.2,.int .i64 c.1,.int .i64 c.2.1,.int .i64 c.2.2]) (.int .i64 2)).run Try.prog w=.ok (ptv c) w:=fun _=>by kernel_rfl
  go_enter Try.func45,Try.ntmps45
  go_wp2
  refine wp_loop_rounds 4 ?_
  rw [rounds_succ]
  go_wp2_with fail
  have W0:=within_any a 64
  rw [h0] at W0
  have W0:=Lib.hid W0
  refine (W0.out _ (by decide) (by decide)).mono ?_
  rintro e w1 ⟨rfl,hb1⟩
  have q1:=pan_below (pan_alloc (pan_new w a b c _) _) hb1
  go_wp2
  rw [rounds_succ]
  go_wp2_with fail
  have W1:=within_any b 64
  rw [h1] at W1
  have W1:=Lib.hid W1
  refine (W1.out _ (by decide) (by decide)).mono ?_
  rintro e w2 ⟨rfl,hb2⟩
  have q2:=pan_below (pan_alloc q1 _) hb2
  clear q1
  go_wp2
  rw [rounds_succ]
  go_wp2_with fail
  have W2:=within_any c 64
  rw [h2] at W2
  have W2:=Lib.hid W2
  refine (W2.out _ (by decide) (by decide)).mono ?_
  rintro e w3 ⟨rfl,hb3⟩
  have q3:=pan_below (pan_alloc q2 _) hb3
  clear q2
  go_wp2
  rw [rounds_succ]
  obtain ⟨y1,y2,y3,y4,y5,y6,y7,y8,y9,y10⟩:=q3
  go_wp2_with fail
  refine (normal_any a b c _ A.out B.out C.out).mono ?_
  rintro e w4 ⟨rfl,hb4⟩
  go_wp2
  all_goals first
    | exact absurd (p3_zero (by assumption) (by assumption) (by assumption)) hn
    | (go_ret;exact ⟨rfl,by (repeat' (first | exact Below.refl _ _ | refine bstep ?_ hb1 | refine bstep ?_ hb2 | refine bstep ?_ hb3 | refine bstep ?_ hb4 | refine Below.setCell ?_ (by simp <;> omega) _ | refine balloc ?_ _ | refine Below.drew ?_ | refine bdrewN ?_ _))⟩)
theorem rvp_arg0 (a b c:P3) (w:World) (h0:inP 64 a=false) :
    Calls Try.prog 53 #[pnv a b c] w fun e w'=>e=.returned (.int .i64 1)∧Below w.heap.size w w':=by
  have N0:=Lib.hid (fun W=>(h0 ▸ near_any a 64 W (by decide) (by decide):Calls Try.prog 84 #[ptv a,.int .i64 64] W fun e w'=>e=.returned (.bool false)∧Below W.heap.size W w'))
  clear h0
  go_enter Try.func53,Try.ntmps53
  go_wp2_with fail
  refine (N0.out _).mono ?_
  rintro e w1 ⟨rfl,hb1⟩
  have q1:=pan_below (pan_new w a b c _) hb1
  have z1:=q1
  obtain ⟨z1_1,z1_2,z1_3,z1_4,z1_5,z1_6,z1_7,z1_8,z1_9,z1_10⟩:=z1
  go_wp2
  go_ret
  exact ⟨rfl,by (repeat' (first | exact Below.refl _ _ | refine bstep ?_ hb1 | refine Below.setCell ?_ (by simp <;> omega) _ | refine balloc ?_ _ | refine Below.drew ?_ | refine bdrewN ?_ _))⟩
theorem rvp_arg1 (a b c:P3) (w:World) (h0:inP 64 a=true) (h1:inP 64 b=false) :
    Calls Try.prog 53 #[pnv a b c] w fun e w'=>e=.returned (.int .i64 1)∧Below w.heap.size w w':=by
  have N0:=Lib.hid (fun W=>(h0 ▸ near_any a 64 W (by decide) (by decide):Calls Try.prog 84 #[ptv a,.int .i64 64] W fun e w'=>e=.returned (.bool true)∧Below W.heap.size W w'))
  have N1:=Lib.hid (fun W=>(h1 ▸ near_any b 64 W (by decide) (by decide):Calls Try.prog 84 #[ptv b,.int .i64 64] W fun e w'=>e=.returned (.bool false)∧Below W.heap.size W w'))
  clear h0 h1
  go_enter Try.func53,Try.ntmps53
  go_wp2_with fail
  refine (N0.out _).mono ?_
  rintro e w1 ⟨rfl,hb1⟩
  have q1:=pan_below (pan_new w a b c _) hb1
  have z1:=q1
  obtain ⟨z1_1,z1_2,z1_3,z1_4,z1_5,z1_6,z1_7,z1_8,z1_9,z1_10⟩:=z1
  go_wp2_with fail
  refine (N1.out _).mono ?_
  rintro e w2 ⟨rfl,hb2⟩
  have q2:=pan_below q1 hb2
  clear q1 z1_1 z1_2 z1_3 z1_4 z1_5 z1_6 z1_7 z1_8 z1_9 z1_10
  have z2:=q2
  obtain ⟨z2_1,z2_2,z2_3,z2_4,z2_5,z2_6,z2_7,z2_8,z2_9,z2_10⟩:=z2
  go_wp2
  go_ret
  exact ⟨rfl,by (repeat' (first | exact Below.refl _ _ | refine bstep ?_ hb1 | refine bstep ?_ hb2 | refine Below.setCell ?_ (by simp <;> omega) _ | refine balloc ?_ _ | refine Below.drew ?_ | refine bdrewN ?_ _))⟩
theorem rvp_arg2 (a b c:P3) (w:World) (h0:inP 64 a=true) (h1:inP 64 b=true) (h2:inP 64 c=false) :
    Calls Try.prog 53 #[pnv a b c] w fun e w'=>e=.returned (.int .i64 1)∧Below w.heap.size w w':=by
  have N0:=Lib.hid (fun W=>(h0 ▸ near_any a 64 W (by decide) (by decide):Calls Try.prog 84 #[ptv a,.int .i64 64] W fun e w'=>e=.returned (.bool true)∧Below W.heap.size W w'))
  have N1:=Lib.hid (fun W=>(h1 ▸ near_any b 64 W (by decide) (by decide):Calls Try.prog 84 #[ptv b,.int .i64 64] W fun e w'=>e=.returned (.bool true)∧Below W.heap.size W w'))
  have N2:=Lib.hid (fun W=>(h2 ▸ near_any c 64 W (by decide) (by decide):Calls Try.prog 84 #[ptv c,.int .i64 64] W fun e w'=>e=.returned (.bool false)∧Below W.heap.size W w'))
  clear h0 h1 h2
  go_enter Try.func53,Try.ntmps53
  go_wp2_with fail
  refine (N0.out _).mono ?_
  rintro e w1 ⟨rfl,hb1⟩
  have q1:=pan_below (pan_new w a b c _) hb1
  have z1:=q1
  obtain ⟨z1_1,z1_2,z1_3,z1_4,z1_5,z1_6,z1_7,z1_8,z1_9,z1_10⟩:=z1
  go_wp2_with fail
  refine (N1.out _).mono ?_
  rintro e w2 ⟨rfl,hb2⟩
  have q2:=pan_below q1 hb2
  clear q1 z1_1 z1_2 z1_3 z1_4 z1_5 z1_6 z1_7 z1_8 z1_9 z1_10
  have z2:=q2
  obtain ⟨z2_1,z2_2,z2_3,z2_4,z2_5,z2_6,z2_7,z2_8,z2_9,z2_10⟩:=z2
  go_wp2_with fail
  refine (N2.out _).mono ?_
  rintro e w3 ⟨rfl,hb3⟩
  have q3:=pan_below q2 hb3
  clear q2 z2_1 z2_2 z2_3 z2_4 z2_5 z2_6 z2_7 z2_8 z2_9 z2_10
  have z3:=q3
  obtain ⟨z3_1,z3_2,z3_3,z3_4,z3_5,z3_6,z3_7,z3_8,z3_9,z3_10⟩:=z3
  go_wp2
  go_ret
  exact ⟨rfl,by (repeat' (first | exact Below.refl _ _ | refine bstep ?_ hb1 | refine bstep ?_ hb2 | refine bstep ?_ hb3 | refine Below.setCell ?_ (by simp <;> omega) _ | refine balloc ?_ _ | refine Below.drew ?_ | refine bdrewN ?_ _))⟩
set_option maxHeartbeats 400000 in
theorem rvp_flat (a b c:P3) (w:World) (h0:inP 64 a=true) (h1:inP 64 b=true) (h2:inP 64 c=true) (hn:nrm a b c=(0,0,0)) :
    Calls Try.prog 53 #[pnv a b c] w fun e w'=>e=.returned (.int .i64 6)∧Below w.heap.size w w':=by
  have A:=Lib.hid (w16 h0)
  have B:=Lib.hid (w16 h1)
  have C:=Lib.hid (w16 h2)
  have N0:=Lib.hid (fun W=>(h0 ▸ near_any a 64 W (by decide) (by decide):Calls Try.prog 84 #[ptv a,.int .i64 64] W fun e w'=>e=.returned (.bool true)∧Below W.heap.size W w'))
  have N1:=Lib.hid (fun W=>(h1 ▸ near_any b 64 W (by decide) (by decide):Calls Try.prog 84 #[ptv b,.int .i64 64] W fun e w'=>e=.returned (.bool true)∧Below W.heap.size W w'))
  have N2:=Lib.hid (fun W=>(h2 ▸ near_any c 64 W (by decide) (by decide):Calls Try.prog 84 #[ptv c,.int .i64 64] W fun e w'=>e=.returned (.bool true)∧Below W.heap.size W w'))
  clear h0 h1 h2
  have n1:(nrm a b c).1=0:=by rw [hn]
  have n2:(nrm a b c).2.1=0:=by rw [hn]
  have n3:(nrm a b c).2.2=0:=by rw [hn]
  clear hn
  go_enter Try.func53,Try.ntmps53
  go_wp2_with fail
  refine (N0.out _).mono ?_
  rintro e w1 ⟨rfl,hb1⟩
  have q1:=pan_below (pan_new w a b c _) hb1
  have z1:=q1
  obtain ⟨z1_1,z1_2,z1_3,z1_4,z1_5,z1_6,z1_7,z1_8,z1_9,z1_10⟩:=z1
  go_wp2_with fail
  refine (N1.out _).mono ?_
  rintro e w2 ⟨rfl,hb2⟩
  have q2:=pan_below q1 hb2
  clear q1 z1_1 z1_2 z1_3 z1_4 z1_5 z1_6 z1_7 z1_8 z1_9 z1_10
  have z2:=q2
  obtain ⟨z2_1,z2_2,z2_3,z2_4,z2_5,z2_6,z2_7,z2_8,z2_9,z2_10⟩:=z2
  go_wp2_with fail
  refine (N2.out _).mono ?_
  rintro e w3 ⟨rfl,hb3⟩
  have q3:=pan_below q2 hb3
  clear q2 z2_1 z2_2 z2_3 z2_4 z2_5 z2_6 z2_7 z2_8 z2_9 z2_10
  have z3:=q3
  obtain ⟨z3_1,z3_2,z3_3,z3_4,z3_5,z3_6,z3_7,z3_8,z3_9,z3_10⟩:=z3
  go_wp2_with fail
  refine (across_any a b c _ A.out B.out C.out).mono ?_
  rintro e w4 ⟨rfl,hb4⟩
  go_wp2
  go_ret
  exact ⟨rfl,by (repeat' (first | exact Below.refl _ _ | refine bstep ?_ hb1 | refine bstep ?_ hb2 | refine bstep ?_ hb3 | refine bstep ?_ hb4 | refine Below.setCell ?_ (by simp <;> omega) _ | refine balloc ?_ _ | refine Below.drew ?_ | refine bdrewN ?_ _))⟩
set_option maxHeartbeats 400000 in
theorem rvp_ok (a b c:P3) (w:World) (h0:inP 64 a=true) (h1:inP 64 b=true) (h2:inP 64 c=true) (hn:nrm a b c ≠ (0,0,0)) :
    Calls Try.prog 53 #[pnv a b c] w fun e w'=>e=.returned (.int .i64 0)∧Below w.heap.size w w':=by
  have A:=Lib.hid (w16 h0)
  have B:=Lib.hid (w16 h1)
  have C:=Lib.hid (w16 h2)
  have N0:=Lib.hid (fun W=>(h0 ▸ near_any a 64 W (by decide) (by decide):Calls Try.prog 84 #[ptv a,.int .i64 64] W fun e w'=>e=.returned (.bool true)∧Below W.heap.size W w'))
  have N1:=Lib.hid (fun W=>(h1 ▸ near_any b 64 W (by decide) (by decide):Calls Try.prog 84 #[ptv b,.int .i64 64] W fun e w'=>e=.returned (.bool true)∧Below W.heap.size W w'))
  have N2:=Lib.hid (fun W=>(h2 ▸ near_any c 64 W (by decide) (by decide):Calls Try.prog 84 #[ptv c,.int .i64 64] W fun e w'=>e=.returned (.bool true)∧Below W.heap.size W w'))
  clear h0 h1 h2
  go_enter Try.func53,Try.ntmps53
  go_wp2_with fail
  refine (N0.out _).mono ?_
  rintro e w1 ⟨rfl,hb1⟩
  have q1:=pan_below (pan_new w a b c _) hb1
  have z1:=q1
  obtain ⟨z1_1,z1_2,z1_3,z1_4,z1_5,z1_6,z1_7,z1_8,z1_9,z1_10⟩:=z1
  go_wp2_with fail
  refine (N1.out _).mono ?_
  rintro e w2 ⟨rfl,hb2⟩
  have q2:=pan_below q1 hb2
  clear q1 z1_1 z1_2 z1_3 z1_4 z1_5 z1_6 z1_7 z1_8 z1_9 z1_10
  have z2:=q2
  obtain ⟨z2_1,z2_2,z2_3,z2_4,z2_5,z2_6,z2_7,z2_8,z2_9,z2_10⟩:=z2
  go_wp2_with fail
  refine (N2.out _).mono ?_
  rintro e w3 ⟨rfl,hb3⟩
  have q3:=pan_below q2 hb3
  clear q2 z2_1 z2_2 z2_3 z2_4 z2_5 z2_6 z2_7 z2_8 z2_9 z2_10
  have z3:=q3
  obtain ⟨z3_1,z3_2,z3_3,z3_4,z3_5,z3_6,z3_7,z3_8,z3_9,z3_10⟩:=z3
  go_wp2_with fail
  refine (across_any a b c _ A.out B.out C.out).mono ?_
  rintro e w4 ⟨rfl,hb4⟩
  go_wp2
  all_goals first
    | exact absurd (p3_zero (by assumption) (by assumption) (by assumption)) hn
    | (go_ret;exact ⟨rfl,by (repeat' (first | exact Below.refl _ _ | refine bstep ?_ hb1 | refine bstep ?_ hb2 | refine bstep ?_ hb3 | refine bstep ?_ hb4 | refine Below.setCell ?_ (by simp <;> omega) _ | refine balloc ?_ _ | refine Below.drew ?_ | refine bdrewN ?_ _))⟩)
theorem vp_any (a b c:P3) (w:World) :
    Calls Try.prog 45 #[pnv a b c] w fun e w'=>e=.returned (.int .i64 (pcode a b c))∧Below w.heap.size w w':=by
  unfold pcode
  cases h0:inP 64 a with
  | false=>exact vp_arg0 a b c w h0
  | true =>
    cases h1:inP 64 b with
    | false=>exact vp_arg1 a b c w h0 h1
    | true =>
      cases h2:inP 64 c with
      | false=>exact vp_arg2 a b c w h0 h1 h2
      | true =>
        by_cases hn:nrm a b c=(0,0,0)
        · rw [if_pos (by rfl),if_pos hn];exact vp_flat a b c w h0 h1 h2 hn
        · rw [if_pos (by rfl),if_neg hn];exact vp_ok a b c w h0 h1 h2 hn
theorem rvp_any (a b c:P3) (w:World) :
    Calls Try.prog 53 #[pnv a b c] w fun e w'=>e=.returned (.int .i64 (pcode a b c))∧Below w.heap.size w w':=by
  unfold pcode
  cases h0:inP 64 a with
  | false=>exact rvp_arg0 a b c w h0
  | true =>
    cases h1:inP 64 b with
    | false=>exact rvp_arg1 a b c w h0 h1
    | true =>
      cases h2:inP 64 c with
      | false=>exact rvp_arg2 a b c w h0 h1 h2
      | true =>
        by_cases hn:nrm a b c=(0,0,0)
        · rw [if_pos (by rfl),if_pos hn];exact rvp_flat a b c w h0 h1 h2 hn
        · rw [if_pos (by rfl),if_neg hn];exact rvp_ok a b c w h0 h1 h2 hn
end Go.Proofs.Ytpocbdompamnnaa
