/-
  An append as one step of a region, at points and faces.
-/
import Derived.Test.YtfpenkgkcjpknaaPlaced
import Derived.Deep.RegionLawGrows
namespace Go.Proofs.Ytfpenkgkcjpknaa
open Go.ChangeShapes Go.WideShapes Go.RowKit
open Sh
theorem lst_alloc {w : World} {a : Option Addr} {n : Nat} {f : Nat → P3} (h : Lst w a n f) (o : Obj) : Lst (w.alloc o) a n f := lst_below h ((Below.refl _ _).alloc (Nat.le_refl _) _)
theorem lst_drew {w : World} {a : Option Addr} {n : Nat} {f : Nat → P3} (h : Lst w a n f) : Lst w.drew a n f := h
theorem lstw_alloc {w : World} {base : Nat} {a : Option Addr} {n : Nat} {f : Nat → P3} (h : LstW w base a n f) (o : Obj) : LstW (w.alloc o) base a n f := lstw_below h ((Below.refl _ _).alloc (Nat.le_refl _) _)
theorem lstw_drew {w : World} {base : Nat} {a : Option Addr} {n : Nat} {f : Nat → P3} (h : LstW w base a n f) : LstW w.drew base a n f := h
theorem ownMs_drew {w : World} {q : Nat} {v v' : Value} (h : OwnMs w q v v') : OwnMs w.drew q v v' := h
/-- what Copy answers: new memory for both lists, apart from each other -/
def PlacedD (np nf : Nat) (h F : Nat → P3) (w : World) (e : Ending) (w' : World) : Prop :=
  ∃ a c a' c', e = .returned (msv a np c a' nf c') ∧ LstW w' w.heap.size a np h ∧ LstW w' w.heap.size a' nf F ∧ (0 < np → 0 < nf → ∀ b b', a = some b → a' = some b' → b.block ≠ b'.block) ∧ Below w.heap.size w w'
theorem apart_of {w1 w2 : World} {b1 b2 n n' : Nat} {a a' : Option Addr} {f f' : Nat → P3} (h : LstW w1 b1 a n f) (h' : LstW w2 b2 a' n' f') (k : w1.heap.size ≤ b2) (h0 : 0 < n) (h1 : 0 < n') (b b' : Addr) (e : a = some b) (e' : a' = some b') : b.block ≠ b'.block := by
  obtain ⟨g, q, _, r⟩ := h h0
  obtain ⟨g', q', l, _⟩ := h' h1
  have x := r.1
  rw [q] at e
  rw [q'] at e'
  cases e
  cases e'
  show g ≠ g'
  omega
theorem copy_pf {w W1 wP W2 wF : World} {np nf kP kF : Nat} {sP sF : Option Addr} {P F : Nat → P3} (lP : LstW wP W1.heap.size sP np P) (hbP : Below W1.heap.size W1 wP) (lF : LstW wF W2.heap.size sF nf F) (hbF : Below W2.heap.size W2 wF)
    (B1 : Below w.heap.size w W1) (e1 : w.heap.size + 1 < W1.heap.size) (B2 : Below wP.heap.size wP W2) (x y : Value) :
    PlacedD np nf P F w (.returned (msv sP np kP sF nf kF)) ((wF.setCell ⟨w.heap.size + 1, 0, none⟩ x).setCell ⟨w.heap.size + 1, 1, none⟩ y) := by
  have z1 := hbP.size
  have z2 := B2.size
  have L1 := lstw_below (lstw_below lP B2) hbF
  exact ⟨sP, kP, sF, kF, rfl, lstw_mono (lstw_put2 L1 e1) (by omega), lstw_mono (lstw_put2 lF (by omega)) (by omega), fun h0 k0 b b' e e' => apart_of lP lF z2 h0 k0 b b' e e', below_put2 (bstep (bstep (bstep B1 hbP) B2) hbF) (by omega)⟩
theorem copy_fp {w W1 wP W2 wF : World} {np nf kP kF : Nat} {sP sF : Option Addr} {P F : Nat → P3} (lF : LstW wF W1.heap.size sF nf F) (hbF : Below W1.heap.size W1 wF) (lP : LstW wP W2.heap.size sP np P) (hbP : Below W2.heap.size W2 wP)
    (B1 : Below w.heap.size w W1) (e1 : w.heap.size + 1 < W1.heap.size) (B2 : Below wF.heap.size wF W2) (x y : Value) :
    PlacedD np nf P F w (.returned (msv sP np kP sF nf kF)) ((wP.setCell ⟨w.heap.size + 1, 0, none⟩ x).setCell ⟨w.heap.size + 1, 1, none⟩ y) := by
  have z1 := hbF.size
  have z2 := B2.size
  have L1 := lstw_below (lstw_below lF B2) hbP
  exact ⟨sP, kP, sF, kF, rfl, lstw_mono (lstw_put2 lP (by omega)) (by omega), lstw_mono (lstw_put2 L1 e1) (by omega), fun h0 k0 b b' e e' => (apart_of lF lP z2 k0 h0 b' b e' e).symm, below_put2 (bstep (bstep (bstep B1 hbF) B2) hbP) (by omega)⟩
/-- an append, as one step of a region, by what it comes to -/
theorem step_app {P : Program} {ops : Array Oper} {o : Oper} {a : Act} {w : World} {K : Act → World → Prop} {Q : Exit → Act → World → Prop} {E : Prop}
    (hg : o.guard = none) (s x : Operand) (t : TypeId) (hop : o.op = Op.call { callee := Callee.builtin Builtin.append, args := #[s, x], argTypes := #[t, t] })
    (vs vx v : Value) (w' : World) (hs : a.eval s = vs) (hx : a.eval x = vx) (hrun : (Builtin.append_ #[t, t] o.type #[vs, vx]).run P w = .ok v w') (hK : K (a.put o.dst v) w') :
    if Region.wanted o (yielded ops a.tmps) = true then Oper.wp P o a w K Q else E := by
  have hw : Region.wanted o (yielded ops a.tmps) = true := by simp [Region.wanted, hg]
  rw [if_pos hw]
  unfold Oper.wp
  simp [execOp, hop, resolve, invoke, builtin, hs, hx, hrun, Result.andThen]
  exact hK
theorem step_copyPt {ops : Array Oper} {o : Oper} {a : Act} {w : World} {K : Act → World → Prop} {Q : Exit → Act → World → Prop} {E : Prop}
    (hg : o.guard = none) (s x : Operand) (hop : o.op = Op.call { callee := Callee.builtin Builtin.append, args := #[s, x], argTypes := #[22, 22] }) (hty : o.type = 22)
    (hs : ∃ g, a.eval s = .slice (some ⟨g, 0, none⟩) 0 0) (ao : Option Addr) (n c : Nat) (hx : a.eval x = .slice ao n c) (f : Nat → P3) (hl : Lst w ao n f) (hn : n ≤ 1000000)
    (hK : ∀ a' c' w', LstW w' w.heap.size a' n f → Below w.heap.size w w' → K (a.put o.dst (.slice a' n c')) w') :
    if Region.wanted o (yielded ops a.tmps) = true then Oper.wp Try.prog o a w K Q else E := by
  obtain ⟨g, hs⟩ := hs
  rcases Nat.eq_zero_or_pos n with h0 | h0
  · subst h0
    exact step_app hg s x 22 hop _ _ _ _ hs hx (by rw [hty]; exact appPt0 w g ao c) (hK _ _ _ (lstw_zero _ _ _ _) (Below.refl _ _))
  · obtain ⟨b, off, rfl, r⟩ := hl h0
    obtain ⟨cap, w2, hr, rw2, hb⟩ := appPt r h0 hn ⟨g, 0, none⟩ c
    exact step_app hg s x 22 hop _ _ _ _ hs hx (by rw [hty]; exact hr) (hK _ _ _ (fun _ => ⟨_, rfl, Nat.le_refl _, rw2⟩) hb)
theorem step_copyFc {ops : Array Oper} {o : Oper} {a : Act} {w : World} {K : Act → World → Prop} {Q : Exit → Act → World → Prop} {E : Prop}
    (hg : o.guard = none) (s x : Operand) (hop : o.op = Op.call { callee := Callee.builtin Builtin.append, args := #[s, x], argTypes := #[23, 23] }) (hty : o.type = 23)
    (hs : ∃ g, a.eval s = .slice (some ⟨g, 0, none⟩) 0 0) (ao : Option Addr) (n c : Nat) (hx : a.eval x = .slice ao n c) (f : Nat → P3) (hl : Lst w ao n f) (hn : n ≤ 1000000)
    (hK : ∀ a' c' w', LstW w' w.heap.size a' n f → Below w.heap.size w w' → K (a.put o.dst (.slice a' n c')) w') :
    if Region.wanted o (yielded ops a.tmps) = true then Oper.wp Try.prog o a w K Q else E := by
  obtain ⟨g, hs⟩ := hs
  rcases Nat.eq_zero_or_pos n with h0 | h0
  · subst h0
    exact step_app hg s x 23 hop _ _ _ _ hs hx (by rw [hty]; exact appFc0 w g ao c) (hK _ _ _ (lstw_zero _ _ _ _) (Below.refl _ _))
  · obtain ⟨b, off, rfl, r⟩ := hl h0
    obtain ⟨cap, w2, hr, rw2, hb⟩ := appFc r h0 hn ⟨g, 0, none⟩ c
    exact step_app hg s x 23 hop _ _ _ _ hs hx (by rw [hty]; exact hr) (hK _ _ _ (fun _ => ⟨_, rfl, Nat.le_refl _, rw2⟩) hb)

end Go.Proofs.Ytfpenkgkcjpknaa
