/-
  Bounds of the moments of charged panels; no program in sight.
-/
import Derived.Test.YtlegalibjkeccaaMo
namespace Go.Proofs.Ytlegalibjkeccaa
namespace Sh
theorem cor1 {L : Int} {a : P3} (h : BdP L a) : -L ≤ a.1 ∧ a.1 ≤ L := ⟨h.1, h.2.1⟩
theorem cor2 {L : Int} {a : P3} (h : BdP L a) : -L ≤ a.2.1 ∧ a.2.1 ≤ L := ⟨h.2.2.1, h.2.2.2.1⟩
theorem cor3 {L : Int} {a : P3} (h : BdP L a) : -L ≤ a.2.2 ∧ a.2.2 ≤ L := ⟨h.2.2.2.2.1, h.2.2.2.2.2⟩
theorem sum3_bd {L : Int} {a b c : P3} (h : BdP L a) (k : BdP L b) (l : BdP L c) : BdP (3 * L) (sum3 a b c) := (add_bd (add_bd h k) l).mono (by omega)
/-- a product of two coordinates, for corners seen from a center -/
theorem pr2_bd {f g : P3 → Int} (hf : ∀ {L : Int} {a : P3}, BdP L a → -L ≤ f a ∧ f a ≤ L) (hg : ∀ {L : Int} {a : P3}, BdP L a → -L ≤ g a ∧ g a ≤ L) {a b c : P3} (h : BdP 128 a) (k : BdP 128 b) (l : BdP 128 c) :
    -196608 ≤ pr2 f g a b c ∧ pr2 f g a b c ≤ 196608 := by
  have s := sum3_bd h k l
  have x0 := mul_bd (hf s).1 (hf s).2 (hg s).1 (hg s).2
  have x1 := mul_bd (hf h).1 (hf h).2 (hg h).1 (hg h).2
  have x2 := mul_bd (hf k).1 (hf k).2 (hg k).1 (hg k).2
  have x3 := mul_bd (hf l).1 (hf l).2 (hg l).1 (hg l).2
  unfold pr2
  omega
/-- so large are the moments of k charged panels at most -/
def mbd (k : Int) (m : Mo) : Prop :=
  (-(100 * k) ≤ m.c ∧ m.c ≤ 100 * k) ∧ (0 ≤ m.t ∧ m.t ≤ 100 * k ∧ -m.t ≤ m.c ∧ m.c ≤ m.t) ∧ BdP (38400 * k) m.d ∧
  (-(19660800 * k) ≤ m.s0 ∧ m.s0 ≤ 19660800 * k) ∧ (-(19660800 * k) ≤ m.s1 ∧ m.s1 ≤ 19660800 * k) ∧ (-(19660800 * k) ≤ m.s2 ∧ m.s2 ≤ 19660800 * k) ∧
  (-(19660800 * k) ≤ m.s3 ∧ m.s3 ≤ 19660800 * k) ∧ (-(19660800 * k) ≤ m.s4 ∧ m.s4 ≤ 19660800 * k) ∧ (-(19660800 * k) ≤ m.s5 ∧ m.s5 ≤ 19660800 * k)
theorem mbd_zero : mbd 0 mzero := by unfold mbd mzero BdP; dsimp only; omega
theorem mbd_add {j k : Int} {a b : Mo} (h : mbd j a) (l : mbd k b) : mbd (j + k) (madd a b) := by
  unfold mbd BdP at *
  unfold madd add
  dsimp only
  omega
theorem mbd_mok {k : Int} {m : Mo} (h : mbd k m) (hk : k ≤ 200) : mok m := by
  unfold mbd BdP at h
  unfold mok BdP
  omega
theorem absI_bd {n : Int} (h : -100 ≤ n ∧ n ≤ 100) : 0 ≤ absI n ∧ absI n ≤ 100 ∧ -absI n ≤ n ∧ n ≤ absI n := by
  unfold absI; split <;> omega
theorem gat_bd {p : P3} {q : Ch} (hp : BdP 64 p) (h : chcode q = 0) : mbd 1 (gat p q) := by
  obtain ⟨⟨h1, h2, h3⟩, hq⟩ := chcode_ok' h
  have a := sub_bd h1 hp
  have b := sub_bd h2 hp
  have c := sub_bd h3 hp
  have s := tim_bd hq.1 hq.2 (sum3_bd a b c)
  have z := absI_bd hq
  have T : ∀ {y : Int}, (-196608 ≤ y ∧ y ≤ 196608) → -19660800 ≤ q.2 * y ∧ q.2 * y ≤ 19660800 := fun hy => mul_bd (A := 100) (B := 196608) hq.1 hq.2 hy.1 hy.2
  have y0 := T (pr2_bd (f := (·.1)) (g := (·.1)) cor1 cor1 a b c)
  have y1 := T (pr2_bd (f := (·.1)) (g := (·.2.1)) cor1 cor2 a b c)
  have y2 := T (pr2_bd (f := (·.1)) (g := (·.2.2)) cor1 cor3 a b c)
  have y3 := T (pr2_bd (f := (·.2.1)) (g := (·.2.1)) cor2 cor2 a b c)
  have y4 := T (pr2_bd (f := (·.2.1)) (g := (·.2.2)) cor2 cor3 a b c)
  have y5 := T (pr2_bd (f := (·.2.2)) (g := (·.2.2)) cor3 cor3 a b c)
  unfold gat
  dsimp only
  refine ⟨by dsimp only; omega, by dsimp only; omega, s.mono (by decide), ?_, ?_, ?_, ?_, ?_, ?_⟩ <;> (dsimp only; omega)
theorem mof_bd {p : P3} {Q : Nat → Ch} {n : Nat} (hp : BdP 64 p) (h : chcodes Q n = 0) : ∀ k, k ≤ n → mbd k (mof p Q k) := by
  intro k hk
  induction k with
  | zero => exact mbd_zero
  | succ k ih =>
    have := mbd_add (ih (by omega)) (gat_bd (q := Q k) hp (chcodes_all h k (by omega)))
    have e : ((k : Int) + 1) = ((k + 1 : Nat) : Int) := by omega
    rw [← e]
    exact this
theorem mof_mok {p : P3} {Q : Nat → Ch} {n : Nat} (hp : BdP 64 p) (h : chcodes Q n = 0) (hn : n ≤ 200) : mok (mof p Q n) :=
  mbd_mok (mof_bd hp h n (Nat.le_refl n)) (by omega)
theorem madd_zero (m : Mo) : madd m mzero = m := by
  unfold madd mzero add
  simp only [Int.add_zero]
theorem madd_assoc (a b c : Mo) : madd (madd a b) c = madd a (madd b c) := by
  unfold madd add
  simp only [Int.add_assoc]
/-- two lists, one behind the other -/
def joinQ (Q : Nat → Ch) (n : Nat) (R : Nat → Ch) : Nat → Ch := fun k => if k < n then Q k else R (k - n)
theorem mof_eq {p : P3} {Q R : Nat → Ch} {n : Nat} (h : ∀ k, k < n → Q k = R k) : mof p Q n = mof p R n := by
  induction n with
  | zero => rfl
  | succ n ih =>
    show madd (mof p Q n) (gat p (Q n)) = madd (mof p R n) (gat p (R n))
    rw [ih (fun k hk => h k (by omega)), h n (by omega)]
theorem mof_join (p : P3) (Q R : Nat → Ch) (n m : Nat) : mof p (joinQ Q n R) (n + m) = madd (mof p Q n) (mof p R m) := by
  induction m with
  | zero =>
    show _ = madd _ mzero
    rw [madd_zero]
    exact mof_eq (n := n) (fun k hk => if_pos hk)
  | succ m ih =>
    show madd (mof p (joinQ Q n R) (n + m)) (gat p (joinQ Q n R (n + m))) = madd _ (madd (mof p R m) (gat p (R m)))
    rw [ih, madd_assoc]
    have e : joinQ Q n R (n + m) = R m := by
      unfold joinQ
      rw [if_neg (by omega), Nat.add_sub_cancel_left]
    rw [e]
theorem chcodes_join {Q R : Nat → Ch} {n m : Nat} (h : chcodes Q n = 0) (k : chcodes R m = 0) : chcodes (joinQ Q n R) (n + m) = 0 := by
  have key : ∀ j, j ≤ n + m → chcodes (joinQ Q n R) j = 0 := by
    intro j
    induction j with
    | zero => exact fun _ => rfl
    | succ j ih =>
      intro hj
      refine chcodes_next (ih (by omega)) ?_
      unfold joinQ
      by_cases l : j < n
      · rw [if_pos l]; exact chcodes_all h j l
      · rw [if_neg l]; exact chcodes_all k (j - n) (by omega)
  exact key _ (Nat.le_refl _)
end Sh
end Go.Proofs.Ytlegalibjkeccaa
