/-
  Plain arithmetic of matrices of whole numbers: determinants along the first row, and of submatrices; no program in sight.
-/
namespace Go.Proofs.Ytllonfaogbdbnaa
namespace Cr
/-- the sum of the first n -/
def ps (f : Nat → Int) : Nat → Int
  | 0 => 0
  | n + 1 => ps f n + f n
theorem ps_congr {f g : Nat → Int} : ∀ {n : Nat}, (∀ k, k < n → f k = g k) → ps f n = ps g n
  | 0, _ => rfl
  | n + 1, h => by rw [ps, ps, ps_congr (fun k hk => h k (by omega)), h n (by omega)]
theorem ps_bd {f : Nat → Int} {A : Int} : ∀ {n : Nat}, (∀ k, k < n → -A ≤ f k ∧ f k ≤ A) → -(n * A) ≤ ps f n ∧ ps f n ≤ n * A
  | 0, _ => by simp [ps]
  | n + 1, h => by
    have h1 := ps_bd (n := n) (fun k hk => h k (by omega))
    have h2 := h n (by omega)
    have e : ((n + 1 : Nat) : Int) * A = n * A + A := by rw [Int.natCast_add, Int.add_mul]; simp
    rw [ps, e]; omega
/-- the sign of the column j -/
def sg (j : Nat) : Int := if j % 2 = 0 then 1 else -1
theorem sg_succ (j : Nat) : sg (j + 1) = -sg j := by
  unfold sg
  by_cases h : j % 2 = 0
  · rw [if_pos h, if_neg (by omega)]
  · rw [if_neg h, if_pos (by omega)]; rfl
theorem sg_cases (j : Nat) : sg j = 1 ∨ sg j = -1 := by unfold sg; split <;> simp
/-- a row's element; a matrix's -/
def at_ (r : List Int) (j : Nat) : Int := r.getD j 0
def ent (M : List (List Int)) (i j : Int) : Int := at_ (M.getD i.toNat []) j.toNat
/-- the rows behind the first without the column j -/
def cut (M : List (List Int)) (j : Nat) : List (List Int) := M.map fun r => r.eraseIdx j
/-- the determinant of a matrix of n rows, along its first row -/
def det : Nat → List (List Int) → Int
  | 0, _ => 1
  | n + 1, M => ps (fun j => sg j * at_ (M.getD 0 []) j * det n (cut (M.drop 1) j)) (M.getD 0 []).length
/-- the determinant of the submatrix of rows and columns, as they are listed -/
def detR (M : List (List Int)) : List Int → List Int → Int
  | [], _ => 1
  | i :: rs, cs => ps (fun k => sg k * ent M i (at_ cs k) * detR M rs (cs.eraseIdx k)) cs.length
/-- the submatrix -/
def sub (M : List (List Int)) (rows cols : List Int) : List (List Int) := rows.map fun i => cols.map fun j => ent M i j

theorem eraseIdx_map {α β : Type} (f : α → β) : ∀ (l : List α) (k : Nat), (l.map f).eraseIdx k = (l.eraseIdx k).map f
  | [], k => by cases k <;> rfl
  | x :: xs, 0 => rfl
  | x :: xs, k + 1 => by
    show f x :: (xs.map f).eraseIdx k = f x :: (xs.eraseIdx k).map f
    rw [eraseIdx_map f xs k]
theorem at_map (f : Int → Int) (l : List Int) (k : Nat) (h : k < l.length) : at_ (l.map f) k = f (at_ l k) := by
  unfold at_; simp [List.getD, h]
theorem det_sub (M : List (List Int)) : ∀ (rows cols : List Int), det rows.length (sub M rows cols) = detR M rows cols
  | [], _ => rfl
  | i :: rs, cs => by
    show ps _ (cs.map fun j => ent M i j).length = ps _ cs.length
    rw [List.length_map]
    refine ps_congr fun k hk => ?_
    show sg k * at_ (cs.map fun j => ent M i j) k * det rs.length (cut (sub M rs cs) k) = _
    have e : cut (sub M rs cs) k = sub M rs (cs.eraseIdx k) := by
      unfold cut sub
      rw [List.map_map]
      exact List.map_congr_left fun x _ => eraseIdx_map _ _ _
    rw [e, det_sub M rs (cs.eraseIdx k), at_map _ _ _ hk]

/-- n rows of m numbers, each within the limit -/
structure Sq (n m : Nat) (M : List (List Int)) : Prop where
  len : M.length = n
  row : ∀ r, r ∈ M → r.length = m
  bd : ∀ r, r ∈ M → ∀ x, x ∈ r → -100 ≤ x ∧ x ≤ 100
theorem Sq.at {n m : Nat} {M : List (List Int)} (h : Sq n m M) {i j : Nat} (hi : i < n) (_ : j < m) : -100 ≤ at_ (M.getD i []) j ∧ at_ (M.getD i []) j ≤ 100 := by
  have hM : i < M.length := by rw [h.len]; exact hi
  have e : M.getD i [] = M[i] := by simp [List.getD, hM]
  rw [e]
  unfold at_
  by_cases hj : j < M[i].length
  · have := h.bd M[i] (List.getElem_mem hM) M[i][j] (List.getElem_mem hj)
    simpa [List.getD, hj] using this
  · simp [List.getD, hj]
theorem Sq.getD {n m : Nat} {M : List (List Int)} (h : Sq n m M) {i : Nat} (hi : i < n) : (M.getD i []).length = m := by
  have hM : i < M.length := by rw [h.len]; exact hi
  have e : M.getD i [] = M[i] := by simp [List.getD, hM]
  rw [e]; exact h.row _ (List.getElem_mem hM)
theorem Sq.tail {n m : Nat} {M : List (List Int)} (h : Sq (n + 1) m M) : Sq n m (M.drop 1) :=
  ⟨by rw [List.length_drop, h.len]; rfl, fun r hr => h.row r (List.mem_of_mem_drop hr), fun r hr => h.bd r (List.mem_of_mem_drop hr)⟩
theorem Sq.cut {n m : Nat} {M : List (List Int)} (h : Sq n (m + 1) M) {j : Nat} (hj : j < m + 1) : Sq n m (cut M j) := by
  refine ⟨by unfold Cr.cut; rw [List.length_map, h.len], fun r hr => ?_, fun r hr x hx => ?_⟩
  · obtain ⟨s, hs, rfl⟩ := List.mem_map.1 hr
    rw [List.length_eraseIdx, h.row s hs, if_pos hj]; rfl
  · obtain ⟨s, hs, rfl⟩ := List.mem_map.1 hr
    exact h.bd s hs x (List.mem_of_mem_eraseIdx hx)
/-- how large a determinant of n rows may be -/
def fB : Nat → Int
  | 0 => 1
  | n + 1 => (n + 1 : Nat) * (100 * fB n)
theorem fB_pos : ∀ n, 1 ≤ fB n
  | 0 => by decide
  | n + 1 => by
    have h := fB_pos n
    have h1 : 1 * (100 * fB n) ≤ (n + 1 : Nat) * (100 * fB n) := Int.mul_le_mul_of_nonneg_right (by omega) (by omega)
    unfold fB; omega
theorem fB_le : ∀ {n : Nat}, n ≤ 7 → fB n ≤ 504000000000000000
  | 0, _ => by decide
  | 1, _ => by decide
  | 2, _ => by decide
  | 3, _ => by decide
  | 4, _ => by decide
  | 5, _ => by decide
  | 6, _ => by decide
  | 7, _ => by decide
  | n + 8, h => by omega
theorem mul_bd {x y A B : Int} (h1 : -A ≤ x) (h2 : x ≤ A) (h3 : -B ≤ y) (h4 : y ≤ B) : -(A * B) ≤ x * y ∧ x * y ≤ A * B := by
  have e := Int.natAbs_mul x y
  have a1 : x.natAbs ≤ A.toNat := by omega
  have b1 : y.natAbs ≤ B.toNat := by omega
  have k := Nat.mul_le_mul a1 b1
  have eA : ((A.toNat : Nat) : Int) = A := by omega
  have eB : ((B.toNat : Nat) : Int) = B := by omega
  have k2 : ((x.natAbs * y.natAbs : Nat) : Int) ≤ A * B := by
    have := Int.ofNat_le.2 k
    rw [Int.natCast_mul A.toNat B.toNat, eA, eB] at this
    exact this
  rw [← e] at k2
  omega
theorem sg_bd {j : Nat} {x A : Int} (h1 : -A ≤ x) (h2 : x ≤ A) : -A ≤ sg j * x ∧ sg j * x ≤ A := by
  rcases sg_cases j with e | e <;> rw [e] <;> omega
/-- one summand of a determinant -/
def dt (n : Nat) (M : List (List Int)) (j : Nat) : Int := sg j * at_ (M.getD 0 []) j * det n (cut (M.drop 1) j)
theorem det_succ (n : Nat) (M : List (List Int)) : det (n + 1) M = ps (dt n M) (M.getD 0 []).length := rfl
theorem det_bd : ∀ (n : Nat) (M : List (List Int)), Sq n n M → -fB n ≤ det n M ∧ det n M ≤ fB n
  | 0, _, _ => ⟨by show -1 ≤ (1 : Int); decide, by show (1 : Int) ≤ 1; decide⟩
  | n + 1, M, h => by
    have key : ∀ k, k < n + 1 → -(100 * fB n) ≤ dt n M k ∧ dt n M k ≤ 100 * fB n := fun k hk => by
      have h1 := h.at (i := 0) (by omega) hk
      have h2 := det_bd n (Cr.cut (M.drop 1) k) (h.tail.cut hk)
      have h3 := mul_bd h1.1 h1.2 h2.1 h2.2
      unfold dt
      rw [Int.mul_assoc]
      exact sg_bd h3.1 h3.2
    have hl : (M.getD 0 []).length = n + 1 := h.getD (by omega)
    rw [det_succ, hl]
    have := ps_bd key
    unfold fB
    exact this
theorem dt_bd {n : Nat} {M : List (List Int)} (h : Sq (n + 1) (n + 1) M) {k : Nat} (hk : k < n + 1) : -(100 * fB n) ≤ dt n M k ∧ dt n M k ≤ 100 * fB n := by
  have h1 := h.at (i := 0) (by omega) hk
  have h2 := det_bd n (Cr.cut (M.drop 1) k) (h.tail.cut hk)
  have h3 := mul_bd h1.1 h1.2 h2.1 h2.2
  unfold dt
  rw [Int.mul_assoc]
  exact sg_bd h3.1 h3.2
end Cr
end Go.Proofs.Ytllonfaogbdbnaa
