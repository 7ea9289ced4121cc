/-
  Plain arithmetic of determinants: along the first column as along the first row; the transposed matrix.
-/
import Derived.Test.YtllonfaogbdbnaaCr
namespace Go.Proofs.Ytllonfaogbdbnaa
namespace Cr
/-- the determinant of the rows and columns of a function of two numbers -/
def D (a : Int → Int → Int) : List Int → List Int → Int
  | [], _ => 1
  | i :: rs, cs => ps (fun k => sg k * a i (at_ cs k) * D a rs (cs.eraseIdx k)) cs.length
theorem detR_D (M : List (List Int)) : ∀ (rows cols : List Int), detR M rows cols = D (ent M) rows cols
  | [], _ => rfl
  | i :: rs, cs => ps_congr fun k _ => by rw [detR_D M rs (cs.eraseIdx k)]
theorem ps_first (f : Nat → Int) : ∀ n, ps f (n + 1) = f 0 + ps (fun k => f (k + 1)) n
  | 0 => by simp [ps]
  | n + 1 => by
    have h := ps_first f n
    have e1 : ps f (n + 1 + 1) = ps f (n + 1) + f (n + 1) := rfl
    have e2 : ps (fun k => f (k + 1)) (n + 1) = ps (fun k => f (k + 1)) n + f (n + 1) := rfl
    omega
theorem ps_mul (x : Int) (f : Nat → Int) : ∀ n, x * ps f n = ps (fun k => x * f k) n
  | 0 => by simp [ps]
  | n + 1 => by
    rw [ps, ps, Int.mul_add, ps_mul x f n]
theorem ps_add (f g : Nat → Int) : ∀ n, ps (fun k => f k + g k) n = ps f n + ps g n
  | 0 => by simp [ps]
  | n + 1 => by
    have := ps_add f g n
    rw [ps, ps, ps]; omega
theorem ps_neg (f : Nat → Int) : ∀ n, ps (fun k => -f k) n = -ps f n
  | 0 => by simp [ps]
  | n + 1 => by
    have := ps_neg f n
    rw [ps, ps]; omega
theorem ps_zero : ∀ n, ps (fun _ => 0) n = 0
  | 0 => rfl
  | n + 1 => by rw [ps, ps_zero n]; rfl
theorem ps_swap (f : Nat → Nat → Int) (m : Nat) : ∀ n, ps (fun i => ps (fun j => f i j) m) n = ps (fun j => ps (fun i => f i j) n) m
  | 0 => by
    show (0 : Int) = ps (fun _ => 0) m
    rw [ps_zero]
  | n + 1 => by
    show ps (fun i => ps (fun j => f i j) m) n + ps (fun j => f n j) m = ps (fun j => ps (fun i => f i j) n + f n j) m
    rw [ps_add, ps_swap f m n]
theorem D_congr {a b : Int → Int → Int} : ∀ (rows cols : List Int), (∀ i, i ∈ rows → ∀ k, k < cols.length → a i (at_ cols k) = b i (at_ cols k)) → D a rows cols = D b rows cols
  | [], _, _ => rfl
  | i :: rs, cs, h => ps_congr fun k hk => by
    rw [h i (by simp) k hk, D_congr rs (cs.eraseIdx k) fun r hr j hj => ?_]
    have hl : (cs.eraseIdx k).length = cs.length - 1 := by rw [List.length_eraseIdx, if_pos hk]
    have e : at_ (cs.eraseIdx k) j = at_ cs (if j < k then j else j + 1) := by
      unfold at_
      simp only [List.getD, List.getElem?_eraseIdx]
      split <;> rfl
    rw [e]
    exact h r (by simp [hr]) _ (by split <;> omega)
/-- along the first column -/
theorem D_col (a : Int → Int → Int) : ∀ (n : Nat) (rows cs : List Int) (c : Int), rows.length = n + 1 → cs.length = n →
    D a rows (c :: cs) = ps (fun i => sg i * a (at_ rows i) c * D a (rows.eraseIdx i) cs) rows.length
  | n, [], cs, c, h, _ => by simp at h
  | 0, r :: rs, cs, c, h, hc => by
    obtain rfl : rs = [] := List.eq_nil_of_length_eq_zero (by simpa using h)
    obtain rfl : cs = [] := List.eq_nil_of_length_eq_zero hc
    rfl
  | n + 1, r :: rs, cs, c, h, hc => by
    have hr : rs.length = n + 1 := by simpa using h
    show ps (fun k => sg k * a r (at_ (c :: cs) k) * D a rs ((c :: cs).eraseIdx k)) (cs.length + 1) = ps (fun i => sg i * a (at_ (r :: rs) i) c * D a ((r :: rs).eraseIdx i) cs) (rs.length + 1)
    rw [ps_first, ps_first]
    show sg 0 * a r c * D a rs cs + ps (fun k => sg (k + 1) * a r (at_ cs k) * D a rs (c :: cs.eraseIdx k)) cs.length = sg 0 * a r c * D a rs cs + ps (fun i => sg (i + 1) * a (at_ rs i) c * D a (r :: rs.eraseIdx i) cs) rs.length
    congr 1
    have e1 : ps (fun k => sg (k + 1) * a r (at_ cs k) * D a rs (c :: cs.eraseIdx k)) cs.length = ps (fun k => ps (fun i => -(sg k * sg i * (a r (at_ cs k) * a (at_ rs i) c) * D a (rs.eraseIdx i) (cs.eraseIdx k))) rs.length) cs.length := by
      refine ps_congr fun k hk => ?_
      rw [D_col a n rs (cs.eraseIdx k) c hr (by rw [List.length_eraseIdx, if_pos hk, hc]; rfl), ps_mul]
      refine ps_congr fun i _ => ?_
      rw [sg_succ]
      grind
    have e2 : ps (fun i => sg (i + 1) * a (at_ rs i) c * D a (r :: rs.eraseIdx i) cs) rs.length = ps (fun i => ps (fun k => -(sg k * sg i * (a r (at_ cs k) * a (at_ rs i) c) * D a (rs.eraseIdx i) (cs.eraseIdx k))) cs.length) rs.length := by
      refine ps_congr fun i _ => ?_
      show sg (i + 1) * a (at_ rs i) c * ps (fun k => sg k * a r (at_ cs k) * D a (rs.eraseIdx i) (cs.eraseIdx k)) cs.length = _
      rw [ps_mul]
      refine ps_congr fun k _ => ?_
      rw [sg_succ]
      grind
    rw [e1, e2]
    exact ps_swap (fun k i => -(sg k * sg i * (a r (at_ cs k) * a (at_ rs i) c) * D a (rs.eraseIdx i) (cs.eraseIdx k))) rs.length cs.length
/-- rows and columns exchanged -/
theorem D_trans (a : Int → Int → Int) : ∀ (n : Nat) (rows cols : List Int), rows.length = n → cols.length = n → D (fun j i => a i j) cols rows = D a rows cols
  | 0, rows, cols, h, hc => by
    obtain rfl : rows = [] := List.eq_nil_of_length_eq_zero h
    obtain rfl : cols = [] := List.eq_nil_of_length_eq_zero hc
    rfl
  | n + 1, rows, [], h, hc => by simp at hc
  | n + 1, rows, c :: cs, h, hc => by
    have hcs : cs.length = n := by simpa using hc
    rw [D_col a n rows cs c h hcs]
    refine ps_congr fun i hi => ?_
    rw [D_trans a n (rows.eraseIdx i) cs (by rw [List.length_eraseIdx, if_pos hi, h]; rfl) hcs]
end Cr
end Go.Proofs.Ytllonfaogbdbnaa
