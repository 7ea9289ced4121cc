/-
  The contracts of slices.ContainsFunc and of sum at groups.
-/
import Derived.Test.YtjigcgpcglfjfaaFg9
namespace Go.Proofs.Ytjigcgpcglfjfaa
open Go.ChangeShapes Go.WideShapes Go.RowKit
open Sh
/-- the group k -/
def gA (gs : List (Nat × P9)) (k : Nat) : Nat × P9 := gs.getD k (0, (0, 0, 0), (0, 0, 0), (0, 0, 0))
theorem gcs_at (gs : List (Nat × P9)) : ∀ k j, k < gs.length → j < 7 → (gcs gs)[k * 7 + j]? = (gcs1 (gA gs k))[j]? := by
  induction gs with
  | nil => intro k j h; cases h
  | cons g gs ih =>
    intro k j hk hj
    have e : gcs (g :: gs) = gcs1 g ++ gcs gs := by simp [gcs]
    have l7 : (gcs1 g).length = 7 := rfl
    rw [e]
    cases k with
    | zero => rw [List.getElem?_append_left (by rw [l7]; omega), Nat.zero_mul, Nat.zero_add]; rfl
    | succ k =>
      rw [List.getElem?_append_right (by rw [l7]; omega), l7, show (k + 1) * 7 + j - 7 = k * 7 + j by omega, ih k j (by simpa using hk) hj]
      rfl
/-- n groups in memory, at a block's head, with their points -/
def RowGs (w : World) (q n : Nat) (gs : List (Nat × P9)) : Prop := q < w.heap.size ∧ ∀ k, k < n → (w.cell? ⟨q, k * 7, none⟩ = some (.slice (some ⟨(gA gs k).1, 0, none⟩) 3 3) ∧ w.cell? ⟨q, k * 7 + 1, none⟩ = some (.int .i64 (loN (P3F (gA gs k).2) 3).1) ∧ w.cell? ⟨q, k * 7 + 1 + 1, none⟩ = some (.int .i64 (loN (P3F (gA gs k).2) 3).2.1) ∧ w.cell? ⟨q, k * 7 + 1 + 1 + 1, none⟩ = some (.int .i64 (loN (P3F (gA gs k).2) 3).2.2) ∧ w.cell? ⟨q, k * 7 + 1 + 1 + 1 + 1, none⟩ = some (.int .i64 (hiN (P3F (gA gs k).2) 3).1) ∧ w.cell? ⟨q, k * 7 + 1 + 1 + 1 + 1 + 1, none⟩ = some (.int .i64 (hiN (P3F (gA gs k).2) 3).2.1) ∧ w.cell? ⟨q, k * 7 + 1 + 1 + 1 + 1 + 1 + 1, none⟩ = some (.int .i64 (hiN (P3F (gA gs k).2) 3).2.2)) ∧ PtB w (gA gs k).1 (gA gs k).2
theorem rowgs_in {w w1 : World} {q n : Nat} {gs : List (Nat × P9)} (r : RowGs w q n gs) (hb : Below w.heap.size w w1) : RowGs w1 q n gs := by
  refine ⟨Nat.lt_of_lt_of_le r.1 hb.size, fun k hk => ?_⟩
  obtain ⟨⟨h0, h1, h2, h3, h4, h5, h6⟩, hp⟩ := r.2 k hk
  exact ⟨⟨(hb.cell (p := ⟨q, _, none⟩) r.1).trans h0, (hb.cell (p := ⟨q, _, none⟩) r.1).trans h1, (hb.cell (p := ⟨q, _, none⟩) r.1).trans h2, (hb.cell (p := ⟨q, _, none⟩) r.1).trans h3, (hb.cell (p := ⟨q, _, none⟩) r.1).trans h4, (hb.cell (p := ⟨q, _, none⟩) r.1).trans h5, (hb.cell (p := ⟨q, _, none⟩) r.1).trans h6⟩, ptb_below hp hb⟩
theorem rowgs_of {w : World} {base : Nat} {v : Value} {gs : List (Nat × P9)} (h : w.ownsRow base 101 7 v gs.length (gcs gs)) (h0 : 0 < gs.length) (hp : ∀ g, g ∈ gs → PtB w g.1 g.2) : ∃ q cap, v = .slice (some ⟨q, 0, none⟩) gs.length cap ∧ RowGs w q gs.length gs := by
  rcases h.2 with ⟨_, h'⟩ | ⟨q, cap, cur, rfl, hb, hg, _⟩
  · omega
  · refine ⟨q, cap, rfl, (Array.getElem?_eq_some_iff.1 hg).1, fun k hk => ?_⟩
    have c (j : Nat) (hj : j < 7) : w.cell? ⟨q, k * 7 + j, none⟩ = (gcs1 (gA gs k))[j]? := by rw [h.cellAt (k * 7 + j) (by omega)]; exact gcs_at gs k j hk hj
    refine ⟨⟨c 0 (by omega), c 1 (by omega), c 2 (by omega), c 3 (by omega), c 4 (by omega), c 5 (by omega), c 6 (by omega)⟩, ?_⟩
    have hm : gA gs k ∈ gs := by
      unfold gA
      rw [List.getD_eq_getElem?_getD, List.getElem?_eq_getElem hk]
      exact List.getElem_mem hk
    exact hp _ hm
set_option maxRecDepth 100000 in
set_option maxHeartbeats 2000000 in
theorem gixf_any (d m e : Nat) (bl bh : P3) (sc : Int) (kv : Value) (q n c : Nat) (gs : List (Nat × P9)) (f : Nat → Int) (w : World) (r : RowGs w q n gs) (hn : n ≤ 1000) (CC : Hid (∀ k, k < n → ∀ W, Calls Try.prog 108 #[vwv d m e bl bh sc kv, grv (gA gs k).1 3 3 (loN (P3F (gA gs k).2) 3) (hiN (P3F (gA gs k).2) 3)] W fun e w' => e = .returned (.bool (f k == 0)) ∧ Below W.heap.size W w')) :
    Calls Try.prog 154 #[.slice (some ⟨q, 0, none⟩) n c, .func (.func 108) #[vwv d m e bl bh sc kv] #[]] w fun e w' => ∃ r : Int, e = .returned (.int .i64 r) ∧ -1 ≤ r ∧ r ≤ 1000 ∧ anyz f n = decide (0 ≤ r) ∧ Below w.heap.size w w' := by
  have hn' : (n : Int) ≤ 1000 := by omega
  have R := Lib.hid r
  clear r
  go_enter Try.func154, Try.ntmps154
  go_wp2
  go_loopw [8] (fun jv wr => ∃ k : Nat, k ≤ n ∧ jv = .int .i64 k ∧ anyz f k = false ∧ Below w.heap.size w wr) (fun jv _ => n - (intOf jv).toNat)
  case atStart => exact ⟨0, Nat.zero_le _, rfl, rfl, Below.refl _ _⟩
  case round =>
    obtain ⟨k, hk, rfl, good, BB⟩ := hrel
    have B0 := Lib.hid BB
    have GOOD := Lib.hid good
    clear BB good
    by_cases hlt : k < n
    · have hk1 : (k : Int) < (n : Int) := by omega
      have q1 := rowgs_in R.out B0.out
      obtain ⟨⟨c0, c1, c2, c3, c4, c5, c6⟩, _⟩ := q1.2 k hlt
      have s1 := q1.1
      have HIT := Lib.hid (fun h : f k = 0 => anyz_hit h hlt)
      have NEXT := Lib.hid (fun h : f k ≠ 0 => anyz_next GOOD.out h)
      have CK := Lib.hid (CC.out k hlt)
      clear q1 CC
      generalize loN (P3F (gA gs k).2) 3 = lo at *
      generalize hiN (P3F (gA gs k).2) 3 = hi at *
      generalize (gA gs k).1 = g at *
      generalize f k = y at *
      go_wp2_with fail
      go_at_call 108
      refine (CK.out _).mono ?_
      rintro e w1 ⟨rfl, hb⟩
      have B1 := Lib.hid (bstep B0.out hb)
      by_cases z : y = 0
      · have A1 := Lib.hid (HIT.out z)
        have z' : (y == 0) = true := by rw [z]; rfl
        clear HIT NEXT z
        go_wp2
        go_ret
        exact ⟨_, rfl, by omega, by omega, by rw [A1.out]; exact (decide_eq_true (by omega)).symm, B1.out⟩
      · have A1 := Lib.hid (NEXT.out z)
        have z' : (y == 0) = false := beq_eq_false_iff_ne.2 z
        clear HIT NEXT z
        go_wp2
        go_roundw
        case rel => exact ⟨k + 1, by omega, by go_num, A1.out, B1.out⟩
        case measure => simp [intOf]; omega
    · obtain rfl : k = n := by omega
      go_wp2
      go_ret
      exact ⟨-1, rfl, by omega, by omega, by rw [GOOD.out]; rfl, B0.out⟩
theorem gctf_any (d m e : Nat) (bl bh : P3) (sc : Int) (kv : Value) (q n c : Nat) (gs : List (Nat × P9)) (f : Nat → Int) (w : World) (r : RowGs w q n gs) (hn : n ≤ 1000) (CC : Hid (∀ k, k < n → ∀ W, Calls Try.prog 108 #[vwv d m e bl bh sc kv, grv (gA gs k).1 3 3 (loN (P3F (gA gs k).2) 3) (hiN (P3F (gA gs k).2) 3)] W fun e w' => e = .returned (.bool (f k == 0)) ∧ Below W.heap.size W w')) :
    Calls Try.prog 107 #[.slice (some ⟨q, 0, none⟩) n c, .func (.func 108) #[vwv d m e bl bh sc kv] #[]] w fun e w' => e = .returned (.bool (anyz f n)) ∧ Below w.heap.size w w' := by
  have CI := Lib.hid (fun W (B : Below w.heap.size w W) => gixf_any d m e bl bh sc kv q n c gs f W (rowgs_in r B) hn CC)
  clear r CC
  generalize anyz f n = v at *
  go_enter Try.func107, Try.ntmps107
  go_wp2_with fail
  refine (CI.out _ (Below.refl _ w)).mono ?_
  rintro e w1 ⟨r, rfl, r1, r2, hv, hb⟩
  by_cases z : 0 ≤ r
  · obtain rfl : v = true := by rw [hv]; exact decide_eq_true z
    clear hv
    go_wp2
    go_ret
    exact ⟨by first | rfl | simp [z], hb⟩
  · obtain rfl : v = false := by rw [hv]; exact decide_eq_false z
    clear hv
    go_wp2
    go_ret
    exact ⟨by first | rfl | simp [z], hb⟩
set_option maxRecDepth 100000 in
set_option maxHeartbeats 2000000 in
theorem gsl_any (d m e : Nat) (bl bh : P3) (sc : Int) (kv : Value) (q n c : Nat) (gs : List (Nat × P9)) (f : Nat → Int) (w : World) (r : RowGs w q n gs) (hn : n ≤ 1000) (CC : Hid (∀ k, k < n → ∀ W, Below w.heap.size w W → Calls Try.prog 110 #[vwv d m e bl bh sc kv, grv (gA gs k).1 3 3 (loN (P3F (gA gs k).2) 3) (hiN (P3F (gA gs k).2) 3)] W fun e w' => e = .returned (.int .i64 (f k)) ∧ Below W.heap.size W w')) (BD : Hid (∀ k, k ≤ n → -4611686018427387904 ≤ sm f k ∧ sm f k ≤ 4611686018427387904)) :
    Calls Try.prog 156 #[.slice (some ⟨q, 0, none⟩) n c, .func (.func 110) #[vwv d m e bl bh sc kv] #[]] w fun e w' => e = .returned (.int .i64 (sm f n)) ∧ Below w.heap.size w w' := by
  have hn' : (n : Int) ≤ 1000 := by omega
  have R := Lib.hid r
  clear r
  go_enter Try.func156, Try.ntmps156
  go_wp2
  go_loopw [5, 10] (fun tv jv wr => ∃ k : Nat, k ≤ n ∧ jv = .int .i64 k ∧ tv = .int .i64 (sm f k) ∧ Below w.heap.size w wr) (fun _ jv _ => n - (intOf jv).toNat)
  case atStart => exact ⟨0, Nat.zero_le _, rfl, rfl, Below.refl _ _⟩
  case round =>
    obtain ⟨k, hk, rfl, rfl, BB⟩ := hrel
    have B0 := Lib.hid BB
    clear BB
    by_cases hlt : k < n
    · have hk1 : (k : Int) < (n : Int) := by omega
      have q1 := rowgs_in R.out B0.out
      obtain ⟨⟨c0, c1, c2, c3, c4, c5, c6⟩, _⟩ := q1.2 k hlt
      have s1 := q1.1
      have NX := Lib.hid (show sm f (k + 1) = sm f k + f k from rfl)
      have bb := BD.out (k + 1) hlt
      rw [NX.out] at bb
      obtain ⟨b1, b2⟩ := bb
      have CK := Lib.hid (CC.out k hlt)
      clear q1 CC BD
      generalize loN (P3F (gA gs k).2) 3 = lo at *
      generalize hiN (P3F (gA gs k).2) 3 = hi at *
      generalize (gA gs k).1 = g at *
      generalize f k = y at *
      generalize sm f k = x at *
      go_wp2_with fail
      go_at_call 110
      refine (CK.out _ (by have hB := B0.out; (repeat' (first | exact Below.refl _ _ | refine bstep ?_ hB | refine Below.setCell ?_ (by simp <;> omega) _ | refine balloc ?_ _ | refine Below.drew ?_ | refine bdrewN ?_ _)))).mono ?_
      rintro e w1 ⟨rfl, hb⟩
      go_wp2
      go_roundw
      case rel => exact ⟨k + 1, by omega, by go_num, by rw [NX.out], by have hB := B0.out; (repeat' (first | exact Below.refl _ _ | refine bstep ?_ hb | refine bstep ?_ hB | refine Below.setCell ?_ (by simp <;> omega) _ | refine balloc ?_ _ | refine Below.drew ?_ | refine bdrewN ?_ _))⟩
      case measure => simp [intOf]; omega
    · obtain rfl : k = n := by omega
      go_wp2
      go_ret
      exact ⟨rfl, B0.out⟩
set_option maxRecDepth 100000 in
set_option maxHeartbeats 2000000 in
theorem gsh_any (d m e : Nat) (bl bh : P3) (sc : Int) (kv : Value) (q n c : Nat) (gs : List (Nat × P9)) (f : Nat → Int) (w : World) (r : RowGs w q n gs) (hn : n ≤ 1000) (CC : Hid (∀ k, k < n → ∀ W, Below w.heap.size w W → Calls Try.prog 111 #[vwv d m e bl bh sc kv, grv (gA gs k).1 3 3 (loN (P3F (gA gs k).2) 3) (hiN (P3F (gA gs k).2) 3)] W fun e w' => e = .returned (.int .i64 (f k)) ∧ Below W.heap.size W w')) (BD : Hid (∀ k, k ≤ n → -4611686018427387904 ≤ sm f k ∧ sm f k ≤ 4611686018427387904)) :
    Calls Try.prog 156 #[.slice (some ⟨q, 0, none⟩) n c, .func (.func 111) #[vwv d m e bl bh sc kv] #[]] w fun e w' => e = .returned (.int .i64 (sm f n)) ∧ Below w.heap.size w w' := by
  have hn' : (n : Int) ≤ 1000 := by omega
  have R := Lib.hid r
  clear r
  go_enter Try.func156, Try.ntmps156
  go_wp2
  go_loopw [5, 10] (fun tv jv wr => ∃ k : Nat, k ≤ n ∧ jv = .int .i64 k ∧ tv = .int .i64 (sm f k) ∧ Below w.heap.size w wr) (fun _ jv _ => n - (intOf jv).toNat)
  case atStart => exact ⟨0, Nat.zero_le _, rfl, rfl, Below.refl _ _⟩
  case round =>
    obtain ⟨k, hk, rfl, rfl, BB⟩ := hrel
    have B0 := Lib.hid BB
    clear BB
    by_cases hlt : k < n
    · have hk1 : (k : Int) < (n : Int) := by omega
      have q1 := rowgs_in R.out B0.out
      obtain ⟨⟨c0, c1, c2, c3, c4, c5, c6⟩, _⟩ := q1.2 k hlt
      have s1 := q1.1
      have NX := Lib.hid (show sm f (k + 1) = sm f k + f k from rfl)
      have bb := BD.out (k + 1) hlt
      rw [NX.out] at bb
      obtain ⟨b1, b2⟩ := bb
      have CK := Lib.hid (CC.out k hlt)
      clear q1 CC BD
      generalize loN (P3F (gA gs k).2) 3 = lo at *
      generalize hiN (P3F (gA gs k).2) 3 = hi at *
      generalize (gA gs k).1 = g at *
      generalize f k = y at *
      generalize sm f k = x at *
      go_wp2_with fail
      go_at_call 111
      refine (CK.out _ (by have hB := B0.out; (repeat' (first | exact Below.refl _ _ | refine bstep ?_ hB | refine Below.setCell ?_ (by simp <;> omega) _ | refine balloc ?_ _ | refine Below.drew ?_ | refine bdrewN ?_ _)))).mono ?_
      rintro e w1 ⟨rfl, hb⟩
      go_wp2
      go_roundw
      case rel => exact ⟨k + 1, by omega, by go_num, by rw [NX.out], by have hB := B0.out; (repeat' (first | exact Below.refl _ _ | refine bstep ?_ hb | refine bstep ?_ hB | refine Below.setCell ?_ (by simp <;> omega) _ | refine balloc ?_ _ | refine Below.drew ?_ | refine bdrewN ?_ _))⟩
      case measure => simp [intOf]; omega
    · obtain rfl : k = n := by omega
      go_wp2
      go_ret
      exact ⟨rfl, B0.out⟩

end Go.Proofs.Ytjigcgpcglfjfaa
