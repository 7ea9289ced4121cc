/-
  The contracts of the document's roots of integers, and of Root in the program and in the document's answer.
-/
import Derived.Test.YthmlhpjhoolflaaRoot
import Derived.Deep.RegionHeld3
namespace Go.Proofs.Ythmlhpjhoolflaa
open Go.ChangeShapes Go.WideShapes Go.RowKit
theorem pair_drew'' {w : World} {b : Nat} {x y : Int} (h : Pair w b x y) : Pair w.drew b x y := h
theorem mid_yes {n k : Nat} (h : k * k ≤ n) : k ≤ Rt.isq n := by
  have b := (Rt.isq_spec n).2
  rcases Nat.lt_or_ge (Rt.isq n) k with c | c
  · have := Nat.mul_le_mul (show Rt.isq n + 1 ≤ k by omega) (show Rt.isq n + 1 ≤ k by omega); omega
  · exact c
theorem mid_no {n k : Nat} (h : n < k * k) : Rt.isq n < k := Rt.isq_lt h
theorem csq_iff (n : Nat) : (Rt.isq n * Rt.isq n < n → Rt.csq n = Rt.isq n + 1) ∧ (n ≤ Rt.isq n * Rt.isq n → Rt.csq n = Rt.isq n) := by
  have a := (Rt.isq_spec n).1
  unfold Rt.csq
  exact ⟨fun h => if_neg (by omega), fun h => if_pos (by omega)⟩
set_option maxHeartbeats 800000 in
theorem floor_any (n : Nat) (w : World) (h : n ≤ 1152921504606846976) :
    Calls Try.prog 73 #[.int .i64 n] w fun e w' => e = .returned (.int .i64 ((Rt.isq n : Nat) : Int)) ∧ w = w' := by
  have hb : Rt.isq n ≤ 2147483648 := Nat.le_of_lt (Rt.isq_lt (by omega))
  have hn : (n : Int) ≤ 1152921504606846976 := by omega
  have Y := Lib.hid (fun k (hk : k * k ≤ n) => mid_yes hk)
  have N := Lib.hid (fun k (hk : n < k * k) => mid_no hk)
  obtain ⟨r, hr⟩ : ∃ r, Rt.isq n = r := ⟨_, rfl⟩
  rw [hr] at hb Y N ⊢
  clear hr
  go_enter Try.func73, Try.ntmps73
  go_wp2
  go_loop [3, 4] (fun lv gv => ∃ l g : Nat, l ≤ r ∧ r ≤ g ∧ g ≤ 2147483648 ∧ lv = .int .i64 l ∧ gv = .int .i64 g) (fun lv gv => (intOf gv - intOf lv).toNat)
  case atStart => exact ⟨0, 2147483648, by omega, by omega, by omega, rfl, rfl⟩
  case round =>
    obtain ⟨l, g, h1, h2, h3, rfl, rfl⟩ := hrel
    by_cases hlt : l < g
    · obtain ⟨k, hk⟩ : ∃ k, (l + g + 1) / 2 = k := ⟨_, rfl⟩
      have e1 : ((l : Int) + (g : Int) + 1) / 2 = (k : Int) := by omega
      have hk2 : k ≤ 2147483648 := by omega
      have kk := Nat.mul_le_mul hk2 hk2
      have kk1 : (k : Int) * (k : Int) ≤ 4611686018427387904 := by rw [← Int.natCast_mul]; omega
      have kk0 : (0 : Int) ≤ (k : Int) * (k : Int) := by rw [← Int.natCast_mul]; omega
      have hk1 : 1 ≤ k := by omega
      have K := Lib.hid hk
      clear kk
      by_cases c : k * k ≤ n
      · have cI : (k : Int) * (k : Int) ≤ (n : Int) := by rw [← Int.natCast_mul]; omega
        have hy := Y.out k c
        clear c hk
        go_wp2
        go_round
        case rel => exact ⟨k, g, hy, h2, h3, val_i (by omega), rfl⟩
        case measure => have := K.out; simp [intOf]; omega
      · have cI : (n : Int) < (k : Int) * (k : Int) := by rw [← Int.natCast_mul]; omega
        have hy := N.out k (by omega)
        clear c hk
        go_wp2
        go_round
        case rel => exact ⟨l, k - 1, h1, by omega, by omega, rfl, val_i (by omega)⟩
        case measure => have := K.out; simp [intOf]; omega
    · obtain rfl : l = g := by omega
      obtain rfl : r = l := by omega
      go_wp2
      go_ret
      exact ⟨ret_int (by omega), rfl⟩
theorem ceiling_any (n : Nat) (w : World) (h : n ≤ 1152921504606846976) :
    Calls Try.prog 74 #[.int .i64 n] w fun e w' => e = .returned (.int .i64 ((Rt.csq n : Nat) : Int)) ∧ w = w' := by
  have hb : Rt.isq n ≤ 1073741824 := by have := Rt.isq_lt (n := n) (b := 1073741825) (by omega); omega
  have hs := (Rt.isq_spec n).1
  have C1 := Lib.hid (csq_iff n).1
  have C2 := Lib.hid (csq_iff n).2
  have F := fun w => floor_any n w h
  generalize hE : Rt.csq n = e at *
  generalize Rt.isq n = r at *
  have H := Lib.hid F
  clear F hE
  have s0 : (0 : Int) ≤ (r : Int) * (r : Int) := by rw [← Int.natCast_mul]; omega
  have s1 : (r : Int) * (r : Int) ≤ 1152921504606846976 := by rw [← Int.natCast_mul]; omega
  by_cases c : r * r < n
  · have cI : (r : Int) * (r : Int) < (n : Int) := by rw [← Int.natCast_mul]; omega
    have E := Lib.hid (C1.out c)
    clear c hs
    go_enter Try.func74, Try.ntmps74
    go_wp2_with fail
    refine (H.out _).mono ?_
    rintro e w1 ⟨rfl, rfl⟩
    go_wp2
    go_ret
    exact ⟨ret_int (by rw [E.out]; omega), rfl⟩
  · have cI : (n : Int) ≤ (r : Int) * (r : Int) := by rw [← Int.natCast_mul]; omega
    have E := Lib.hid (C2.out (by omega))
    clear c hs
    go_enter Try.func74, Try.ntmps74
    go_wp2_with fail
    refine (H.out _).mono ?_
    rintro e w1 ⟨rfl, rfl⟩
    go_wp2
    go_ret
    exact ⟨ret_int (by rw [E.out]), rfl⟩
/-- the span of the roots -/
def rootR (lo hi : Int) : Sp.R := if Sp.vldB lo hi = true ∧ 0 ≤ lo then Sp.told ((Rt.isq (lo.toNat * 1048576) : Nat) : Int) ((Rt.csq (hi.toNat * 1048576) : Nat) : Int) else ((0, 0), 1)
theorem root_any (n m : Nat) (w : World) (h : n ≤ 1152921504606846976) (hm : m ≤ 20) :
    Calls Try.prog 72 #[.int .i64 n, .int .i64 m] w fun e w' => e = .returned (.tuple #[.int .i64 (Rt.isq (n * 4 ^ m) : Nat), .int .i64 (Rt.csq (n * 4 ^ m) : Nat)]) ∧ w = w' := by
  rcases Nat.eq_zero_or_pos n with e | e
  · subst e
    rw [Nat.zero_mul]
    exact root_zero m w
  · exact root_pos n m w e h hm
theorem rt_yes (x y : Nat) (w : World) (h : Sp.vldB x y = true) :
    Calls Try.prog 36 #[spv (x : Int) (y : Int)] w fun e w' => e = .returned (spr (Sp.told ((Rt.isq (x * 1048576) : Nat) : Int) ((Rt.csq (y * 1048576) : Nat) : Int))) ∧ Below w.heap.size w w' := by
  have q := Sp.vld_iff.1 h
  have hx : Hid (x ≤ 1099511627776) := (by omega : x ≤ 1099511627776)
  have hy : Hid (y ≤ 1099511627776) := (by omega : y ≤ 1099511627776)
  have R0 : Hid (∀ w : World, Calls Try.prog 72 #[.int .i64 x, .int .i64 10] w fun e w' => e = .returned (.tuple #[.int .i64 (Rt.isq (x * 1048576) : Nat), .int .i64 (Rt.csq (x * 1048576) : Nat)]) ∧ w = w') := fun w => root_any x 10 w (by have := hx.out; omega) (by decide)
  have R1 : Hid (∀ w : World, Calls Try.prog 72 #[.int .i64 y, .int .i64 10] w fun e w' => e = .returned (.tuple #[.int .i64 (Rt.isq (y * 1048576) : Nat), .int .i64 (Rt.csq (y * 1048576) : Nat)]) ∧ w = w') := fun w => root_any y 10 w (by have := hy.out; omega) (by decide)
  go_enter Try.func36, Try.ntmps36
  go_wp2_with fail
  refine (valid_yes _ _ _ h).mono ?_
  rintro e w1 ⟨rfl, rfl⟩
  go_wp2_with fail
  refine (R0.out _).mono ?_
  rintro e w1 ⟨rfl, rfl⟩
  go_wp2_with fail
  refine (R1.out _).mono ?_
  rintro e w1 ⟨rfl, rfl⟩
  go_wp2_with fail
  refine (least_any _ _ _).mono ?_
  rintro e w2 ⟨rfl, hb⟩
  have g := pair_below (pair_alloc (pair_new (w.alloc _) 0 0 _) _) hb
  simp only [World.size_alloc] at g
  obtain ⟨g1, g2, g3, g4, g5⟩ := g
  go_wp2
  refine bodyPost_ret (v := spr (Sp.told _ _)) (by rw [results_cell_tmp rfl]; go_simp) rfl ⟨rfl, ?_⟩
  (repeat' (first | exact Below.refl _ _ | refine bstep ?_ hb | refine Below.setCell ?_ (by simp <;> omega) _ | refine balloc ?_ _ | refine Below.drew ?_ | refine bdrewN ?_ _))
theorem rrt_yes (x y : Nat) (w : World) (h : Sp.vldB x y = true) :
    Calls Try.prog 37 #[spv (x : Int) (y : Int)] w fun e w' => e = .returned (spr (Sp.told ((Rt.isq (x * 1048576) : Nat) : Int) ((Rt.csq (y * 1048576) : Nat) : Int))) ∧ Below w.heap.size w w' := by
  have q := Sp.vld_iff.1 h
  have hx : Hid (x ≤ 1099511627776) := (by omega : x ≤ 1099511627776)
  have hy : Hid (y ≤ 1099511627776) := (by omega : y ≤ 1099511627776)
  have R0 : Hid (∀ w : World, Calls Try.prog 73 #[.int .i64 ((x : Int) * 1048576)] w fun e w' => e = .returned (.int .i64 (Rt.isq (x * 1048576) : Nat)) ∧ w = w') := fun w => floor_any (x * 1048576) w (by have := hx.out; omega)
  have R1 : Hid (∀ w : World, Calls Try.prog 74 #[.int .i64 ((y : Int) * 1048576)] w fun e w' => e = .returned (.int .i64 (Rt.csq (y * 1048576) : Nat)) ∧ w = w') := fun w => ceiling_any (y * 1048576) w (by have := hy.out; omega)
  have q1 : (x : Int) ≤ 1099511627776 := by omega
  have q2 : (y : Int) ≤ 1099511627776 := by omega
  have V0 : IntKind.i64.wrap ((x : Int) * 1048576) = (x : Int) * 1048576 := IntWalk.i64_in _ (by omega)
  have V1 : IntKind.i64.wrap ((y : Int) * 1048576) = (y : Int) * 1048576 := IntWalk.i64_in _ (by omega)
  go_enter Try.func37, Try.ntmps37
  go_wp2_with fail
  refine (rvalid_yes _ _ _ h).mono ?_
  rintro e w1 ⟨rfl, rfl⟩
  go_wp2_with fail
  go_region_held3 (fun w' => w'.cell? ⟨w.heap.size, 0, none⟩ = some (.int .i64 (x : Int)) ∧ w'.cell? ⟨w.heap.size, 1, none⟩ = some (.int .i64 (y : Int)))
    (first | go_keep)
    (first | (go_at_call 73; refine (R0.out _).mono ?_; rintro e w2 ⟨rfl, rfl⟩) | (go_at_call 74; refine (R1.out _).mono ?_; rintro e w2 ⟨rfl, rfl⟩) | (go_at_call 61; refine (told_any _ _ _).mono ?_; rintro e w2 ⟨rfl, hb⟩; have y0 := pair_below (pair_drew'' (pair_alloc (pair_alloc (pair_new w (x : Int) (y : Int) _) _) _)) hb; have z0 := pair_below (pair_drew'' (pair_alloc (pair_new (w.alloc _) 0 0 _) _)) hb; simp only [World.size_alloc] at z0; obtain ⟨g1, g2, g3, g4, g5⟩ := z0; obtain ⟨y1, y2, y3, y4, y5⟩ := y0))
  all_goals
    go_wp2
    refine bodyPost_ret (v := spr (Sp.told _ _)) (by rw [results_cell_tmp rfl]; go_simp) rfl ⟨rfl, ?_⟩
    (repeat' (first | exact Below.refl _ _ | refine bstep ?_ hb | refine Below.setCell ?_ (by simp <;> omega) _ | refine balloc ?_ _ | refine Below.drew ?_ | refine bdrewN ?_ _))
theorem rt_no1 (lo hi : Int) (w : World) (h : Sp.vldB lo hi = false) :
    Calls Try.prog 36 #[spv lo hi] w fun e w' => e = .returned (spr ((0, 0), 1)) ∧ Below w.heap.size w w' := by
  go_enter Try.func36, Try.ntmps36
  go_wp2_with fail
  refine (valid_no _ _ _ h).mono ?_
  rintro e w1 ⟨rfl, rfl⟩
  go_wp2
  refine bodyPost_ret (v := spr ((0, 0), 1)) (by rw [results_cell_tmp rfl]; go_simp) rfl ⟨rfl, ?_⟩
  (repeat' (first | exact Below.refl _ _ | refine Below.setCell ?_ (by simp <;> omega) _ | refine balloc ?_ _ | refine Below.drew ?_ | refine bdrewN ?_ _))
theorem rt_no2 (lo hi : Int) (w : World) (h : Sp.vldB lo hi = true) (k : lo < 0) :
    Calls Try.prog 36 #[spv lo hi] w fun e w' => e = .returned (spr ((0, 0), 1)) ∧ Below w.heap.size w w' := by
  go_enter Try.func36, Try.ntmps36
  go_wp2_with fail
  refine (valid_yes _ _ _ h).mono ?_
  rintro e w1 ⟨rfl, rfl⟩
  go_wp2
  refine bodyPost_ret (v := spr ((0, 0), 1)) (by rw [results_cell_tmp rfl]; go_simp) rfl ⟨rfl, ?_⟩
  (repeat' (first | exact Below.refl _ _ | refine Below.setCell ?_ (by simp <;> omega) _ | refine balloc ?_ _ | refine Below.drew ?_ | refine bdrewN ?_ _))
theorem rt_any (lo hi : Int) (w : World) :
    Calls Try.prog 36 #[spv lo hi] w fun e w' => e = .returned (spr (rootR lo hi)) ∧ Below w.heap.size w w' := by
  unfold rootR
  cases h : Sp.vldB lo hi
  · rw [if_neg (by simp)]; exact rt_no1 _ _ _ h
  rcases Int.lt_or_le lo 0 with k | k
  · rw [if_neg (by omega)]; exact rt_no2 _ _ _ h k
  · rw [if_pos ⟨rfl, k⟩]
    have q := Sp.vld_iff.1 h
    obtain ⟨x, rfl⟩ := Int.eq_ofNat_of_zero_le k
    obtain ⟨y, rfl⟩ := Int.eq_ofNat_of_zero_le (show 0 ≤ hi by omega)
    rw [Int.toNat_natCast, Int.toNat_natCast]
    exact rt_yes x y w h
theorem rrt_no1 (lo hi : Int) (w : World) (h : Sp.vldB lo hi = false) :
    Calls Try.prog 37 #[spv lo hi] w fun e w' => e = .returned (spr ((0, 0), 1)) ∧ Below w.heap.size w w' := by
  go_enter Try.func37, Try.ntmps37
  go_wp2_with fail
  refine (rvalid_no _ _ _ h).mono ?_
  rintro e w1 ⟨rfl, rfl⟩
  go_wp2
  refine bodyPost_ret (v := spr ((0, 0), 1)) (by rw [results_cell_tmp rfl]; go_simp) rfl ⟨rfl, ?_⟩
  (repeat' (first | exact Below.refl _ _ | refine Below.setCell ?_ (by simp <;> omega) _ | refine balloc ?_ _ | refine Below.drew ?_ | refine bdrewN ?_ _))
theorem rrt_no2 (lo hi : Int) (w : World) (h : Sp.vldB lo hi = true) (k : lo < 0) :
    Calls Try.prog 37 #[spv lo hi] w fun e w' => e = .returned (spr ((0, 0), 1)) ∧ Below w.heap.size w w' := by
  go_enter Try.func37, Try.ntmps37
  go_wp2_with fail
  refine (rvalid_yes _ _ _ h).mono ?_
  rintro e w1 ⟨rfl, rfl⟩
  go_wp2
  refine bodyPost_ret (v := spr ((0, 0), 1)) (by rw [results_cell_tmp rfl]; go_simp) rfl ⟨rfl, ?_⟩
  (repeat' (first | exact Below.refl _ _ | refine Below.setCell ?_ (by simp <;> omega) _ | refine balloc ?_ _ | refine Below.drew ?_ | refine bdrewN ?_ _))
theorem rrt_any (lo hi : Int) (w : World) :
    Calls Try.prog 37 #[spv lo hi] w fun e w' => e = .returned (spr (rootR lo hi)) ∧ Below w.heap.size w w' := by
  unfold rootR
  cases h : Sp.vldB lo hi
  · rw [if_neg (by simp)]; exact rrt_no1 _ _ _ h
  rcases Int.lt_or_le lo 0 with k | k
  · rw [if_neg (by omega)]; exact rrt_no2 _ _ _ h k
  · rw [if_pos ⟨rfl, k⟩]
    have q := Sp.vld_iff.1 h
    obtain ⟨x, rfl⟩ := Int.eq_ofNat_of_zero_le k
    obtain ⟨y, rfl⟩ := Int.eq_ofNat_of_zero_le (show 0 ≤ hi by omega)
    rw [Int.toNat_natCast, Int.toNat_natCast]
    exact rrt_yes x y w h

end Go.Proofs.Ythmlhpjhoolflaa
