/-
  The contracts of the document's product of spans.
-/
import Derived.Test.YthmlhpjhoolflaaSquare
import Derived.Deep.RegionHeld3
import Derived.LoopTactic
namespace Go.Proofs.Ythmlhpjhoolflaa
open Go.ChangeShapes Go.WideShapes Go.RowKit
theorem rvalid_yesb (lo hi : Int) (w : World) (h : Sp.vldB lo hi = true) :
    Calls Try.prog 19 #[spv lo hi] w fun e w' => e = .returned (.bool true) ∧ Below w.heap.size w w' := by
  have := rvalid_below lo hi w
  rwa [h] at this
def xs (al ah : Int) (k : Nat) : Int := if k < 2 then al else ah
def ys (bl bh : Int) (k : Nat) : Int := if k % 2 = 0 then bl else bh
/-- the least and the greatest product of the first k pairs, and of the first one -/
def LK (al ah bl bh : Int) : Nat → Int
  | 0 => Sp.mulD al bl
  | k + 1 => Sp.mn (LK al ah bl bh k) (Sp.mulD (xs al ah k) (ys bl bh k))
def HK (al ah bl bh : Int) : Nat → Int
  | 0 => Sp.mulU al bl
  | k + 1 => Sp.mx (HK al ah bl bh k) (Sp.mulU (xs al ah k) (ys bl bh k))
theorem LK4 (al ah bl bh : Int) : LK al ah bl bh 4 = Sp.mn4 (Sp.mulD al bl) (Sp.mulD al bh) (Sp.mulD ah bl) (Sp.mulD ah bh) := by
  simp [LK, xs, ys, Sp.mn4, Sp.mn_eq]
theorem HK4 (al ah bl bh : Int) : HK al ah bl bh 4 = Sp.mx4 (Sp.mulU al bl) (Sp.mulU al bh) (Sp.mulU ah bl) (Sp.mulU ah bh) := by
  simp [HK, xs, ys, Sp.mx4, Sp.mx_eq]
theorem LK_lt {al ah bl bh : Int} {k : Nat} (h : Sp.mulD (xs al ah k) (ys bl bh k) < LK al ah bl bh k) : Sp.mulD (xs al ah k) (ys bl bh k) = LK al ah bl bh (k + 1) := by
  show _ = Sp.mn _ _; unfold Sp.mn; rw [if_pos h]
theorem LK_ge {al ah bl bh : Int} {k : Nat} (h : LK al ah bl bh k ≤ Sp.mulD (xs al ah k) (ys bl bh k)) : LK al ah bl bh k = LK al ah bl bh (k + 1) := by
  show _ = Sp.mn _ _; unfold Sp.mn; rw [if_neg (by omega)]
theorem HK_lt {al ah bl bh : Int} {k : Nat} (h : HK al ah bl bh k < Sp.mulU (xs al ah k) (ys bl bh k)) : Sp.mulU (xs al ah k) (ys bl bh k) = HK al ah bl bh (k + 1) := by
  show _ = Sp.mx _ _; unfold Sp.mx; rw [if_pos h]
theorem HK_ge {al ah bl bh : Int} {k : Nat} (h : Sp.mulU (xs al ah k) (ys bl bh k) ≤ HK al ah bl bh k) : HK al ah bl bh k = HK al ah bl bh (k + 1) := by
  show _ = Sp.mx _ _; unfold Sp.mx; rw [if_neg (by omega)]
/-- the two rows of bounds -/
def Tab (w : World) (X Y : Nat) (al ah bl bh : Int) : Prop :=
  ∀ k, k < 4 → w.cell? ⟨X, k, none⟩ = some (.int .i64 (xs al ah k)) ∧ w.cell? ⟨Y, k, none⟩ = some (.int .i64 (ys bl bh k))
theorem fxk {al ah bl bh : Int} (h : Sp.vldB al ah = true) (q : Sp.vldB bl bh = true) (k : Nat) : -1099511627776 ≤ xs al ah k ∧ xs al ah k ≤ 1099511627776 ∧ -1099511627776 ≤ ys bl bh k ∧ ys bl bh k ≤ 1099511627776 := by
  have := Sp.vld_iff.1 h
  have := Sp.vld_iff.1 q
  unfold xs ys; split <;> split <;> omega
theorem q_three {P : Program} {f : FuncId} {args : Array Value} {w : World} {n : Nat} {v : Value} (h : Calls P f args (w.drewN n) fun e w' => e = .returned v ∧ w.drewN n = w') :
    Calls P f args (w.drewN n) fun e w'' => e = .returned v ∧ ∃ m, w'' = w.drewN m := h.mono fun _ _ ⟨he, hm⟩ => ⟨he, n, hm.symm⟩
theorem mulR_yes {al ah bl bh : Int} (h : Sp.vldB al ah = true) (k : Sp.vldB bl bh = true) : Sp.mulR al ah bl bh = Sp.told (Sp.mn4 (Sp.mulD al bl) (Sp.mulD al bh) (Sp.mulD ah bl) (Sp.mulD ah bh)) (Sp.mx4 (Sp.mulU al bl) (Sp.mulU al bh) (Sp.mulU ah bl) (Sp.mulU ah bh)) := by
  unfold Sp.mulR; rw [Sp.ite_yes h k]
theorem ret_i {a b : Int} (h : a = b) : (Value.int .i64 a) = .int .i64 b := by rw [h]
set_option maxRecDepth 100000 in
set_option maxHeartbeats 1600000 in
theorem rmul_yes (al ah bl bh : Int) (w : World) (h : Sp.vldB al ah = true) (k : Sp.vldB bl bh = true) :
    Calls Try.prog 27 #[spv al ah, spv bl bh] w fun e w' => e = .returned (spr (Sp.mulR al ah bl bh)) ∧ Below w.heap.size w w' := by
  have H := Lib.hid h
  have K := Lib.hid k
  have F0 : Hid (-1099511627776 ≤ al ∧ al ≤ 1099511627776 ∧ -1099511627776 ≤ bl ∧ bl ≤ 1099511627776) := (by have := Sp.vld_iff.1 h; have := Sp.vld_iff.1 k; omega : -1099511627776 ≤ al ∧ al ≤ 1099511627776 ∧ -1099511627776 ≤ bl ∧ bl ≤ 1099511627776)
  go_enter Try.func27, Try.ntmps27
  go_wp2_with fail
  refine (rvalid_yes _ _ _ h).mono ?_
  rintro e w1 ⟨rfl, rfl⟩
  go_wp2_with fail
  refine (rvalid_yesb _ _ _ k).mono ?_
  rintro e w1 ⟨rfl, hb⟩
  obtain ⟨x1, x2, x3, x4, x5⟩ := pair_below (pair_alloc (pair_alloc (pair_alloc (pair_new w al ah _) _) _) _) hb
  have y0 := pair_below (pair_alloc (pair_alloc (pair_new (w.alloc _) bl bh _) _) _) hb
  have z0 := pair_below (pair_alloc (pair_new ((w.alloc _).alloc _) 0 0 _) _) hb
  simp only [World.size_alloc] at y0 z0
  obtain ⟨y1, y2, y3, y4, y5⟩ := y0
  obtain ⟨z1, z2, z3, z4, z5⟩ := z0
  have R := Lib.hid (mulR_yes h k)
  clear h k
  go_wp2_with fail
  go_region_held3 (fun w' => w'.cell? ⟨w.heap.size, 0, none⟩ = some (.int .i64 al) ∧ w'.cell? ⟨w.heap.size, 1, none⟩ = some (.int .i64 ah) ∧ w'.cell? ⟨w.heap.size + 1, 0, none⟩ = some (.int .i64 bl) ∧ w'.cell? ⟨w.heap.size + 1, 1, none⟩ = some (.int .i64 bh))
    (first | go_keep)
    (fail)
  ·
    go_wp2_with fail
    refine (times_any _ _ _ F0.out).mono ?_
    rintro e w2 ⟨rfl, rfl⟩
    go_wp2_with fail
    go_loopw [8, 9, 10] (fun l g i wr => ∃ k : Nat, k ≤ 4 ∧ i = .int .i64 k ∧ l = .int .i64 (LK al ah bl bh k) ∧ g = .int .i64 (HK al ah bl bh k) ∧ Tab wr (w1.heap.size) (w1.heap.size + 1) al ah bl bh ∧ Pair wr (w.heap.size + 1 + 1) 0 0 ∧ Below w.heap.size w wr) (fun _ _ i _ => 4 - (intOf i).toNat)
    case atStart =>
      refine ⟨0, by omega, rfl, rfl, rfl, ?_, ?_, ?_⟩
      · intro k hk
        have : k = 0 ∨ k = 1 ∨ k = 2 ∨ k = 3 := by omega
        rcases this with rfl | rfl | rfl | rfl <;> exact ⟨by go_simp; rfl, by go_simp; rfl⟩
      · exact ⟨by go_simp, by go_simp, by go_simp, by go_simp, by simp; omega⟩
      · (repeat' (first | exact Below.refl _ _ | refine bstep ?_ hb | refine Below.setCell ?_ (by simp <;> omega) _ | refine balloc ?_ _ | refine Below.drew ?_ | refine bdrewN ?_ _))
    case round =>
      obtain ⟨k, hk, rfl, rfl, rfl, T, Pz, B⟩ := hrel
      by_cases hlt : k < 4
      · have t1 := (T k hlt).1
        have t2 := (T k hlt).2
        have hk0 : (0 : Int) ≤ (k : Int) := by omega
        have hk4 : (k : Int) < 4 := by omega
        have T := Lib.hid T
        have FK := Lib.hid (fxk H.out K.out k)
        go_wp2_with fail
        go_quiet ((go_at_call 67; exact q_three (times_any _ _ _ FK.out)))
        go_wp2_with fail
        all_goals
          go_roundw
          case rel => exact ⟨k + 1, by omega, by go_num, ret_i (by first | exact LK_lt (by assumption) | exact LK_ge (by assumption)), ret_i (by first | exact HK_lt (by assumption) | exact HK_ge (by assumption)), T.out, Pz, bdrewN B _⟩
          case measure => simp [intOf]; omega
      · obtain rfl : k = 4 := by omega
        have T := Lib.hid T
        go_wp2_with fail
        refine (told_any _ _ _).mono ?_
        rintro e w3 ⟨rfl, hb3⟩
        obtain ⟨g1, g2, g3, g4, g5⟩ := pair_below Pz hb3
        go_wp2
        refine bodyPost_ret (v := spr (Sp.told (LK al ah bl bh 4) (HK al ah bl bh 4))) (by rw [results_cell_tmp rfl]; go_simp) rfl ⟨?_, ?_⟩
        · rw [R.out, LK4, HK4]
        · exact ((B.trans (hb3.mono (by have := B.size; omega))).setCell (by simp; omega) _).setCell (by simp; omega) _
  ·
    go_wp2_with fail
    refine (times_any _ _ _ F0.out).mono ?_
    rintro e w2 ⟨rfl, rfl⟩
    go_wp2_with fail
    go_loopw [8, 9, 10] (fun l g i wr => ∃ k : Nat, k ≤ 4 ∧ i = .int .i64 k ∧ l = .int .i64 (LK al ah bl bh k) ∧ g = .int .i64 (HK al ah bl bh k) ∧ Tab wr (w1.heap.size + 1) (w1.heap.size) al ah bl bh ∧ Pair wr (w.heap.size + 1 + 1) 0 0 ∧ Below w.heap.size w wr) (fun _ _ i _ => 4 - (intOf i).toNat)
    case atStart =>
      refine ⟨0, by omega, rfl, rfl, rfl, ?_, ?_, ?_⟩
      · intro k hk
        have : k = 0 ∨ k = 1 ∨ k = 2 ∨ k = 3 := by omega
        rcases this with rfl | rfl | rfl | rfl <;> exact ⟨by go_simp; rfl, by go_simp; rfl⟩
      · exact ⟨by go_simp, by go_simp, by go_simp, by go_simp, by simp; omega⟩
      · (repeat' (first | exact Below.refl _ _ | refine bstep ?_ hb | refine Below.setCell ?_ (by simp <;> omega) _ | refine balloc ?_ _ | refine Below.drew ?_ | refine bdrewN ?_ _))
    case round =>
      obtain ⟨k, hk, rfl, rfl, rfl, T, Pz, B⟩ := hrel
      by_cases hlt : k < 4
      · have t1 := (T k hlt).1
        have t2 := (T k hlt).2
        have hk0 : (0 : Int) ≤ (k : Int) := by omega
        have hk4 : (k : Int) < 4 := by omega
        have T := Lib.hid T
        have FK := Lib.hid (fxk H.out K.out k)
        go_wp2_with fail
        go_quiet ((go_at_call 67; exact q_three (times_any _ _ _ FK.out)))
        go_wp2_with fail
        all_goals
          go_roundw
          case rel => exact ⟨k + 1, by omega, by go_num, ret_i (by first | exact LK_lt (by assumption) | exact LK_ge (by assumption)), ret_i (by first | exact HK_lt (by assumption) | exact HK_ge (by assumption)), T.out, Pz, bdrewN B _⟩
          case measure => simp [intOf]; omega
      · obtain rfl : k = 4 := by omega
        have T := Lib.hid T
        go_wp2_with fail
        refine (told_any _ _ _).mono ?_
        rintro e w3 ⟨rfl, hb3⟩
        obtain ⟨g1, g2, g3, g4, g5⟩ := pair_below Pz hb3
        go_wp2
        refine bodyPost_ret (v := spr (Sp.told (LK al ah bl bh 4) (HK al ah bl bh 4))) (by rw [results_cell_tmp rfl]; go_simp) rfl ⟨?_, ?_⟩
        · rw [R.out, LK4, HK4]
        · exact ((B.trans (hb3.mono (by have := B.size; omega))).setCell (by simp; omega) _).setCell (by simp; omega) _

theorem rmul_no1 (al ah bl bh : Int) (w : World) (h : Sp.vldB al ah = false) :
    Calls Try.prog 27 #[spv al ah, spv bl bh] w fun e w' => e = .returned (spr ((0, 0), 1)) ∧ Below w.heap.size w w' := by
  go_enter Try.func27, Try.ntmps27
  go_wp2_with fail
  refine (rvalid_no _ _ _ h).mono ?_
  rintro e w1 ⟨rfl, rfl⟩
  go_wp2
  refine bodyPost_ret (v := spr ((0, 0), 1)) (by rw [results_cell_tmp rfl]; go_simp) rfl ⟨rfl, ?_⟩
  (repeat' (first | exact Below.refl _ _ | refine Below.setCell ?_ (by simp <;> omega) _ | refine balloc ?_ _ | refine Below.drew ?_ | refine bdrewN ?_ _))
theorem rmul_no2 (al ah bl bh : Int) (w : World) (h : Sp.vldB al ah = true) (k : Sp.vldB bl bh = false) :
    Calls Try.prog 27 #[spv al ah, spv bl bh] w fun e w' => e = .returned (spr ((0, 0), 1)) ∧ Below w.heap.size w w' := by
  go_enter Try.func27, Try.ntmps27
  go_wp2_with fail
  refine (rvalid_yes _ _ _ h).mono ?_
  rintro e w1 ⟨rfl, rfl⟩
  go_wp2_with fail
  refine (rvalid_no _ _ _ k).mono ?_
  rintro e w1 ⟨rfl, rfl⟩
  go_wp2
  refine bodyPost_ret (v := spr ((0, 0), 1)) (by rw [results_cell_tmp rfl]; go_simp) rfl ⟨rfl, ?_⟩
  (repeat' (first | exact Below.refl _ _ | refine Below.setCell ?_ (by simp <;> omega) _ | refine balloc ?_ _ | refine Below.drew ?_ | refine bdrewN ?_ _))
theorem rmul_any (al ah bl bh : Int) (w : World) :
    Calls Try.prog 27 #[spv al ah, spv bl bh] w fun e w' => e = .returned (spr (Sp.mulR al ah bl bh)) ∧ Below w.heap.size w w' := by
  cases h : Sp.vldB al ah
  · have e : Sp.mulR al ah bl bh = ((0, 0), 1) := by unfold Sp.mulR; rw [Sp.ite_no1 h]
    rw [e]; exact rmul_no1 _ _ _ _ _ h
  cases k : Sp.vldB bl bh
  · have e : Sp.mulR al ah bl bh = ((0, 0), 1) := by unfold Sp.mulR; rw [Sp.ite_no2 k]
    rw [e]; exact rmul_no2 _ _ _ _ _ h k
  exact rmul_yes _ _ _ _ _ h k

end Go.Proofs.Ythmlhpjhoolflaa
