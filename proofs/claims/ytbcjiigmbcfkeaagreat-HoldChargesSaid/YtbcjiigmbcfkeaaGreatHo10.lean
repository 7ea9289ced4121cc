/-
  Stage 7: the quotients of charges and potentials, and of charges and the energy.
-/
import Derived.Test.YtbcjiigmbcfkeaaGreatHo8
import Derived.Test.YtbcjiigmbcfkeaaGreatQuo
import Derived.RegionTactic
namespace Go.Proofs.YtbcjiigmbcfkeaaGreat
open Go.ChangeShapes Go.WideShapes Go.RowKit
open Sh
attribute [local go_sem 1000000] run_min_mn run_max_mx
set_option maxRecDepth 100000 in
set_option maxHeartbeats 2000000 in
theorem hlo_any (q cap n : Nat) (S : Int) (L H : Nat → Int) (w : World) (rl : Row w q 0 n L H) (hn : n ≤ 96) (s1 : 1 ≤ S) (s2 : S ≤ 9600) (h1 : S ≤ mxl H n) (h2 : mxl H n ≤ 1099511627776) :
    Calls Tryz.prog 65 #[.int .i64 S, .slice (some ⟨q, 0, none⟩) n cap] w fun e w' => e = .returned (.tuple #[.int .i64 (lowN S (mxl H n)), .int .i64 0]) ∧ Below w.heap.size w w' := by
  have hn' : (n : Int) ≤ 96 := by omega
  have RL := Lib.hid rl
  have QS := Lib.hid (quoS s1 s2 h1)
  have QU := Lib.hid (fun W => quo_ok (S * 1048576) (mxl H n) W (by omega) (by omega) (by omega) h2 (by omega))
  obtain ⟨rs, hrs⟩ : ∃ r, lowN S (mxl H n) = r := ⟨_, rfl⟩
  rw [hrs]
  have RS := Lib.hid hrs
  clear rl h1 h2 hrs
  go_enter Tryz.func65, Tryz.ntmps65
  go_wp2
  go_loopw [6, 13] (fun sv kv wr => ∃ k : Nat, k ≤ n ∧ kv = .int .i64 k ∧ sv = .int .i64 (mxl H k) ∧ Below w.heap.size w wr) (fun _ kv _ => n - (intOf kv).toNat)
  case atStart => exact ⟨0, Nat.zero_le _, rfl, rfl, Below.refl _ _⟩
  case round =>
    obtain ⟨k, hk, rfl, rfl, bb⟩ := hrel
    have BB := Lib.hid bb
    by_cases hlt : k < n
    · have hk1 : (k : Int) < (n : Int) := by omega
      have r0 := row_below RL.out bb
      obtain ⟨c0, c1⟩ := r0.2 k hlt
      rw [Nat.zero_add] at c0 c1
      have e0 := r0.1
      have E1 := Lib.hid (show mxl H (k + 1) = Sp.mx (mxl H k) (H k) from rfl)
      clear r0 bb
      generalize mxl H k = p at *
      generalize L k = l at *
      generalize H k = h at *
      go_wp2
      go_roundw
      case rel => exact ⟨k + 1, by omega, by go_num, by rw [E1.out], balloc BB.out _⟩
      case measure => simp [intOf]; omega
    · obtain rfl : k = n := by omega
      generalize mxl H k = d at *
      have q1 := QS.out.1
      generalize Sp.told (Sp.fl (S * 1048576 * 1048576) d) (Sp.ce (S * 1048576 * 1048576) d) = r at *
      subst q1
      generalize lowN S d = u at *
      generalize abvN S d = v at *
      clear bb
      have RS2 := RS.out
      clear RS
      subst RS2
      go_wp2_with fail
      with_reducible refine (QU.out _).mono ?_
      rintro e w3 ⟨rfl, hb3⟩
      have hB := bstep BB.out hb3
      clear hb3 QU QS
      go_wp2
      go_ret2
      exact ⟨rfl, by (repeat' (first | with_reducible exact hB | with_reducible refine Below.drew ?_ | (with_reducible refine balloc ?_ _) | (with_reducible refine Below.setCell ?_ (by simp <;> omega) _)))⟩
set_option maxRecDepth 100000 in
set_option maxHeartbeats 2000000 in
theorem hab_any (q cap n : Nat) (S : Int) (L H : Nat → Int) (w : World) (rl : Row w q 0 n L H) (hn : n ≤ 96) (s1 : 1 ≤ S) (s2 : S ≤ 9600) (h1 : S ≤ mnl L n) (h2 : mnl L n ≤ 1099511627776) :
    Calls Tryz.prog 67 #[.int .i64 S, .slice (some ⟨q, 0, none⟩) n cap] w fun e w' => e = .returned (.tuple #[.int .i64 (abvN S (mnl L n)), .int .i64 0]) ∧ Below w.heap.size w w' := by
  have hn' : (n : Int) ≤ 96 := by omega
  have RL := Lib.hid rl
  have QS := Lib.hid (quoS s1 s2 h1)
  have QU := Lib.hid (fun W => quo_ok (S * 1048576) (mnl L n) W (by omega) (by omega) (by omega) h2 (by omega))
  obtain ⟨rs, hrs⟩ : ∃ r, abvN S (mnl L n) = r := ⟨_, rfl⟩
  rw [hrs]
  have RS := Lib.hid hrs
  clear rl h1 h2 hrs
  go_enter Tryz.func67, Tryz.ntmps67
  go_wp2
  go_loopw [6, 13] (fun sv kv wr => ∃ k : Nat, k ≤ n ∧ kv = .int .i64 k ∧ sv = .int .i64 (mnl L k) ∧ Below w.heap.size w wr) (fun _ kv _ => n - (intOf kv).toNat)
  case atStart => exact ⟨0, Nat.zero_le _, rfl, rfl, Below.refl _ _⟩
  case round =>
    obtain ⟨k, hk, rfl, rfl, bb⟩ := hrel
    have BB := Lib.hid bb
    by_cases hlt : k < n
    · have hk1 : (k : Int) < (n : Int) := by omega
      have r0 := row_below RL.out bb
      obtain ⟨c0, c1⟩ := r0.2 k hlt
      rw [Nat.zero_add] at c0 c1
      have e0 := r0.1
      have E1 := Lib.hid (show mnl L (k + 1) = Sp.mn (mnl L k) (L k) from rfl)
      clear r0 bb
      generalize mnl L k = p at *
      generalize L k = l at *
      generalize H k = h at *
      go_wp2
      go_roundw
      case rel => exact ⟨k + 1, by omega, by go_num, by rw [E1.out], balloc BB.out _⟩
      case measure => simp [intOf]; omega
    · obtain rfl : k = n := by omega
      generalize mnl L k = d at *
      have q1 := QS.out.1
      generalize Sp.told (Sp.fl (S * 1048576 * 1048576) d) (Sp.ce (S * 1048576 * 1048576) d) = r at *
      subst q1
      generalize lowN S d = u at *
      generalize abvN S d = v at *
      clear bb
      have RS2 := RS.out
      clear RS
      subst RS2
      go_wp2_with fail
      with_reducible refine (QU.out _).mono ?_
      rintro e w3 ⟨rfl, hb3⟩
      have hB := bstep BB.out hb3
      clear hb3 QU QS
      go_wp2
      go_ret2
      exact ⟨rfl, by (repeat' (first | with_reducible exact hB | with_reducible refine Below.drew ?_ | (with_reducible refine balloc ?_ _) | (with_reducible refine Below.setCell ?_ (by simp <;> omega) _)))⟩
set_option maxRecDepth 100000 in
set_option maxHeartbeats 2000000 in
theorem hth_any (l h S : Int) (w : World) (s1 : 1 ≤ S) (s2 : S ≤ 9600) (h0 : S * S ≤ l) (h1 : l ≤ h) (h2 : h ≤ 1099511627776) :
    Calls Tryz.prog 68 #[.int .i64 S, .agg #[.int .i64 l, .int .i64 h]] w fun e w' => e = .returned (.tuple #[.int .i64 (thoN S h), .int .i64 0]) ∧ Below w.heap.size w w' := by
  obtain ⟨k, ek, b1, b2⟩ := parS s1 s2 h0 h1 h2
  have PA := Lib.hid (fun W => part_any l h S W)
  rw [ek] at PA
  have QS := Lib.hid (quoS s1 s2 b1)
  have QU := Lib.hid (fun W => quo_ok (S * 1048576) ((h + S - 1) / S) W (by omega) (by omega) (by omega) b2 (by omega))
  have B0 := Lib.hid (show Below w.heap.size w (w.alloc (.cells #[.int .i64 l, .int .i64 h] 39)) from balloc (Below.refl _ w) _)
  obtain ⟨z0, z1, z2, z3, z4⟩ := pair_new w l h 39
  unfold thoN
  generalize (h + S - 1) / S = d at *
  have q1 := QS.out.1
  generalize Sp.told (Sp.fl (S * 1048576 * 1048576) d) (Sp.ce (S * 1048576 * 1048576) d) = r at *
  subst q1
  generalize lowN S d = u at *
  generalize abvN S d = v at *
  clear ek
  go_enter Tryz.func68, Tryz.ntmps68
  go_wp2_with fail
  with_reducible refine (PA.out _).mono ?_
  rintro e w1 ⟨rfl, hb1⟩
  have B1 := Lib.hid (bstep B0.out hb1)
  clear hb1 z0 z1 z2 z3 z4
  go_wp2_with fail
  with_reducible refine (QU.out _).mono ?_
  rintro e w3 ⟨rfl, hb3⟩
  have hB := bstep (balloc B1.out (.cells #[.int .i64 k, .int .i64 d] 39)) hb3
  clear hb3 QU QS
  go_wp2
  go_ret2
  exact ⟨rfl, by (repeat' (first | with_reducible exact hB | with_reducible refine Below.drew ?_ | (with_reducible refine balloc ?_ _) | (with_reducible refine Below.setCell ?_ (by simp <;> omega) _)))⟩
end Go.Proofs.YtbcjiigmbcfkeaaGreat
