/-
  The contracts of Contains, Clone, with, absolute.
-/
import Derived.Test.YtllonfaogbdbnaaCr11
import Derived.Test.YtllonfaogbdbnaaShelf
namespace Go.Proofs.Ytllonfaogbdbnaa
open Go.ChangeShapes Go.WideShapes Go.RowKit
open Cr
theorem getD_at (l : List Int) (j : Nat) : l.getD j 0 = at_ l j := rfl
theorem cont_any (A : Option Addr) (c : Nat) (l : List Int) (x : Int) (w : World) (h : IL w A l) (hn : l.length ≤ 1000000) : Calls Try.prog 86 #[.slice A l.length c, .int .i64 x] w fun e w' => e = .returned (.bool (l.contains x)) ∧ w = w' := by
  cases l with
  | nil => exact (Try.slices_Contains_int_empty A c x w).mono fun _ _ ⟨he, hw⟩ => ⟨he, hw.symm⟩
  | cons y l =>
    obtain ⟨b, o, rfl, _, _⟩ := h 0 (by simp)
    have z := Try.slices_Contains_int b o (y :: l).length c (y :: l) x w (Nat.le_refl _) (by omega) (fun j hj => by
      obtain ⟨b', o', he, _, hc⟩ := h j hj
      simp only [Option.some.injEq, Addr.mk.injEq, and_true] at he
      obtain ⟨rfl, rfl⟩ := he
      exact hc)
    rw [List.take_of_length_le (Nat.le_refl _)] at z
    exact z.mono fun _ _ ⟨he, hw⟩ => ⟨he, hw.symm⟩
theorem clone_int (A : Option Addr) (c : Nat) (l : List Int) (w : World) (h : IL w A l) (hn : l.length ≤ 1000000) :
    Calls Try.prog 107 #[.slice A l.length c] w fun e w' => ∃ v, e = .returned v ∧ OI w' w.heap.size v l ∧ Below w.heap.size w w' := by
  cases A with
  | none =>
    have h0 : l = [] := by
      cases l with
      | nil => rfl
      | cons x xs => obtain ⟨_, _, e, _⟩ := h 0 (by simp); cases e
    subst h0
    exact (Try.slices_Clone_int_nil 0 c w).mono fun _ _ ⟨he, hw⟩ => by
      subst hw
      exact ⟨_, he, oi_nil _ _, Below.refl _ _⟩
  | some a =>
    cases l with
    | nil =>
      refine (Try.slices_Clone_int_zero a c w).mono ?_
      rintro e w' ⟨v', he, ho, _, hb⟩
      exact ⟨v', he, ho, hb⟩
    | cons y l =>
      obtain ⟨b, o, he0, _, _⟩ := h 0 (by simp)
      injection he0 with he0
      subst he0
      have z := Try.slices_Clone_int b o (y :: l).length c (y :: l) w (Nat.le_refl _) (by omega) (fun j hj => by
        obtain ⟨b', o', he, _, hc⟩ := h j hj
        simp only [Option.some.injEq, Addr.mk.injEq, and_true] at he
        obtain ⟨rfl, rfl⟩ := he
        exact hc)
      rw [List.take_of_length_le (Nat.le_refl _)] at z
      refine z.mono ?_
      rintro e w' ⟨v', he, ho, _, hb⟩
      exact ⟨v', he, ho, hb⟩
theorem with_any (A : Option Addr) (c n : Nat) (l : List Int) (x : Int) (w : World) (h : IL w A l) (hn : l.length = n) (hb : n ≤ 1000) :
    Calls Try.prog 87 #[.slice A n c, .int .i64 x] w fun e w' => ∃ A' c', e = .returned (.slice A' (n + 1) c') ∧ IL w' A' (l ++ [x]) ∧ Below w.heap.size w w' := by
  subst hn
  have CL := Lib.hid (clone_int A c l w h (by omega))
  clear h
  go_enter Try.func87, Try.ntmps87
  go_wp2_with fail
  with_reducible refine CL.out.mono ?_
  rintro e w2 ⟨v, rfl, ho, hb2⟩
  obtain ⟨A2, c2, rfl, _⟩ := oi_slice ho
  have HO := Lib.hid ho
  have HB := Lib.hid hb2
  have hs := hb2.size
  clear ho hb2
  go_wp2_with (at_builtin; refine wpI rfl (.tmp 6) (.tmp 8) rfl w.heap.size (.slice A2 l.length c2) l rfl (HO.out.alloc _) (by simp; omega) (some ⟨w2.heap.size, 0, none⟩) 1 1 [x] rfl (il_one _ _) rfl (by omega) (l.length + 1) (by simp) ?_; intro A3 c3 w3 ho3 hg3 _)
  have HO3 := Lib.hid ho3
  have HB3 := Lib.hid (below_grown (balloc HB.out _) hg3 (by simp; omega) (fun g hg => (HO.out.lt g hg).1))
  clear ho3 hg3
  go_wp2_with fail
  go_ret
  exact ⟨A3, c3, rfl, oi_il HO3.out, HB3.out⟩
/-- the absolute value -/
def absI (n : Int) : Int := if n < 0 then -n else n
theorem absI_bd {n B : Int} (h1 : -B ≤ n) (h2 : n ≤ B) : 0 ≤ absI n ∧ absI n ≤ B := by unfold absI; split <;> omega
theorem run_max_abs (P : Program) (w : World) (ts : Array TypeId) (t : TypeId) (x : Int) : (Builtin.max_ ts t #[.int .i64 x, .int .i64 (-x)]).run P w = .ok (.int .i64 (absI x)) w := by
  have e : absI x = (if -x > x then -x else x) := by unfold absI; split <;> split <;> omega
  rw [e]; exact run_max_int2 ..
attribute [go_sem 1000000] run_max_abs
theorem absC_any (n : Int) (w : World) (h1 : -9223372036854775807 ≤ n) (h2 : n ≤ 9223372036854775807) : Calls Try.prog 91 #[.int .i64 n] w fun e w' => e = .returned (.int .i64 (absI n)) ∧ w = w' := by
  go_enter Try.func91, Try.ntmps91
  go_wp2
  go_ret
  exact ⟨rfl, rfl⟩
theorem size_any (n : Int) (w : World) (h1 : -9223372036854775807 ≤ n) (h2 : n ≤ 9223372036854775807) : Calls Try.prog 53 #[.int .i64 n] w fun e w' => e = .returned (.int .i64 (absI n)) ∧ w = w' := by
  by_cases h : n < 0
  · have e : absI n = -n := if_pos h
    rw [e]
    clear e
    go_enter Try.func53, Try.ntmps53
    go_wp2
    go_ret
    exact ⟨rfl, rfl⟩
  · have e : absI n = n := if_neg h
    rw [e]
    clear e
    go_enter Try.func53, Try.ntmps53
    go_wp2
    go_ret
    exact ⟨rfl, rfl⟩

end Go.Proofs.Ytllonfaogbdbnaa
