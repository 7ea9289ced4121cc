/-
  The contract of the document's edges: how often a side is there.
-/
import Derived.Test.YtllonfaogbdbnaaAllUsed
import Derived.Test.YtllonfaogbdbnaaSides
namespace Go.Proofs.Ytllonfaogbdbnaa
open Go.ChangeShapes Go.WideShapes Go.RowKit
open Sh
/-- of the first j sides of a face, how many are p q -/
def part (f : P3) (p q : Int) : Nat → Int
  | 0 => 0
  | 1 => (if f.1 = p ∧ f.2.1 = q then 1 else 0)
  | 2 => (if f.1 = p ∧ f.2.1 = q then 1 else 0) + (if f.2.1 = p ∧ f.2.2 = q then 1 else 0)
  | _ => (if f.1 = p ∧ f.2.1 = q then 1 else 0) + (if f.2.1 = p ∧ f.2.2 = q then 1 else 0) + (if f.2.2 = p ∧ f.1 = q then 1 else 0)
theorem part_end (F : Nat → P3) (k : Nat) (p q : Int) : ((cnt F k p q : Nat) : Int) + part (F k) p q 3 = ((cnt F (k + 1) p q : Nat) : Int) := by
  show ((cnt F k p q : Nat) : Int) + ((if (F k).1 = p ∧ (F k).2.1 = q then 1 else 0) + (if (F k).2.1 = p ∧ (F k).2.2 = q then 1 else 0) + (if (F k).2.2 = p ∧ (F k).1 = q then 1 else 0)) = ((cnt F k p q + ((if (F k).1 = p ∧ (F k).2.1 = q then 1 else 0) + (if (F k).2.1 = p ∧ (F k).2.2 = q then 1 else 0) + (if (F k).2.2 = p ∧ (F k).1 = q then 1 else 0)) : Nat) : Int)
  by_cases h1 : (F k).1 = p ∧ (F k).2.1 = q <;> by_cases h2 : (F k).2.1 = p ∧ (F k).2.2 = q <;> by_cases h3 : (F k).2.2 = p ∧ (F k).1 = q
  all_goals
    first | rw [if_pos h1, if_pos h1] | rw [if_neg h1, if_neg h1]
    first | rw [if_pos h2, if_pos h2] | rw [if_neg h2, if_neg h2]
    first | rw [if_pos h3, if_pos h3] | rw [if_neg h3, if_neg h3]
    omega
theorem part_bd (f : P3) (p q : Int) (j : Nat) : 0 ≤ part f p q j ∧ part f p q j ≤ 3 := by
  unfold part
  split
  · omega
  · split <;> omega
  · split <;> split <;> omega
  · split <;> split <;> split <;> omega
def comp (f : P3) : Nat → Int
  | 0 => f.1
  | 1 => f.2.1
  | _ => f.2.2
theorem part_succ (f : P3) (p q : Int) (j : Nat) (h : j < 3) : part f p q (j + 1) = part f p q j + (if comp f j = p ∧ comp f ((j + 1) % 3) = q then 1 else 0) := by
  match j, h with
  | 0, _ => simp [part, comp]
  | 1, _ => simp [part, comp]
  | 2, _ => simp [part, comp]
theorem part_zero (f : P3) (p q : Int) : part f p q 0 = 0 := rfl
/-- what holds behind the first sides of a face -/
def EdRel (n0 : Int) (f : P3) (p q : Int) (W : World) (nv jv : Value) (wx : World) : Prop := ∃ j : Nat, j ≤ 3 ∧ jv = .int .i64 j ∧ nv = .int .i64 (n0 + part f p q j) ∧ wx = W
theorem ed_cases {n0 : Int} {f : P3} {p q : Int} {W wx : World} {nv jv : Value} (h : EdRel n0 f p q W nv jv wx) :
    (jv = .int .i64 0 ∧ nv = .int .i64 (n0 + part f p q 0) ∧ wx = W) ∨ (jv = .int .i64 1 ∧ nv = .int .i64 (n0 + part f p q 1) ∧ wx = W) ∨ (jv = .int .i64 2 ∧ nv = .int .i64 (n0 + part f p q 2) ∧ wx = W) ∨ (jv = .int .i64 3 ∧ nv = .int .i64 (n0 + part f p q 3) ∧ wx = W) := by
  obtain ⟨j, hj, h1, h2, h3⟩ := h
  match j, hj with
  | 0, _ => exact Or.inl ⟨h1, h2, h3⟩
  | 1, _ => exact Or.inr (Or.inl ⟨h1, h2, h3⟩)
  | 2, _ => exact Or.inr (Or.inr (Or.inl ⟨h1, h2, h3⟩))
  | 3, _ => exact Or.inr (Or.inr (Or.inr ⟨h1, h2, h3⟩))
set_option maxRecDepth 100000 in
set_option maxHeartbeats 4000000 in
theorem edges_row (a : Option Addr) (np c b' off' nf c' : Nat) (F : Nat → P3) (p q : Int) (w : World) (r : Row3 w b' off' nf F) (hm : nf ≤ 1000000) :
    Calls Try.prog 103 #[msv a np c (some ⟨b', off', none⟩) nf c', .int .i64 p, .int .i64 q] w fun e w' => e = .returned (.int .i64 ((cnt F nf p q : Nat) : Int)) ∧ Below w.heap.size w w' := by
  have hb1 : b' < w.heap.size := r.1
  have R := Lib.hid r
  have hm' : (nf : Int) ≤ 1000000 := by omega
  clear r
  go_enter Try.func103, Try.ntmps103
  go_wp2
  go_loopw [7, 8] (fun nv kv wr => ∃ k : Nat, k ≤ nf ∧ kv = .int .i64 k ∧ nv = .int .i64 ((cnt F k p q : Nat) : Int) ∧ wr = w.alloc (msc a np c (some ⟨b', off', none⟩) nf c' 25)) (fun _ kv _ => nf - (intOf kv).toNat)
  case atStart => exact ⟨0, Nat.zero_le _, rfl, rfl, rfl⟩
  case round =>
    obtain ⟨k, hk, rfl, rfl, rfl⟩ := hrel
    by_cases hlt : k < nf
    · obtain ⟨c1, c2, c3⟩ := R.out.2 k hlt
      have hk1 : (k : Int) < (nf : Int) := by omega
      have E := Lib.hid (part_end F k p q)
      have cb := cnt_bd F k p q
      have PB := Lib.hid (part_bd (F k) p q)
      have PS := Lib.hid (part_succ (F k) p q)
      generalize F k = f at *
      obtain ⟨n0, hn0⟩ : ∃ n, ((cnt F k p q : Nat) : Int) = n := ⟨_, rfl⟩
      have nb : 0 ≤ n0 ∧ n0 ≤ 3000000 := by omega
      rw [hn0] at E ⊢
      clear hn0 cb
      obtain ⟨nb1, nb2⟩ := nb
      go_wp2
      go_loopw [7, 9] (fun nv jv wx => EdRel n0 f p q (w.alloc (msc a np c (some ⟨b', off', none⟩) nf c' 25)) nv jv wx) (fun _ jv _ => 3 - (intOf jv).toNat)
      case atStart => exact ⟨0, by omega, rfl, by rw [part_zero, Int.add_zero], rfl⟩
      case round =>
        rcases ed_cases hrel with ⟨rfl, rfl, rfl⟩ | ⟨rfl, rfl, rfl⟩ | ⟨rfl, rfl, rfl⟩ | ⟨rfl, rfl, rfl⟩
        rotate_left 3
        · rw [E.out]
          go_wp2
          go_roundw
          case rel => exact ⟨k + 1, by omega, by go_num, rfl, trivial⟩
          case measure => simp [intOf]; omega
        · have bd := PB.out 0
          obtain ⟨s, hs⟩ : ∃ s, n0 + part f p q 0 = s := ⟨_, rfl⟩
          have S := Lib.hid (show n0 + part f p q 1 = s + (if f.1 = p ∧ f.2.1 = q then 1 else 0) by rw [PS.out 0 (by decide), ← hs, Int.add_assoc]; rfl)
          have s1 : 0 ≤ s := by omega
          have s2 : s ≤ 3000003 := by omega
          rw [hs]
          clear hs bd hrel
          by_cases h1 : f.1 = p
          · have t1 : (f.1 == p) = true := beq_iff_eq.2 h1
            by_cases h2 : f.2.1 = q
            · have t2 : (f.2.1 == q) = true := beq_iff_eq.2 h2
              have S2 := Lib.hid (show n0 + part f p q 1 = s + 1 by rw [S.out, if_pos ⟨h1, h2⟩])
              clear h1 h2
              go_wp2
              go_roundw
              case rel => exact ⟨1, by omega, rfl, by rw [S2.out], rfl⟩
              case measure => simp [intOf]
            · have t2 : (f.2.1 == q) = false := beq_eq_false_iff_ne.2 h2
              have S2 := Lib.hid (show n0 + part f p q 1 = s by rw [S.out, if_neg (fun e => h2 e.2), Int.add_zero])
              clear h1 h2
              go_wp2
              go_roundw
              case rel => exact ⟨1, by omega, rfl, by rw [S2.out], rfl⟩
              case measure => simp [intOf]
          · have t1 : (f.1 == p) = false := beq_eq_false_iff_ne.2 h1
            have S2 := Lib.hid (show n0 + part f p q 1 = s by rw [S.out, if_neg (fun e => h1 e.1), Int.add_zero])
            clear h1
            go_wp2
            go_roundw
            case rel => exact ⟨1, by omega, rfl, by rw [S2.out], rfl⟩
            case measure => simp [intOf]
        · have bd := PB.out 1
          obtain ⟨s, hs⟩ : ∃ s, n0 + part f p q 1 = s := ⟨_, rfl⟩
          have S := Lib.hid (show n0 + part f p q 2 = s + (if f.2.1 = p ∧ f.2.2 = q then 1 else 0) by rw [PS.out 1 (by decide), ← hs, Int.add_assoc]; rfl)
          have s1 : 0 ≤ s := by omega
          have s2 : s ≤ 3000003 := by omega
          rw [hs]
          clear hs bd hrel
          by_cases h1 : f.2.1 = p
          · have t1 : (f.2.1 == p) = true := beq_iff_eq.2 h1
            by_cases h2 : f.2.2 = q
            · have t2 : (f.2.2 == q) = true := beq_iff_eq.2 h2
              have S2 := Lib.hid (show n0 + part f p q 2 = s + 1 by rw [S.out, if_pos ⟨h1, h2⟩])
              clear h1 h2
              go_wp2
              go_roundw
              case rel => exact ⟨2, by omega, rfl, by rw [S2.out], rfl⟩
              case measure => simp [intOf]
            · have t2 : (f.2.2 == q) = false := beq_eq_false_iff_ne.2 h2
              have S2 := Lib.hid (show n0 + part f p q 2 = s by rw [S.out, if_neg (fun e => h2 e.2), Int.add_zero])
              clear h1 h2
              go_wp2
              go_roundw
              case rel => exact ⟨2, by omega, rfl, by rw [S2.out], rfl⟩
              case measure => simp [intOf]
          · have t1 : (f.2.1 == p) = false := beq_eq_false_iff_ne.2 h1
            have S2 := Lib.hid (show n0 + part f p q 2 = s by rw [S.out, if_neg (fun e => h1 e.1), Int.add_zero])
            clear h1
            go_wp2
            go_roundw
            case rel => exact ⟨2, by omega, rfl, by rw [S2.out], rfl⟩
            case measure => simp [intOf]
        · have bd := PB.out 2
          obtain ⟨s, hs⟩ : ∃ s, n0 + part f p q 2 = s := ⟨_, rfl⟩
          have S := Lib.hid (show n0 + part f p q 3 = s + (if f.2.2 = p ∧ f.1 = q then 1 else 0) by rw [PS.out 2 (by decide), ← hs, Int.add_assoc]; rfl)
          have s1 : 0 ≤ s := by omega
          have s2 : s ≤ 3000003 := by omega
          rw [hs]
          clear hs bd hrel
          by_cases h1 : f.2.2 = p
          · have t1 : (f.2.2 == p) = true := beq_iff_eq.2 h1
            by_cases h2 : f.1 = q
            · have t2 : (f.1 == q) = true := beq_iff_eq.2 h2
              have S2 := Lib.hid (show n0 + part f p q 3 = s + 1 by rw [S.out, if_pos ⟨h1, h2⟩])
              clear h1 h2
              go_wp2
              go_roundw
              case rel => exact ⟨3, by omega, rfl, by rw [S2.out], rfl⟩
              case measure => simp [intOf]
            · have t2 : (f.1 == q) = false := beq_eq_false_iff_ne.2 h2
              have S2 := Lib.hid (show n0 + part f p q 3 = s by rw [S.out, if_neg (fun e => h2 e.2), Int.add_zero])
              clear h1 h2
              go_wp2
              go_roundw
              case rel => exact ⟨3, by omega, rfl, by rw [S2.out], rfl⟩
              case measure => simp [intOf]
          · have t1 : (f.2.2 == p) = false := beq_eq_false_iff_ne.2 h1
            have S2 := Lib.hid (show n0 + part f p q 3 = s by rw [S.out, if_neg (fun e => h1 e.1), Int.add_zero])
            clear h1
            go_wp2
            go_roundw
            case rel => exact ⟨3, by omega, rfl, by rw [S2.out], rfl⟩
            case measure => simp [intOf]
    · obtain rfl : k = nf := by omega
      go_wp2
      go_ret
      exact ⟨rfl, by (repeat' (first | exact Below.refl _ _ | refine Below.setCell ?_ (by simp <;> omega) _ | refine balloc ?_ _ | refine Below.drew ?_ | refine bdrewN ?_ _))⟩

end Go.Proofs.Ytllonfaogbdbnaa
