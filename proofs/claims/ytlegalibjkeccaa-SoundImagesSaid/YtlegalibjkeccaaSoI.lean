/-
  The contracts of Images whole, and the law SoundImages: its walk.
-/
import Derived.Test.YtlegalibjkeccaaSoD
import Derived.Test.YtlegalibjkeccaaSoIb
namespace Go.Proofs.Ytlegalibjkeccaa
open Go.ChangeShapes Go.WideShapes Go.RowKit
open Sh
theorem zb {p : Pu} (h : pucode p = 0) : (-4611686018427387904 ≤ p.1.1.2.2 ∧ p.1.1.2.2 ≤ 4611686018427387904) ∧ (-4611686018427387904 ≤ p.1.2.1.2.2 ∧ p.1.2.1.2.2 ≤ 4611686018427387904) ∧ (-4611686018427387904 ≤ p.1.2.2.2.2 ∧ p.1.2.2.2.2 ≤ 4611686018427387904) ∧ -4611686018427387904 ≤ p.2.2 ∧ p.2.2 ≤ 4611686018427387904 := by
  obtain ⟨⟨⟨_, _, _, _, a5, a6⟩, ⟨_, _, _, _, b5, b6⟩, ⟨_, _, _, _, c5, c6⟩⟩, _, _, q1, q2⟩ := pucode_ok h
  exact ⟨⟨by omega, by omega⟩, ⟨by omega, by omega⟩, ⟨by omega, by omega⟩, by omega, by omega⟩
theorem ims_any (a : Option Addr) (n c : Nat) (Q : Nat → Pu) (s : Bool) (w : World) (r : LstU w a n Q) (hnil : a = none → c = 0) (hn : n ≤ 60) :
    Calls Try.prog 19 #[.slice a n c, .bool s] w fun e w' => ∃ v, e = .returned (.tuple #[v, .int .i64 (icode n Q)]) ∧ PuR w' (n + n) (icode n Q) (bth s Q n) v ∧ Below w.heap.size w w' := by
  have V := fun W (B : Below w.heap.size w W) => svp_any a n c Q W (lstU_below r B) (by omega)
  have CT := fun W (B : Below w.heap.size w W) => cfn_any a n c Q W (lstU_below r B) (by omega)
  have n16z : vpcode n Q = 0 → n ≤ 16 ∧ ∀ k, k < n → pucode (Q k) = 0 := fun z => by
    unfold vpcode at z
    by_cases h : n ≤ 16
    · rw [if_pos h] at z; exact ⟨h, fun k hk => pucodes_all z k hk⟩
    · rw [if_neg h] at z; exact absurd z (by decide)
  unfold icode PuR
  by_cases z : vpcode n Q = 0
  · rw [if_pos z]
    rw [z] at V
    obtain ⟨n16, hp⟩ := n16z z
    by_cases hy : anyB Q n = true
    · rw [if_pos hy]
      rw [hy] at CT
      exact (ims_b a n c s w (Lib.hid V) (Lib.hid CT)).mono fun _ _ ⟨h1, h2⟩ => ⟨_, h1, by rw [if_neg (by decide)], h2⟩
    · rw [if_neg hy]
      have hf : anyB Q n = false := Bool.eq_false_iff.2 hy
      rw [hf] at CT
      by_cases h8 : 8 < n
      · rw [if_pos h8]
        exact (ims_l a n c s w (Lib.hid V) (Lib.hid CT) h8 n16).mono fun _ _ ⟨h1, h2⟩ => ⟨_, h1, by rw [if_neg (by decide)], h2⟩
      · rw [if_neg h8]
        by_cases m : n = 0
        · subst m
          exact (ims_z a c s w (Lib.hid V) (Lib.hid CT) (Lib.hid fun W B => clone8_zero a c W hnil)).mono fun _ _ ⟨v, h1, h2, h3⟩ => ⟨v, h1, by rw [if_pos rfl]; exact own_base9 h2 (Nat.zero_le _), h3⟩
        · obtain ⟨b, off, rfl, rr⟩ := r (by omega)
          exact (ims_r b off n c s Q w (Lib.hid V) (Lib.hid CT) (Lib.hid fun W B => clone8_row b off n c Q W (rowU_below rr B) (by omega)) rr (by omega) (fun k hk => zb (hp k hk))).mono fun _ _ ⟨v, h1, h2, h3⟩ => ⟨v, h1, by rw [if_pos rfl]; exact own_base9 h2 (Nat.zero_le _), h3⟩
  · rw [if_neg z]
    exact (ims_v a n c s _ w (Lib.hid V) (bne_iff_ne.2 z)).mono fun _ _ ⟨h1, h2⟩ => ⟨_, h1, by rw [if_neg z], h2⟩
theorem rims_any (a : Option Addr) (n c : Nat) (Q : Nat → Pu) (s : Bool) (w : World) (r : LstU w a n Q) (hnil : a = none → c = 0) (hn : n ≤ 60) :
    Calls Try.prog 20 #[.slice a n c, .bool s] w fun e w' => ∃ v, e = .returned (.tuple #[v, .int .i64 (icode n Q)]) ∧ PuR w' (n + n) (icode n Q) (bth s Q n) v ∧ Below w.heap.size w w' := by
  have V := fun W (B : Below w.heap.size w W) => rsvp_any a n c Q W (lstU_below r B) (by omega)
  have n16z : vpcode n Q = 0 → n ≤ 16 ∧ ∀ k, k < n → pucode (Q k) = 0 := fun z => by
    unfold vpcode at z
    by_cases h : n ≤ 16
    · rw [if_pos h] at z; exact ⟨h, fun k hk => pucodes_all z k hk⟩
    · rw [if_neg h] at z; exact absurd z (by decide)
  unfold icode PuR
  by_cases z : vpcode n Q = 0
  · rw [if_pos z]
    rw [z] at V
    obtain ⟨n16, hp⟩ := n16z z
    by_cases m : n = 0
    · subst m
      have key : Calls Try.prog 20 #[.slice a 0 c, .bool s] w fun e w' => ∃ v, e = .returned (.tuple #[v, .int .i64 0]) ∧ w'.ownsRow w.heap.size 27 11 v 0 [] ∧ Below w.heap.size w w' := by
        cases a with
        | none =>
          have h0 := hnil rfl
          subst h0
          exact rims_n s w (Lib.hid V)
        | some ad => exact rims_z0 ad c s w (Lib.hid V)
      rw [show anyB Q 0 = false from rfl, if_neg (by decide), if_neg (by omega)]
      exact key.mono fun _ _ ⟨v, h1, h2, h3⟩ => ⟨v, h1, by rw [if_pos rfl]; exact own_base9 h2 (Nat.zero_le _), h3⟩
    · obtain ⟨b, off, rfl, rr⟩ := r (by omega)
      by_cases hy : anyB Q n = true
      · rw [if_pos hy]
        exact (rims_b b off n c s Q w (Lib.hid V) rr n16 hy).mono fun _ _ ⟨h1, h2⟩ => ⟨_, h1, by rw [if_neg (by decide)], h2⟩
      · rw [if_neg hy]
        have hf : anyB Q n = false := Bool.eq_false_iff.2 hy
        by_cases h8 : 8 < n
        · rw [if_pos h8]
          exact (rims_l b off n c s Q w (Lib.hid V) rr n16 h8 hf).mono fun _ _ ⟨h1, h2⟩ => ⟨_, h1, by rw [if_neg (by decide)], h2⟩
        · rw [if_neg h8]
          cases s
          · exact (rims_rf b off n c Q w (Lib.hid V) rr (by omega) hf (fun k hk => zb (hp k hk))).mono fun _ _ ⟨v, h1, h2, h3⟩ => ⟨v, h1, by rw [if_pos rfl]; exact own_base9 h2 (Nat.zero_le _), h3⟩
          · exact (rims_rt b off n c Q w (Lib.hid V) rr (by omega) hf (fun k hk => zb (hp k hk))).mono fun _ _ ⟨v, h1, h2, h3⟩ => ⟨v, h1, by rw [if_pos rfl]; exact own_base9 h2 (Nat.zero_le _), h3⟩
  · rw [if_neg z]
    exact (rims_v a n c s _ w (Lib.hid V) (bne_iff_ne.2 z)).mono fun _ _ ⟨h1, h2⟩ => ⟨_, h1, by rw [if_neg z], h2⟩
theorem images_long (a : Option Addr) (n c : Nat) (s : Bool) (w : World) (h : 60 < n) (hn : n ≤ 9223372036854775807) (K : Hid (∀ W, Calls Try.prog 11 #[] W fun e w' => e = .returned (.bool true) ∧ Below W.heap.size W w')) : Calls Try.prog 6 #[.slice a n c, .bool s] w fun e w' => e = .returned (.bool true) ∧ Below w.heap.size w w' := by
  go_enter Try.func6, Try.ntmps6
  go_wp2_with fail
  refine (K.out _).mono ?_
  rintro e w1 ⟨rfl, hb1⟩
  go_wp2
  go_ret
  exact ⟨rfl, by (repeat' (first | exact Below.refl _ _ | refine bstep ?_ hb1 | refine Below.setCell ?_ (by simp <;> omega) _ | refine balloc ?_ _ | refine Below.drew ?_ | refine bdrewN ?_ _))⟩
set_option maxRecDepth 100000 in
set_option maxHeartbeats 2000000 in
theorem images_walk0 (a : Option Addr) (n c : Nat) (s : Bool) (er : Int) (w : World) (hn : n ≤ 60) (PR : Value → World → Prop) (PB : Hid (∀ v W W', PR v W → Below W.heap.size W W' → PR v W')) (C1 : Hid (∀ W, Below w.heap.size w W → Calls Try.prog 19 #[.slice a n c, .bool s] W fun e w' => ∃ v, e = .returned (.tuple #[v, .int .i64 er]) ∧ PR v w' ∧ Below W.heap.size W w')) (C2 : Hid (∀ W, Below w.heap.size w W → Calls Try.prog 20 #[.slice a n c, .bool s] W fun e w' => ∃ v, e = .returned (.tuple #[v, .int .i64 er]) ∧ PR v w' ∧ Below W.heap.size W w')) (SM : Hid (∀ v u W, PR v W → PR u W → Calls Try.prog 18 #[v, u] W fun e w' => e = .returned (.bool true) ∧ Below W.heap.size W w')) (K : Hid (∀ W, Calls Try.prog 11 #[] W fun e w' => e = .returned (.bool true) ∧ Below W.heap.size W w')) : Calls Try.prog 6 #[.slice a n c, .bool s] w fun e w' => e = .returned (.bool true) ∧ Below w.heap.size w w' := by
  have hn' : (n : Int) ≤ 60 := by omega
  go_enter Try.func6, Try.ntmps6
  go_wp2_with fail
  refine (C1.out _ (Below.refl _ w)).mono ?_
  rintro e w1 ⟨v, rfl, p1, hb1⟩
  have P1 := Lib.hid p1
  clear p1
  go_wp2_with fail
  refine (C2.out _ hb1).mono ?_
  rintro e w2 ⟨u, rfl, p2, hb2⟩
  have P2 := Lib.hid p2
  have Q2 := Lib.hid (PB.out _ _ _ P1.out hb2)
  clear p2
  go_wp2_with fail
  refine (SM.out _ _ _ Q2.out P2.out).mono ?_
  rintro e w5 ⟨rfl, hb5⟩
  go_wp2_with fail
  refine (K.out _).mono ?_
  rintro e w6 ⟨rfl, hb6⟩
  go_wp2
  go_ret
  exact ⟨rfl, by (repeat' (first | exact Below.refl _ _ | refine bstep ?_ hb6 | refine bstep ?_ hb5 | refine bstep ?_ hb2 | refine bstep ?_ hb1 | refine Below.setCell ?_ (by simp <;> omega) _ | refine balloc ?_ _ | refine Below.drew ?_ | refine bdrewN ?_ _))⟩
theorem images_walk (a : Option Addr) (n c : Nat) (Q : Nat → Pu) (s : Bool) (w : World) (hm : n ≤ maxLen) (hnil : a = none → c = 0) (r : LstU w a n Q) : Calls Try.prog 6 #[.slice a n c, .bool s] w fun e w' => e = .returned (.bool true) ∧ Below w.heap.size w w' := by
  by_cases h : 60 < n
  · exact images_long a n c s w h (by unfold maxLen at hm; omega) (Lib.hid fun W => sane_any W)
  · exact images_walk0 a n c s (icode n Q) w (by omega) (fun v W => PuR W (n + n) (icode n Q) (bth s Q n) v) (Lib.hid fun v W W' p b => puR_below p b)
      (Lib.hid fun W B => ims_any a n c Q s W (lstU_below r B) hnil (by omega)) (Lib.hid fun W B => rims_any a n c Q s W (lstU_below r B) hnil (by omega))
      (Lib.hid fun v u W p q => puR_same (n + n) _ _ (by omega) v u W p q) (Lib.hid fun W => sane_any W)

end Go.Proofs.Ytlegalibjkeccaa
