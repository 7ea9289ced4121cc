/-
  The contracts of Delay whole, and the law SoundDelays: its walk.
-/
import Derived.Test.YtlegalibjkeccaaSo12
import Derived.Test.YtlegalibjkeccaaSo9
namespace Go.Proofs.Ytlegalibjkeccaa
open Go.ChangeShapes Go.WideShapes Go.RowKit
open Sh
/-- a list of pulses of the call's own, or none where there is an error -/
def PuR (W : World) (n : Nat) (e : Int) (f : Nat → Pu) (v : Value) : Prop := if e = 0 then W.ownsRow 0 27 11 v n (pucs f n) else v = .slice none 0 0
theorem puR_below {W W' : World} {n : Nat} {e : Int} {f : Nat → Pu} {v : Value} (h : PuR W n e f v) (hb : Below W.heap.size W W') : PuR W' n e f v := by
  unfold PuR at *
  by_cases z : e = 0
  · rw [if_pos z] at h ⊢
    exact own_below9 h hb
  · rw [if_neg z] at h ⊢
    exact h
theorem puR_same (n : Nat) (e : Int) (f : Nat → Pu) (hn : n ≤ 1000) (v u : Value) (W : World) (h : PuR W n e f v) (k : PuR W n e f u) : Calls Try.prog 18 #[v, u] W fun e w' => e = .returned (.bool true) ∧ Below W.heap.size W w' := by
  unfold PuR at *
  by_cases z : e = 0
  · rw [if_pos z] at h k
    by_cases m : n = 0
    · subst m
      have key : ∀ {v : Value}, W.ownsRow 0 27 11 v 0 (pucs f 0) → ∃ A cc, v = .slice A 0 cc := fun h => by
        rcases h.2 with ⟨e, _⟩ | ⟨g, cap, cur, e, _⟩
        · exact ⟨_, _, e⟩
        · exact ⟨_, _, e⟩
      obtain ⟨A, cc, rfl⟩ := key h
      obtain ⟨B, dd, rfl⟩ := key k
      exact same8_zero A B cc dd W
    · obtain ⟨g, cap, rfl⟩ := own_slice8 h (by omega)
      obtain ⟨g', cap', rfl⟩ := own_slice8 k (by omega)
      exact same8_row g 0 g' 0 n cap cap' f W (rowU_of h) (rowU_of k) hn
  · rw [if_neg z] at h k
    rw [h, k]
    exact same8_zero none none 0 0 W
theorem del_any (a : Option Addr) (n c : Nat) (Q : Nat → Pu) (y : Int) (w : World) (r : LstU w a n Q) (hnil : a = none → c = 0) (hn : n ≤ 140737488355328) :
    Calls Try.prog 14 #[.slice a n c, .int .i64 y] w fun e w' => ∃ v, e = .returned (.tuple #[v, .int .i64 (dcode n Q y)]) ∧ PuR w' n (dcode n Q y) (shf Q y) v ∧ Below w.heap.size w w' := by
  have V := fun W (B : Below w.heap.size w W) => svp_any a n c Q W (lstU_below r B) hn
  have I := fun W => sir_any y 0 1000 W
  unfold dcode PuR
  by_cases z : vpcode n Q = 0
  · rw [if_pos z]
    rw [z] at V
    have n16 : n ≤ 16 := by
      unfold vpcode at z
      by_cases h : n ≤ 16
      · exact h
      · rw [if_neg h] at z; exact absurd z (by decide)
    have hq : ∀ k, k < n → 0 ≤ (Q k).2.1 ∧ (Q k).2.1 ≤ 1000 := fun k hk => by
      unfold vpcode at z
      rw [if_pos n16] at z
      exact (pucode_ok (pucodes_all z k hk)).2.2.1
    cases h : rngB y 0 1000 with
    | false =>
      rw [h] at I
      exact (del_i a n c y w (Lib.hid V) (Lib.hid I)).mono fun _ _ ⟨h1, h2⟩ => ⟨_, h1, by rw [if_neg (by rw [if_neg Bool.false_ne_true]; decide)], h2⟩
    | true =>
      rw [h] at I
      obtain ⟨y1, y2⟩ := rngB_iff.1 h
      rw [if_pos rfl]
      by_cases m : n = 0
      · subst m
        exact (del_z a c y w (Lib.hid V) (Lib.hid I) (Lib.hid fun W _ => clone8_zero a c W hnil) ).mono fun _ _ ⟨v, h1, h2, h3⟩ => ⟨v, h1, own_base9 h2 (Nat.zero_le _), h3⟩
      · obtain ⟨b, off, rfl, rr⟩ := r (by omega)
        exact (del_r b off n c y Q w (Lib.hid V) (Lib.hid I) (Lib.hid fun W B => clone8_row b off n c Q W (rowU_below rr B) (by omega)) (by omega) n16 hq y1 y2).mono fun _ _ ⟨v, h1, h2, h3⟩ => ⟨v, h1, by
          by_cases e : dle Q y n = 0
          · rw [if_pos e] at h2 ⊢; exact own_base9 h2 (Nat.zero_le _)
          · rw [if_neg e] at h2 ⊢; exact h2, h3⟩
  · rw [if_neg z]
    exact (del_v a n c y _ w (Lib.hid V) (bne_iff_ne.2 z)).mono fun _ _ ⟨h1, h2⟩ => ⟨_, h1, by rw [if_neg z], h2⟩
theorem rdel_any (a : Option Addr) (n c : Nat) (Q : Nat → Pu) (y : Int) (w : World) (r : LstU w a n Q) (hnil : a = none → c = 0) (hn : n ≤ 140737488355328) :
    Calls Try.prog 15 #[.slice a n c, .int .i64 y] w fun e w' => ∃ v, e = .returned (.tuple #[v, .int .i64 (dcode n Q y)]) ∧ PuR w' n (dcode n Q y) (shf Q y) v ∧ Below w.heap.size w w' := by
  have V := fun W (B : Below w.heap.size w W) => rsvp_any a n c Q W (lstU_below r B) hn
  have I := fun W => rwi8_any y 0 1000 W
  unfold dcode PuR
  by_cases z : vpcode n Q = 0
  · rw [if_pos z]
    rw [z] at V
    have n16 : n ≤ 16 := by
      unfold vpcode at z
      by_cases h : n ≤ 16
      · exact h
      · rw [if_neg h] at z; exact absurd z (by decide)
    have hq : ∀ k, k < n → 0 ≤ (Q k).2.1 ∧ (Q k).2.1 ≤ 1000 := fun k hk => by
      unfold vpcode at z
      rw [if_pos n16] at z
      exact (pucode_ok (pucodes_all z k hk)).2.2.1
    cases h : rngB y 0 1000 with
    | false =>
      rw [h] at I
      exact (rdel_i a n c y w (Lib.hid V) (Lib.hid I)).mono fun _ _ ⟨h1, h2⟩ => ⟨_, h1, by rw [if_neg (by rw [if_neg Bool.false_ne_true]; decide)], h2⟩
    | true =>
      rw [h] at I
      obtain ⟨y1, y2⟩ := rngB_iff.1 h
      rw [if_pos rfl]
      by_cases m : n = 0
      · subst m
        exact (rdel_z a c y w (Lib.hid V) (Lib.hid I) ).mono fun _ _ ⟨v, h1, h2, h3⟩ => ⟨v, h1, own_base9 h2 (Nat.zero_le _), h3⟩
      · obtain ⟨b, off, rfl, rr⟩ := r (by omega)
        exact (rdel_r b off n c y Q w (Lib.hid V) (Lib.hid I) rr n16 hq y1 y2).mono fun _ _ ⟨v, h1, h2, h3⟩ => ⟨v, h1, by
          by_cases e : dle Q y n = 0
          · rw [if_pos e] at h2 ⊢; exact own_base9 h2 (Nat.zero_le _)
          · rw [if_neg e] at h2 ⊢; exact h2, h3⟩
  · rw [if_neg z]
    exact (rdel_v a n c y _ w (Lib.hid V) (bne_iff_ne.2 z)).mono fun _ _ ⟨h1, h2⟩ => ⟨_, h1, by rw [if_neg z], h2⟩
theorem delays_long (a : Option Addr) (n c : Nat) (y : Int) (w : World) (h : 60 < n) (hn : n ≤ 9223372036854775807) (K : Hid (∀ W, Calls Try.prog 11 #[] W fun e w' => e = .returned (.bool true) ∧ Below W.heap.size W w')) : Calls Try.prog 5 #[.slice a n c, .int .i64 y] w fun e w' => e = .returned (.bool true) ∧ Below w.heap.size w w' := by
  go_enter Try.func5, Try.ntmps5
  go_wp2_with fail
  refine (K.out _).mono ?_
  rintro e w1 ⟨rfl, hb1⟩
  go_wp2
  go_ret
  exact ⟨rfl, by (repeat' (first | exact Below.refl _ _ | refine bstep ?_ hb1 | refine Below.setCell ?_ (by simp <;> omega) _ | refine balloc ?_ _ | refine Below.drew ?_ | refine bdrewN ?_ _))⟩
set_option maxRecDepth 100000 in
set_option maxHeartbeats 2000000 in
theorem delays_walk0 (a : Option Addr) (n c : Nat) (y er vc : Int) (w : World) (hn : n ≤ 60) (PR : Value → World → Prop) (PB : Hid (∀ v W W', PR v W → Below W.heap.size W W' → PR v W')) (C1 : Hid (∀ W, Below w.heap.size w W → Calls Try.prog 14 #[.slice a n c, .int .i64 y] W fun e w' => ∃ v, e = .returned (.tuple #[v, .int .i64 er]) ∧ PR v w' ∧ Below W.heap.size W w')) (C2 : Hid (∀ W, Below w.heap.size w W → Calls Try.prog 15 #[.slice a n c, .int .i64 y] W fun e w' => ∃ v, e = .returned (.tuple #[v, .int .i64 er]) ∧ PR v w' ∧ Below W.heap.size W w')) (V1 : Hid (∀ W, Below w.heap.size w W → Calls Try.prog 16 #[.slice a n c] W fun e w' => e = .returned (.int .i64 vc) ∧ Below W.heap.size W w')) (V2 : Hid (∀ W, Below w.heap.size w W → Calls Try.prog 17 #[.slice a n c] W fun e w' => e = .returned (.int .i64 vc) ∧ Below W.heap.size W w')) (SM : Hid (∀ v u W, PR v W → PR u W → Calls Try.prog 18 #[v, u] W fun e w' => e = .returned (.bool true) ∧ Below W.heap.size W w')) (K : Hid (∀ W, Calls Try.prog 11 #[] W fun e w' => e = .returned (.bool true) ∧ Below W.heap.size W w')) : Calls Try.prog 5 #[.slice a n c, .int .i64 y] w fun e w' => e = .returned (.bool true) ∧ Below w.heap.size w w' := by
  have hn' : (n : Int) ≤ 60 := by omega
  go_enter Try.func5, Try.ntmps5
  go_wp2_with fail
  refine (C1.out _ (Below.refl _ w)).mono ?_
  rintro e w1 ⟨v, rfl, p1, hb1⟩
  have P1 := Lib.hid p1
  clear p1
  go_wp2_with fail
  refine (C2.out _ hb1).mono ?_
  rintro e w2 ⟨u, rfl, p2, hb2⟩
  have P2 := Lib.hid p2
  have Q2 := Lib.hid (PB.out _ _ _ P1.out hb2)
  have B2 := Lib.hid (bstep hb1 hb2)
  clear p2
  go_wp2_with fail
  refine (V1.out _ B2.out).mono ?_
  rintro e w3 ⟨rfl, hb3⟩
  have B3 := Lib.hid (bstep B2.out hb3)
  go_wp2_with fail
  refine (V2.out _ B3.out).mono ?_
  rintro e w4 ⟨rfl, hb4⟩
  have R4 := Lib.hid (PB.out _ _ _ (PB.out _ _ _ P2.out hb3) hb4)
  have S4 := Lib.hid (PB.out _ _ _ (PB.out _ _ _ Q2.out hb3) hb4)
  go_wp2_with fail
  refine (SM.out _ _ _ S4.out R4.out).mono ?_
  rintro e w5 ⟨rfl, hb5⟩
  go_wp2_with fail
  refine (K.out _).mono ?_
  rintro e w6 ⟨rfl, hb6⟩
  go_wp2
  go_ret
  exact ⟨rfl, by (repeat' (first | exact Below.refl _ _ | refine bstep ?_ hb6 | refine bstep ?_ hb5 | refine bstep ?_ hb4 | refine bstep ?_ hb3 | refine bstep ?_ hb2 | refine bstep ?_ hb1 | refine Below.setCell ?_ (by simp <;> omega) _ | refine balloc ?_ _ | refine Below.drew ?_ | refine bdrewN ?_ _))⟩
theorem delays_walk (a : Option Addr) (n c : Nat) (Q : Nat → Pu) (y : Int) (w : World) (hm : n ≤ maxLen) (hnil : a = none → c = 0) (r : LstU w a n Q) : Calls Try.prog 5 #[.slice a n c, .int .i64 y] w fun e w' => e = .returned (.bool true) ∧ Below w.heap.size w w' := by
  by_cases h : 60 < n
  · exact delays_long a n c y w h (by unfold maxLen at hm; omega) (Lib.hid fun W => sane_any W)
  · exact delays_walk0 a n c y (dcode n Q y) (vpcode n Q) w (by omega) (fun v W => PuR W n (dcode n Q y) (shf Q y) v) (Lib.hid fun v W W' p b => puR_below p b)
      (Lib.hid fun W B => del_any a n c Q y W (lstU_below r B) hnil (by omega)) (Lib.hid fun W B => rdel_any a n c Q y W (lstU_below r B) hnil (by omega))
      (Lib.hid fun W B => svp_any a n c Q W (lstU_below r B) (by omega)) (Lib.hid fun W B => rsvp_any a n c Q W (lstU_below r B) (by omega))
      (Lib.hid fun v u W p q => puR_same n _ _ (by omega) v u W p q) (Lib.hid fun W => sane_any W)

end Go.Proofs.Ytlegalibjkeccaa
