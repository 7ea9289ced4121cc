/-
  The contract of SameRats at equal lists; the walk of CrossProducts.
-/
import Derived.Test.YtllonfaogbdbnaaCrP6
namespace Go.Proofs.Ytllonfaogbdbnaa
open Go.ChangeShapes Go.WideShapes Go.RowKit
open Cr
set_option maxHeartbeats 1000000 in
theorem same_rats (A B : Option Addr) (c d : Nat) (l : List (Int × Int)) (w : World) (hA : RLs w A l) (hB : RLs w B l) (hn : l.length ≤ 1000) : Calls Try.prog 19 #[.slice A l.length c, .slice B l.length d] w fun e w' => e = .returned (.bool true) ∧ Below w.heap.size w w' := by
  have HA := Lib.hid hA
  have HB := Lib.hid hB
  obtain ⟨n, hnn⟩ : ∃ n, l.length = n := ⟨_, rfl⟩
  rw [hnn] at hn ⊢
  have NN := Lib.hid hnn
  have hn' : (n : Int) ≤ 1000 := by omega
  clear hA hB hnn
  go_enter Try.func19, Try.ntmps19
  go_wp2
  go_loopw [5] (fun kv wr => ∃ k : Nat, k ≤ n ∧ kv = .int .i64 k ∧ Below w.heap.size w wr) (fun kv _ => n - (intOf kv).toNat)
  case atStart => exact ⟨0, Nat.zero_le _, rfl, Below.refl _ _⟩
  case round =>
    obtain ⟨k, hk, rfl, Bw⟩ := hrel
    by_cases hlt : k < n
    · have hk1 : (k : Int) < (n : Int) := by omega
      have hk0 : 0 ≤ (k : Int) := by omega
      obtain ⟨b1, o1, rfl, hb1, hc1, hd1⟩ := rls_in HA.out Bw k (by rw [NN.out]; exact hlt)
      obtain ⟨b2, o2, rfl, hb2, hc2, hd2⟩ := rls_in HB.out Bw k (by rw [NN.out]; exact hlt)
      have BW := Lib.hid Bw
      generalize (rat_ l k).1 = y at *
      generalize (rat_ l k).2 = z at *
      clear Bw
      go_wp2_with fail
      go_quiet (fail)
      go_wp2_with fail
      go_roundw
      case rel => exact ⟨k + 1, by omega, by go_num, bdrewN BW.out _⟩
      case measure => simp [intOf]; omega
    · obtain rfl : k = n := by omega
      go_wp2
      go_ret
      exact ⟨rfl, Bw⟩
theorem prL_sm (M : List (List Int)) (x : List Int) (h : M.length ≤ 20) : (pL M x).length ≤ 1000 := by
  unfold pL; split
  · rw [prL_len]; omega
  · simp
theorem fL_sm (M : List (List Int)) (rows cols x : List Int) (h : M.length ≤ 20) : (fL M rows cols x).length ≤ 1000 := by
  unfold fL; split
  · rw [fsL_len]; omega
  · simp
def KW (w : World) (R : Option Addr) (k cr : Nat) (C : Option Addr) (l cc : Nat) (X : Option Addr) (m cx : Nat) (w1 : World) : Prop := w1.cell? ⟨w.heap.size, 0, none⟩ = some (.slice R k cr) ∧ w1.cell? ⟨w.heap.size, 1, none⟩ = some (.slice C l cc) ∧ w1.cell? ⟨w.heap.size, 2, none⟩ = some (.slice X m cx) ∧ Below w.heap.size w w1 ∧ w.heap.size < w1.heap.size
theorem kw_s {w : World} {R : Option Addr} {k cr : Nat} {C : Option Addr} {l cc : Nat} {X : Option Addr} {m cx : Nat} {w1 : World} (h : KW w R k cr C l cc X m cx w1) : w1.cell? ⟨w.heap.size, 0, none⟩ = some (.slice R k cr) ∧ w1.cell? ⟨w.heap.size, 1, none⟩ = some (.slice C l cc) ∧ w1.cell? ⟨w.heap.size, 2, none⟩ = some (.slice X m cx) ∧ Below w.heap.size w w1 ∧ w.heap.size < w1.heap.size := h
theorem kw_of {w : World} {R : Option Addr} {k cr : Nat} {C : Option Addr} {l cc : Nat} {X : Option Addr} {m cx : Nat} {w1 : World} (h : w1.cell? ⟨w.heap.size, 0, none⟩ = some (.slice R k cr) ∧ w1.cell? ⟨w.heap.size, 1, none⟩ = some (.slice C l cc) ∧ w1.cell? ⟨w.heap.size, 2, none⟩ = some (.slice X m cx) ∧ Below w.heap.size w w1 ∧ w.heap.size < w1.heap.size) : KW w R k cr C l cc X m cx w1 := h
theorem kw_drew {w : World} {R : Option Addr} {k cr : Nat} {C : Option Addr} {l cc : Nat} {X : Option Addr} {m cx : Nat} {w1 : World} (h : KW w R k cr C l cc X m cx w1) : KW w R k cr C l cc X m cx w1.drew := by
  obtain ⟨h0, h1, h2, hB, b0⟩ := h
  exact ⟨h0, h1, h2, Below.drew hB, b0⟩
theorem kw_drewN {w : World} {R : Option Addr} {k cr : Nat} {C : Option Addr} {l cc : Nat} {X : Option Addr} {m cx : Nat} {w1 : World} (h : KW w R k cr C l cc X m cx w1) (kk : Nat) : KW w R k cr C l cc X m cx (w1.drewN kk) := by
  obtain ⟨h0, h1, h2, hB, b0⟩ := h
  exact ⟨h0, h1, h2, bdrewN hB kk, b0⟩
theorem kw_bel {w : World} {R : Option Addr} {k cr : Nat} {C : Option Addr} {l cc : Nat} {X : Option Addr} {m cx : Nat} {w1 : World} (h : KW w R k cr C l cc X m cx w1) : Below w.heap.size w w1 := by
  obtain ⟨h0, h1, h2, hB, b0⟩ := h
  exact hB
theorem kw_below {w : World} {R : Option Addr} {k cr : Nat} {C : Option Addr} {l cc : Nat} {X : Option Addr} {m cx : Nat} {w1 w2 : World} (h : KW w R k cr C l cc X m cx w1) (hb : Below w1.heap.size w1 w2) : KW w R k cr C l cc X m cx w2 := by
  obtain ⟨h0, h1, h2, hB, b0⟩ := h
  exact ⟨(hb.cell (p := ⟨w.heap.size, 0, none⟩) b0).trans h0, (hb.cell (p := ⟨w.heap.size, 1, none⟩) b0).trans h1, (hb.cell (p := ⟨w.heap.size, 2, none⟩) b0).trans h2, bstep hB hb, Nat.lt_of_lt_of_le b0 hb.size⟩
theorem kw_new (w : World) (R : Option Addr) (k cr : Nat) (C : Option Addr) (l cc : Nat) (X : Option Addr) (m cx : Nat) : KW w R k cr C l cc X m cx (w.alloc (.cells #[.slice R k cr, .slice C l cc, .slice X m cx] 54)) := ⟨by go_simp, by go_simp, by go_simp, balloc (Below.refl _ _) _, by simp⟩
end Go.Proofs.Ytllonfaogbdbnaa
