/-
  The contracts of the document's without and det.
-/
import Derived.Test.YtllonfaogbdbnaaCr15
namespace Go.Proofs.Ytllonfaogbdbnaa
open Go.ChangeShapes Go.WideShapes Go.RowKit
open Cr
theorem oi_made (w : World) : OI (w.alloc (.cells #[] 3)) w.heap.size (.slice (some ⟨w.heap.size, 0, none⟩) 0 0) [] := World.ownsRow_made (base := w.heap.size) (e := 3) (size := 1) w #[] 0 (Nat.le_refl _) (by decide) rfl
theorem il_alloc {w : World} {A : Option Addr} {l : List Int} (h : IL w A l) (o : Obj) : IL (w.alloc o) A l := il_in h ((Below.refl _ _).alloc (Nat.le_refl _) _)
theorem erase_len {l : List Int} {k : Nat} (h : k < l.length) : (l.take k ++ l.drop (k + 1)).length = l.length - 1 := by
  rw [List.length_append, List.length_take, List.length_drop]; omega
set_option maxHeartbeats 1000000 in
theorem rwo_any (A : Option Addr) (c n k : Nat) (l : List Int) (w : World) (h : IL w A l) (hn : l.length = n) (hc : n ≤ c) (hk : k < n) (hb : n ≤ 1000) :
    Calls Try.prog 110 #[.slice A n c, .int .i64 (k : Int)] w fun e w' => ∃ A' c', e = .returned (.slice A' (n - 1) c') ∧ n - 1 ≤ c' ∧ IL w' A' (l.eraseIdx k) ∧ Below w.heap.size w w' := by
  have H := Lib.hid h
  have M0 := Lib.hid (oi_drew (oi_made w))
  have M1 := Lib.hid (oi_made w)
  have M2 := Lib.hid (oi_made w.drew)
  have HN := Lib.hid hn
  have L1 := Lib.hid (show (l.take k).length = k by rw [List.length_take]; omega)
  have L1' := Lib.hid (show ([] ++ l.take k).length = k by rw [List.nil_append, L1.out])
  have L2 := Lib.hid (show (l.drop (k + 1)).length = n - (k + 1) by rw [List.length_drop]; omega)
  have L3 := Lib.hid (show ([] ++ l.take k ++ l.drop (k + 1)).length = n - 1 by rw [List.nil_append, erase_len (by omega)]; omega)
  have EI := Lib.hid (show [] ++ l.take k ++ l.drop (k + 1) = l.eraseIdx k by rw [List.nil_append, List.eraseIdx_eq_take_drop_succ])
  have k1 : 0 ≤ (k : Int) := by omega
  have k2 : (k : Int) ≤ (c : Int) := by omega
  have k3 : (k : Int) + 1 ≤ (n : Int) := by omega
  have k4 : 0 ≤ (k : Int) + 1 := by omega
  have k5 : IntKind.i64.wrap ((k : Int) + 1) = (k : Int) + 1 := IntWalk.i64_in _ (by omega)
  have k6 : ((k : Int) + 1).toNat = k + 1 := by omega
  have NN := Lib.hid hb
  have CC := Lib.hid hc
  clear h hn hb hc
  go_enter Try.func110, Try.ntmps110
  go_wp2_with fail
  go_region_law (first
    | (refine stepI rfl (.tmp 5) (.tmp 8) rfl w.heap.size (.slice (some ⟨w.heap.size, 0, none⟩) 0 0) [] rfl M0.out (by simp) A k c (l.take k) rfl (il_take (il_drew (il_alloc H.out _)) k) L1.out.symm (by have := NN.out; simp; omega) k L1'.out ?_; intro A2 c2 w2 ho hg hb; have HO := Lib.hid ho; have HG := Lib.hid hg; have HBO := Lib.hid hb; clear ho hg hb)
    | (refine stepI rfl (.tmp 9) (.tmp 13) rfl w.heap.size (.slice A2 k c2) ([] ++ l.take k) rfl HO.out (by have := HG.out.size; simp at this; omega) (cutA A (k + 1) c) (n - (k + 1)) (c - (k + 1)) (l.drop (k + 1)) rfl (il_drop (il_in H.out (below_grown (balloc (Below.refl _ _) _) (grown_of_drew HG.out) (by simp) (fun g hg => (M1.out.lt g hg).1))) (by rw [HN.out]; exact CC.out) (k + 1)) L2.out.symm (by have := NN.out; rw [L1'.out]; omega) (n - 1) L3.out ?_; intro A3 c3 w3 ho hg hb; have HO3 := Lib.hid ho; have HG3 := Lib.hid hg; clear ho hg hb))
  all_goals
    go_wp2_with fail
    go_ret
    have B2 := below_grown (balloc (Below.refl _ _) _) (grown_of_drew HG.out) (by simp) (fun g hg => (M1.out.lt g hg).1)
    have B3 := below_grown B2 HG3.out B2.size (fun g hg => (HO.out.lt g hg).1)
    have z := oi_il HO3.out
    rw [EI.out] at z
    have y := oi_slice HO3.out
    rw [L3.out] at y
    obtain ⟨A4, c4, e4, h4⟩ := y
    injection e4 with _ _ e5
    exact ⟨A3, c3, rfl, by omega, z, B3⟩

end Go.Proofs.Ytllonfaogbdbnaa
