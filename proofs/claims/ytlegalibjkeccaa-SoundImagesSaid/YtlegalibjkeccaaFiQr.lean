/-
  The contract of quarters: its walk.
-/
import Derived.Test.YtlegalibjkeccaaFiQ3
namespace Go.Proofs.Ytlegalibjkeccaa
open Go.ChangeShapes Go.WideShapes Go.RowKit
open Sh
set_option maxRecDepth 100000 in
set_option maxHeartbeats 4000000 in
theorem quarters_any (a b c : P3) (w : World) (ha : BdP 1152921504606846976 a) (hb : BdP 1152921504606846976 b) (hc : BdP 1152921504606846976 c) :
    Calls Try.prog 89 #[pnv a b c] w fun e w' => e = .returned (.agg #[.int .i64 (tim 2 a).1, .int .i64 (tim 2 a).2.1, .int .i64 (tim 2 a).2.2, .int .i64 (add a b).1, .int .i64 (add a b).2.1, .int .i64 (add a b).2.2, .int .i64 (add c a).1, .int .i64 (add c a).2.1, .int .i64 (add c a).2.2, .int .i64 (add a b).1, .int .i64 (add a b).2.1, .int .i64 (add a b).2.2, .int .i64 (tim 2 b).1, .int .i64 (tim 2 b).2.1, .int .i64 (tim 2 b).2.2, .int .i64 (add b c).1, .int .i64 (add b c).2.1, .int .i64 (add b c).2.2, .int .i64 (add c a).1, .int .i64 (add c a).2.1, .int .i64 (add c a).2.2, .int .i64 (add b c).1, .int .i64 (add b c).2.1, .int .i64 (add b c).2.2, .int .i64 (tim 2 c).1, .int .i64 (tim 2 c).2.1, .int .i64 (tim 2 c).2.2, .int .i64 (add a b).1, .int .i64 (add a b).2.1, .int .i64 (add a b).2.2, .int .i64 (add b c).1, .int .i64 (add b c).2.1, .int .i64 (add b c).2.2, .int .i64 (add c a).1, .int .i64 (add c a).2.1, .int .i64 (add c a).2.2]) ∧ Below w.heap.size w w' := by
  have HA := Lib.hid (t62 ha)
  have HB := Lib.hid (t62 hb)
  have HC := Lib.hid (t62 hc)
  have AB := Lib.hid (a62 ha hb)
  have BC := Lib.hid (a62 hb hc)
  have CA := Lib.hid (a62 hc ha)
  clear ha hb hc
  go_enter Try.func89, Try.ntmps89
  go_wp2_with fail
  rename_i K1 hK1
  refine wp_region_inv (qr1I w a b c (w.heap.size + 1 + 1)) (by kernel_rfl) ?_ ?_ ?_
  · exact ⟨by simp, fun _ => undef, rfl, by simp, qg_drew (pan_zero w a b c _ _), PV.nought, PV.nought, PV.nought, PV.nought, PV.nought, PV.nought, PV.nought, PV.nought, PV.nought, QA.nought, QA.nought, QA.nought, DD.nought, DD.nought, DD.nought⟩
  · simp only [allOps]
    refine ⟨?_, ?_, ?_, ?_, ?_, ?_, ?_, ?_, ?_, ?_, ?_, ?_, ?_, ?_, ?_, trivial⟩
    · rintro l A W ⟨hl, X, rfl, hN, g, p0, p1, p2, p3, p4, p5, p6, p7, p8, qa0, qa1, qa2, d01, d02, d12⟩ h1 hp K hK
      have hT : ∀ X : Nat → Value, qr1T w a b c  X = #[pnv a b c, .pointer (some ⟨w.heap.size, 0, none⟩), .pointer (some ⟨w.heap.size + 1, 0, none⟩), X 3, X 4, X 5, undef, undef, undef, X 9, X 10, X 11, X 12, X 13, X 14, X 15, X 16, X 17, undef, undef, undef, undef, undef, undef, undef, undef, undef, undef, undef, undef, undef, undef, undef, undef, undef, undef, undef, undef, undef, undef, undef, undef, undef, undef, undef, undef, undef, undef, undef, undef] := fun _ => rfl
      rw [hT]
      have p0' := Lib.hid p0
      have p1' := Lib.hid p1
      have p2' := Lib.hid p2
      have p3' := Lib.hid p3
      have p4' := Lib.hid p4
      have p5' := Lib.hid p5
      have p6' := Lib.hid p6
      have p7' := Lib.hid p7
      have p8' := Lib.hid p8
      have qa0' := Lib.hid qa0
      have qa1' := Lib.hid qa1
      have qa2' := Lib.hid qa2
      have d01' := Lib.hid d01
      have d02' := Lib.hid d02
      have d12' := Lib.hid d12
      have g' := Lib.hid g
      clear d12 d02 d01 qa2 qa1 qa0 p8 p7 p6 p5 p4 p3 p2 p1 p0 g
      have hN' := Lib.hid hN; clear hN; have hl' := Lib.hid hl; clear hl; have h1' := Lib.hid h1; clear h1; have hp' := Lib.hid hp; clear hp; have hK' := Lib.hid hK; clear hK
      go_simp
      have hK := hK'.out; have hN := hN'.out; have hl := hl'.out; have h1 := h1'.out
      have p0 := p0'.out
      have p1 := p1'.out
      have p2 := p2'.out
      have p3 := p3'.out
      have p4 := p4'.out
      have p5 := p5'.out
      have p6 := p6'.out
      have p7 := p7'.out
      have p8 := p8'.out
      have qa0 := qa0'.out
      have qa1 := qa1'.out
      have qa2 := qa2'.out
      have d01 := d01'.out
      have d02 := d02'.out
      have d12 := d12'.out
      have g := g'.out
      refine hK _ _ ⟨by simpa using hl, (upd X 9 (.pointer (some ⟨w.heap.size, 0, none⟩))), rfl, hN, g, PV.made rfl, p1.keep (by decide), p2.keep (by decide), p3.keep (by decide), p4.keep (by decide), p5.keep (by decide), p6.keep (by decide), p7.keep (by decide), p8.keep (by decide), qa0.keep (by decide) (by decide) (fun _ _ h => h), qa1.keep (by decide) (by decide) (fun _ _ h => h), qa2.keep (by decide) (by decide) (fun _ _ h => h), d01.keep (by decide) (by decide), d02.keep (by decide) (by decide), d12.keep (by decide) (by decide)⟩
    · rintro l A W ⟨hl, X, rfl, hN, g, p0, p1, p2, p3, p4, p5, p6, p7, p8, qa0, qa1, qa2, d01, d02, d12⟩ h1 hp K hK
      have e := p0 (hp ⟨0, .data⟩ (by simp) rfl)
      obtain ⟨c0, c1, c2, c3, c4, c5, c6, c7, c8⟩ := pan_cells g.1
      have hT : ∀ X : Nat → Value, qr1T w a b c  X = #[pnv a b c, .pointer (some ⟨w.heap.size, 0, none⟩), .pointer (some ⟨w.heap.size + 1, 0, none⟩), X 3, X 4, X 5, undef, undef, undef, X 9, X 10, X 11, X 12, X 13, X 14, X 15, X 16, X 17, undef, undef, undef, undef, undef, undef, undef, undef, undef, undef, undef, undef, undef, undef, undef, undef, undef, undef, undef, undef, undef, undef, undef, undef, undef, undef, undef, undef, undef, undef, undef, undef] := fun _ => rfl
      rw [hT]
      have p0' := Lib.hid p0
      have p1' := Lib.hid p1
      have p2' := Lib.hid p2
      have p3' := Lib.hid p3
      have p4' := Lib.hid p4
      have p5' := Lib.hid p5
      have p6' := Lib.hid p6
      have p7' := Lib.hid p7
      have p8' := Lib.hid p8
      have qa0' := Lib.hid qa0
      have qa1' := Lib.hid qa1
      have qa2' := Lib.hid qa2
      have d01' := Lib.hid d01
      have d02' := Lib.hid d02
      have d12' := Lib.hid d12
      have g' := Lib.hid g
      clear d12 d02 d01 qa2 qa1 qa0 p8 p7 p6 p5 p4 p3 p2 p1 p0 g
      have hN' := Lib.hid hN; clear hN; have hl' := Lib.hid hl; clear hl; have h1' := Lib.hid h1; clear h1; have hp' := Lib.hid hp; clear hp; have hK' := Lib.hid hK; clear hK
      go_simp
      have hK := hK'.out; have hN := hN'.out; have hl := hl'.out; have h1 := h1'.out
      have p0 := p0'.out
      have p1 := p1'.out
      have p2 := p2'.out
      have p3 := p3'.out
      have p4 := p4'.out
      have p5 := p5'.out
      have p6 := p6'.out
      have p7 := p7'.out
      have p8 := p8'.out
      have qa0 := qa0'.out
      have qa1 := qa1'.out
      have qa2 := qa2'.out
      have d01 := d01'.out
      have d02 := d02'.out
      have d12 := d12'.out
      have g := g'.out
      refine hK _ _ ⟨by simpa using hl, (upd (upd X 9 (.pointer (some ⟨w.heap.size, 0, none⟩))) 10 (ptv a)), rfl, hN, g, PV.made rfl, PV.made rfl, p2.keep (by decide), p3.keep (by decide), p4.keep (by decide), p5.keep (by decide), p6.keep (by decide), p7.keep (by decide), p8.keep (by decide), qa0.keep (by decide) (by decide) (fun _ _ h => h), qa1.keep (by decide) (by decide) (fun _ _ h => h), qa2.keep (by decide) (by decide) (fun _ _ h => h), d01.keep (by decide) (by decide), d02.keep (by decide) (by decide), d12.keep (by decide) (by decide)⟩
    · rintro l A W ⟨hl, X, rfl, hN, g, p0, p1, p2, p3, p4, p5, p6, p7, p8, qa0, qa1, qa2, d01, d02, d12⟩ h1 hp K hK
      have e1 := p1 (hp ⟨1, .data⟩ (by simp) rfl)
      have hT : ∀ X : Nat → Value, qr1T w a b c  X = #[pnv a b c, .pointer (some ⟨w.heap.size, 0, none⟩), .pointer (some ⟨w.heap.size + 1, 0, none⟩), X 3, X 4, X 5, undef, undef, undef, X 9, X 10, X 11, X 12, X 13, X 14, X 15, X 16, X 17, undef, undef, undef, undef, undef, undef, undef, undef, undef, undef, undef, undef, undef, undef, undef, undef, undef, undef, undef, undef, undef, undef, undef, undef, undef, undef, undef, undef, undef, undef, undef, undef] := fun _ => rfl
      rw [hT]
      have p0' := Lib.hid p0
      have p1' := Lib.hid p1
      have p2' := Lib.hid p2
      have p3' := Lib.hid p3
      have p4' := Lib.hid p4
      have p5' := Lib.hid p5
      have p6' := Lib.hid p6
      have p7' := Lib.hid p7
      have p8' := Lib.hid p8
      have qa0' := Lib.hid qa0
      have qa1' := Lib.hid qa1
      have qa2' := Lib.hid qa2
      have d01' := Lib.hid d01
      have d02' := Lib.hid d02
      have d12' := Lib.hid d12
      have g' := Lib.hid g
      clear d12 d02 d01 qa2 qa1 qa0 p8 p7 p6 p5 p4 p3 p2 p1 p0 g
      have hN' := Lib.hid hN; clear hN; have hl' := Lib.hid hl; clear hl; have h1' := Lib.hid h1; clear h1; have hp' := Lib.hid hp; clear hp; have hK' := Lib.hid hK; clear hK
      go_simp
      go_at_call 93
      refine (ftimes_any 2 a _ (HA.out)).mono ?_
      rintro e W1 ⟨rfl, hb⟩
      (try dsimp only)
      have hK := hK'.out; have hN := hN'.out; have hl := hl'.out; have h1 := h1'.out
      have p0 := p0'.out
      have p1 := p1'.out
      have p2 := p2'.out
      have p3 := p3'.out
      have p4 := p4'.out
      have p5 := p5'.out
      have p6 := p6'.out
      have p7 := p7'.out
      have p8 := p8'.out
      have qa0 := qa0'.out
      have qa1 := qa1'.out
      have qa2 := qa2'.out
      have d01 := d01'.out
      have d02 := d02'.out
      have d12 := d12'.out
      have g := g'.out
      refine hK _ _ ⟨by simpa using hl, (upd (upd X 10 (ptv a)) 11 (ptv (tim 2 a))), rfl, Nat.le_trans hN hb.size, qg_in g (hb.mono hN) (by omega), p0.keep (by decide), PV.made rfl, PV.made rfl, p3.keep (by decide), p4.keep (by decide), p5.keep (by decide), p6.keep (by decide), p7.keep (by decide), p8.keep (by decide), qa0.keep (by decide) (by decide) (fun _ _ h => own_below h hb), qa1.keep (by decide) (by decide) (fun _ _ h => own_below h hb), qa2.keep (by decide) (by decide) (fun _ _ h => own_below h hb), d01.keep (by decide) (by decide), d02.keep (by decide) (by decide), d12.keep (by decide) (by decide)⟩
    · rintro l A W ⟨hl, X, rfl, hN, g, p0, p1, p2, p3, p4, p5, p6, p7, p8, qa0, qa1, qa2, d01, d02, d12⟩ h1 hp K hK
      have hT : ∀ X : Nat → Value, qr1T w a b c  X = #[pnv a b c, .pointer (some ⟨w.heap.size, 0, none⟩), .pointer (some ⟨w.heap.size + 1, 0, none⟩), X 3, X 4, X 5, undef, undef, undef, X 9, X 10, X 11, X 12, X 13, X 14, X 15, X 16, X 17, undef, undef, undef, undef, undef, undef, undef, undef, undef, undef, undef, undef, undef, undef, undef, undef, undef, undef, undef, undef, undef, undef, undef, undef, undef, undef, undef, undef, undef, undef, undef, undef] := fun _ => rfl
      rw [hT]
      have p0' := Lib.hid p0
      have p1' := Lib.hid p1
      have p2' := Lib.hid p2
      have p3' := Lib.hid p3
      have p4' := Lib.hid p4
      have p5' := Lib.hid p5
      have p6' := Lib.hid p6
      have p7' := Lib.hid p7
      have p8' := Lib.hid p8
      have qa0' := Lib.hid qa0
      have qa1' := Lib.hid qa1
      have qa2' := Lib.hid qa2
      have d01' := Lib.hid d01
      have d02' := Lib.hid d02
      have d12' := Lib.hid d12
      have g' := Lib.hid g
      clear d12 d02 d01 qa2 qa1 qa0 p8 p7 p6 p5 p4 p3 p2 p1 p0 g
      have hN' := Lib.hid hN; clear hN; have hl' := Lib.hid hl; clear hl; have h1' := Lib.hid h1; clear h1; have hp' := Lib.hid hp; clear hp; have hK' := Lib.hid hK; clear hK
      go_simp
      have hK := hK'.out; have hN := hN'.out; have hl := hl'.out; have h1 := h1'.out
      have p0 := p0'.out
      have p1 := p1'.out
      have p2 := p2'.out
      have p3 := p3'.out
      have p4 := p4'.out
      have p5 := p5'.out
      have p6 := p6'.out
      have p7 := p7'.out
      have p8 := p8'.out
      have qa0 := qa0'.out
      have qa1 := qa1'.out
      have qa2 := qa2'.out
      have d01 := d01'.out
      have d02 := d02'.out
      have d12 := d12'.out
      have g := g'.out
      refine hK _ _ ⟨by simpa using hl, (upd X 12 (.pointer (some ⟨w.heap.size, 3, none⟩))), rfl, hN, g, p0.keep (by decide), p1.keep (by decide), p2.keep (by decide), PV.made rfl, p4.keep (by decide), p5.keep (by decide), p6.keep (by decide), p7.keep (by decide), p8.keep (by decide), qa0.keep (by decide) (by decide) (fun _ _ h => h), qa1.keep (by decide) (by decide) (fun _ _ h => h), qa2.keep (by decide) (by decide) (fun _ _ h => h), d01.keep (by decide) (by decide), d02.keep (by decide) (by decide), d12.keep (by decide) (by decide)⟩
    · rintro l A W ⟨hl, X, rfl, hN, g, p0, p1, p2, p3, p4, p5, p6, p7, p8, qa0, qa1, qa2, d01, d02, d12⟩ h1 hp K hK
      have e := p3 (hp ⟨3, .data⟩ (by simp) rfl)
      obtain ⟨c0, c1, c2, c3, c4, c5, c6, c7, c8⟩ := pan_cells g.1
      have hT : ∀ X : Nat → Value, qr1T w a b c  X = #[pnv a b c, .pointer (some ⟨w.heap.size, 0, none⟩), .pointer (some ⟨w.heap.size + 1, 0, none⟩), X 3, X 4, X 5, undef, undef, undef, X 9, X 10, X 11, X 12, X 13, X 14, X 15, X 16, X 17, undef, undef, undef, undef, undef, undef, undef, undef, undef, undef, undef, undef, undef, undef, undef, undef, undef, undef, undef, undef, undef, undef, undef, undef, undef, undef, undef, undef, undef, undef, undef, undef] := fun _ => rfl
      rw [hT]
      have p0' := Lib.hid p0
      have p1' := Lib.hid p1
      have p2' := Lib.hid p2
      have p3' := Lib.hid p3
      have p4' := Lib.hid p4
      have p5' := Lib.hid p5
      have p6' := Lib.hid p6
      have p7' := Lib.hid p7
      have p8' := Lib.hid p8
      have qa0' := Lib.hid qa0
      have qa1' := Lib.hid qa1
      have qa2' := Lib.hid qa2
      have d01' := Lib.hid d01
      have d02' := Lib.hid d02
      have d12' := Lib.hid d12
      have g' := Lib.hid g
      clear d12 d02 d01 qa2 qa1 qa0 p8 p7 p6 p5 p4 p3 p2 p1 p0 g
      have hN' := Lib.hid hN; clear hN; have hl' := Lib.hid hl; clear hl; have h1' := Lib.hid h1; clear h1; have hp' := Lib.hid hp; clear hp; have hK' := Lib.hid hK; clear hK
      go_simp
      have hK := hK'.out; have hN := hN'.out; have hl := hl'.out; have h1 := h1'.out
      have p0 := p0'.out
      have p1 := p1'.out
      have p2 := p2'.out
      have p3 := p3'.out
      have p4 := p4'.out
      have p5 := p5'.out
      have p6 := p6'.out
      have p7 := p7'.out
      have p8 := p8'.out
      have qa0 := qa0'.out
      have qa1 := qa1'.out
      have qa2 := qa2'.out
      have d01 := d01'.out
      have d02 := d02'.out
      have d12 := d12'.out
      have g := g'.out
      refine hK _ _ ⟨by simpa using hl, (upd (upd X 12 (.pointer (some ⟨w.heap.size, 3, none⟩))) 13 (ptv b)), rfl, hN, g, p0.keep (by decide), p1.keep (by decide), p2.keep (by decide), PV.made rfl, PV.made rfl, p5.keep (by decide), p6.keep (by decide), p7.keep (by decide), p8.keep (by decide), qa0.keep (by decide) (by decide) (fun _ _ h => h), qa1.keep (by decide) (by decide) (fun _ _ h => h), qa2.keep (by decide) (by decide) (fun _ _ h => h), d01.keep (by decide) (by decide), d02.keep (by decide) (by decide), d12.keep (by decide) (by decide)⟩
    · rintro l A W ⟨hl, X, rfl, hN, g, p0, p1, p2, p3, p4, p5, p6, p7, p8, qa0, qa1, qa2, d01, d02, d12⟩ h1 hp K hK
      have e4 := p4 (hp ⟨4, .data⟩ (by simp) rfl)
      have hT : ∀ X : Nat → Value, qr1T w a b c  X = #[pnv a b c, .pointer (some ⟨w.heap.size, 0, none⟩), .pointer (some ⟨w.heap.size + 1, 0, none⟩), X 3, X 4, X 5, undef, undef, undef, X 9, X 10, X 11, X 12, X 13, X 14, X 15, X 16, X 17, undef, undef, undef, undef, undef, undef, undef, undef, undef, undef, undef, undef, undef, undef, undef, undef, undef, undef, undef, undef, undef, undef, undef, undef, undef, undef, undef, undef, undef, undef, undef, undef] := fun _ => rfl
      rw [hT]
      have p0' := Lib.hid p0
      have p1' := Lib.hid p1
      have p2' := Lib.hid p2
      have p3' := Lib.hid p3
      have p4' := Lib.hid p4
      have p5' := Lib.hid p5
      have p6' := Lib.hid p6
      have p7' := Lib.hid p7
      have p8' := Lib.hid p8
      have qa0' := Lib.hid qa0
      have qa1' := Lib.hid qa1
      have qa2' := Lib.hid qa2
      have d01' := Lib.hid d01
      have d02' := Lib.hid d02
      have d12' := Lib.hid d12
      have g' := Lib.hid g
      clear d12 d02 d01 qa2 qa1 qa0 p8 p7 p6 p5 p4 p3 p2 p1 p0 g
      have hN' := Lib.hid hN; clear hN; have hl' := Lib.hid hl; clear hl; have h1' := Lib.hid h1; clear h1; have hp' := Lib.hid hp; clear hp; have hK' := Lib.hid hK; clear hK
      go_simp
      go_at_call 93
      refine (ftimes_any 2 b _ (HB.out)).mono ?_
      rintro e W1 ⟨rfl, hb⟩
      (try dsimp only)
      have hK := hK'.out; have hN := hN'.out; have hl := hl'.out; have h1 := h1'.out
      have p0 := p0'.out
      have p1 := p1'.out
      have p2 := p2'.out
      have p3 := p3'.out
      have p4 := p4'.out
      have p5 := p5'.out
      have p6 := p6'.out
      have p7 := p7'.out
      have p8 := p8'.out
      have qa0 := qa0'.out
      have qa1 := qa1'.out
      have qa2 := qa2'.out
      have d01 := d01'.out
      have d02 := d02'.out
      have d12 := d12'.out
      have g := g'.out
      refine hK _ _ ⟨by simpa using hl, (upd (upd X 13 (ptv b)) 14 (ptv (tim 2 b))), rfl, Nat.le_trans hN hb.size, qg_in g (hb.mono hN) (by omega), p0.keep (by decide), p1.keep (by decide), p2.keep (by decide), p3.keep (by decide), PV.made rfl, PV.made rfl, p6.keep (by decide), p7.keep (by decide), p8.keep (by decide), qa0.keep (by decide) (by decide) (fun _ _ h => own_below h hb), qa1.keep (by decide) (by decide) (fun _ _ h => own_below h hb), qa2.keep (by decide) (by decide) (fun _ _ h => own_below h hb), d01.keep (by decide) (by decide), d02.keep (by decide) (by decide), d12.keep (by decide) (by decide)⟩
    · rintro l A W ⟨hl, X, rfl, hN, g, p0, p1, p2, p3, p4, p5, p6, p7, p8, qa0, qa1, qa2, d01, d02, d12⟩ h1 hp K hK
      have hT : ∀ X : Nat → Value, qr1T w a b c  X = #[pnv a b c, .pointer (some ⟨w.heap.size, 0, none⟩), .pointer (some ⟨w.heap.size + 1, 0, none⟩), X 3, X 4, X 5, undef, undef, undef, X 9, X 10, X 11, X 12, X 13, X 14, X 15, X 16, X 17, undef, undef, undef, undef, undef, undef, undef, undef, undef, undef, undef, undef, undef, undef, undef, undef, undef, undef, undef, undef, undef, undef, undef, undef, undef, undef, undef, undef, undef, undef, undef, undef] := fun _ => rfl
      rw [hT]
      have p0' := Lib.hid p0
      have p1' := Lib.hid p1
      have p2' := Lib.hid p2
      have p3' := Lib.hid p3
      have p4' := Lib.hid p4
      have p5' := Lib.hid p5
      have p6' := Lib.hid p6
      have p7' := Lib.hid p7
      have p8' := Lib.hid p8
      have qa0' := Lib.hid qa0
      have qa1' := Lib.hid qa1
      have qa2' := Lib.hid qa2
      have d01' := Lib.hid d01
      have d02' := Lib.hid d02
      have d12' := Lib.hid d12
      have g' := Lib.hid g
      clear d12 d02 d01 qa2 qa1 qa0 p8 p7 p6 p5 p4 p3 p2 p1 p0 g
      have hN' := Lib.hid hN; clear hN; have hl' := Lib.hid hl; clear hl; have h1' := Lib.hid h1; clear h1; have hp' := Lib.hid hp; clear hp; have hK' := Lib.hid hK; clear hK
      go_simp
      have hK := hK'.out; have hN := hN'.out; have hl := hl'.out; have h1 := h1'.out
      have p0 := p0'.out
      have p1 := p1'.out
      have p2 := p2'.out
      have p3 := p3'.out
      have p4 := p4'.out
      have p5 := p5'.out
      have p6 := p6'.out
      have p7 := p7'.out
      have p8 := p8'.out
      have qa0 := qa0'.out
      have qa1 := qa1'.out
      have qa2 := qa2'.out
      have d01 := d01'.out
      have d02 := d02'.out
      have d12 := d12'.out
      have g := g'.out
      refine hK _ _ ⟨by simpa using hl, (upd X 15 (.pointer (some ⟨w.heap.size, 6, none⟩))), rfl, hN, g, p0.keep (by decide), p1.keep (by decide), p2.keep (by decide), p3.keep (by decide), p4.keep (by decide), p5.keep (by decide), PV.made rfl, p7.keep (by decide), p8.keep (by decide), qa0.keep (by decide) (by decide) (fun _ _ h => h), qa1.keep (by decide) (by decide) (fun _ _ h => h), qa2.keep (by decide) (by decide) (fun _ _ h => h), d01.keep (by decide) (by decide), d02.keep (by decide) (by decide), d12.keep (by decide) (by decide)⟩
    · rintro l A W ⟨hl, X, rfl, hN, g, p0, p1, p2, p3, p4, p5, p6, p7, p8, qa0, qa1, qa2, d01, d02, d12⟩ h1 hp K hK
      have e := p6 (hp ⟨6, .data⟩ (by simp) rfl)
      obtain ⟨c0, c1, c2, c3, c4, c5, c6, c7, c8⟩ := pan_cells g.1
      have hT : ∀ X : Nat → Value, qr1T w a b c  X = #[pnv a b c, .pointer (some ⟨w.heap.size, 0, none⟩), .pointer (some ⟨w.heap.size + 1, 0, none⟩), X 3, X 4, X 5, undef, undef, undef, X 9, X 10, X 11, X 12, X 13, X 14, X 15, X 16, X 17, undef, undef, undef, undef, undef, undef, undef, undef, undef, undef, undef, undef, undef, undef, undef, undef, undef, undef, undef, undef, undef, undef, undef, undef, undef, undef, undef, undef, undef, undef, undef, undef] := fun _ => rfl
      rw [hT]
      have p0' := Lib.hid p0
      have p1' := Lib.hid p1
      have p2' := Lib.hid p2
      have p3' := Lib.hid p3
      have p4' := Lib.hid p4
      have p5' := Lib.hid p5
      have p6' := Lib.hid p6
      have p7' := Lib.hid p7
      have p8' := Lib.hid p8
      have qa0' := Lib.hid qa0
      have qa1' := Lib.hid qa1
      have qa2' := Lib.hid qa2
      have d01' := Lib.hid d01
      have d02' := Lib.hid d02
      have d12' := Lib.hid d12
      have g' := Lib.hid g
      clear d12 d02 d01 qa2 qa1 qa0 p8 p7 p6 p5 p4 p3 p2 p1 p0 g
      have hN' := Lib.hid hN; clear hN; have hl' := Lib.hid hl; clear hl; have h1' := Lib.hid h1; clear h1; have hp' := Lib.hid hp; clear hp; have hK' := Lib.hid hK; clear hK
      go_simp
      have hK := hK'.out; have hN := hN'.out; have hl := hl'.out; have h1 := h1'.out
      have p0 := p0'.out
      have p1 := p1'.out
      have p2 := p2'.out
      have p3 := p3'.out
      have p4 := p4'.out
      have p5 := p5'.out
      have p6 := p6'.out
      have p7 := p7'.out
      have p8 := p8'.out
      have qa0 := qa0'.out
      have qa1 := qa1'.out
      have qa2 := qa2'.out
      have d01 := d01'.out
      have d02 := d02'.out
      have d12 := d12'.out
      have g := g'.out
      refine hK _ _ ⟨by simpa using hl, (upd (upd X 15 (.pointer (some ⟨w.heap.size, 6, none⟩))) 16 (ptv c)), rfl, hN, g, p0.keep (by decide), p1.keep (by decide), p2.keep (by decide), p3.keep (by decide), p4.keep (by decide), p5.keep (by decide), PV.made rfl, PV.made rfl, p8.keep (by decide), qa0.keep (by decide) (by decide) (fun _ _ h => h), qa1.keep (by decide) (by decide) (fun _ _ h => h), qa2.keep (by decide) (by decide) (fun _ _ h => h), d01.keep (by decide) (by decide), d02.keep (by decide) (by decide), d12.keep (by decide) (by decide)⟩
    · rintro l A W ⟨hl, X, rfl, hN, g, p0, p1, p2, p3, p4, p5, p6, p7, p8, qa0, qa1, qa2, d01, d02, d12⟩ h1 hp K hK
      have e7 := p7 (hp ⟨7, .data⟩ (by simp) rfl)
      have hT : ∀ X : Nat → Value, qr1T w a b c  X = #[pnv a b c, .pointer (some ⟨w.heap.size, 0, none⟩), .pointer (some ⟨w.heap.size + 1, 0, none⟩), X 3, X 4, X 5, undef, undef, undef, X 9, X 10, X 11, X 12, X 13, X 14, X 15, X 16, X 17, undef, undef, undef, undef, undef, undef, undef, undef, undef, undef, undef, undef, undef, undef, undef, undef, undef, undef, undef, undef, undef, undef, undef, undef, undef, undef, undef, undef, undef, undef, undef, undef] := fun _ => rfl
      rw [hT]
      have p0' := Lib.hid p0
      have p1' := Lib.hid p1
      have p2' := Lib.hid p2
      have p3' := Lib.hid p3
      have p4' := Lib.hid p4
      have p5' := Lib.hid p5
      have p6' := Lib.hid p6
      have p7' := Lib.hid p7
      have p8' := Lib.hid p8
      have qa0' := Lib.hid qa0
      have qa1' := Lib.hid qa1
      have qa2' := Lib.hid qa2
      have d01' := Lib.hid d01
      have d02' := Lib.hid d02
      have d12' := Lib.hid d12
      have g' := Lib.hid g
      clear d12 d02 d01 qa2 qa1 qa0 p8 p7 p6 p5 p4 p3 p2 p1 p0 g
      have hN' := Lib.hid hN; clear hN; have hl' := Lib.hid hl; clear hl; have h1' := Lib.hid h1; clear h1; have hp' := Lib.hid hp; clear hp; have hK' := Lib.hid hK; clear hK
      go_simp
      go_at_call 93
      refine (ftimes_any 2 c _ (HC.out)).mono ?_
      rintro e W1 ⟨rfl, hb⟩
      (try dsimp only)
      have hK := hK'.out; have hN := hN'.out; have hl := hl'.out; have h1 := h1'.out
      have p0 := p0'.out
      have p1 := p1'.out
      have p2 := p2'.out
      have p3 := p3'.out
      have p4 := p4'.out
      have p5 := p5'.out
      have p6 := p6'.out
      have p7 := p7'.out
      have p8 := p8'.out
      have qa0 := qa0'.out
      have qa1 := qa1'.out
      have qa2 := qa2'.out
      have d01 := d01'.out
      have d02 := d02'.out
      have d12 := d12'.out
      have g := g'.out
      refine hK _ _ ⟨by simpa using hl, (upd (upd X 16 (ptv c)) 17 (ptv (tim 2 c))), rfl, Nat.le_trans hN hb.size, qg_in g (hb.mono hN) (by omega), p0.keep (by decide), p1.keep (by decide), p2.keep (by decide), p3.keep (by decide), p4.keep (by decide), p5.keep (by decide), p6.keep (by decide), PV.made rfl, PV.made rfl, qa0.keep (by decide) (by decide) (fun _ _ h => own_below h hb), qa1.keep (by decide) (by decide) (fun _ _ h => own_below h hb), qa2.keep (by decide) (by decide) (fun _ _ h => own_below h hb), d01.keep (by decide) (by decide), d02.keep (by decide) (by decide), d12.keep (by decide) (by decide)⟩
    · rintro l A W ⟨hl, X, rfl, hN, g, p0, p1, p2, p3, p4, p5, p6, p7, p8, qa0, qa1, qa2, d01, d02, d12⟩ h1 hp K hK
      have hT : ∀ X : Nat → Value, qr1T w a b c  X = #[pnv a b c, .pointer (some ⟨w.heap.size, 0, none⟩), .pointer (some ⟨w.heap.size + 1, 0, none⟩), X 3, X 4, X 5, undef, undef, undef, X 9, X 10, X 11, X 12, X 13, X 14, X 15, X 16, X 17, undef, undef, undef, undef, undef, undef, undef, undef, undef, undef, undef, undef, undef, undef, undef, undef, undef, undef, undef, undef, undef, undef, undef, undef, undef, undef, undef, undef, undef, undef, undef, undef] := fun _ => rfl
      rw [hT]
      have p0' := Lib.hid p0
      have p1' := Lib.hid p1
      have p2' := Lib.hid p2
      have p3' := Lib.hid p3
      have p4' := Lib.hid p4
      have p5' := Lib.hid p5
      have p6' := Lib.hid p6
      have p7' := Lib.hid p7
      have p8' := Lib.hid p8
      have qa0' := Lib.hid qa0
      have qa1' := Lib.hid qa1
      have qa2' := Lib.hid qa2
      have d01' := Lib.hid d01
      have d02' := Lib.hid d02
      have d12' := Lib.hid d12
      have g' := Lib.hid g
      clear d12 d02 d01 qa2 qa1 qa0 p8 p7 p6 p5 p4 p3 p2 p1 p0 g
      have hN' := Lib.hid hN; clear hN; have hl' := Lib.hid hl; clear hl; have h1' := Lib.hid h1; clear h1; have hp' := Lib.hid hp; clear hp; have hK' := Lib.hid hK; clear hK
      go_simp
      have hK := hK'.out; have hN := hN'.out; have hl := hl'.out; have h1 := h1'.out
      have p0 := p0'.out
      have p1 := p1'.out
      have p2 := p2'.out
      have p3 := p3'.out
      have p4 := p4'.out
      have p5 := p5'.out
      have p6 := p6'.out
      have p7 := p7'.out
      have p8 := p8'.out
      have qa0 := qa0'.out
      have qa1 := qa1'.out
      have qa2 := qa2'.out
      have d01 := d01'.out
      have d02 := d02'.out
      have d12 := d12'.out
      have g := g'.out
      refine hK _ _ ⟨by simpa using hl, (upd X 3 (.pointer (some ⟨W.heap.size, 0, none⟩))), rfl, (by simp; omega), qg_in g (((Below.refl _ W).alloc (Nat.le_refl _) _).mono hN) (by omega), p0.keep (by decide), p1.keep (by decide), p2.keep (by decide), p3.keep (by decide), p4.keep (by decide), p5.keep (by decide), p6.keep (by decide), p7.keep (by decide), p8.keep (by decide), qa0.made (by decide) (by rw [hl]; decide) h1 hN (own_new W (0, 0, 0) _), qa1.keep (by decide) (by decide) (fun _ _ h => own_alloc h _), qa2.keep (by decide) (by decide) (fun _ _ h => own_alloc h _), DD.mk1 qa1 (by decide), DD.mk1 qa2 (by decide), d12.keep (by decide) (by decide)⟩
    · rintro l A W ⟨hl, X, rfl, hN, g, p0, p1, p2, p3, p4, p5, p6, p7, p8, qa0, qa1, qa2, d01, d02, d12⟩ h1 hp K hK
      have hT : ∀ X : Nat → Value, qr1T w a b c  X = #[pnv a b c, .pointer (some ⟨w.heap.size, 0, none⟩), .pointer (some ⟨w.heap.size + 1, 0, none⟩), X 3, X 4, X 5, undef, undef, undef, X 9, X 10, X 11, X 12, X 13, X 14, X 15, X 16, X 17, undef, undef, undef, undef, undef, undef, undef, undef, undef, undef, undef, undef, undef, undef, undef, undef, undef, undef, undef, undef, undef, undef, undef, undef, undef, undef, undef, undef, undef, undef, undef, undef] := fun _ => rfl
      rw [hT]
      have p0' := Lib.hid p0
      have p1' := Lib.hid p1
      have p2' := Lib.hid p2
      have p3' := Lib.hid p3
      have p4' := Lib.hid p4
      have p5' := Lib.hid p5
      have p6' := Lib.hid p6
      have p7' := Lib.hid p7
      have p8' := Lib.hid p8
      have qa0' := Lib.hid qa0
      have qa1' := Lib.hid qa1
      have qa2' := Lib.hid qa2
      have d01' := Lib.hid d01
      have d02' := Lib.hid d02
      have d12' := Lib.hid d12
      have g' := Lib.hid g
      clear d12 d02 d01 qa2 qa1 qa0 p8 p7 p6 p5 p4 p3 p2 p1 p0 g
      have hN' := Lib.hid hN; clear hN; have hl' := Lib.hid hl; clear hl; have h1' := Lib.hid h1; clear h1; have hp' := Lib.hid hp; clear hp; have hK' := Lib.hid hK; clear hK
      go_simp
      have hK := hK'.out; have hN := hN'.out; have hl := hl'.out; have h1 := h1'.out
      have p0 := p0'.out
      have p1 := p1'.out
      have p2 := p2'.out
      have p3 := p3'.out
      have p4 := p4'.out
      have p5 := p5'.out
      have p6 := p6'.out
      have p7 := p7'.out
      have p8 := p8'.out
      have qa0 := qa0'.out
      have qa1 := qa1'.out
      have qa2 := qa2'.out
      have d01 := d01'.out
      have d02 := d02'.out
      have d12 := d12'.out
      have g := g'.out
      refine hK _ _ ⟨by simpa using hl, (upd X 4 (.pointer (some ⟨W.heap.size, 0, none⟩))), rfl, (by simp; omega), qg_in g (((Below.refl _ W).alloc (Nat.le_refl _) _).mono hN) (by omega), p0.keep (by decide), p1.keep (by decide), p2.keep (by decide), p3.keep (by decide), p4.keep (by decide), p5.keep (by decide), p6.keep (by decide), p7.keep (by decide), p8.keep (by decide), qa0.keep (by decide) (by decide) (fun _ _ h => own_alloc h _), qa1.made (by decide) (by rw [hl]; decide) h1 hN (own_new W (0, 0, 0) _), qa2.keep (by decide) (by decide) (fun _ _ h => own_alloc h _), DD.mk2 qa0 (by decide), d02.keep (by decide) (by decide), DD.mk1 qa2 (by decide)⟩
    · rintro l A W ⟨hl, X, rfl, hN, g, p0, p1, p2, p3, p4, p5, p6, p7, p8, qa0, qa1, qa2, d01, d02, d12⟩ h1 hp K hK
      have hT : ∀ X : Nat → Value, qr1T w a b c  X = #[pnv a b c, .pointer (some ⟨w.heap.size, 0, none⟩), .pointer (some ⟨w.heap.size + 1, 0, none⟩), X 3, X 4, X 5, undef, undef, undef, X 9, X 10, X 11, X 12, X 13, X 14, X 15, X 16, X 17, undef, undef, undef, undef, undef, undef, undef, undef, undef, undef, undef, undef, undef, undef, undef, undef, undef, undef, undef, undef, undef, undef, undef, undef, undef, undef, undef, undef, undef, undef, undef, undef] := fun _ => rfl
      rw [hT]
      have p0' := Lib.hid p0
      have p1' := Lib.hid p1
      have p2' := Lib.hid p2
      have p3' := Lib.hid p3
      have p4' := Lib.hid p4
      have p5' := Lib.hid p5
      have p6' := Lib.hid p6
      have p7' := Lib.hid p7
      have p8' := Lib.hid p8
      have qa0' := Lib.hid qa0
      have qa1' := Lib.hid qa1
      have qa2' := Lib.hid qa2
      have d01' := Lib.hid d01
      have d02' := Lib.hid d02
      have d12' := Lib.hid d12
      have g' := Lib.hid g
      clear d12 d02 d01 qa2 qa1 qa0 p8 p7 p6 p5 p4 p3 p2 p1 p0 g
      have hN' := Lib.hid hN; clear hN; have hl' := Lib.hid hl; clear hl; have h1' := Lib.hid h1; clear h1; have hp' := Lib.hid hp; clear hp; have hK' := Lib.hid hK; clear hK
      go_simp
      have hK := hK'.out; have hN := hN'.out; have hl := hl'.out; have h1 := h1'.out
      have p0 := p0'.out
      have p1 := p1'.out
      have p2 := p2'.out
      have p3 := p3'.out
      have p4 := p4'.out
      have p5 := p5'.out
      have p6 := p6'.out
      have p7 := p7'.out
      have p8 := p8'.out
      have qa0 := qa0'.out
      have qa1 := qa1'.out
      have qa2 := qa2'.out
      have d01 := d01'.out
      have d02 := d02'.out
      have d12 := d12'.out
      have g := g'.out
      refine hK _ _ ⟨by simpa using hl, (upd X 5 (.pointer (some ⟨W.heap.size, 0, none⟩))), rfl, (by simp; omega), qg_in g (((Below.refl _ W).alloc (Nat.le_refl _) _).mono hN) (by omega), p0.keep (by decide), p1.keep (by decide), p2.keep (by decide), p3.keep (by decide), p4.keep (by decide), p5.keep (by decide), p6.keep (by decide), p7.keep (by decide), p8.keep (by decide), qa0.keep (by decide) (by decide) (fun _ _ h => own_alloc h _), qa1.keep (by decide) (by decide) (fun _ _ h => own_alloc h _), qa2.made (by decide) (by rw [hl]; decide) h1 hN (own_new W (0, 0, 0) _), d01.keep (by decide) (by decide), DD.mk2 qa0 (by decide), DD.mk2 qa1 (by decide)⟩
    · rintro l A W ⟨hl, X, rfl, hN, g, p0, p1, p2, p3, p4, p5, p6, p7, p8, qa0, qa1, qa2, d01, d02, d12⟩ h1 hp K hK
      have la := hp ⟨9, .data⟩ (by simp) rfl
      have e := p2 (hp ⟨2, .data⟩ (by simp) rfl)
      obtain ⟨b', v', e2, hb', ow, _⟩ := qa0.2 la
      obtain ⟨o0, o1, o2, o3, o4, o5, o6⟩ := id ow
      have hT : ∀ X : Nat → Value, qr1T w a b c  X = #[pnv a b c, .pointer (some ⟨w.heap.size, 0, none⟩), .pointer (some ⟨w.heap.size + 1, 0, none⟩), X 3, X 4, X 5, undef, undef, undef, X 9, X 10, X 11, X 12, X 13, X 14, X 15, X 16, X 17, undef, undef, undef, undef, undef, undef, undef, undef, undef, undef, undef, undef, undef, undef, undef, undef, undef, undef, undef, undef, undef, undef, undef, undef, undef, undef, undef, undef, undef, undef, undef, undef] := fun _ => rfl
      rw [hT]
      have p0' := Lib.hid p0
      have p1' := Lib.hid p1
      have p2' := Lib.hid p2
      have p3' := Lib.hid p3
      have p4' := Lib.hid p4
      have p5' := Lib.hid p5
      have p6' := Lib.hid p6
      have p7' := Lib.hid p7
      have p8' := Lib.hid p8
      have qa0' := Lib.hid qa0
      have qa1' := Lib.hid qa1
      have qa2' := Lib.hid qa2
      have d01' := Lib.hid d01
      have d02' := Lib.hid d02
      have d12' := Lib.hid d12
      have g' := Lib.hid g
      clear d12 d02 d01 qa2 qa1 qa0 p8 p7 p6 p5 p4 p3 p2 p1 p0 g
      have hN' := Lib.hid hN; clear hN; have hl' := Lib.hid hl; clear hl; have h1' := Lib.hid h1; clear h1; have hp' := Lib.hid hp; clear hp; have hK' := Lib.hid hK; clear hK
      have la' := Lib.hid la; clear la; have hb'' := Lib.hid hb'; clear hb'; have ow' := Lib.hid ow; clear ow
      go_simp
      have hK := hK'.out; have hN := hN'.out; have hl := hl'.out; have h1 := h1'.out
      have p0 := p0'.out
      have p1 := p1'.out
      have p2 := p2'.out
      have p3 := p3'.out
      have p4 := p4'.out
      have p5 := p5'.out
      have p6 := p6'.out
      have p7 := p7'.out
      have p8 := p8'.out
      have qa0 := qa0'.out
      have qa1 := qa1'.out
      have qa2 := qa2'.out
      have d01 := d01'.out
      have d02 := d02'.out
      have d12 := d12'.out
      have g := g'.out
      have la := la'.out; have hb' := hb''.out; have ow := ow'.out
      refine hK _ _ ⟨by simpa using hl, (upd (upd X 3 (.pointer (some ⟨b', 0, none⟩))) 11 (ptv (tim 2 a))), rfl, (by simpa using hN), qg_in g (below_set3 _ _ _ hb') (by omega), p0.keep (by decide), p1.keep (by decide), PV.made rfl, p3.keep (by decide), p4.keep (by decide), p5.keep (by decide), p6.keep (by decide), p7.keep (by decide), p8.keep (by decide), QA.put (by decide) la rfl hb' (own_put ow _), qa1.other (by decide) (by decide) (fun z => by have dd := d01 la z; rw [e2] at dd; exact dd.symm) (fun _ _ n h => own_set3 _ _ _ n h), qa2.other (by decide) (by decide) (fun z => by have dd := d02 la z; rw [e2] at dd; exact dd.symm) (fun _ _ n h => own_set3 _ _ _ n h), (by have z := d01.keep (i := 12) (by decide) (by decide); rw [e2] at z; exact z), (by have z := d02.keep (i := 12) (by decide) (by decide); rw [e2] at z; exact z), d12.keep (by decide) (by decide)⟩
    · rintro l A W ⟨hl, X, rfl, hN, g, p0, p1, p2, p3, p4, p5, p6, p7, p8, qa0, qa1, qa2, d01, d02, d12⟩ h1 hp K hK
      have la := hp ⟨10, .data⟩ (by simp) rfl
      have e := p5 (hp ⟨5, .data⟩ (by simp) rfl)
      obtain ⟨b', v', e2, hb', ow, _⟩ := qa1.2 la
      obtain ⟨o0, o1, o2, o3, o4, o5, o6⟩ := id ow
      have hT : ∀ X : Nat → Value, qr1T w a b c  X = #[pnv a b c, .pointer (some ⟨w.heap.size, 0, none⟩), .pointer (some ⟨w.heap.size + 1, 0, none⟩), X 3, X 4, X 5, undef, undef, undef, X 9, X 10, X 11, X 12, X 13, X 14, X 15, X 16, X 17, undef, undef, undef, undef, undef, undef, undef, undef, undef, undef, undef, undef, undef, undef, undef, undef, undef, undef, undef, undef, undef, undef, undef, undef, undef, undef, undef, undef, undef, undef, undef, undef] := fun _ => rfl
      rw [hT]
      have p0' := Lib.hid p0
      have p1' := Lib.hid p1
      have p2' := Lib.hid p2
      have p3' := Lib.hid p3
      have p4' := Lib.hid p4
      have p5' := Lib.hid p5
      have p6' := Lib.hid p6
      have p7' := Lib.hid p7
      have p8' := Lib.hid p8
      have qa0' := Lib.hid qa0
      have qa1' := Lib.hid qa1
      have qa2' := Lib.hid qa2
      have d01' := Lib.hid d01
      have d02' := Lib.hid d02
      have d12' := Lib.hid d12
      have g' := Lib.hid g
      clear d12 d02 d01 qa2 qa1 qa0 p8 p7 p6 p5 p4 p3 p2 p1 p0 g
      have hN' := Lib.hid hN; clear hN; have hl' := Lib.hid hl; clear hl; have h1' := Lib.hid h1; clear h1; have hp' := Lib.hid hp; clear hp; have hK' := Lib.hid hK; clear hK
      have la' := Lib.hid la; clear la; have hb'' := Lib.hid hb'; clear hb'; have ow' := Lib.hid ow; clear ow
      go_simp
      have hK := hK'.out; have hN := hN'.out; have hl := hl'.out; have h1 := h1'.out
      have p0 := p0'.out
      have p1 := p1'.out
      have p2 := p2'.out
      have p3 := p3'.out
      have p4 := p4'.out
      have p5 := p5'.out
      have p6 := p6'.out
      have p7 := p7'.out
      have p8 := p8'.out
      have qa0 := qa0'.out
      have qa1 := qa1'.out
      have qa2 := qa2'.out
      have d01 := d01'.out
      have d02 := d02'.out
      have d12 := d12'.out
      have g := g'.out
      have la := la'.out; have hb' := hb''.out; have ow := ow'.out
      refine hK _ _ ⟨by simpa using hl, (upd (upd X 4 (.pointer (some ⟨b', 0, none⟩))) 14 (ptv (tim 2 b))), rfl, (by simpa using hN), qg_in g (below_set3 _ _ _ hb') (by omega), p0.keep (by decide), p1.keep (by decide), p2.keep (by decide), p3.keep (by decide), p4.keep (by decide), PV.made rfl, p6.keep (by decide), p7.keep (by decide), p8.keep (by decide), qa0.other (by decide) (by decide) (fun z => by have dd := d01 z la; rw [e2] at dd; exact dd) (fun _ _ n h => own_set3 _ _ _ n h), QA.put (by decide) la rfl hb' (own_put ow _), qa2.other (by decide) (by decide) (fun z => by have dd := d12 la z; rw [e2] at dd; exact dd.symm) (fun _ _ n h => own_set3 _ _ _ n h), (by have z := d01.keep (i := 13) (by decide) (by decide); rw [e2] at z; exact z), d02.keep (by decide) (by decide), (by have z := d12.keep (i := 13) (by decide) (by decide); rw [e2] at z; exact z)⟩
    · rintro l A W ⟨hl, X, rfl, hN, g, p0, p1, p2, p3, p4, p5, p6, p7, p8, qa0, qa1, qa2, d01, d02, d12⟩ h1 hp K hK
      have la := hp ⟨11, .data⟩ (by simp) rfl
      have e := p8 (hp ⟨8, .data⟩ (by simp) rfl)
      obtain ⟨b', v', e2, hb', ow, _⟩ := qa2.2 la
      obtain ⟨o0, o1, o2, o3, o4, o5, o6⟩ := id ow
      have hT : ∀ X : Nat → Value, qr1T w a b c  X = #[pnv a b c, .pointer (some ⟨w.heap.size, 0, none⟩), .pointer (some ⟨w.heap.size + 1, 0, none⟩), X 3, X 4, X 5, undef, undef, undef, X 9, X 10, X 11, X 12, X 13, X 14, X 15, X 16, X 17, undef, undef, undef, undef, undef, undef, undef, undef, undef, undef, undef, undef, undef, undef, undef, undef, undef, undef, undef, undef, undef, undef, undef, undef, undef, undef, undef, undef, undef, undef, undef, undef] := fun _ => rfl
      rw [hT]
      have p0' := Lib.hid p0
      have p1' := Lib.hid p1
      have p2' := Lib.hid p2
      have p3' := Lib.hid p3
      have p4' := Lib.hid p4
      have p5' := Lib.hid p5
      have p6' := Lib.hid p6
      have p7' := Lib.hid p7
      have p8' := Lib.hid p8
      have qa0' := Lib.hid qa0
      have qa1' := Lib.hid qa1
      have qa2' := Lib.hid qa2
      have d01' := Lib.hid d01
      have d02' := Lib.hid d02
      have d12' := Lib.hid d12
      have g' := Lib.hid g
      clear d12 d02 d01 qa2 qa1 qa0 p8 p7 p6 p5 p4 p3 p2 p1 p0 g
      have hN' := Lib.hid hN; clear hN; have hl' := Lib.hid hl; clear hl; have h1' := Lib.hid h1; clear h1; have hp' := Lib.hid hp; clear hp; have hK' := Lib.hid hK; clear hK
      have la' := Lib.hid la; clear la; have hb'' := Lib.hid hb'; clear hb'; have ow' := Lib.hid ow; clear ow
      go_simp
      have hK := hK'.out; have hN := hN'.out; have hl := hl'.out; have h1 := h1'.out
      have p0 := p0'.out
      have p1 := p1'.out
      have p2 := p2'.out
      have p3 := p3'.out
      have p4 := p4'.out
      have p5 := p5'.out
      have p6 := p6'.out
      have p7 := p7'.out
      have p8 := p8'.out
      have qa0 := qa0'.out
      have qa1 := qa1'.out
      have qa2 := qa2'.out
      have d01 := d01'.out
      have d02 := d02'.out
      have d12 := d12'.out
      have g := g'.out
      have la := la'.out; have hb' := hb''.out; have ow := ow'.out
      refine hK _ _ ⟨by simpa using hl, (upd (upd X 5 (.pointer (some ⟨b', 0, none⟩))) 17 (ptv (tim 2 c))), rfl, (by simpa using hN), qg_in g (below_set3 _ _ _ hb') (by omega), p0.keep (by decide), p1.keep (by decide), p2.keep (by decide), p3.keep (by decide), p4.keep (by decide), p5.keep (by decide), p6.keep (by decide), p7.keep (by decide), PV.made rfl, qa0.other (by decide) (by decide) (fun z => by have dd := d02 z la; rw [e2] at dd; exact dd) (fun _ _ n h => own_set3 _ _ _ n h), qa1.other (by decide) (by decide) (fun z => by have dd := d12 z la; rw [e2] at dd; exact dd) (fun _ _ n h => own_set3 _ _ _ n h), QA.put (by decide) la rfl hb' (own_put ow _), d01.keep (by decide) (by decide), (by have z := d02.keep (i := 14) (by decide) (by decide); rw [e2] at z; exact z), (by have z := d12.keep (i := 14) (by decide) (by decide); rw [e2] at z; exact z)⟩
  · rintro l A W ⟨hl, X, rfl, hN, g, p0, p1, p2, p3, p4, p5, p6, p7, p8, qa0, qa1, qa2, d01, d02, d12⟩ hr
    have l0 := ready_end hr 0 (by rw [hl]; decide) rfl (fun e he _ => by
      simp at he
      (try (repeat (rcases he with rfl | he; · assumption)))
      (try (first | (subst he; assumption) | exact he.elim)))
    have l1 := ready_end hr 1 (by rw [hl]; decide) rfl (fun e he _ => by
      simp at he
      (try (repeat (rcases he with rfl | he; · assumption)))
      (try (first | (subst he; assumption) | exact he.elim)))
    have l2 := ready_end hr 2 (by rw [hl]; decide) rfl (fun e he _ => by
      simp at he
      (try (repeat (rcases he with rfl | he; · assumption)))
      (try (first | (subst he; assumption) | exact he.elim)))
    have l3 := ready_end hr 3 (by rw [hl]; decide) rfl (fun e he _ => by
      simp at he
      (try (repeat (rcases he with rfl | he; · assumption)))
      (try (first | (subst he; assumption) | exact he.elim)))
    have l4 := ready_end hr 4 (by rw [hl]; decide) rfl (fun e he _ => by
      simp at he
      (try (repeat (rcases he with rfl | he; · assumption)))
      (try (first | (subst he; assumption) | exact he.elim)))
    have l5 := ready_end hr 5 (by rw [hl]; decide) rfl (fun e he _ => by
      simp at he
      (try (repeat (rcases he with rfl | he; · assumption)))
      (try (first | (subst he; assumption) | exact he.elim)))
    have l6 := ready_end hr 6 (by rw [hl]; decide) rfl (fun e he _ => by
      simp at he
      (try (repeat (rcases he with rfl | he; · assumption)))
      (try (first | (subst he; assumption) | exact he.elim)))
    have l7 := ready_end hr 7 (by rw [hl]; decide) rfl (fun e he _ => by
      simp at he
      (try (repeat (rcases he with rfl | he; · assumption)))
      (try (first | (subst he; assumption) | exact he.elim)))
    have l8 := ready_end hr 8 (by rw [hl]; decide) rfl (fun e he _ => by
      simp at he
      (try (repeat (rcases he with rfl | he; · assumption)))
      (try (first | (subst he; assumption) | exact he.elim)))
    have l9 := ready_end hr 9 (by rw [hl]; decide) rfl (fun e he _ => by
      simp at he
      (try (repeat (rcases he with rfl | he; · assumption)))
      (try (first | (subst he; assumption) | exact he.elim)))
    have l10 := ready_end hr 10 (by rw [hl]; decide) rfl (fun e he _ => by
      simp at he
      (try (repeat (rcases he with rfl | he; · assumption)))
      (try (first | (subst he; assumption) | exact he.elim)))
    have l11 := ready_end hr 11 (by rw [hl]; decide) rfl (fun e he _ => by
      simp at he
      (try (repeat (rcases he with rfl | he; · assumption)))
      (try (first | (subst he; assumption) | exact he.elim)))
    have l12 := ready_end hr 12 (by rw [hl]; decide) rfl (fun e he _ => by
      simp at he
      (try (repeat (rcases he with rfl | he; · assumption)))
      (try (first | (subst he; assumption) | exact he.elim)))
    have l13 := ready_end hr 13 (by rw [hl]; decide) rfl (fun e he _ => by
      simp at he
      (try (repeat (rcases he with rfl | he; · assumption)))
      (try (first | (subst he; assumption) | exact he.elim)))
    have l14 := ready_end hr 14 (by rw [hl]; decide) rfl (fun e he _ => by
      simp at he
      (try (repeat (rcases he with rfl | he; · assumption)))
      (try (first | (subst he; assumption) | exact he.elim)))
    obtain ⟨x, vx, e3, nx, ox, tx⟩ := qa0.2 l9
    obtain ⟨y, vy, e4, ny, oy, ty⟩ := qa1.2 l10
    obtain ⟨z, vz, e5, nz, oz, tz⟩ := qa2.2 l11
    obtain rfl := tx l12
    obtain rfl := ty l13
    obtain rfl := tz l14
    have hT : qr1T w a b c X = #[pnv a b c, .pointer (some ⟨w.heap.size, 0, none⟩), .pointer (some ⟨w.heap.size + 1, 0, none⟩), .pointer (some ⟨x, 0, none⟩), .pointer (some ⟨y, 0, none⟩), .pointer (some ⟨z, 0, none⟩), undef, undef, undef, .pointer (some ⟨w.heap.size, 0, none⟩), ptv a, ptv (tim 2 a), .pointer (some ⟨w.heap.size, 3, none⟩), ptv b, ptv (tim 2 b), .pointer (some ⟨w.heap.size, 6, none⟩), ptv c, ptv (tim 2 c), undef, undef, undef, undef, undef, undef, undef, undef, undef, undef, undef, undef, undef, undef, undef, undef, undef, undef, undef, undef, undef, undef, undef, undef, undef, undef, undef, undef, undef, undef, undef, undef] := by
      simp only [qr1T, e3, e4, e5, p0 l0, p1 l1, p2 l2, p3 l3, p4 l4, p5 l5, p6 l6, p7 l7, p8 l8]
    have QS := Lib.hid (show QH w a b c x y z W from ⟨g, ox, oy, oz⟩)
    have NL := Lib.hid (show w.heap.size + 1 < W.heap.size ∧ x < W.heap.size ∧ y < W.heap.size ∧ z < W.heap.size from ⟨by omega, ox.2.2.2.2.2.2, oy.2.2.2.2.2.2, oz.2.2.2.2.2.2⟩)
    rw [hT]
    clear hT tx ty tz ox oy oz nx ny nz e3 e4 e5 qa0 qa1 qa2 d01 d02 d12 p0 l0 p1 l1 p2 l2 p3 l3 p4 l4 p5 l5 p6 l6 p7 l7 p8 l8 l9 l10 l11 l12 l13 l14 g hN hr X hl HA HB HC
    refine hK1 _ _ ?_
    clear hK1
    go_wp2_with fail
    rename_i K2 hK2
    refine wp_region_inv (qr2I w a b c x y z W.heap.size) (by kernel_rfl) ?_ ?_ ?_
    · exact ⟨by simp, fun _ => undef, rfl, Nat.le_refl _, qh_drew QS.out, PV.nought, PV.nought, PV.nought, PV.nought, PV.nought, PV.nought, PV.nought, PV.nought, PV.nought, PV.nought, PV.nought, PV.nought, PV.nought, PV.nought, PV.nought, QA.nought, QA.nought, QA.nought, DD.nought, DD.nought, DD.nought⟩
    · simp only [allOps]
      refine ⟨?_, ?_, ?_, ?_, ?_, ?_, ?_, ?_, ?_, ?_, ?_, ?_, ?_, ?_, ?_, ?_, ?_, ?_, ?_, ?_, ?_, trivial⟩
      · rintro l A W ⟨hl, X, rfl, hN, g, p0, p1, p2, p3, p4, p5, p6, p7, p8, p9, p10, p11, p12, p13, p14, qa0, qa1, qa2, d01, d02, d12⟩ h1 hp K hK
        have hT : ∀ X : Nat → Value, qr2T w a b c x y z X = #[pnv a b c, .pointer (some ⟨w.heap.size, 0, none⟩), .pointer (some ⟨w.heap.size + 1, 0, none⟩), .pointer (some ⟨x, 0, none⟩), .pointer (some ⟨y, 0, none⟩), .pointer (some ⟨z, 0, none⟩), X 6, X 7, X 8, .pointer (some ⟨w.heap.size, 0, none⟩), ptv a, ptv (tim 2 a), .pointer (some ⟨w.heap.size, 3, none⟩), ptv b, ptv (tim 2 b), .pointer (some ⟨w.heap.size, 6, none⟩), ptv c, ptv (tim 2 c), X 18, X 19, X 20, X 21, X 22, X 23, X 24, X 25, X 26, X 27, X 28, X 29, X 30, X 31, X 32, undef, undef, undef, undef, undef, undef, undef, undef, undef, undef, undef, undef, undef, undef, undef, undef, undef] := fun _ => rfl
        rw [hT]
        have p0' := Lib.hid p0
        have p1' := Lib.hid p1
        have p2' := Lib.hid p2
        have p3' := Lib.hid p3
        have p4' := Lib.hid p4
        have p5' := Lib.hid p5
        have p6' := Lib.hid p6
        have p7' := Lib.hid p7
        have p8' := Lib.hid p8
        have p9' := Lib.hid p9
        have p10' := Lib.hid p10
        have p11' := Lib.hid p11
        have p12' := Lib.hid p12
        have p13' := Lib.hid p13
        have p14' := Lib.hid p14
        have qa0' := Lib.hid qa0
        have qa1' := Lib.hid qa1
        have qa2' := Lib.hid qa2
        have d01' := Lib.hid d01
        have d02' := Lib.hid d02
        have d12' := Lib.hid d12
        have g' := Lib.hid g
        clear d12 d02 d01 qa2 qa1 qa0 p14 p13 p12 p11 p10 p9 p8 p7 p6 p5 p4 p3 p2 p1 p0 g
        have hN' := Lib.hid hN; clear hN; have hl' := Lib.hid hl; clear hl; have h1' := Lib.hid h1; clear h1; have hp' := Lib.hid hp; clear hp; have hK' := Lib.hid hK; clear hK
        go_simp
        have hK := hK'.out; have hN := hN'.out; have hl := hl'.out; have h1 := h1'.out
        have p0 := p0'.out
        have p1 := p1'.out
        have p2 := p2'.out
        have p3 := p3'.out
        have p4 := p4'.out
        have p5 := p5'.out
        have p6 := p6'.out
        have p7 := p7'.out
        have p8 := p8'.out
        have p9 := p9'.out
        have p10 := p10'.out
        have p11 := p11'.out
        have p12 := p12'.out
        have p13 := p13'.out
        have p14 := p14'.out
        have qa0 := qa0'.out
        have qa1 := qa1'.out
        have qa2 := qa2'.out
        have d01 := d01'.out
        have d02 := d02'.out
        have d12 := d12'.out
        have g := g'.out
        refine hK _ _ ⟨by simpa using hl, (upd X 18 (.pointer (some ⟨w.heap.size, 0, none⟩))), rfl, hN, g, PV.made rfl, p1.keep (by decide), p2.keep (by decide), p3.keep (by decide), p4.keep (by decide), p5.keep (by decide), p6.keep (by decide), p7.keep (by decide), p8.keep (by decide), p9.keep (by decide), p10.keep (by decide), p11.keep (by decide), p12.keep (by decide), p13.keep (by decide), p14.keep (by decide), qa0.keep (by decide) (by decide) (fun _ _ h => h), qa1.keep (by decide) (by decide) (fun _ _ h => h), qa2.keep (by decide) (by decide) (fun _ _ h => h), d01.keep (by decide) (by decide), d02.keep (by decide) (by decide), d12.keep (by decide) (by decide)⟩
      · rintro l A W ⟨hl, X, rfl, hN, g, p0, p1, p2, p3, p4, p5, p6, p7, p8, p9, p10, p11, p12, p13, p14, qa0, qa1, qa2, d01, d02, d12⟩ h1 hp K hK
        have e := p0 (hp ⟨0, .data⟩ (by simp) rfl)
        obtain ⟨c0, c1, c2, c3, c4, c5, c6, c7, c8⟩ := pan_cells g.1.1
        have hT : ∀ X : Nat → Value, qr2T w a b c x y z X = #[pnv a b c, .pointer (some ⟨w.heap.size, 0, none⟩), .pointer (some ⟨w.heap.size + 1, 0, none⟩), .pointer (some ⟨x, 0, none⟩), .pointer (some ⟨y, 0, none⟩), .pointer (some ⟨z, 0, none⟩), X 6, X 7, X 8, .pointer (some ⟨w.heap.size, 0, none⟩), ptv a, ptv (tim 2 a), .pointer (some ⟨w.heap.size, 3, none⟩), ptv b, ptv (tim 2 b), .pointer (some ⟨w.heap.size, 6, none⟩), ptv c, ptv (tim 2 c), X 18, X 19, X 20, X 21, X 22, X 23, X 24, X 25, X 26, X 27, X 28, X 29, X 30, X 31, X 32, undef, undef, undef, undef, undef, undef, undef, undef, undef, undef, undef, undef, undef, undef, undef, undef, undef] := fun _ => rfl
        rw [hT]
        have p0' := Lib.hid p0
        have p1' := Lib.hid p1
        have p2' := Lib.hid p2
        have p3' := Lib.hid p3
        have p4' := Lib.hid p4
        have p5' := Lib.hid p5
        have p6' := Lib.hid p6
        have p7' := Lib.hid p7
        have p8' := Lib.hid p8
        have p9' := Lib.hid p9
        have p10' := Lib.hid p10
        have p11' := Lib.hid p11
        have p12' := Lib.hid p12
        have p13' := Lib.hid p13
        have p14' := Lib.hid p14
        have qa0' := Lib.hid qa0
        have qa1' := Lib.hid qa1
        have qa2' := Lib.hid qa2
        have d01' := Lib.hid d01
        have d02' := Lib.hid d02
        have d12' := Lib.hid d12
        have g' := Lib.hid g
        clear d12 d02 d01 qa2 qa1 qa0 p14 p13 p12 p11 p10 p9 p8 p7 p6 p5 p4 p3 p2 p1 p0 g
        have hN' := Lib.hid hN; clear hN; have hl' := Lib.hid hl; clear hl; have h1' := Lib.hid h1; clear h1; have hp' := Lib.hid hp; clear hp; have hK' := Lib.hid hK; clear hK
        go_simp
        have hK := hK'.out; have hN := hN'.out; have hl := hl'.out; have h1 := h1'.out
        have p0 := p0'.out
        have p1 := p1'.out
        have p2 := p2'.out
        have p3 := p3'.out
        have p4 := p4'.out
        have p5 := p5'.out
        have p6 := p6'.out
        have p7 := p7'.out
        have p8 := p8'.out
        have p9 := p9'.out
        have p10 := p10'.out
        have p11 := p11'.out
        have p12 := p12'.out
        have p13 := p13'.out
        have p14 := p14'.out
        have qa0 := qa0'.out
        have qa1 := qa1'.out
        have qa2 := qa2'.out
        have d01 := d01'.out
        have d02 := d02'.out
        have d12 := d12'.out
        have g := g'.out
        refine hK _ _ ⟨by simpa using hl, (upd (upd X 18 (.pointer (some ⟨w.heap.size, 0, none⟩))) 19 (ptv a)), rfl, hN, g, PV.made rfl, PV.made rfl, p2.keep (by decide), p3.keep (by decide), p4.keep (by decide), p5.keep (by decide), p6.keep (by decide), p7.keep (by decide), p8.keep (by decide), p9.keep (by decide), p10.keep (by decide), p11.keep (by decide), p12.keep (by decide), p13.keep (by decide), p14.keep (by decide), qa0.keep (by decide) (by decide) (fun _ _ h => h), qa1.keep (by decide) (by decide) (fun _ _ h => h), qa2.keep (by decide) (by decide) (fun _ _ h => h), d01.keep (by decide) (by decide), d02.keep (by decide) (by decide), d12.keep (by decide) (by decide)⟩
      · rintro l A W ⟨hl, X, rfl, hN, g, p0, p1, p2, p3, p4, p5, p6, p7, p8, p9, p10, p11, p12, p13, p14, qa0, qa1, qa2, d01, d02, d12⟩ h1 hp K hK
        have hT : ∀ X : Nat → Value, qr2T w a b c x y z X = #[pnv a b c, .pointer (some ⟨w.heap.size, 0, none⟩), .pointer (some ⟨w.heap.size + 1, 0, none⟩), .pointer (some ⟨x, 0, none⟩), .pointer (some ⟨y, 0, none⟩), .pointer (some ⟨z, 0, none⟩), X 6, X 7, X 8, .pointer (some ⟨w.heap.size, 0, none⟩), ptv a, ptv (tim 2 a), .pointer (some ⟨w.heap.size, 3, none⟩), ptv b, ptv (tim 2 b), .pointer (some ⟨w.heap.size, 6, none⟩), ptv c, ptv (tim 2 c), X 18, X 19, X 20, X 21, X 22, X 23, X 24, X 25, X 26, X 27, X 28, X 29, X 30, X 31, X 32, undef, undef, undef, undef, undef, undef, undef, undef, undef, undef, undef, undef, undef, undef, undef, undef, undef] := fun _ => rfl
        rw [hT]
        have p0' := Lib.hid p0
        have p1' := Lib.hid p1
        have p2' := Lib.hid p2
        have p3' := Lib.hid p3
        have p4' := Lib.hid p4
        have p5' := Lib.hid p5
        have p6' := Lib.hid p6
        have p7' := Lib.hid p7
        have p8' := Lib.hid p8
        have p9' := Lib.hid p9
        have p10' := Lib.hid p10
        have p11' := Lib.hid p11
        have p12' := Lib.hid p12
        have p13' := Lib.hid p13
        have p14' := Lib.hid p14
        have qa0' := Lib.hid qa0
        have qa1' := Lib.hid qa1
        have qa2' := Lib.hid qa2
        have d01' := Lib.hid d01
        have d02' := Lib.hid d02
        have d12' := Lib.hid d12
        have g' := Lib.hid g
        clear d12 d02 d01 qa2 qa1 qa0 p14 p13 p12 p11 p10 p9 p8 p7 p6 p5 p4 p3 p2 p1 p0 g
        have hN' := Lib.hid hN; clear hN; have hl' := Lib.hid hl; clear hl; have h1' := Lib.hid h1; clear h1; have hp' := Lib.hid hp; clear hp; have hK' := Lib.hid hK; clear hK
        go_simp
        have hK := hK'.out; have hN := hN'.out; have hl := hl'.out; have h1 := h1'.out
        have p0 := p0'.out
        have p1 := p1'.out
        have p2 := p2'.out
        have p3 := p3'.out
        have p4 := p4'.out
        have p5 := p5'.out
        have p6 := p6'.out
        have p7 := p7'.out
        have p8 := p8'.out
        have p9 := p9'.out
        have p10 := p10'.out
        have p11 := p11'.out
        have p12 := p12'.out
        have p13 := p13'.out
        have p14 := p14'.out
        have qa0 := qa0'.out
        have qa1 := qa1'.out
        have qa2 := qa2'.out
        have d01 := d01'.out
        have d02 := d02'.out
        have d12 := d12'.out
        have g := g'.out
        refine hK _ _ ⟨by simpa using hl, (upd X 20 (.pointer (some ⟨w.heap.size, 3, none⟩))), rfl, hN, g, p0.keep (by decide), p1.keep (by decide), PV.made rfl, p3.keep (by decide), p4.keep (by decide), p5.keep (by decide), p6.keep (by decide), p7.keep (by decide), p8.keep (by decide), p9.keep (by decide), p10.keep (by decide), p11.keep (by decide), p12.keep (by decide), p13.keep (by decide), p14.keep (by decide), qa0.keep (by decide) (by decide) (fun _ _ h => h), qa1.keep (by decide) (by decide) (fun _ _ h => h), qa2.keep (by decide) (by decide) (fun _ _ h => h), d01.keep (by decide) (by decide), d02.keep (by decide) (by decide), d12.keep (by decide) (by decide)⟩
      · rintro l A W ⟨hl, X, rfl, hN, g, p0, p1, p2, p3, p4, p5, p6, p7, p8, p9, p10, p11, p12, p13, p14, qa0, qa1, qa2, d01, d02, d12⟩ h1 hp K hK
        have e := p2 (hp ⟨2, .data⟩ (by simp) rfl)
        obtain ⟨c0, c1, c2, c3, c4, c5, c6, c7, c8⟩ := pan_cells g.1.1
        have hT : ∀ X : Nat → Value, qr2T w a b c x y z X = #[pnv a b c, .pointer (some ⟨w.heap.size, 0, none⟩), .pointer (some ⟨w.heap.size + 1, 0, none⟩), .pointer (some ⟨x, 0, none⟩), .pointer (some ⟨y, 0, none⟩), .pointer (some ⟨z, 0, none⟩), X 6, X 7, X 8, .pointer (some ⟨w.heap.size, 0, none⟩), ptv a, ptv (tim 2 a), .pointer (some ⟨w.heap.size, 3, none⟩), ptv b, ptv (tim 2 b), .pointer (some ⟨w.heap.size, 6, none⟩), ptv c, ptv (tim 2 c), X 18, X 19, X 20, X 21, X 22, X 23, X 24, X 25, X 26, X 27, X 28, X 29, X 30, X 31, X 32, undef, undef, undef, undef, undef, undef, undef, undef, undef, undef, undef, undef, undef, undef, undef, undef, undef] := fun _ => rfl
        rw [hT]
        have p0' := Lib.hid p0
        have p1' := Lib.hid p1
        have p2' := Lib.hid p2
        have p3' := Lib.hid p3
        have p4' := Lib.hid p4
        have p5' := Lib.hid p5
        have p6' := Lib.hid p6
        have p7' := Lib.hid p7
        have p8' := Lib.hid p8
        have p9' := Lib.hid p9
        have p10' := Lib.hid p10
        have p11' := Lib.hid p11
        have p12' := Lib.hid p12
        have p13' := Lib.hid p13
        have p14' := Lib.hid p14
        have qa0' := Lib.hid qa0
        have qa1' := Lib.hid qa1
        have qa2' := Lib.hid qa2
        have d01' := Lib.hid d01
        have d02' := Lib.hid d02
        have d12' := Lib.hid d12
        have g' := Lib.hid g
        clear d12 d02 d01 qa2 qa1 qa0 p14 p13 p12 p11 p10 p9 p8 p7 p6 p5 p4 p3 p2 p1 p0 g
        have hN' := Lib.hid hN; clear hN; have hl' := Lib.hid hl; clear hl; have h1' := Lib.hid h1; clear h1; have hp' := Lib.hid hp; clear hp; have hK' := Lib.hid hK; clear hK
        go_simp
        have hK := hK'.out; have hN := hN'.out; have hl := hl'.out; have h1 := h1'.out
        have p0 := p0'.out
        have p1 := p1'.out
        have p2 := p2'.out
        have p3 := p3'.out
        have p4 := p4'.out
        have p5 := p5'.out
        have p6 := p6'.out
        have p7 := p7'.out
        have p8 := p8'.out
        have p9 := p9'.out
        have p10 := p10'.out
        have p11 := p11'.out
        have p12 := p12'.out
        have p13 := p13'.out
        have p14 := p14'.out
        have qa0 := qa0'.out
        have qa1 := qa1'.out
        have qa2 := qa2'.out
        have d01 := d01'.out
        have d02 := d02'.out
        have d12 := d12'.out
        have g := g'.out
        refine hK _ _ ⟨by simpa using hl, (upd (upd X 20 (.pointer (some ⟨w.heap.size, 3, none⟩))) 21 (ptv b)), rfl, hN, g, p0.keep (by decide), p1.keep (by decide), PV.made rfl, PV.made rfl, p4.keep (by decide), p5.keep (by decide), p6.keep (by decide), p7.keep (by decide), p8.keep (by decide), p9.keep (by decide), p10.keep (by decide), p11.keep (by decide), p12.keep (by decide), p13.keep (by decide), p14.keep (by decide), qa0.keep (by decide) (by decide) (fun _ _ h => h), qa1.keep (by decide) (by decide) (fun _ _ h => h), qa2.keep (by decide) (by decide) (fun _ _ h => h), d01.keep (by decide) (by decide), d02.keep (by decide) (by decide), d12.keep (by decide) (by decide)⟩
      · rintro l A W ⟨hl, X, rfl, hN, g, p0, p1, p2, p3, p4, p5, p6, p7, p8, p9, p10, p11, p12, p13, p14, qa0, qa1, qa2, d01, d02, d12⟩ h1 hp K hK
        have e1 := p1 (hp ⟨1, .data⟩ (by simp) rfl)
        have e3 := p3 (hp ⟨3, .data⟩ (by simp) rfl)
        have hT : ∀ X : Nat → Value, qr2T w a b c x y z X = #[pnv a b c, .pointer (some ⟨w.heap.size, 0, none⟩), .pointer (some ⟨w.heap.size + 1, 0, none⟩), .pointer (some ⟨x, 0, none⟩), .pointer (some ⟨y, 0, none⟩), .pointer (some ⟨z, 0, none⟩), X 6, X 7, X 8, .pointer (some ⟨w.heap.size, 0, none⟩), ptv a, ptv (tim 2 a), .pointer (some ⟨w.heap.size, 3, none⟩), ptv b, ptv (tim 2 b), .pointer (some ⟨w.heap.size, 6, none⟩), ptv c, ptv (tim 2 c), X 18, X 19, X 20, X 21, X 22, X 23, X 24, X 25, X 26, X 27, X 28, X 29, X 30, X 31, X 32, undef, undef, undef, undef, undef, undef, undef, undef, undef, undef, undef, undef, undef, undef, undef, undef, undef] := fun _ => rfl
        rw [hT]
        have p0' := Lib.hid p0
        have p1' := Lib.hid p1
        have p2' := Lib.hid p2
        have p3' := Lib.hid p3
        have p4' := Lib.hid p4
        have p5' := Lib.hid p5
        have p6' := Lib.hid p6
        have p7' := Lib.hid p7
        have p8' := Lib.hid p8
        have p9' := Lib.hid p9
        have p10' := Lib.hid p10
        have p11' := Lib.hid p11
        have p12' := Lib.hid p12
        have p13' := Lib.hid p13
        have p14' := Lib.hid p14
        have qa0' := Lib.hid qa0
        have qa1' := Lib.hid qa1
        have qa2' := Lib.hid qa2
        have d01' := Lib.hid d01
        have d02' := Lib.hid d02
        have d12' := Lib.hid d12
        have g' := Lib.hid g
        clear d12 d02 d01 qa2 qa1 qa0 p14 p13 p12 p11 p10 p9 p8 p7 p6 p5 p4 p3 p2 p1 p0 g
        have hN' := Lib.hid hN; clear hN; have hl' := Lib.hid hl; clear hl; have h1' := Lib.hid h1; clear h1; have hp' := Lib.hid hp; clear hp; have hK' := Lib.hid hK; clear hK
        go_simp
        go_at_call 94
        refine (fplus_any a b _ (AB.out)).mono ?_
        rintro e W1 ⟨rfl, hb⟩
        (try dsimp only)
        have hK := hK'.out; have hN := hN'.out; have hl := hl'.out; have h1 := h1'.out
        have p0 := p0'.out
        have p1 := p1'.out
        have p2 := p2'.out
        have p3 := p3'.out
        have p4 := p4'.out
        have p5 := p5'.out
        have p6 := p6'.out
        have p7 := p7'.out
        have p8 := p8'.out
        have p9 := p9'.out
        have p10 := p10'.out
        have p11 := p11'.out
        have p12 := p12'.out
        have p13 := p13'.out
        have p14 := p14'.out
        have qa0 := qa0'.out
        have qa1 := qa1'.out
        have qa2 := qa2'.out
        have d01 := d01'.out
        have d02 := d02'.out
        have d12 := d12'.out
        have g := g'.out
        refine hK _ _ ⟨by simpa using hl, (upd (upd (upd X 19 (ptv a)) 21 (ptv b)) 22 (ptv (add a b))), rfl, Nat.le_trans hN hb.size, qh_in g (hb.mono hN) NL.out.1 NL.out.2.1 NL.out.2.2.1 NL.out.2.2.2, p0.keep (by decide), PV.made rfl, p2.keep (by decide), PV.made rfl, PV.made rfl, p5.keep (by decide), p6.keep (by decide), p7.keep (by decide), p8.keep (by decide), p9.keep (by decide), p10.keep (by decide), p11.keep (by decide), p12.keep (by decide), p13.keep (by decide), p14.keep (by decide), qa0.keep (by decide) (by decide) (fun _ _ h => own_below h hb), qa1.keep (by decide) (by decide) (fun _ _ h => own_below h hb), qa2.keep (by decide) (by decide) (fun _ _ h => own_below h hb), d01.keep (by decide) (by decide), d02.keep (by decide) (by decide), d12.keep (by decide) (by decide)⟩
      · rintro l A W ⟨hl, X, rfl, hN, g, p0, p1, p2, p3, p4, p5, p6, p7, p8, p9, p10, p11, p12, p13, p14, qa0, qa1, qa2, d01, d02, d12⟩ h1 hp K hK
        have hT : ∀ X : Nat → Value, qr2T w a b c x y z X = #[pnv a b c, .pointer (some ⟨w.heap.size, 0, none⟩), .pointer (some ⟨w.heap.size + 1, 0, none⟩), .pointer (some ⟨x, 0, none⟩), .pointer (some ⟨y, 0, none⟩), .pointer (some ⟨z, 0, none⟩), X 6, X 7, X 8, .pointer (some ⟨w.heap.size, 0, none⟩), ptv a, ptv (tim 2 a), .pointer (some ⟨w.heap.size, 3, none⟩), ptv b, ptv (tim 2 b), .pointer (some ⟨w.heap.size, 6, none⟩), ptv c, ptv (tim 2 c), X 18, X 19, X 20, X 21, X 22, X 23, X 24, X 25, X 26, X 27, X 28, X 29, X 30, X 31, X 32, undef, undef, undef, undef, undef, undef, undef, undef, undef, undef, undef, undef, undef, undef, undef, undef, undef] := fun _ => rfl
        rw [hT]
        have p0' := Lib.hid p0
        have p1' := Lib.hid p1
        have p2' := Lib.hid p2
        have p3' := Lib.hid p3
        have p4' := Lib.hid p4
        have p5' := Lib.hid p5
        have p6' := Lib.hid p6
        have p7' := Lib.hid p7
        have p8' := Lib.hid p8
        have p9' := Lib.hid p9
        have p10' := Lib.hid p10
        have p11' := Lib.hid p11
        have p12' := Lib.hid p12
        have p13' := Lib.hid p13
        have p14' := Lib.hid p14
        have qa0' := Lib.hid qa0
        have qa1' := Lib.hid qa1
        have qa2' := Lib.hid qa2
        have d01' := Lib.hid d01
        have d02' := Lib.hid d02
        have d12' := Lib.hid d12
        have g' := Lib.hid g
        clear d12 d02 d01 qa2 qa1 qa0 p14 p13 p12 p11 p10 p9 p8 p7 p6 p5 p4 p3 p2 p1 p0 g
        have hN' := Lib.hid hN; clear hN; have hl' := Lib.hid hl; clear hl; have h1' := Lib.hid h1; clear h1; have hp' := Lib.hid hp; clear hp; have hK' := Lib.hid hK; clear hK
        go_simp
        have hK := hK'.out; have hN := hN'.out; have hl := hl'.out; have h1 := h1'.out
        have p0 := p0'.out
        have p1 := p1'.out
        have p2 := p2'.out
        have p3 := p3'.out
        have p4 := p4'.out
        have p5 := p5'.out
        have p6 := p6'.out
        have p7 := p7'.out
        have p8 := p8'.out
        have p9 := p9'.out
        have p10 := p10'.out
        have p11 := p11'.out
        have p12 := p12'.out
        have p13 := p13'.out
        have p14 := p14'.out
        have qa0 := qa0'.out
        have qa1 := qa1'.out
        have qa2 := qa2'.out
        have d01 := d01'.out
        have d02 := d02'.out
        have d12 := d12'.out
        have g := g'.out
        refine hK _ _ ⟨by simpa using hl, (upd X 23 (.pointer (some ⟨w.heap.size, 3, none⟩))), rfl, hN, g, p0.keep (by decide), p1.keep (by decide), p2.keep (by decide), p3.keep (by decide), p4.keep (by decide), PV.made rfl, p6.keep (by decide), p7.keep (by decide), p8.keep (by decide), p9.keep (by decide), p10.keep (by decide), p11.keep (by decide), p12.keep (by decide), p13.keep (by decide), p14.keep (by decide), qa0.keep (by decide) (by decide) (fun _ _ h => h), qa1.keep (by decide) (by decide) (fun _ _ h => h), qa2.keep (by decide) (by decide) (fun _ _ h => h), d01.keep (by decide) (by decide), d02.keep (by decide) (by decide), d12.keep (by decide) (by decide)⟩
      · rintro l A W ⟨hl, X, rfl, hN, g, p0, p1, p2, p3, p4, p5, p6, p7, p8, p9, p10, p11, p12, p13, p14, qa0, qa1, qa2, d01, d02, d12⟩ h1 hp K hK
        have e := p5 (hp ⟨5, .data⟩ (by simp) rfl)
        obtain ⟨c0, c1, c2, c3, c4, c5, c6, c7, c8⟩ := pan_cells g.1.1
        have hT : ∀ X : Nat → Value, qr2T w a b c x y z X = #[pnv a b c, .pointer (some ⟨w.heap.size, 0, none⟩), .pointer (some ⟨w.heap.size + 1, 0, none⟩), .pointer (some ⟨x, 0, none⟩), .pointer (some ⟨y, 0, none⟩), .pointer (some ⟨z, 0, none⟩), X 6, X 7, X 8, .pointer (some ⟨w.heap.size, 0, none⟩), ptv a, ptv (tim 2 a), .pointer (some ⟨w.heap.size, 3, none⟩), ptv b, ptv (tim 2 b), .pointer (some ⟨w.heap.size, 6, none⟩), ptv c, ptv (tim 2 c), X 18, X 19, X 20, X 21, X 22, X 23, X 24, X 25, X 26, X 27, X 28, X 29, X 30, X 31, X 32, undef, undef, undef, undef, undef, undef, undef, undef, undef, undef, undef, undef, undef, undef, undef, undef, undef] := fun _ => rfl
        rw [hT]
        have p0' := Lib.hid p0
        have p1' := Lib.hid p1
        have p2' := Lib.hid p2
        have p3' := Lib.hid p3
        have p4' := Lib.hid p4
        have p5' := Lib.hid p5
        have p6' := Lib.hid p6
        have p7' := Lib.hid p7
        have p8' := Lib.hid p8
        have p9' := Lib.hid p9
        have p10' := Lib.hid p10
        have p11' := Lib.hid p11
        have p12' := Lib.hid p12
        have p13' := Lib.hid p13
        have p14' := Lib.hid p14
        have qa0' := Lib.hid qa0
        have qa1' := Lib.hid qa1
        have qa2' := Lib.hid qa2
        have d01' := Lib.hid d01
        have d02' := Lib.hid d02
        have d12' := Lib.hid d12
        have g' := Lib.hid g
        clear d12 d02 d01 qa2 qa1 qa0 p14 p13 p12 p11 p10 p9 p8 p7 p6 p5 p4 p3 p2 p1 p0 g
        have hN' := Lib.hid hN; clear hN; have hl' := Lib.hid hl; clear hl; have h1' := Lib.hid h1; clear h1; have hp' := Lib.hid hp; clear hp; have hK' := Lib.hid hK; clear hK
        go_simp
        have hK := hK'.out; have hN := hN'.out; have hl := hl'.out; have h1 := h1'.out
        have p0 := p0'.out
        have p1 := p1'.out
        have p2 := p2'.out
        have p3 := p3'.out
        have p4 := p4'.out
        have p5 := p5'.out
        have p6 := p6'.out
        have p7 := p7'.out
        have p8 := p8'.out
        have p9 := p9'.out
        have p10 := p10'.out
        have p11 := p11'.out
        have p12 := p12'.out
        have p13 := p13'.out
        have p14 := p14'.out
        have qa0 := qa0'.out
        have qa1 := qa1'.out
        have qa2 := qa2'.out
        have d01 := d01'.out
        have d02 := d02'.out
        have d12 := d12'.out
        have g := g'.out
        refine hK _ _ ⟨by simpa using hl, (upd (upd X 23 (.pointer (some ⟨w.heap.size, 3, none⟩))) 24 (ptv b)), rfl, hN, g, p0.keep (by decide), p1.keep (by decide), p2.keep (by decide), p3.keep (by decide), p4.keep (by decide), PV.made rfl, PV.made rfl, p7.keep (by decide), p8.keep (by decide), p9.keep (by decide), p10.keep (by decide), p11.keep (by decide), p12.keep (by decide), p13.keep (by decide), p14.keep (by decide), qa0.keep (by decide) (by decide) (fun _ _ h => h), qa1.keep (by decide) (by decide) (fun _ _ h => h), qa2.keep (by decide) (by decide) (fun _ _ h => h), d01.keep (by decide) (by decide), d02.keep (by decide) (by decide), d12.keep (by decide) (by decide)⟩
      · rintro l A W ⟨hl, X, rfl, hN, g, p0, p1, p2, p3, p4, p5, p6, p7, p8, p9, p10, p11, p12, p13, p14, qa0, qa1, qa2, d01, d02, d12⟩ h1 hp K hK
        have hT : ∀ X : Nat → Value, qr2T w a b c x y z X = #[pnv a b c, .pointer (some ⟨w.heap.size, 0, none⟩), .pointer (some ⟨w.heap.size + 1, 0, none⟩), .pointer (some ⟨x, 0, none⟩), .pointer (some ⟨y, 0, none⟩), .pointer (some ⟨z, 0, none⟩), X 6, X 7, X 8, .pointer (some ⟨w.heap.size, 0, none⟩), ptv a, ptv (tim 2 a), .pointer (some ⟨w.heap.size, 3, none⟩), ptv b, ptv (tim 2 b), .pointer (some ⟨w.heap.size, 6, none⟩), ptv c, ptv (tim 2 c), X 18, X 19, X 20, X 21, X 22, X 23, X 24, X 25, X 26, X 27, X 28, X 29, X 30, X 31, X 32, undef, undef, undef, undef, undef, undef, undef, undef, undef, undef, undef, undef, undef, undef, undef, undef, undef] := fun _ => rfl
        rw [hT]
        have p0' := Lib.hid p0
        have p1' := Lib.hid p1
        have p2' := Lib.hid p2
        have p3' := Lib.hid p3
        have p4' := Lib.hid p4
        have p5' := Lib.hid p5
        have p6' := Lib.hid p6
        have p7' := Lib.hid p7
        have p8' := Lib.hid p8
        have p9' := Lib.hid p9
        have p10' := Lib.hid p10
        have p11' := Lib.hid p11
        have p12' := Lib.hid p12
        have p13' := Lib.hid p13
        have p14' := Lib.hid p14
        have qa0' := Lib.hid qa0
        have qa1' := Lib.hid qa1
        have qa2' := Lib.hid qa2
        have d01' := Lib.hid d01
        have d02' := Lib.hid d02
        have d12' := Lib.hid d12
        have g' := Lib.hid g
        clear d12 d02 d01 qa2 qa1 qa0 p14 p13 p12 p11 p10 p9 p8 p7 p6 p5 p4 p3 p2 p1 p0 g
        have hN' := Lib.hid hN; clear hN; have hl' := Lib.hid hl; clear hl; have h1' := Lib.hid h1; clear h1; have hp' := Lib.hid hp; clear hp; have hK' := Lib.hid hK; clear hK
        go_simp
        have hK := hK'.out; have hN := hN'.out; have hl := hl'.out; have h1 := h1'.out
        have p0 := p0'.out
        have p1 := p1'.out
        have p2 := p2'.out
        have p3 := p3'.out
        have p4 := p4'.out
        have p5 := p5'.out
        have p6 := p6'.out
        have p7 := p7'.out
        have p8 := p8'.out
        have p9 := p9'.out
        have p10 := p10'.out
        have p11 := p11'.out
        have p12 := p12'.out
        have p13 := p13'.out
        have p14 := p14'.out
        have qa0 := qa0'.out
        have qa1 := qa1'.out
        have qa2 := qa2'.out
        have d01 := d01'.out
        have d02 := d02'.out
        have d12 := d12'.out
        have g := g'.out
        refine hK _ _ ⟨by simpa using hl, (upd X 25 (.pointer (some ⟨w.heap.size, 6, none⟩))), rfl, hN, g, p0.keep (by decide), p1.keep (by decide), p2.keep (by decide), p3.keep (by decide), p4.keep (by decide), p5.keep (by decide), p6.keep (by decide), PV.made rfl, p8.keep (by decide), p9.keep (by decide), p10.keep (by decide), p11.keep (by decide), p12.keep (by decide), p13.keep (by decide), p14.keep (by decide), qa0.keep (by decide) (by decide) (fun _ _ h => h), qa1.keep (by decide) (by decide) (fun _ _ h => h), qa2.keep (by decide) (by decide) (fun _ _ h => h), d01.keep (by decide) (by decide), d02.keep (by decide) (by decide), d12.keep (by decide) (by decide)⟩
      · rintro l A W ⟨hl, X, rfl, hN, g, p0, p1, p2, p3, p4, p5, p6, p7, p8, p9, p10, p11, p12, p13, p14, qa0, qa1, qa2, d01, d02, d12⟩ h1 hp K hK
        have e := p7 (hp ⟨7, .data⟩ (by simp) rfl)
        obtain ⟨c0, c1, c2, c3, c4, c5, c6, c7, c8⟩ := pan_cells g.1.1
        have hT : ∀ X : Nat → Value, qr2T w a b c x y z X = #[pnv a b c, .pointer (some ⟨w.heap.size, 0, none⟩), .pointer (some ⟨w.heap.size + 1, 0, none⟩), .pointer (some ⟨x, 0, none⟩), .pointer (some ⟨y, 0, none⟩), .pointer (some ⟨z, 0, none⟩), X 6, X 7, X 8, .pointer (some ⟨w.heap.size, 0, none⟩), ptv a, ptv (tim 2 a), .pointer (some ⟨w.heap.size, 3, none⟩), ptv b, ptv (tim 2 b), .pointer (some ⟨w.heap.size, 6, none⟩), ptv c, ptv (tim 2 c), X 18, X 19, X 20, X 21, X 22, X 23, X 24, X 25, X 26, X 27, X 28, X 29, X 30, X 31, X 32, undef, undef, undef, undef, undef, undef, undef, undef, undef, undef, undef, undef, undef, undef, undef, undef, undef] := fun _ => rfl
        rw [hT]
        have p0' := Lib.hid p0
        have p1' := Lib.hid p1
        have p2' := Lib.hid p2
        have p3' := Lib.hid p3
        have p4' := Lib.hid p4
        have p5' := Lib.hid p5
        have p6' := Lib.hid p6
        have p7' := Lib.hid p7
        have p8' := Lib.hid p8
        have p9' := Lib.hid p9
        have p10' := Lib.hid p10
        have p11' := Lib.hid p11
        have p12' := Lib.hid p12
        have p13' := Lib.hid p13
        have p14' := Lib.hid p14
        have qa0' := Lib.hid qa0
        have qa1' := Lib.hid qa1
        have qa2' := Lib.hid qa2
        have d01' := Lib.hid d01
        have d02' := Lib.hid d02
        have d12' := Lib.hid d12
        have g' := Lib.hid g
        clear d12 d02 d01 qa2 qa1 qa0 p14 p13 p12 p11 p10 p9 p8 p7 p6 p5 p4 p3 p2 p1 p0 g
        have hN' := Lib.hid hN; clear hN; have hl' := Lib.hid hl; clear hl; have h1' := Lib.hid h1; clear h1; have hp' := Lib.hid hp; clear hp; have hK' := Lib.hid hK; clear hK
        go_simp
        have hK := hK'.out; have hN := hN'.out; have hl := hl'.out; have h1 := h1'.out
        have p0 := p0'.out
        have p1 := p1'.out
        have p2 := p2'.out
        have p3 := p3'.out
        have p4 := p4'.out
        have p5 := p5'.out
        have p6 := p6'.out
        have p7 := p7'.out
        have p8 := p8'.out
        have p9 := p9'.out
        have p10 := p10'.out
        have p11 := p11'.out
        have p12 := p12'.out
        have p13 := p13'.out
        have p14 := p14'.out
        have qa0 := qa0'.out
        have qa1 := qa1'.out
        have qa2 := qa2'.out
        have d01 := d01'.out
        have d02 := d02'.out
        have d12 := d12'.out
        have g := g'.out
        refine hK _ _ ⟨by simpa using hl, (upd (upd X 25 (.pointer (some ⟨w.heap.size, 6, none⟩))) 26 (ptv c)), rfl, hN, g, p0.keep (by decide), p1.keep (by decide), p2.keep (by decide), p3.keep (by decide), p4.keep (by decide), p5.keep (by decide), p6.keep (by decide), PV.made rfl, PV.made rfl, p9.keep (by decide), p10.keep (by decide), p11.keep (by decide), p12.keep (by decide), p13.keep (by decide), p14.keep (by decide), qa0.keep (by decide) (by decide) (fun _ _ h => h), qa1.keep (by decide) (by decide) (fun _ _ h => h), qa2.keep (by decide) (by decide) (fun _ _ h => h), d01.keep (by decide) (by decide), d02.keep (by decide) (by decide), d12.keep (by decide) (by decide)⟩
      · rintro l A W ⟨hl, X, rfl, hN, g, p0, p1, p2, p3, p4, p5, p6, p7, p8, p9, p10, p11, p12, p13, p14, qa0, qa1, qa2, d01, d02, d12⟩ h1 hp K hK
        have e6 := p6 (hp ⟨6, .data⟩ (by simp) rfl)
        have e8 := p8 (hp ⟨8, .data⟩ (by simp) rfl)
        have hT : ∀ X : Nat → Value, qr2T w a b c x y z X = #[pnv a b c, .pointer (some ⟨w.heap.size, 0, none⟩), .pointer (some ⟨w.heap.size + 1, 0, none⟩), .pointer (some ⟨x, 0, none⟩), .pointer (some ⟨y, 0, none⟩), .pointer (some ⟨z, 0, none⟩), X 6, X 7, X 8, .pointer (some ⟨w.heap.size, 0, none⟩), ptv a, ptv (tim 2 a), .pointer (some ⟨w.heap.size, 3, none⟩), ptv b, ptv (tim 2 b), .pointer (some ⟨w.heap.size, 6, none⟩), ptv c, ptv (tim 2 c), X 18, X 19, X 20, X 21, X 22, X 23, X 24, X 25, X 26, X 27, X 28, X 29, X 30, X 31, X 32, undef, undef, undef, undef, undef, undef, undef, undef, undef, undef, undef, undef, undef, undef, undef, undef, undef] := fun _ => rfl
        rw [hT]
        have p0' := Lib.hid p0
        have p1' := Lib.hid p1
        have p2' := Lib.hid p2
        have p3' := Lib.hid p3
        have p4' := Lib.hid p4
        have p5' := Lib.hid p5
        have p6' := Lib.hid p6
        have p7' := Lib.hid p7
        have p8' := Lib.hid p8
        have p9' := Lib.hid p9
        have p10' := Lib.hid p10
        have p11' := Lib.hid p11
        have p12' := Lib.hid p12
        have p13' := Lib.hid p13
        have p14' := Lib.hid p14
        have qa0' := Lib.hid qa0
        have qa1' := Lib.hid qa1
        have qa2' := Lib.hid qa2
        have d01' := Lib.hid d01
        have d02' := Lib.hid d02
        have d12' := Lib.hid d12
        have g' := Lib.hid g
        clear d12 d02 d01 qa2 qa1 qa0 p14 p13 p12 p11 p10 p9 p8 p7 p6 p5 p4 p3 p2 p1 p0 g
        have hN' := Lib.hid hN; clear hN; have hl' := Lib.hid hl; clear hl; have h1' := Lib.hid h1; clear h1; have hp' := Lib.hid hp; clear hp; have hK' := Lib.hid hK; clear hK
        go_simp
        go_at_call 94
        refine (fplus_any b c _ (BC.out)).mono ?_
        rintro e W1 ⟨rfl, hb⟩
        (try dsimp only)
        have hK := hK'.out; have hN := hN'.out; have hl := hl'.out; have h1 := h1'.out
        have p0 := p0'.out
        have p1 := p1'.out
        have p2 := p2'.out
        have p3 := p3'.out
        have p4 := p4'.out
        have p5 := p5'.out
        have p6 := p6'.out
        have p7 := p7'.out
        have p8 := p8'.out
        have p9 := p9'.out
        have p10 := p10'.out
        have p11 := p11'.out
        have p12 := p12'.out
        have p13 := p13'.out
        have p14 := p14'.out
        have qa0 := qa0'.out
        have qa1 := qa1'.out
        have qa2 := qa2'.out
        have d01 := d01'.out
        have d02 := d02'.out
        have d12 := d12'.out
        have g := g'.out
        refine hK _ _ ⟨by simpa using hl, (upd (upd (upd X 24 (ptv b)) 26 (ptv c)) 27 (ptv (add b c))), rfl, Nat.le_trans hN hb.size, qh_in g (hb.mono hN) NL.out.1 NL.out.2.1 NL.out.2.2.1 NL.out.2.2.2, p0.keep (by decide), p1.keep (by decide), p2.keep (by decide), p3.keep (by decide), p4.keep (by decide), p5.keep (by decide), PV.made rfl, p7.keep (by decide), PV.made rfl, PV.made rfl, p10.keep (by decide), p11.keep (by decide), p12.keep (by decide), p13.keep (by decide), p14.keep (by decide), qa0.keep (by decide) (by decide) (fun _ _ h => own_below h hb), qa1.keep (by decide) (by decide) (fun _ _ h => own_below h hb), qa2.keep (by decide) (by decide) (fun _ _ h => own_below h hb), d01.keep (by decide) (by decide), d02.keep (by decide) (by decide), d12.keep (by decide) (by decide)⟩
      · rintro l A W ⟨hl, X, rfl, hN, g, p0, p1, p2, p3, p4, p5, p6, p7, p8, p9, p10, p11, p12, p13, p14, qa0, qa1, qa2, d01, d02, d12⟩ h1 hp K hK
        have hT : ∀ X : Nat → Value, qr2T w a b c x y z X = #[pnv a b c, .pointer (some ⟨w.heap.size, 0, none⟩), .pointer (some ⟨w.heap.size + 1, 0, none⟩), .pointer (some ⟨x, 0, none⟩), .pointer (some ⟨y, 0, none⟩), .pointer (some ⟨z, 0, none⟩), X 6, X 7, X 8, .pointer (some ⟨w.heap.size, 0, none⟩), ptv a, ptv (tim 2 a), .pointer (some ⟨w.heap.size, 3, none⟩), ptv b, ptv (tim 2 b), .pointer (some ⟨w.heap.size, 6, none⟩), ptv c, ptv (tim 2 c), X 18, X 19, X 20, X 21, X 22, X 23, X 24, X 25, X 26, X 27, X 28, X 29, X 30, X 31, X 32, undef, undef, undef, undef, undef, undef, undef, undef, undef, undef, undef, undef, undef, undef, undef, undef, undef] := fun _ => rfl
        rw [hT]
        have p0' := Lib.hid p0
        have p1' := Lib.hid p1
        have p2' := Lib.hid p2
        have p3' := Lib.hid p3
        have p4' := Lib.hid p4
        have p5' := Lib.hid p5
        have p6' := Lib.hid p6
        have p7' := Lib.hid p7
        have p8' := Lib.hid p8
        have p9' := Lib.hid p9
        have p10' := Lib.hid p10
        have p11' := Lib.hid p11
        have p12' := Lib.hid p12
        have p13' := Lib.hid p13
        have p14' := Lib.hid p14
        have qa0' := Lib.hid qa0
        have qa1' := Lib.hid qa1
        have qa2' := Lib.hid qa2
        have d01' := Lib.hid d01
        have d02' := Lib.hid d02
        have d12' := Lib.hid d12
        have g' := Lib.hid g
        clear d12 d02 d01 qa2 qa1 qa0 p14 p13 p12 p11 p10 p9 p8 p7 p6 p5 p4 p3 p2 p1 p0 g
        have hN' := Lib.hid hN; clear hN; have hl' := Lib.hid hl; clear hl; have h1' := Lib.hid h1; clear h1; have hp' := Lib.hid hp; clear hp; have hK' := Lib.hid hK; clear hK
        go_simp
        have hK := hK'.out; have hN := hN'.out; have hl := hl'.out; have h1 := h1'.out
        have p0 := p0'.out
        have p1 := p1'.out
        have p2 := p2'.out
        have p3 := p3'.out
        have p4 := p4'.out
        have p5 := p5'.out
        have p6 := p6'.out
        have p7 := p7'.out
        have p8 := p8'.out
        have p9 := p9'.out
        have p10 := p10'.out
        have p11 := p11'.out
        have p12 := p12'.out
        have p13 := p13'.out
        have p14 := p14'.out
        have qa0 := qa0'.out
        have qa1 := qa1'.out
        have qa2 := qa2'.out
        have d01 := d01'.out
        have d02 := d02'.out
        have d12 := d12'.out
        have g := g'.out
        refine hK _ _ ⟨by simpa using hl, (upd X 28 (.pointer (some ⟨w.heap.size, 6, none⟩))), rfl, hN, g, p0.keep (by decide), p1.keep (by decide), p2.keep (by decide), p3.keep (by decide), p4.keep (by decide), p5.keep (by decide), p6.keep (by decide), p7.keep (by decide), p8.keep (by decide), p9.keep (by decide), PV.made rfl, p11.keep (by decide), p12.keep (by decide), p13.keep (by decide), p14.keep (by decide), qa0.keep (by decide) (by decide) (fun _ _ h => h), qa1.keep (by decide) (by decide) (fun _ _ h => h), qa2.keep (by decide) (by decide) (fun _ _ h => h), d01.keep (by decide) (by decide), d02.keep (by decide) (by decide), d12.keep (by decide) (by decide)⟩
      · rintro l A W ⟨hl, X, rfl, hN, g, p0, p1, p2, p3, p4, p5, p6, p7, p8, p9, p10, p11, p12, p13, p14, qa0, qa1, qa2, d01, d02, d12⟩ h1 hp K hK
        have e := p10 (hp ⟨10, .data⟩ (by simp) rfl)
        obtain ⟨c0, c1, c2, c3, c4, c5, c6, c7, c8⟩ := pan_cells g.1.1
        have hT : ∀ X : Nat → Value, qr2T w a b c x y z X = #[pnv a b c, .pointer (some ⟨w.heap.size, 0, none⟩), .pointer (some ⟨w.heap.size + 1, 0, none⟩), .pointer (some ⟨x, 0, none⟩), .pointer (some ⟨y, 0, none⟩), .pointer (some ⟨z, 0, none⟩), X 6, X 7, X 8, .pointer (some ⟨w.heap.size, 0, none⟩), ptv a, ptv (tim 2 a), .pointer (some ⟨w.heap.size, 3, none⟩), ptv b, ptv (tim 2 b), .pointer (some ⟨w.heap.size, 6, none⟩), ptv c, ptv (tim 2 c), X 18, X 19, X 20, X 21, X 22, X 23, X 24, X 25, X 26, X 27, X 28, X 29, X 30, X 31, X 32, undef, undef, undef, undef, undef, undef, undef, undef, undef, undef, undef, undef, undef, undef, undef, undef, undef] := fun _ => rfl
        rw [hT]
        have p0' := Lib.hid p0
        have p1' := Lib.hid p1
        have p2' := Lib.hid p2
        have p3' := Lib.hid p3
        have p4' := Lib.hid p4
        have p5' := Lib.hid p5
        have p6' := Lib.hid p6
        have p7' := Lib.hid p7
        have p8' := Lib.hid p8
        have p9' := Lib.hid p9
        have p10' := Lib.hid p10
        have p11' := Lib.hid p11
        have p12' := Lib.hid p12
        have p13' := Lib.hid p13
        have p14' := Lib.hid p14
        have qa0' := Lib.hid qa0
        have qa1' := Lib.hid qa1
        have qa2' := Lib.hid qa2
        have d01' := Lib.hid d01
        have d02' := Lib.hid d02
        have d12' := Lib.hid d12
        have g' := Lib.hid g
        clear d12 d02 d01 qa2 qa1 qa0 p14 p13 p12 p11 p10 p9 p8 p7 p6 p5 p4 p3 p2 p1 p0 g
        have hN' := Lib.hid hN; clear hN; have hl' := Lib.hid hl; clear hl; have h1' := Lib.hid h1; clear h1; have hp' := Lib.hid hp; clear hp; have hK' := Lib.hid hK; clear hK
        go_simp
        have hK := hK'.out; have hN := hN'.out; have hl := hl'.out; have h1 := h1'.out
        have p0 := p0'.out
        have p1 := p1'.out
        have p2 := p2'.out
        have p3 := p3'.out
        have p4 := p4'.out
        have p5 := p5'.out
        have p6 := p6'.out
        have p7 := p7'.out
        have p8 := p8'.out
        have p9 := p9'.out
        have p10 := p10'.out
        have p11 := p11'.out
        have p12 := p12'.out
        have p13 := p13'.out
        have p14 := p14'.out
        have qa0 := qa0'.out
        have qa1 := qa1'.out
        have qa2 := qa2'.out
        have d01 := d01'.out
        have d02 := d02'.out
        have d12 := d12'.out
        have g := g'.out
        refine hK _ _ ⟨by simpa using hl, (upd (upd X 28 (.pointer (some ⟨w.heap.size, 6, none⟩))) 29 (ptv c)), rfl, hN, g, p0.keep (by decide), p1.keep (by decide), p2.keep (by decide), p3.keep (by decide), p4.keep (by decide), p5.keep (by decide), p6.keep (by decide), p7.keep (by decide), p8.keep (by decide), p9.keep (by decide), PV.made rfl, PV.made rfl, p12.keep (by decide), p13.keep (by decide), p14.keep (by decide), qa0.keep (by decide) (by decide) (fun _ _ h => h), qa1.keep (by decide) (by decide) (fun _ _ h => h), qa2.keep (by decide) (by decide) (fun _ _ h => h), d01.keep (by decide) (by decide), d02.keep (by decide) (by decide), d12.keep (by decide) (by decide)⟩
      · rintro l A W ⟨hl, X, rfl, hN, g, p0, p1, p2, p3, p4, p5, p6, p7, p8, p9, p10, p11, p12, p13, p14, qa0, qa1, qa2, d01, d02, d12⟩ h1 hp K hK
        have hT : ∀ X : Nat → Value, qr2T w a b c x y z X = #[pnv a b c, .pointer (some ⟨w.heap.size, 0, none⟩), .pointer (some ⟨w.heap.size + 1, 0, none⟩), .pointer (some ⟨x, 0, none⟩), .pointer (some ⟨y, 0, none⟩), .pointer (some ⟨z, 0, none⟩), X 6, X 7, X 8, .pointer (some ⟨w.heap.size, 0, none⟩), ptv a, ptv (tim 2 a), .pointer (some ⟨w.heap.size, 3, none⟩), ptv b, ptv (tim 2 b), .pointer (some ⟨w.heap.size, 6, none⟩), ptv c, ptv (tim 2 c), X 18, X 19, X 20, X 21, X 22, X 23, X 24, X 25, X 26, X 27, X 28, X 29, X 30, X 31, X 32, undef, undef, undef, undef, undef, undef, undef, undef, undef, undef, undef, undef, undef, undef, undef, undef, undef] := fun _ => rfl
        rw [hT]
        have p0' := Lib.hid p0
        have p1' := Lib.hid p1
        have p2' := Lib.hid p2
        have p3' := Lib.hid p3
        have p4' := Lib.hid p4
        have p5' := Lib.hid p5
        have p6' := Lib.hid p6
        have p7' := Lib.hid p7
        have p8' := Lib.hid p8
        have p9' := Lib.hid p9
        have p10' := Lib.hid p10
        have p11' := Lib.hid p11
        have p12' := Lib.hid p12
        have p13' := Lib.hid p13
        have p14' := Lib.hid p14
        have qa0' := Lib.hid qa0
        have qa1' := Lib.hid qa1
        have qa2' := Lib.hid qa2
        have d01' := Lib.hid d01
        have d02' := Lib.hid d02
        have d12' := Lib.hid d12
        have g' := Lib.hid g
        clear d12 d02 d01 qa2 qa1 qa0 p14 p13 p12 p11 p10 p9 p8 p7 p6 p5 p4 p3 p2 p1 p0 g
        have hN' := Lib.hid hN; clear hN; have hl' := Lib.hid hl; clear hl; have h1' := Lib.hid h1; clear h1; have hp' := Lib.hid hp; clear hp; have hK' := Lib.hid hK; clear hK
        go_simp
        have hK := hK'.out; have hN := hN'.out; have hl := hl'.out; have h1 := h1'.out
        have p0 := p0'.out
        have p1 := p1'.out
        have p2 := p2'.out
        have p3 := p3'.out
        have p4 := p4'.out
        have p5 := p5'.out
        have p6 := p6'.out
        have p7 := p7'.out
        have p8 := p8'.out
        have p9 := p9'.out
        have p10 := p10'.out
        have p11 := p11'.out
        have p12 := p12'.out
        have p13 := p13'.out
        have p14 := p14'.out
        have qa0 := qa0'.out
        have qa1 := qa1'.out
        have qa2 := qa2'.out
        have d01 := d01'.out
        have d02 := d02'.out
        have d12 := d12'.out
        have g := g'.out
        refine hK _ _ ⟨by simpa using hl, (upd X 30 (.pointer (some ⟨w.heap.size, 0, none⟩))), rfl, hN, g, p0.keep (by decide), p1.keep (by decide), p2.keep (by decide), p3.keep (by decide), p4.keep (by decide), p5.keep (by decide), p6.keep (by decide), p7.keep (by decide), p8.keep (by decide), p9.keep (by decide), p10.keep (by decide), p11.keep (by decide), PV.made rfl, p13.keep (by decide), p14.keep (by decide), qa0.keep (by decide) (by decide) (fun _ _ h => h), qa1.keep (by decide) (by decide) (fun _ _ h => h), qa2.keep (by decide) (by decide) (fun _ _ h => h), d01.keep (by decide) (by decide), d02.keep (by decide) (by decide), d12.keep (by decide) (by decide)⟩
      · rintro l A W ⟨hl, X, rfl, hN, g, p0, p1, p2, p3, p4, p5, p6, p7, p8, p9, p10, p11, p12, p13, p14, qa0, qa1, qa2, d01, d02, d12⟩ h1 hp K hK
        have e := p12 (hp ⟨12, .data⟩ (by simp) rfl)
        obtain ⟨c0, c1, c2, c3, c4, c5, c6, c7, c8⟩ := pan_cells g.1.1
        have hT : ∀ X : Nat → Value, qr2T w a b c x y z X = #[pnv a b c, .pointer (some ⟨w.heap.size, 0, none⟩), .pointer (some ⟨w.heap.size + 1, 0, none⟩), .pointer (some ⟨x, 0, none⟩), .pointer (some ⟨y, 0, none⟩), .pointer (some ⟨z, 0, none⟩), X 6, X 7, X 8, .pointer (some ⟨w.heap.size, 0, none⟩), ptv a, ptv (tim 2 a), .pointer (some ⟨w.heap.size, 3, none⟩), ptv b, ptv (tim 2 b), .pointer (some ⟨w.heap.size, 6, none⟩), ptv c, ptv (tim 2 c), X 18, X 19, X 20, X 21, X 22, X 23, X 24, X 25, X 26, X 27, X 28, X 29, X 30, X 31, X 32, undef, undef, undef, undef, undef, undef, undef, undef, undef, undef, undef, undef, undef, undef, undef, undef, undef] := fun _ => rfl
        rw [hT]
        have p0' := Lib.hid p0
        have p1' := Lib.hid p1
        have p2' := Lib.hid p2
        have p3' := Lib.hid p3
        have p4' := Lib.hid p4
        have p5' := Lib.hid p5
        have p6' := Lib.hid p6
        have p7' := Lib.hid p7
        have p8' := Lib.hid p8
        have p9' := Lib.hid p9
        have p10' := Lib.hid p10
        have p11' := Lib.hid p11
        have p12' := Lib.hid p12
        have p13' := Lib.hid p13
        have p14' := Lib.hid p14
        have qa0' := Lib.hid qa0
        have qa1' := Lib.hid qa1
        have qa2' := Lib.hid qa2
        have d01' := Lib.hid d01
        have d02' := Lib.hid d02
        have d12' := Lib.hid d12
        have g' := Lib.hid g
        clear d12 d02 d01 qa2 qa1 qa0 p14 p13 p12 p11 p10 p9 p8 p7 p6 p5 p4 p3 p2 p1 p0 g
        have hN' := Lib.hid hN; clear hN; have hl' := Lib.hid hl; clear hl; have h1' := Lib.hid h1; clear h1; have hp' := Lib.hid hp; clear hp; have hK' := Lib.hid hK; clear hK
        go_simp
        have hK := hK'.out; have hN := hN'.out; have hl := hl'.out; have h1 := h1'.out
        have p0 := p0'.out
        have p1 := p1'.out
        have p2 := p2'.out
        have p3 := p3'.out
        have p4 := p4'.out
        have p5 := p5'.out
        have p6 := p6'.out
        have p7 := p7'.out
        have p8 := p8'.out
        have p9 := p9'.out
        have p10 := p10'.out
        have p11 := p11'.out
        have p12 := p12'.out
        have p13 := p13'.out
        have p14 := p14'.out
        have qa0 := qa0'.out
        have qa1 := qa1'.out
        have qa2 := qa2'.out
        have d01 := d01'.out
        have d02 := d02'.out
        have d12 := d12'.out
        have g := g'.out
        refine hK _ _ ⟨by simpa using hl, (upd (upd X 30 (.pointer (some ⟨w.heap.size, 0, none⟩))) 31 (ptv a)), rfl, hN, g, p0.keep (by decide), p1.keep (by decide), p2.keep (by decide), p3.keep (by decide), p4.keep (by decide), p5.keep (by decide), p6.keep (by decide), p7.keep (by decide), p8.keep (by decide), p9.keep (by decide), p10.keep (by decide), p11.keep (by decide), PV.made rfl, PV.made rfl, p14.keep (by decide), qa0.keep (by decide) (by decide) (fun _ _ h => h), qa1.keep (by decide) (by decide) (fun _ _ h => h), qa2.keep (by decide) (by decide) (fun _ _ h => h), d01.keep (by decide) (by decide), d02.keep (by decide) (by decide), d12.keep (by decide) (by decide)⟩
      · rintro l A W ⟨hl, X, rfl, hN, g, p0, p1, p2, p3, p4, p5, p6, p7, p8, p9, p10, p11, p12, p13, p14, qa0, qa1, qa2, d01, d02, d12⟩ h1 hp K hK
        have e11 := p11 (hp ⟨11, .data⟩ (by simp) rfl)
        have e13 := p13 (hp ⟨13, .data⟩ (by simp) rfl)
        have hT : ∀ X : Nat → Value, qr2T w a b c x y z X = #[pnv a b c, .pointer (some ⟨w.heap.size, 0, none⟩), .pointer (some ⟨w.heap.size + 1, 0, none⟩), .pointer (some ⟨x, 0, none⟩), .pointer (some ⟨y, 0, none⟩), .pointer (some ⟨z, 0, none⟩), X 6, X 7, X 8, .pointer (some ⟨w.heap.size, 0, none⟩), ptv a, ptv (tim 2 a), .pointer (some ⟨w.heap.size, 3, none⟩), ptv b, ptv (tim 2 b), .pointer (some ⟨w.heap.size, 6, none⟩), ptv c, ptv (tim 2 c), X 18, X 19, X 20, X 21, X 22, X 23, X 24, X 25, X 26, X 27, X 28, X 29, X 30, X 31, X 32, undef, undef, undef, undef, undef, undef, undef, undef, undef, undef, undef, undef, undef, undef, undef, undef, undef] := fun _ => rfl
        rw [hT]
        have p0' := Lib.hid p0
        have p1' := Lib.hid p1
        have p2' := Lib.hid p2
        have p3' := Lib.hid p3
        have p4' := Lib.hid p4
        have p5' := Lib.hid p5
        have p6' := Lib.hid p6
        have p7' := Lib.hid p7
        have p8' := Lib.hid p8
        have p9' := Lib.hid p9
        have p10' := Lib.hid p10
        have p11' := Lib.hid p11
        have p12' := Lib.hid p12
        have p13' := Lib.hid p13
        have p14' := Lib.hid p14
        have qa0' := Lib.hid qa0
        have qa1' := Lib.hid qa1
        have qa2' := Lib.hid qa2
        have d01' := Lib.hid d01
        have d02' := Lib.hid d02
        have d12' := Lib.hid d12
        have g' := Lib.hid g
        clear d12 d02 d01 qa2 qa1 qa0 p14 p13 p12 p11 p10 p9 p8 p7 p6 p5 p4 p3 p2 p1 p0 g
        have hN' := Lib.hid hN; clear hN; have hl' := Lib.hid hl; clear hl; have h1' := Lib.hid h1; clear h1; have hp' := Lib.hid hp; clear hp; have hK' := Lib.hid hK; clear hK
        go_simp
        go_at_call 94
        refine (fplus_any c a _ (CA.out)).mono ?_
        rintro e W1 ⟨rfl, hb⟩
        (try dsimp only)
        have hK := hK'.out; have hN := hN'.out; have hl := hl'.out; have h1 := h1'.out
        have p0 := p0'.out
        have p1 := p1'.out
        have p2 := p2'.out
        have p3 := p3'.out
        have p4 := p4'.out
        have p5 := p5'.out
        have p6 := p6'.out
        have p7 := p7'.out
        have p8 := p8'.out
        have p9 := p9'.out
        have p10 := p10'.out
        have p11 := p11'.out
        have p12 := p12'.out
        have p13 := p13'.out
        have p14 := p14'.out
        have qa0 := qa0'.out
        have qa1 := qa1'.out
        have qa2 := qa2'.out
        have d01 := d01'.out
        have d02 := d02'.out
        have d12 := d12'.out
        have g := g'.out
        refine hK _ _ ⟨by simpa using hl, (upd (upd (upd X 29 (ptv c)) 31 (ptv a)) 32 (ptv (add c a))), rfl, Nat.le_trans hN hb.size, qh_in g (hb.mono hN) NL.out.1 NL.out.2.1 NL.out.2.2.1 NL.out.2.2.2, p0.keep (by decide), p1.keep (by decide), p2.keep (by decide), p3.keep (by decide), p4.keep (by decide), p5.keep (by decide), p6.keep (by decide), p7.keep (by decide), p8.keep (by decide), p9.keep (by decide), p10.keep (by decide), PV.made rfl, p12.keep (by decide), PV.made rfl, PV.made rfl, qa0.keep (by decide) (by decide) (fun _ _ h => own_below h hb), qa1.keep (by decide) (by decide) (fun _ _ h => own_below h hb), qa2.keep (by decide) (by decide) (fun _ _ h => own_below h hb), d01.keep (by decide) (by decide), d02.keep (by decide) (by decide), d12.keep (by decide) (by decide)⟩
      · rintro l A W ⟨hl, X, rfl, hN, g, p0, p1, p2, p3, p4, p5, p6, p7, p8, p9, p10, p11, p12, p13, p14, qa0, qa1, qa2, d01, d02, d12⟩ h1 hp K hK
        have hT : ∀ X : Nat → Value, qr2T w a b c x y z X = #[pnv a b c, .pointer (some ⟨w.heap.size, 0, none⟩), .pointer (some ⟨w.heap.size + 1, 0, none⟩), .pointer (some ⟨x, 0, none⟩), .pointer (some ⟨y, 0, none⟩), .pointer (some ⟨z, 0, none⟩), X 6, X 7, X 8, .pointer (some ⟨w.heap.size, 0, none⟩), ptv a, ptv (tim 2 a), .pointer (some ⟨w.heap.size, 3, none⟩), ptv b, ptv (tim 2 b), .pointer (some ⟨w.heap.size, 6, none⟩), ptv c, ptv (tim 2 c), X 18, X 19, X 20, X 21, X 22, X 23, X 24, X 25, X 26, X 27, X 28, X 29, X 30, X 31, X 32, undef, undef, undef, undef, undef, undef, undef, undef, undef, undef, undef, undef, undef, undef, undef, undef, undef] := fun _ => rfl
        rw [hT]
        have p0' := Lib.hid p0
        have p1' := Lib.hid p1
        have p2' := Lib.hid p2
        have p3' := Lib.hid p3
        have p4' := Lib.hid p4
        have p5' := Lib.hid p5
        have p6' := Lib.hid p6
        have p7' := Lib.hid p7
        have p8' := Lib.hid p8
        have p9' := Lib.hid p9
        have p10' := Lib.hid p10
        have p11' := Lib.hid p11
        have p12' := Lib.hid p12
        have p13' := Lib.hid p13
        have p14' := Lib.hid p14
        have qa0' := Lib.hid qa0
        have qa1' := Lib.hid qa1
        have qa2' := Lib.hid qa2
        have d01' := Lib.hid d01
        have d02' := Lib.hid d02
        have d12' := Lib.hid d12
        have g' := Lib.hid g
        clear d12 d02 d01 qa2 qa1 qa0 p14 p13 p12 p11 p10 p9 p8 p7 p6 p5 p4 p3 p2 p1 p0 g
        have hN' := Lib.hid hN; clear hN; have hl' := Lib.hid hl; clear hl; have h1' := Lib.hid h1; clear h1; have hp' := Lib.hid hp; clear hp; have hK' := Lib.hid hK; clear hK
        go_simp
        have hK := hK'.out; have hN := hN'.out; have hl := hl'.out; have h1 := h1'.out
        have p0 := p0'.out
        have p1 := p1'.out
        have p2 := p2'.out
        have p3 := p3'.out
        have p4 := p4'.out
        have p5 := p5'.out
        have p6 := p6'.out
        have p7 := p7'.out
        have p8 := p8'.out
        have p9 := p9'.out
        have p10 := p10'.out
        have p11 := p11'.out
        have p12 := p12'.out
        have p13 := p13'.out
        have p14 := p14'.out
        have qa0 := qa0'.out
        have qa1 := qa1'.out
        have qa2 := qa2'.out
        have d01 := d01'.out
        have d02 := d02'.out
        have d12 := d12'.out
        have g := g'.out
        refine hK _ _ ⟨by simpa using hl, (upd X 6 (.pointer (some ⟨W.heap.size, 0, none⟩))), rfl, (by simp; omega), qh_in g (((Below.refl _ W).alloc (Nat.le_refl _) _).mono hN) NL.out.1 NL.out.2.1 NL.out.2.2.1 NL.out.2.2.2, p0.keep (by decide), p1.keep (by decide), p2.keep (by decide), p3.keep (by decide), p4.keep (by decide), p5.keep (by decide), p6.keep (by decide), p7.keep (by decide), p8.keep (by decide), p9.keep (by decide), p10.keep (by decide), p11.keep (by decide), p12.keep (by decide), p13.keep (by decide), p14.keep (by decide), qa0.made (by decide) (by rw [hl]; decide) h1 hN (own_new W (0, 0, 0) _), qa1.keep (by decide) (by decide) (fun _ _ h => own_alloc h _), qa2.keep (by decide) (by decide) (fun _ _ h => own_alloc h _), DD.mk1 qa1 (by decide), DD.mk1 qa2 (by decide), d12.keep (by decide) (by decide)⟩
      · rintro l A W ⟨hl, X, rfl, hN, g, p0, p1, p2, p3, p4, p5, p6, p7, p8, p9, p10, p11, p12, p13, p14, qa0, qa1, qa2, d01, d02, d12⟩ h1 hp K hK
        have hT : ∀ X : Nat → Value, qr2T w a b c x y z X = #[pnv a b c, .pointer (some ⟨w.heap.size, 0, none⟩), .pointer (some ⟨w.heap.size + 1, 0, none⟩), .pointer (some ⟨x, 0, none⟩), .pointer (some ⟨y, 0, none⟩), .pointer (some ⟨z, 0, none⟩), X 6, X 7, X 8, .pointer (some ⟨w.heap.size, 0, none⟩), ptv a, ptv (tim 2 a), .pointer (some ⟨w.heap.size, 3, none⟩), ptv b, ptv (tim 2 b), .pointer (some ⟨w.heap.size, 6, none⟩), ptv c, ptv (tim 2 c), X 18, X 19, X 20, X 21, X 22, X 23, X 24, X 25, X 26, X 27, X 28, X 29, X 30, X 31, X 32, undef, undef, undef, undef, undef, undef, undef, undef, undef, undef, undef, undef, undef, undef, undef, undef, undef] := fun _ => rfl
        rw [hT]
        have p0' := Lib.hid p0
        have p1' := Lib.hid p1
        have p2' := Lib.hid p2
        have p3' := Lib.hid p3
        have p4' := Lib.hid p4
        have p5' := Lib.hid p5
        have p6' := Lib.hid p6
        have p7' := Lib.hid p7
        have p8' := Lib.hid p8
        have p9' := Lib.hid p9
        have p10' := Lib.hid p10
        have p11' := Lib.hid p11
        have p12' := Lib.hid p12
        have p13' := Lib.hid p13
        have p14' := Lib.hid p14
        have qa0' := Lib.hid qa0
        have qa1' := Lib.hid qa1
        have qa2' := Lib.hid qa2
        have d01' := Lib.hid d01
        have d02' := Lib.hid d02
        have d12' := Lib.hid d12
        have g' := Lib.hid g
        clear d12 d02 d01 qa2 qa1 qa0 p14 p13 p12 p11 p10 p9 p8 p7 p6 p5 p4 p3 p2 p1 p0 g
        have hN' := Lib.hid hN; clear hN; have hl' := Lib.hid hl; clear hl; have h1' := Lib.hid h1; clear h1; have hp' := Lib.hid hp; clear hp; have hK' := Lib.hid hK; clear hK
        go_simp
        have hK := hK'.out; have hN := hN'.out; have hl := hl'.out; have h1 := h1'.out
        have p0 := p0'.out
        have p1 := p1'.out
        have p2 := p2'.out
        have p3 := p3'.out
        have p4 := p4'.out
        have p5 := p5'.out
        have p6 := p6'.out
        have p7 := p7'.out
        have p8 := p8'.out
        have p9 := p9'.out
        have p10 := p10'.out
        have p11 := p11'.out
        have p12 := p12'.out
        have p13 := p13'.out
        have p14 := p14'.out
        have qa0 := qa0'.out
        have qa1 := qa1'.out
        have qa2 := qa2'.out
        have d01 := d01'.out
        have d02 := d02'.out
        have d12 := d12'.out
        have g := g'.out
        refine hK _ _ ⟨by simpa using hl, (upd X 7 (.pointer (some ⟨W.heap.size, 0, none⟩))), rfl, (by simp; omega), qh_in g (((Below.refl _ W).alloc (Nat.le_refl _) _).mono hN) NL.out.1 NL.out.2.1 NL.out.2.2.1 NL.out.2.2.2, p0.keep (by decide), p1.keep (by decide), p2.keep (by decide), p3.keep (by decide), p4.keep (by decide), p5.keep (by decide), p6.keep (by decide), p7.keep (by decide), p8.keep (by decide), p9.keep (by decide), p10.keep (by decide), p11.keep (by decide), p12.keep (by decide), p13.keep (by decide), p14.keep (by decide), qa0.keep (by decide) (by decide) (fun _ _ h => own_alloc h _), qa1.made (by decide) (by rw [hl]; decide) h1 hN (own_new W (0, 0, 0) _), qa2.keep (by decide) (by decide) (fun _ _ h => own_alloc h _), DD.mk2 qa0 (by decide), d02.keep (by decide) (by decide), DD.mk1 qa2 (by decide)⟩
      · rintro l A W ⟨hl, X, rfl, hN, g, p0, p1, p2, p3, p4, p5, p6, p7, p8, p9, p10, p11, p12, p13, p14, qa0, qa1, qa2, d01, d02, d12⟩ h1 hp K hK
        have hT : ∀ X : Nat → Value, qr2T w a b c x y z X = #[pnv a b c, .pointer (some ⟨w.heap.size, 0, none⟩), .pointer (some ⟨w.heap.size + 1, 0, none⟩), .pointer (some ⟨x, 0, none⟩), .pointer (some ⟨y, 0, none⟩), .pointer (some ⟨z, 0, none⟩), X 6, X 7, X 8, .pointer (some ⟨w.heap.size, 0, none⟩), ptv a, ptv (tim 2 a), .pointer (some ⟨w.heap.size, 3, none⟩), ptv b, ptv (tim 2 b), .pointer (some ⟨w.heap.size, 6, none⟩), ptv c, ptv (tim 2 c), X 18, X 19, X 20, X 21, X 22, X 23, X 24, X 25, X 26, X 27, X 28, X 29, X 30, X 31, X 32, undef, undef, undef, undef, undef, undef, undef, undef, undef, undef, undef, undef, undef, undef, undef, undef, undef] := fun _ => rfl
        rw [hT]
        have p0' := Lib.hid p0
        have p1' := Lib.hid p1
        have p2' := Lib.hid p2
        have p3' := Lib.hid p3
        have p4' := Lib.hid p4
        have p5' := Lib.hid p5
        have p6' := Lib.hid p6
        have p7' := Lib.hid p7
        have p8' := Lib.hid p8
        have p9' := Lib.hid p9
        have p10' := Lib.hid p10
        have p11' := Lib.hid p11
        have p12' := Lib.hid p12
        have p13' := Lib.hid p13
        have p14' := Lib.hid p14
        have qa0' := Lib.hid qa0
        have qa1' := Lib.hid qa1
        have qa2' := Lib.hid qa2
        have d01' := Lib.hid d01
        have d02' := Lib.hid d02
        have d12' := Lib.hid d12
        have g' := Lib.hid g
        clear d12 d02 d01 qa2 qa1 qa0 p14 p13 p12 p11 p10 p9 p8 p7 p6 p5 p4 p3 p2 p1 p0 g
        have hN' := Lib.hid hN; clear hN; have hl' := Lib.hid hl; clear hl; have h1' := Lib.hid h1; clear h1; have hp' := Lib.hid hp; clear hp; have hK' := Lib.hid hK; clear hK
        go_simp
        have hK := hK'.out; have hN := hN'.out; have hl := hl'.out; have h1 := h1'.out
        have p0 := p0'.out
        have p1 := p1'.out
        have p2 := p2'.out
        have p3 := p3'.out
        have p4 := p4'.out
        have p5 := p5'.out
        have p6 := p6'.out
        have p7 := p7'.out
        have p8 := p8'.out
        have p9 := p9'.out
        have p10 := p10'.out
        have p11 := p11'.out
        have p12 := p12'.out
        have p13 := p13'.out
        have p14 := p14'.out
        have qa0 := qa0'.out
        have qa1 := qa1'.out
        have qa2 := qa2'.out
        have d01 := d01'.out
        have d02 := d02'.out
        have d12 := d12'.out
        have g := g'.out
        refine hK _ _ ⟨by simpa using hl, (upd X 8 (.pointer (some ⟨W.heap.size, 0, none⟩))), rfl, (by simp; omega), qh_in g (((Below.refl _ W).alloc (Nat.le_refl _) _).mono hN) NL.out.1 NL.out.2.1 NL.out.2.2.1 NL.out.2.2.2, p0.keep (by decide), p1.keep (by decide), p2.keep (by decide), p3.keep (by decide), p4.keep (by decide), p5.keep (by decide), p6.keep (by decide), p7.keep (by decide), p8.keep (by decide), p9.keep (by decide), p10.keep (by decide), p11.keep (by decide), p12.keep (by decide), p13.keep (by decide), p14.keep (by decide), qa0.keep (by decide) (by decide) (fun _ _ h => own_alloc h _), qa1.keep (by decide) (by decide) (fun _ _ h => own_alloc h _), qa2.made (by decide) (by rw [hl]; decide) h1 hN (own_new W (0, 0, 0) _), d01.keep (by decide) (by decide), DD.mk2 qa0 (by decide), DD.mk2 qa1 (by decide)⟩
      · rintro l A W ⟨hl, X, rfl, hN, g, p0, p1, p2, p3, p4, p5, p6, p7, p8, p9, p10, p11, p12, p13, p14, qa0, qa1, qa2, d01, d02, d12⟩ h1 hp K hK
        have la := hp ⟨15, .data⟩ (by simp) rfl
        have e := p4 (hp ⟨4, .data⟩ (by simp) rfl)
        obtain ⟨b', v', e2, hb', ow, _⟩ := qa0.2 la
        obtain ⟨o0, o1, o2, o3, o4, o5, o6⟩ := id ow
        have hT : ∀ X : Nat → Value, qr2T w a b c x y z X = #[pnv a b c, .pointer (some ⟨w.heap.size, 0, none⟩), .pointer (some ⟨w.heap.size + 1, 0, none⟩), .pointer (some ⟨x, 0, none⟩), .pointer (some ⟨y, 0, none⟩), .pointer (some ⟨z, 0, none⟩), X 6, X 7, X 8, .pointer (some ⟨w.heap.size, 0, none⟩), ptv a, ptv (tim 2 a), .pointer (some ⟨w.heap.size, 3, none⟩), ptv b, ptv (tim 2 b), .pointer (some ⟨w.heap.size, 6, none⟩), ptv c, ptv (tim 2 c), X 18, X 19, X 20, X 21, X 22, X 23, X 24, X 25, X 26, X 27, X 28, X 29, X 30, X 31, X 32, undef, undef, undef, undef, undef, undef, undef, undef, undef, undef, undef, undef, undef, undef, undef, undef, undef] := fun _ => rfl
        rw [hT]
        have p0' := Lib.hid p0
        have p1' := Lib.hid p1
        have p2' := Lib.hid p2
        have p3' := Lib.hid p3
        have p4' := Lib.hid p4
        have p5' := Lib.hid p5
        have p6' := Lib.hid p6
        have p7' := Lib.hid p7
        have p8' := Lib.hid p8
        have p9' := Lib.hid p9
        have p10' := Lib.hid p10
        have p11' := Lib.hid p11
        have p12' := Lib.hid p12
        have p13' := Lib.hid p13
        have p14' := Lib.hid p14
        have qa0' := Lib.hid qa0
        have qa1' := Lib.hid qa1
        have qa2' := Lib.hid qa2
        have d01' := Lib.hid d01
        have d02' := Lib.hid d02
        have d12' := Lib.hid d12
        have g' := Lib.hid g
        clear d12 d02 d01 qa2 qa1 qa0 p14 p13 p12 p11 p10 p9 p8 p7 p6 p5 p4 p3 p2 p1 p0 g
        have hN' := Lib.hid hN; clear hN; have hl' := Lib.hid hl; clear hl; have h1' := Lib.hid h1; clear h1; have hp' := Lib.hid hp; clear hp; have hK' := Lib.hid hK; clear hK
        have la' := Lib.hid la; clear la; have hb'' := Lib.hid hb'; clear hb'; have ow' := Lib.hid ow; clear ow
        go_simp
        have hK := hK'.out; have hN := hN'.out; have hl := hl'.out; have h1 := h1'.out
        have p0 := p0'.out
        have p1 := p1'.out
        have p2 := p2'.out
        have p3 := p3'.out
        have p4 := p4'.out
        have p5 := p5'.out
        have p6 := p6'.out
        have p7 := p7'.out
        have p8 := p8'.out
        have p9 := p9'.out
        have p10 := p10'.out
        have p11 := p11'.out
        have p12 := p12'.out
        have p13 := p13'.out
        have p14 := p14'.out
        have qa0 := qa0'.out
        have qa1 := qa1'.out
        have qa2 := qa2'.out
        have d01 := d01'.out
        have d02 := d02'.out
        have d12 := d12'.out
        have g := g'.out
        have la := la'.out; have hb' := hb''.out; have ow := ow'.out
        refine hK _ _ ⟨by simpa using hl, (upd (upd X 6 (.pointer (some ⟨b', 0, none⟩))) 22 (ptv (add a b))), rfl, (by simpa using hN), qh_in g (below_set3 _ _ _ hb') NL.out.1 NL.out.2.1 NL.out.2.2.1 NL.out.2.2.2, p0.keep (by decide), p1.keep (by decide), p2.keep (by decide), p3.keep (by decide), PV.made rfl, p5.keep (by decide), p6.keep (by decide), p7.keep (by decide), p8.keep (by decide), p9.keep (by decide), p10.keep (by decide), p11.keep (by decide), p12.keep (by decide), p13.keep (by decide), p14.keep (by decide), QA.put (by decide) la rfl hb' (own_put ow _), qa1.other (by decide) (by decide) (fun z => by have dd := d01 la z; rw [e2] at dd; exact dd.symm) (fun _ _ n h => own_set3 _ _ _ n h), qa2.other (by decide) (by decide) (fun z => by have dd := d02 la z; rw [e2] at dd; exact dd.symm) (fun _ _ n h => own_set3 _ _ _ n h), (by have z := d01.keep (i := 18) (by decide) (by decide); rw [e2] at z; exact z), (by have z := d02.keep (i := 18) (by decide) (by decide); rw [e2] at z; exact z), d12.keep (by decide) (by decide)⟩
      · rintro l A W ⟨hl, X, rfl, hN, g, p0, p1, p2, p3, p4, p5, p6, p7, p8, p9, p10, p11, p12, p13, p14, qa0, qa1, qa2, d01, d02, d12⟩ h1 hp K hK
        have la := hp ⟨16, .data⟩ (by simp) rfl
        have e := p9 (hp ⟨9, .data⟩ (by simp) rfl)
        obtain ⟨b', v', e2, hb', ow, _⟩ := qa1.2 la
        obtain ⟨o0, o1, o2, o3, o4, o5, o6⟩ := id ow
        have hT : ∀ X : Nat → Value, qr2T w a b c x y z X = #[pnv a b c, .pointer (some ⟨w.heap.size, 0, none⟩), .pointer (some ⟨w.heap.size + 1, 0, none⟩), .pointer (some ⟨x, 0, none⟩), .pointer (some ⟨y, 0, none⟩), .pointer (some ⟨z, 0, none⟩), X 6, X 7, X 8, .pointer (some ⟨w.heap.size, 0, none⟩), ptv a, ptv (tim 2 a), .pointer (some ⟨w.heap.size, 3, none⟩), ptv b, ptv (tim 2 b), .pointer (some ⟨w.heap.size, 6, none⟩), ptv c, ptv (tim 2 c), X 18, X 19, X 20, X 21, X 22, X 23, X 24, X 25, X 26, X 27, X 28, X 29, X 30, X 31, X 32, undef, undef, undef, undef, undef, undef, undef, undef, undef, undef, undef, undef, undef, undef, undef, undef, undef] := fun _ => rfl
        rw [hT]
        have p0' := Lib.hid p0
        have p1' := Lib.hid p1
        have p2' := Lib.hid p2
        have p3' := Lib.hid p3
        have p4' := Lib.hid p4
        have p5' := Lib.hid p5
        have p6' := Lib.hid p6
        have p7' := Lib.hid p7
        have p8' := Lib.hid p8
        have p9' := Lib.hid p9
        have p10' := Lib.hid p10
        have p11' := Lib.hid p11
        have p12' := Lib.hid p12
        have p13' := Lib.hid p13
        have p14' := Lib.hid p14
        have qa0' := Lib.hid qa0
        have qa1' := Lib.hid qa1
        have qa2' := Lib.hid qa2
        have d01' := Lib.hid d01
        have d02' := Lib.hid d02
        have d12' := Lib.hid d12
        have g' := Lib.hid g
        clear d12 d02 d01 qa2 qa1 qa0 p14 p13 p12 p11 p10 p9 p8 p7 p6 p5 p4 p3 p2 p1 p0 g
        have hN' := Lib.hid hN; clear hN; have hl' := Lib.hid hl; clear hl; have h1' := Lib.hid h1; clear h1; have hp' := Lib.hid hp; clear hp; have hK' := Lib.hid hK; clear hK
        have la' := Lib.hid la; clear la; have hb'' := Lib.hid hb'; clear hb'; have ow' := Lib.hid ow; clear ow
        go_simp
        have hK := hK'.out; have hN := hN'.out; have hl := hl'.out; have h1 := h1'.out
        have p0 := p0'.out
        have p1 := p1'.out
        have p2 := p2'.out
        have p3 := p3'.out
        have p4 := p4'.out
        have p5 := p5'.out
        have p6 := p6'.out
        have p7 := p7'.out
        have p8 := p8'.out
        have p9 := p9'.out
        have p10 := p10'.out
        have p11 := p11'.out
        have p12 := p12'.out
        have p13 := p13'.out
        have p14 := p14'.out
        have qa0 := qa0'.out
        have qa1 := qa1'.out
        have qa2 := qa2'.out
        have d01 := d01'.out
        have d02 := d02'.out
        have d12 := d12'.out
        have g := g'.out
        have la := la'.out; have hb' := hb''.out; have ow := ow'.out
        refine hK _ _ ⟨by simpa using hl, (upd (upd X 7 (.pointer (some ⟨b', 0, none⟩))) 27 (ptv (add b c))), rfl, (by simpa using hN), qh_in g (below_set3 _ _ _ hb') NL.out.1 NL.out.2.1 NL.out.2.2.1 NL.out.2.2.2, p0.keep (by decide), p1.keep (by decide), p2.keep (by decide), p3.keep (by decide), p4.keep (by decide), p5.keep (by decide), p6.keep (by decide), p7.keep (by decide), p8.keep (by decide), PV.made rfl, p10.keep (by decide), p11.keep (by decide), p12.keep (by decide), p13.keep (by decide), p14.keep (by decide), qa0.other (by decide) (by decide) (fun z => by have dd := d01 z la; rw [e2] at dd; exact dd) (fun _ _ n h => own_set3 _ _ _ n h), QA.put (by decide) la rfl hb' (own_put ow _), qa2.other (by decide) (by decide) (fun z => by have dd := d12 la z; rw [e2] at dd; exact dd.symm) (fun _ _ n h => own_set3 _ _ _ n h), (by have z := d01.keep (i := 19) (by decide) (by decide); rw [e2] at z; exact z), d02.keep (by decide) (by decide), (by have z := d12.keep (i := 19) (by decide) (by decide); rw [e2] at z; exact z)⟩
      · rintro l A W ⟨hl, X, rfl, hN, g, p0, p1, p2, p3, p4, p5, p6, p7, p8, p9, p10, p11, p12, p13, p14, qa0, qa1, qa2, d01, d02, d12⟩ h1 hp K hK
        have la := hp ⟨17, .data⟩ (by simp) rfl
        have e := p14 (hp ⟨14, .data⟩ (by simp) rfl)
        obtain ⟨b', v', e2, hb', ow, _⟩ := qa2.2 la
        obtain ⟨o0, o1, o2, o3, o4, o5, o6⟩ := id ow
        have hT : ∀ X : Nat → Value, qr2T w a b c x y z X = #[pnv a b c, .pointer (some ⟨w.heap.size, 0, none⟩), .pointer (some ⟨w.heap.size + 1, 0, none⟩), .pointer (some ⟨x, 0, none⟩), .pointer (some ⟨y, 0, none⟩), .pointer (some ⟨z, 0, none⟩), X 6, X 7, X 8, .pointer (some ⟨w.heap.size, 0, none⟩), ptv a, ptv (tim 2 a), .pointer (some ⟨w.heap.size, 3, none⟩), ptv b, ptv (tim 2 b), .pointer (some ⟨w.heap.size, 6, none⟩), ptv c, ptv (tim 2 c), X 18, X 19, X 20, X 21, X 22, X 23, X 24, X 25, X 26, X 27, X 28, X 29, X 30, X 31, X 32, undef, undef, undef, undef, undef, undef, undef, undef, undef, undef, undef, undef, undef, undef, undef, undef, undef] := fun _ => rfl
        rw [hT]
        have p0' := Lib.hid p0
        have p1' := Lib.hid p1
        have p2' := Lib.hid p2
        have p3' := Lib.hid p3
        have p4' := Lib.hid p4
        have p5' := Lib.hid p5
        have p6' := Lib.hid p6
        have p7' := Lib.hid p7
        have p8' := Lib.hid p8
        have p9' := Lib.hid p9
        have p10' := Lib.hid p10
        have p11' := Lib.hid p11
        have p12' := Lib.hid p12
        have p13' := Lib.hid p13
        have p14' := Lib.hid p14
        have qa0' := Lib.hid qa0
        have qa1' := Lib.hid qa1
        have qa2' := Lib.hid qa2
        have d01' := Lib.hid d01
        have d02' := Lib.hid d02
        have d12' := Lib.hid d12
        have g' := Lib.hid g
        clear d12 d02 d01 qa2 qa1 qa0 p14 p13 p12 p11 p10 p9 p8 p7 p6 p5 p4 p3 p2 p1 p0 g
        have hN' := Lib.hid hN; clear hN; have hl' := Lib.hid hl; clear hl; have h1' := Lib.hid h1; clear h1; have hp' := Lib.hid hp; clear hp; have hK' := Lib.hid hK; clear hK
        have la' := Lib.hid la; clear la; have hb'' := Lib.hid hb'; clear hb'; have ow' := Lib.hid ow; clear ow
        go_simp
        have hK := hK'.out; have hN := hN'.out; have hl := hl'.out; have h1 := h1'.out
        have p0 := p0'.out
        have p1 := p1'.out
        have p2 := p2'.out
        have p3 := p3'.out
        have p4 := p4'.out
        have p5 := p5'.out
        have p6 := p6'.out
        have p7 := p7'.out
        have p8 := p8'.out
        have p9 := p9'.out
        have p10 := p10'.out
        have p11 := p11'.out
        have p12 := p12'.out
        have p13 := p13'.out
        have p14 := p14'.out
        have qa0 := qa0'.out
        have qa1 := qa1'.out
        have qa2 := qa2'.out
        have d01 := d01'.out
        have d02 := d02'.out
        have d12 := d12'.out
        have g := g'.out
        have la := la'.out; have hb' := hb''.out; have ow := ow'.out
        refine hK _ _ ⟨by simpa using hl, (upd (upd X 8 (.pointer (some ⟨b', 0, none⟩))) 32 (ptv (add c a))), rfl, (by simpa using hN), qh_in g (below_set3 _ _ _ hb') NL.out.1 NL.out.2.1 NL.out.2.2.1 NL.out.2.2.2, p0.keep (by decide), p1.keep (by decide), p2.keep (by decide), p3.keep (by decide), p4.keep (by decide), p5.keep (by decide), p6.keep (by decide), p7.keep (by decide), p8.keep (by decide), p9.keep (by decide), p10.keep (by decide), p11.keep (by decide), p12.keep (by decide), p13.keep (by decide), PV.made rfl, qa0.other (by decide) (by decide) (fun z => by have dd := d02 z la; rw [e2] at dd; exact dd) (fun _ _ n h => own_set3 _ _ _ n h), qa1.other (by decide) (by decide) (fun z => by have dd := d12 z la; rw [e2] at dd; exact dd) (fun _ _ n h => own_set3 _ _ _ n h), QA.put (by decide) la rfl hb' (own_put ow _), d01.keep (by decide) (by decide), (by have z := d02.keep (i := 20) (by decide) (by decide); rw [e2] at z; exact z), (by have z := d12.keep (i := 20) (by decide) (by decide); rw [e2] at z; exact z)⟩
    · rintro l A W' ⟨hl, X, rfl, hN, g, p0, p1, p2, p3, p4, p5, p6, p7, p8, p9, p10, p11, p12, p13, p14, qa0, qa1, qa2, d01, d02, d12⟩ hr
      have l0 := ready_end hr 0 (by rw [hl]; decide) rfl (fun e he _ => by
        simp at he
        (try (repeat (rcases he with rfl | he; · assumption)))
        (try (first | (subst he; assumption) | exact he.elim)))
      have l1 := ready_end hr 1 (by rw [hl]; decide) rfl (fun e he _ => by
        simp at he
        (try (repeat (rcases he with rfl | he; · assumption)))
        (try (first | (subst he; assumption) | exact he.elim)))
      have l2 := ready_end hr 2 (by rw [hl]; decide) rfl (fun e he _ => by
        simp at he
        (try (repeat (rcases he with rfl | he; · assumption)))
        (try (first | (subst he; assumption) | exact he.elim)))
      have l3 := ready_end hr 3 (by rw [hl]; decide) rfl (fun e he _ => by
        simp at he
        (try (repeat (rcases he with rfl | he; · assumption)))
        (try (first | (subst he; assumption) | exact he.elim)))
      have l4 := ready_end hr 4 (by rw [hl]; decide) rfl (fun e he _ => by
        simp at he
        (try (repeat (rcases he with rfl | he; · assumption)))
        (try (first | (subst he; assumption) | exact he.elim)))
      have l5 := ready_end hr 5 (by rw [hl]; decide) rfl (fun e he _ => by
        simp at he
        (try (repeat (rcases he with rfl | he; · assumption)))
        (try (first | (subst he; assumption) | exact he.elim)))
      have l6 := ready_end hr 6 (by rw [hl]; decide) rfl (fun e he _ => by
        simp at he
        (try (repeat (rcases he with rfl | he; · assumption)))
        (try (first | (subst he; assumption) | exact he.elim)))
      have l7 := ready_end hr 7 (by rw [hl]; decide) rfl (fun e he _ => by
        simp at he
        (try (repeat (rcases he with rfl | he; · assumption)))
        (try (first | (subst he; assumption) | exact he.elim)))
      have l8 := ready_end hr 8 (by rw [hl]; decide) rfl (fun e he _ => by
        simp at he
        (try (repeat (rcases he with rfl | he; · assumption)))
        (try (first | (subst he; assumption) | exact he.elim)))
      have l9 := ready_end hr 9 (by rw [hl]; decide) rfl (fun e he _ => by
        simp at he
        (try (repeat (rcases he with rfl | he; · assumption)))
        (try (first | (subst he; assumption) | exact he.elim)))
      have l10 := ready_end hr 10 (by rw [hl]; decide) rfl (fun e he _ => by
        simp at he
        (try (repeat (rcases he with rfl | he; · assumption)))
        (try (first | (subst he; assumption) | exact he.elim)))
      have l11 := ready_end hr 11 (by rw [hl]; decide) rfl (fun e he _ => by
        simp at he
        (try (repeat (rcases he with rfl | he; · assumption)))
        (try (first | (subst he; assumption) | exact he.elim)))
      have l12 := ready_end hr 12 (by rw [hl]; decide) rfl (fun e he _ => by
        simp at he
        (try (repeat (rcases he with rfl | he; · assumption)))
        (try (first | (subst he; assumption) | exact he.elim)))
      have l13 := ready_end hr 13 (by rw [hl]; decide) rfl (fun e he _ => by
        simp at he
        (try (repeat (rcases he with rfl | he; · assumption)))
        (try (first | (subst he; assumption) | exact he.elim)))
      have l14 := ready_end hr 14 (by rw [hl]; decide) rfl (fun e he _ => by
        simp at he
        (try (repeat (rcases he with rfl | he; · assumption)))
        (try (first | (subst he; assumption) | exact he.elim)))
      have l15 := ready_end hr 15 (by rw [hl]; decide) rfl (fun e he _ => by
        simp at he
        (try (repeat (rcases he with rfl | he; · assumption)))
        (try (first | (subst he; assumption) | exact he.elim)))
      have l16 := ready_end hr 16 (by rw [hl]; decide) rfl (fun e he _ => by
        simp at he
        (try (repeat (rcases he with rfl | he; · assumption)))
        (try (first | (subst he; assumption) | exact he.elim)))
      have l17 := ready_end hr 17 (by rw [hl]; decide) rfl (fun e he _ => by
        simp at he
        (try (repeat (rcases he with rfl | he; · assumption)))
        (try (first | (subst he; assumption) | exact he.elim)))
      have l18 := ready_end hr 18 (by rw [hl]; decide) rfl (fun e he _ => by
        simp at he
        (try (repeat (rcases he with rfl | he; · assumption)))
        (try (first | (subst he; assumption) | exact he.elim)))
      have l19 := ready_end hr 19 (by rw [hl]; decide) rfl (fun e he _ => by
        simp at he
        (try (repeat (rcases he with rfl | he; · assumption)))
        (try (first | (subst he; assumption) | exact he.elim)))
      have l20 := ready_end hr 20 (by rw [hl]; decide) rfl (fun e he _ => by
        simp at he
        (try (repeat (rcases he with rfl | he; · assumption)))
        (try (first | (subst he; assumption) | exact he.elim)))
      obtain ⟨x', vx, e6, nx, ox, tx⟩ := qa0.2 l15
      obtain ⟨y', vy, e7, ny, oy, ty⟩ := qa1.2 l16
      obtain ⟨z', vz, e8, nz, oz, tz⟩ := qa2.2 l17
      obtain rfl := tx l18
      obtain rfl := ty l19
      obtain rfl := tz l20
      have hT : qr2T w a b c x y z X = #[pnv a b c, .pointer (some ⟨w.heap.size, 0, none⟩), .pointer (some ⟨w.heap.size + 1, 0, none⟩), .pointer (some ⟨x, 0, none⟩), .pointer (some ⟨y, 0, none⟩), .pointer (some ⟨z, 0, none⟩), .pointer (some ⟨x', 0, none⟩), .pointer (some ⟨y', 0, none⟩), .pointer (some ⟨z', 0, none⟩), .pointer (some ⟨w.heap.size, 0, none⟩), ptv a, ptv (tim 2 a), .pointer (some ⟨w.heap.size, 3, none⟩), ptv b, ptv (tim 2 b), .pointer (some ⟨w.heap.size, 6, none⟩), ptv c, ptv (tim 2 c), .pointer (some ⟨w.heap.size, 0, none⟩), ptv a, .pointer (some ⟨w.heap.size, 3, none⟩), ptv b, ptv (add a b), .pointer (some ⟨w.heap.size, 3, none⟩), ptv b, .pointer (some ⟨w.heap.size, 6, none⟩), ptv c, ptv (add b c), .pointer (some ⟨w.heap.size, 6, none⟩), ptv c, .pointer (some ⟨w.heap.size, 0, none⟩), ptv a, ptv (add c a), undef, undef, undef, undef, undef, undef, undef, undef, undef, undef, undef, undef, undef, undef, undef, undef, undef] := by
        simp only [qr2T, e6, e7, e8, p0 l0, p1 l1, p2 l2, p3 l3, p4 l4, p5 l5, p6 l6, p7 l7, p8 l8, p9 l9, p10 l10, p11 l11, p12 l12, p13 l13, p14 l14]
      rw [hT]
      exact hK2 _ _ (qr_rest a b c x y z x' y' z' w W' g ox oy oz)

end Go.Proofs.Ytlegalibjkeccaa
