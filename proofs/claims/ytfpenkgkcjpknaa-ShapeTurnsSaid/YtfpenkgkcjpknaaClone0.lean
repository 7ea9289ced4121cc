/-
  The contracts of slices.Clone at points and faces, and of the document's Copy: rows in memory of the call's own.
-/
import Derived.Test.YtfpenkgkcjpknaaSame
import Derived.Test.YtfpenkgkcjpknaaBlock
import Derived.Deep.AppendSrc
import Derived.WalkSpells
namespace Go.Proofs.Ytfpenkgkcjpknaa
open Go.ChangeShapes Go.WideShapes Go.RowKit
open Sh
/-- n points or faces at a block's head, free to be written -/
def Row3W (w : World) (b n : Nat) (f : Nat → P3) : Prop :=
  b < w.heap.size ∧ ∀ k, k < n → (w.cell? ⟨b, k * 3, none⟩ = some (.int .i64 (f k).1) ∧ w.cell? ⟨b, k * 3 + 1, none⟩ = some (.int .i64 (f k).2.1) ∧ w.cell? ⟨b, k * 3 + 2, none⟩ = some (.int .i64 (f k).2.2)) ∧
    w.frozen? ⟨b, k * 3, none⟩ = false ∧ w.frozen? ⟨b, k * 3 + 1, none⟩ = false ∧ w.frozen? ⟨b, k * 3 + 2, none⟩ = false
theorem row3w_row {w : World} {b n : Nat} {f : Nat → P3} (h : Row3W w b n f) : Row3 w b 0 n f :=
  ⟨h.1, fun k hk => by have := (h.2 k hk).1; simpa using this⟩
theorem row3w_in {w w1 : World} {B b n : Nat} {f : Nat → P3} (r : Row3W w b n f) (hb : Below B w w1) (h : b < B) : Row3W w1 b n f :=
  ⟨Nat.lt_of_lt_of_le r.1 hb.size, fun k hk => by
    obtain ⟨⟨h1, h2, h3⟩, h4, h5, h6⟩ := r.2 k hk
    exact ⟨⟨(hb.cell (p := ⟨b, _, none⟩) h).trans h1, (hb.cell (p := ⟨b, _, none⟩) h).trans h2, (hb.cell (p := ⟨b, _, none⟩) h).trans h3⟩, (hb.frozen (p := ⟨b, _, none⟩) h).trans h4, (hb.frozen (p := ⟨b, _, none⟩) h).trans h5, (hb.frozen (p := ⟨b, _, none⟩) h).trans h6⟩⟩
theorem row3w_below {w w1 : World} {b n : Nat} {f : Nat → P3} (r : Row3W w b n f) (hb : Below w.heap.size w w1) : Row3W w1 b n f := row3w_in r hb r.1
theorem row3w_eq {w : World} {b n : Nat} {f g : Nat → P3} (r : Row3W w b n f) (e : ∀ k, k < n → f k = g k) : Row3W w b n g :=
  ⟨r.1, fun k hk => by rw [← e k hk]; exact r.2 k hk⟩
theorem row3w_set {w : World} {b n q o : Nat} {f : Nat → P3} {v : Value} (r : Row3W w b n f) (h : q ≠ b) : Row3W (w.setCell ⟨q, o, none⟩ v) b n f := by
  refine ⟨by simpa using r.1, fun k hk => ?_⟩
  obtain ⟨⟨h1, h2, h3⟩, h4, h5, h6⟩ := r.2 k hk
  have n1 : ¬ q = b := h
  have n2 : ¬ b = q := fun e => h e.symm
  exact ⟨⟨by go_simp, by go_simp, by go_simp⟩, by go_simp, by go_simp, by go_simp⟩
/-- one row is laid anew -/
theorem row3w_put {w : World} {b n : Nat} {f : Nat → P3} (r : Row3W w b n f) {i : Nat} (hi : i < n) (p : P3) :
    Row3W (((w.setCell ⟨b, i * 3, none⟩ (.int .i64 p.1)).setCell ⟨b, i * 3 + 1, none⟩ (.int .i64 p.2.1)).setCell ⟨b, i * 3 + 2, none⟩ (.int .i64 p.2.2)) b n (fun k => if k = i then p else f k) := by
  refine ⟨by simpa using r.1, fun k hk => ?_⟩
  obtain ⟨⟨a1, a2, a3⟩, a4, a5, a6⟩ := r.2 i hi
  obtain ⟨⟨h1, h2, h3⟩, h4, h5, h6⟩ := r.2 k hk
  by_cases e : k = i
  · subst e
    dsimp only
    rw [if_pos rfl]
    have e1 : ¬ k * 3 = k * 3 + 1 := by omega
    have e2 : ¬ k * 3 = k * 3 + 2 := by omega
    have e3 : ¬ k * 3 + 1 = k * 3 + 2 := by omega
    exact ⟨⟨by go_simp, by go_simp, by go_simp⟩, by go_simp, by go_simp, by go_simp⟩
  · dsimp only
    rw [if_neg e]
    have d (x y : Nat) (hx : x < 3) (hy : y < 3) : ¬ i * 3 + x = k * 3 + y := by omega
    have d00 := d 0 0 (by omega) (by omega); have d01 := d 0 1 (by omega) (by omega); have d02 := d 0 2 (by omega) (by omega)
    have d10 := d 1 0 (by omega) (by omega); have d11 := d 1 1 (by omega) (by omega); have d12 := d 1 2 (by omega) (by omega)
    have d20 := d 2 0 (by omega) (by omega); have d21 := d 2 1 (by omega) (by omega); have d22 := d 2 2 (by omega) (by omega)
    simp only [Nat.add_zero] at d00 d01 d02 d10 d20
    exact ⟨⟨by go_simp, by go_simp, by go_simp⟩, by go_simp, by go_simp, by go_simp⟩
/-- a slice of the call's own: of none nothing is known -/
def LstW (w : World) (base : Nat) (a : Option Addr) (n : Nat) (f : Nat → P3) : Prop := 0 < n → ∃ b, a = some ⟨b, 0, none⟩ ∧ base ≤ b ∧ Row3W w b n f
theorem lstw_lst {w : World} {base : Nat} {a : Option Addr} {n : Nat} {f : Nat → P3} (h : LstW w base a n f) : Lst w a n f := fun h0 => by
  obtain ⟨b, e, _, r⟩ := h h0
  exact ⟨b, 0, e, row3w_row r⟩
theorem lstw_below {w w1 : World} {base : Nat} {a : Option Addr} {n : Nat} {f : Nat → P3} (h : LstW w base a n f) (hb : Below w.heap.size w w1) : LstW w1 base a n f := fun h0 => by
  obtain ⟨b, e, l, r⟩ := h h0
  exact ⟨b, e, l, row3w_below r hb⟩
theorem lstw_zero (w : World) (base : Nat) (a : Option Addr) (f : Nat → P3) : LstW w base a 0 f := fun h => absurd h (Nat.not_lt_zero 0)
/-- what Clone answers -/
def SliceW (base n : Nat) (f : Nat → P3) (w : World) (e : Ending) (w' : World) : Prop := ∃ a c, e = .returned (.slice a n c) ∧ LstW w' base a n f ∧ Below w.heap.size w w'
def p3cell (t : P3) : Nat → Value
  | 0 => .int .i64 t.1
  | 1 => .int .i64 t.2.1
  | _ => .int .i64 t.2.2
def p3cs (f : Nat → P3) (n : Nat) : List Value := (List.range (n * 3)).map fun m => p3cell (f (m / 3)) (m % 3)
theorem p3cs_at (f : Nat → P3) (n m : Nat) (h : m < n * 3) : (p3cs f n)[m]? = some (p3cell (f (m / 3)) (m % 3)) := by
  unfold p3cs
  rw [List.getElem?_map, List.getElem?_range h]
  rfl
theorem p3cs_len (f : Nat → P3) (n : Nat) : (p3cs f n).length = n * 3 := by simp [p3cs]
theorem p3cs_one (f : Nat → P3) (n : Nat) : ∀ u ∈ p3cs f n, u.oneCell' = true := by
  intro u h
  unfold p3cs at h
  obtain ⟨m, _, rfl⟩ := List.mem_map.1 h
  unfold p3cell
  split <;> rfl
theorem row3w_of {w : World} {base n : Nat} {e : TypeId} {v : Value} {f : Nat → P3} (h : w.ownsRow base e 3 v n (p3cs f n)) (h0 : 0 < n) : ∃ g cap, v = .slice (some ⟨g, 0, none⟩) n cap ∧ base ≤ g ∧ Row3W w g n f := by
  rcases h.2 with ⟨_, h'⟩ | ⟨g, cap, cur, rfl, hb, hg, _⟩
  · omega
  · refine ⟨g, cap, rfl, hb, (Array.getElem?_eq_some_iff.1 hg).1, fun k hk => ?_⟩
    have q (j : Nat) (hj : j < 3) : w.cell? ⟨g, k * 3 + j, none⟩ = some (p3cell (f k) j) := by
      rw [h.cellAt (k * 3 + j) (by omega), p3cs_at f n _ (by omega), show (k * 3 + j) / 3 = k by omega, show (k * 3 + j) % 3 = j by omega]
    have k0 := q 0 (by decide)
    have k1 := q 1 (by decide)
    have k2 := q 2 (by decide)
    exact ⟨⟨k0, k1, k2⟩, h.frozenAt _, h.frozenAt _, h.frozenAt _⟩
theorem row3_cells {w : World} {b off n : Nat} {f : Nat → P3} (r : Row3 w b off n f) : ∀ j u, (p3cs f n)[j]? = some u → w.cell? ((⟨b, off, none⟩ : Addr).add j) = some u := by
  intro j u h
  have hj : j < n * 3 := by
    have := (List.getElem?_eq_some_iff.1 h).1
    rwa [p3cs_len] at this
  rw [p3cs_at f n j hj] at h
  have e := Option.some.inj h
  subst e
  obtain ⟨c1, c2, c3⟩ := r.2 (j / 3) (by omega)
  rw [show (⟨b, off, none⟩ : Addr).add j = ⟨b, off + j, none⟩ from by unfold Addr.add; split; (rename_i z; subst z; rfl); rfl]
  have d : j = j / 3 * 3 + j % 3 := by omega
  have m3 : j % 3 < 3 := Nat.mod_lt _ (by decide)
  rcases (by omega : j % 3 = 0 ∨ j % 3 = 1 ∨ j % 3 = 2) with m | m | m
  · rw [m, show off + j = off + j / 3 * 3 by omega]; exact c1
  · rw [m, show off + j = off + j / 3 * 3 + 1 by omega]; exact c2
  · rw [m, show off + j = off + j / 3 * 3 + 2 by omega]; exact c3
theorem infoPt3 : (Try.prog.info? 35).map (fun i => (i.zero, i.size, i.bytes)) = some (some (.agg #[.int .i64 0, .int .i64 0, .int .i64 0]), 3, 24) := by kernel_rfl
/-- a slice's cells laid in a new row -/
theorem appPt {w : World} {b off n : Nat} {f : Nat → P3} (r : Row3 w b off n f) (h0 : 0 < n) (hn : n ≤ 1000000) (a : Addr) (c : Nat) : ∃ cap w2,
    (Builtin.append_ #[22, 22] 22 #[.slice (some a) 0 0, .slice (some ⟨b, off, none⟩) n c]).run Try.prog w = .ok (.slice (some ⟨w.heap.size, 0, none⟩) n cap) w2 ∧ Row3W w2 w.heap.size n f ∧ Below w.heap.size w w2 := by
  obtain ⟨i0, hi, hz0, hz1, hz2⟩ := info_parts infoPt3
  have hs : Src Try.prog i0.size 22 (.slice (some ⟨b, off, none⟩) n c) n (p3cs f n) w := Src.ofSlice w Try.underlying22 _ n c _ (by rw [hz1, p3cs_len]) (row3_cells r) (p3cs_one f n)
  have hr := run_append_grow_src w 22 22 22 35 i0 _ Try.underlying22 hi hz0 (some a) 0 0 [] (run_firstCells_some w.drew i0.size 0 a 0 0 [] (by simp) (by simp)) _ n _ hs (by omega) (by omega) (by
    have := nextslicecap_le (need := 0 + n) (old := 0) (by omega)
    rw [hz2]; omega)
  simp only [Nat.zero_add, List.nil_append] at hr
  refine ⟨_, _, hr, ⟨by simp, fun k hk => ?_⟩, (Below.refl w.heap.size w).drew.alloc (by simp) _⟩
  have key (j : Nat) (hj : j < 3) : (w.drew.alloc (.cells ((p3cs f n).toArray ++ Builtin.zeroCells (Value.agg #[.int .i64 0, .int .i64 0, .int .i64 0]).cells (grownCap w n 0 35 - n)) 35)).cell? ⟨w.heap.size, k * 3 + j, none⟩ = some (p3cell (f k) j) := by
    have lt : k * 3 + j < (p3cs f n).toArray.size := by simp only [List.size_toArray, p3cs_len]; omega
    have z := p3cs_at f n (k * 3 + j) (by omega)
    rw [show (k * 3 + j) / 3 = k by omega, show (k * 3 + j) % 3 = j by omega] at z
    have e : ((p3cs f n).toArray ++ Builtin.zeroCells (Value.agg #[.int .i64 0, .int .i64 0, .int .i64 0]).cells (grownCap w n 0 35 - n))[k * 3 + j]? = some (p3cell (f k) j) := by
      rw [Array.getElem?_append_left lt]
      simpa using z
    exact (World.cell?_alloc_at (w := w.drew) _ _ _ _ (by simp)).trans e
  have k0 := key 0 (by decide)
  have k1 := key 1 (by decide)
  have k2 := key 2 (by decide)
  exact ⟨⟨k0, k1, k2⟩, World.frozen?_alloc_at (w := w.drew) _ _ _ _ (by simp), World.frozen?_alloc_at (w := w.drew) _ _ _ _ (by simp), World.frozen?_alloc_at (w := w.drew) _ _ _ _ (by simp)⟩
/-- nothing is appended -/
theorem appPt0 (w : World) (g : Nat) (a : Option Addr) (c : Nat) : (Builtin.append_ #[22, 22] 22 #[.slice (some ⟨g, 0, none⟩) 0 0, .slice a 0 c]).run Try.prog w = .ok (.slice (some ⟨g, 0, none⟩) 0 0) w := by
  obtain ⟨i0, hi, hz0, hz1, hz2⟩ := info_parts infoPt3
  have hs : Src Try.prog i0.size 22 (.slice a 0 c) 0 [] w := by
    cases a with
    | none => exact Src.ofNil w Try.underlying22 c
    | some a => exact Src.ofSlice w Try.underlying22 a 0 c [] (by simp) (by simp) (by simp)
  have hr := run_append_room_src w 22 22 22 35 i0 Try.underlying22 hi g 0 0 0 _ 0 [] hs (by omega) (by simp) (by simp)
  simpa [World.setCells] using hr
theorem infoFc3 : (Try.prog.info? 51).map (fun i => (i.zero, i.size, i.bytes)) = some (some (.agg #[.int .i64 0, .int .i64 0, .int .i64 0]), 3, 24) := by kernel_rfl
/-- a slice's cells laid in a new row -/
theorem appFc {w : World} {b off n : Nat} {f : Nat → P3} (r : Row3 w b off n f) (h0 : 0 < n) (hn : n ≤ 1000000) (a : Addr) (c : Nat) : ∃ cap w2,
    (Builtin.append_ #[23, 23] 23 #[.slice (some a) 0 0, .slice (some ⟨b, off, none⟩) n c]).run Try.prog w = .ok (.slice (some ⟨w.heap.size, 0, none⟩) n cap) w2 ∧ Row3W w2 w.heap.size n f ∧ Below w.heap.size w w2 := by
  obtain ⟨i0, hi, hz0, hz1, hz2⟩ := info_parts infoFc3
  have hs : Src Try.prog i0.size 23 (.slice (some ⟨b, off, none⟩) n c) n (p3cs f n) w := Src.ofSlice w Try.underlying23 _ n c _ (by rw [hz1, p3cs_len]) (row3_cells r) (p3cs_one f n)
  have hr := run_append_grow_src w 23 23 23 51 i0 _ Try.underlying23 hi hz0 (some a) 0 0 [] (run_firstCells_some w.drew i0.size 0 a 0 0 [] (by simp) (by simp)) _ n _ hs (by omega) (by omega) (by
    have := nextslicecap_le (need := 0 + n) (old := 0) (by omega)
    rw [hz2]; omega)
  simp only [Nat.zero_add, List.nil_append] at hr
  refine ⟨_, _, hr, ⟨by simp, fun k hk => ?_⟩, (Below.refl w.heap.size w).drew.alloc (by simp) _⟩
  have key (j : Nat) (hj : j < 3) : (w.drew.alloc (.cells ((p3cs f n).toArray ++ Builtin.zeroCells (Value.agg #[.int .i64 0, .int .i64 0, .int .i64 0]).cells (grownCap w n 0 51 - n)) 51)).cell? ⟨w.heap.size, k * 3 + j, none⟩ = some (p3cell (f k) j) := by
    have lt : k * 3 + j < (p3cs f n).toArray.size := by simp only [List.size_toArray, p3cs_len]; omega
    have z := p3cs_at f n (k * 3 + j) (by omega)
    rw [show (k * 3 + j) / 3 = k by omega, show (k * 3 + j) % 3 = j by omega] at z
    have e : ((p3cs f n).toArray ++ Builtin.zeroCells (Value.agg #[.int .i64 0, .int .i64 0, .int .i64 0]).cells (grownCap w n 0 51 - n))[k * 3 + j]? = some (p3cell (f k) j) := by
      rw [Array.getElem?_append_left lt]
      simpa using z
    exact (World.cell?_alloc_at (w := w.drew) _ _ _ _ (by simp)).trans e
  have k0 := key 0 (by decide)
  have k1 := key 1 (by decide)
  have k2 := key 2 (by decide)
  exact ⟨⟨k0, k1, k2⟩, World.frozen?_alloc_at (w := w.drew) _ _ _ _ (by simp), World.frozen?_alloc_at (w := w.drew) _ _ _ _ (by simp), World.frozen?_alloc_at (w := w.drew) _ _ _ _ (by simp)⟩
/-- nothing is appended -/
theorem appFc0 (w : World) (g : Nat) (a : Option Addr) (c : Nat) : (Builtin.append_ #[23, 23] 23 #[.slice (some ⟨g, 0, none⟩) 0 0, .slice a 0 c]).run Try.prog w = .ok (.slice (some ⟨g, 0, none⟩) 0 0) w := by
  obtain ⟨i0, hi, hz0, hz1, hz2⟩ := info_parts infoFc3
  have hs : Src Try.prog i0.size 23 (.slice a 0 c) 0 [] w := by
    cases a with
    | none => exact Src.ofNil w Try.underlying23 c
    | some a => exact Src.ofSlice w Try.underlying23 a 0 c [] (by simp) (by simp) (by simp)
  have hr := run_append_room_src w 23 23 23 51 i0 Try.underlying23 hi g 0 0 0 _ 0 [] hs (by omega) (by simp) (by simp)
  simpa [World.setCells] using hr
set_option maxRecDepth 100000 in
/-- Clone: the same rows, in memory of the call's own -/
theorem clonePt (a : Option Addr) (n c : Nat) (f : Nat → P3) (w : World) (r : Lst w a n f) (hn : n ≤ 1000000) :
    Calls Try.prog 62 #[.slice a n c] w fun e w' => SliceW w.heap.size n f w e w' := by
  have q := fun (w : World) (a : Option Addr) (n c n' c' : Nat) => Lib.run_eql_slice_nil (P := Try.prog) w _ _ a n c n' c' Try.underlying22
  cases a with
  | none =>
    have h0 : n = 0 := by
      rcases Nat.eq_zero_or_pos n with h | h
      · exact h
      · obtain ⟨b, off, e, _⟩ := r h; cases e
    subst h0
    go_enter Try.func62, Try.ntmps62
    go_wp2
    go_ret
    exact ⟨none, 0, rfl, lstw_zero _ _ _ _, Below.refl _ _⟩
  | some ad =>
    rcases Nat.eq_zero_or_pos n with h0 | h0
    · subst h0
      have ap := appPt0 (w.alloc (.cells #[] 35)) w.heap.size (some ad) c
      go_enter Try.func62, Try.ntmps62
      go_wp2
      go_ret
      exact ⟨_, _, rfl, lstw_zero _ _ _ _, by (repeat' (first | exact Below.refl _ _ | refine Below.setCell ?_ (by simp <;> omega) _ | refine balloc ?_ _ | refine Below.drew ?_ | refine bdrewN ?_ _))⟩
    · obtain ⟨b, off, e, rw⟩ := r h0
      cases e
      obtain ⟨i0, hi, hz0, hz1, hz2⟩ := info_parts infoPt3
      have RC := Lib.hid (row3_cells (row3_alloc rw (.cells #[] 35)))
      clear rw
      go_enter Try.func62, Try.ntmps62
      go_wp2_with (at_builtin; refine wpList_append_own _ rfl _ _ 22 rfl w.heap.size 35 i0 _ 3 24 Try.underlying22 hi hz0 hz1 hz2 rfl (by decide) _ _ _ rfl (World.ownsRow_made w #[] 0 (Nat.le_refl _) (Nat.zero_le _) rfl) ⟨b, off, none⟩ n c (p3cs f n) rfl (p3cs_len f n) RC.out (p3cs_one f n) (by unfold maxLen; omega) (by omega) (by simp) ?_; intro v' w1 hown hgrow hnil)
      obtain ⟨g, cap, rfl, hg, r2⟩ := row3w_of (n := n) (by simpa only [Nat.zero_add, List.nil_append] using hown) h0
      go_ret
      exact ⟨_, _, rfl, fun _ => ⟨g, rfl, hg, r2⟩, ((Below.refl _ w).alloc (Nat.le_refl _) _).grown hgrow (by simp) (fun k hk => by cases hk; exact Nat.le_refl _)⟩
set_option maxRecDepth 100000 in
/-- Clone: the same rows, in memory of the call's own -/
theorem cloneFc (a : Option Addr) (n c : Nat) (f : Nat → P3) (w : World) (r : Lst w a n f) (hn : n ≤ 1000000) :
    Calls Try.prog 63 #[.slice a n c] w fun e w' => SliceW w.heap.size n f w e w' := by
  have q := fun (w : World) (a : Option Addr) (n c n' c' : Nat) => Lib.run_eql_slice_nil (P := Try.prog) w _ _ a n c n' c' Try.underlying23
  cases a with
  | none =>
    have h0 : n = 0 := by
      rcases Nat.eq_zero_or_pos n with h | h
      · exact h
      · obtain ⟨b, off, e, _⟩ := r h; cases e
    subst h0
    go_enter Try.func63, Try.ntmps63
    go_wp2
    go_ret
    exact ⟨none, 0, rfl, lstw_zero _ _ _ _, Below.refl _ _⟩
  | some ad =>
    rcases Nat.eq_zero_or_pos n with h0 | h0
    · subst h0
      have ap := appFc0 (w.alloc (.cells #[] 51)) w.heap.size (some ad) c
      go_enter Try.func63, Try.ntmps63
      go_wp2
      go_ret
      exact ⟨_, _, rfl, lstw_zero _ _ _ _, by (repeat' (first | exact Below.refl _ _ | refine Below.setCell ?_ (by simp <;> omega) _ | refine balloc ?_ _ | refine Below.drew ?_ | refine bdrewN ?_ _))⟩
    · obtain ⟨b, off, e, rw⟩ := r h0
      cases e
      obtain ⟨i0, hi, hz0, hz1, hz2⟩ := info_parts infoFc3
      have RC := Lib.hid (row3_cells (row3_alloc rw (.cells #[] 51)))
      clear rw
      go_enter Try.func63, Try.ntmps63
      go_wp2_with (at_builtin; refine wpList_append_own _ rfl _ _ 23 rfl w.heap.size 51 i0 _ 3 24 Try.underlying23 hi hz0 hz1 hz2 rfl (by decide) _ _ _ rfl (World.ownsRow_made w #[] 0 (Nat.le_refl _) (Nat.zero_le _) rfl) ⟨b, off, none⟩ n c (p3cs f n) rfl (p3cs_len f n) RC.out (p3cs_one f n) (by unfold maxLen; omega) (by omega) (by simp) ?_; intro v' w1 hown hgrow hnil)
      obtain ⟨g, cap, rfl, hg, r2⟩ := row3w_of (n := n) (by simpa only [Nat.zero_add, List.nil_append] using hown) h0
      go_ret
      exact ⟨_, _, rfl, fun _ => ⟨g, rfl, hg, r2⟩, ((Below.refl _ w).alloc (Nat.le_refl _) _).grown hgrow (by simp) (fun k hk => by cases hk; exact Nat.le_refl _)⟩

end Go.Proofs.Ytfpenkgkcjpknaa
