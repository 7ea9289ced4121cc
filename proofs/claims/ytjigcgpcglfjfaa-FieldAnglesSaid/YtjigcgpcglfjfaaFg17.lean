/-
  The document's coordinates of points along an axis.
-/
import Derived.OwnWalk
import Derived.Test.YtjigcgpcglfjfaaFg16
namespace Go.Proofs.Ytjigcgpcglfjfaa
open Go.ChangeShapes Go.WideShapes Go.RowKit
open Sh
open Go.Shelf
theorem infoI1 : (Try.prog.info? 3).map (fun i => (i.zero, i.size, i.bytes)) = some (some (.int .i64 0), 1, 8) := by kernel_rfl
/-- numbers as values -/
def ivs (f : Nat → Int) : Nat → List Value
  | 0 => []
  | k + 1 => ivs f k ++ [.int .i64 (f k)]
theorem ivs_len (f : Nat → Int) : ∀ k, (ivs f k).length = k
  | 0 => rfl
  | k + 1 => by show (ivs f k ++ [_]).length = _; rw [List.length_append, ivs_len f k]; rfl
theorem ivs_at (f : Nat → Int) : ∀ {n k : Nat}, k < n → (ivs f n)[k]? = some (.int .i64 (f k))
  | 0, k, h => absurd h (Nat.not_lt_zero k)
  | n + 1, k, h => by
    show (ivs f n ++ [.int .i64 (f n)])[k]? = _
    by_cases e : k = n
    · subst e
      rw [List.getElem?_append_right (by rw [ivs_len]; omega), ivs_len, Nat.sub_self]
      rfl
    · rw [List.getElem?_append_left (by rw [ivs_len]; omega)]
      exact ivs_at f (by omega)
theorem rwi_of {w : World} {base n : Nat} {v : Value} {f : Nat → Int} (h : w.ownsRow base 3 1 v n (ivs f n)) (h0 : 0 < n) : ∃ q cap, v = .slice (some ⟨q, 0, none⟩) n cap ∧ base ≤ q ∧ RwI w q n f := by
  rcases h.2 with ⟨_, h'⟩ | ⟨q, cap, cur, rfl, hb, hg, _⟩
  · omega
  · exact ⟨q, cap, rfl, hb, (Array.getElem?_eq_some_iff.1 hg).1, fun k hk => by rw [h.cellAt k (by omega)]; exact ivs_at f hk⟩
theorem one_new' (w : World) (b : Nat) (x : Int) (t : TypeId) (hb : b = w.heap.size) : ∀ j u, ([.int .i64 x] : List Value)[j]? = some u → (w.alloc (.cells #[.int .i64 x] t)).cell? ((⟨b, 0, none⟩ : Addr).add j) = some u := by
  subst hb
  intro j u hu
  match j, hu with
  | 0, hu => (simp at hu; subst hu; simp only [Addr.add]; go_simp)
  | j + 1, hu => simp at hu
set_option maxRecDepth 100000 in
set_option maxHeartbeats 2000000 in
theorem rax0_any (b n c : Nat) (P : Nat → P3) (w : World) (r : RwG w b n P) (hn : n ≤ 1000) : Calls Try.prog 160 #[.slice (some ⟨b, 0, none⟩) n c, .int .i64 0] w fun e w' => ∃ v, e = .returned v ∧ w'.ownsRow w.heap.size 3 1 v n (ivs (fun k => (P k).1) n) ∧ Below w.heap.size w w' := by
  obtain ⟨i0, hi, hz0, hz1, hz2⟩ := info_parts infoI1
  have HI := Lib.hid hi
  have HZ0 := Lib.hid hz0
  have HZ1 := Lib.hid hz1
  have HZ2 := Lib.hid hz2
  clear hi hz0 hz1 hz2
  have hn' : (n : Int) ≤ 1000 := by omega
  have R := Lib.hid r
  have hbl := r.1
  clear r
  go_enter Try.func160, Try.ntmps160
  go_wp2
  go_loopw [5, 6] (fun sv kv wr => ∃ k : Nat, k ≤ n ∧ kv = .int .i64 k ∧ wr.ownsRow w.heap.size 3 1 sv k (ivs (fun k => (P k).1) k) ∧ Below w.heap.size w wr) (fun _ kv _ => n - (intOf kv).toNat)
  case atStart => exact ⟨0, Nat.zero_le _, rfl, World.ownsRow_nil _ _ _ _, Below.refl _ _⟩
  case round =>
    obtain ⟨k, hk, rfl, hrow, BB⟩ := hrel
    have B0 := Lib.hid BB
    have ROWc := Lib.hid hrow
    clear BB hrow
    by_cases hlt : k < n
    · have hk1 : (k : Int) < (n : Int) := by omega
      have hk0 : 0 ≤ (k : Int) := by omega
      have q1 := rwg_in R.out B0.out hbl
      obtain ⟨c0, c1, c2⟩ := q1.2 k hlt
      have s1 := q1.1
      have szw := B0.out.size
      have NX := Lib.hid (show ivs (fun k => (P k).1) (k + 1) = ivs (fun k => (P k).1) k ++ [.int .i64 (P k).1] from rfl)
      clear q1
      go_wp2_with (at_builtin; (refine wpList_append_own _ rfl _ _ 166 rfl w.heap.size 3 i0 (.int .i64 0) 1 8 Try.underlying166 HI.out HZ0.out HZ1.out HZ2.out rfl (by decide) _ k (ivs (fun k => (P k).1) k) rfl (ROWc.out.alloc _) ⟨_, 0, none⟩ 1 1 [.int .i64 (P k).1] rfl rfl (one_new' _ _ _ _ (by simp)) (by intro u hu; simp at hu; subst hu; rfl) (by unfold maxLen; omega) (by omega) (by simp; omega) ?_); intro v' w7 hown' hgrow _; have OW := Lib.hid hown'; have GR := Lib.hid hgrow; clear hown' hgrow)
      have BG := (B0.out.alloc szw _).grown GR.out (by simp; omega) (fun gg hg => (ROWc.out.lt gg hg).1)
      go_roundw
      case rel => exact ⟨k + 1, by omega, by go_num, by rw [NX.out]; exact OW.out, BG⟩
      case measure => simp [intOf]; omega
    · obtain rfl : k = n := by omega
      go_wp2
      go_ret
      exact ⟨_, rfl, ROWc.out, B0.out⟩
set_option maxRecDepth 100000 in
set_option maxHeartbeats 2000000 in
theorem rax1_any (b n c : Nat) (P : Nat → P3) (w : World) (r : RwG w b n P) (hn : n ≤ 1000) : Calls Try.prog 160 #[.slice (some ⟨b, 0, none⟩) n c, .int .i64 1] w fun e w' => ∃ v, e = .returned v ∧ w'.ownsRow w.heap.size 3 1 v n (ivs (fun k => (P k).2.1) n) ∧ Below w.heap.size w w' := by
  obtain ⟨i0, hi, hz0, hz1, hz2⟩ := info_parts infoI1
  have HI := Lib.hid hi
  have HZ0 := Lib.hid hz0
  have HZ1 := Lib.hid hz1
  have HZ2 := Lib.hid hz2
  clear hi hz0 hz1 hz2
  have hn' : (n : Int) ≤ 1000 := by omega
  have R := Lib.hid r
  have hbl := r.1
  clear r
  go_enter Try.func160, Try.ntmps160
  go_wp2
  go_loopw [5, 6] (fun sv kv wr => ∃ k : Nat, k ≤ n ∧ kv = .int .i64 k ∧ wr.ownsRow w.heap.size 3 1 sv k (ivs (fun k => (P k).2.1) k) ∧ Below w.heap.size w wr) (fun _ kv _ => n - (intOf kv).toNat)
  case atStart => exact ⟨0, Nat.zero_le _, rfl, World.ownsRow_nil _ _ _ _, Below.refl _ _⟩
  case round =>
    obtain ⟨k, hk, rfl, hrow, BB⟩ := hrel
    have B0 := Lib.hid BB
    have ROWc := Lib.hid hrow
    clear BB hrow
    by_cases hlt : k < n
    · have hk1 : (k : Int) < (n : Int) := by omega
      have hk0 : 0 ≤ (k : Int) := by omega
      have q1 := rwg_in R.out B0.out hbl
      obtain ⟨c0, c1, c2⟩ := q1.2 k hlt
      have s1 := q1.1
      have szw := B0.out.size
      have NX := Lib.hid (show ivs (fun k => (P k).2.1) (k + 1) = ivs (fun k => (P k).2.1) k ++ [.int .i64 (P k).2.1] from rfl)
      clear q1
      go_wp2_with (at_builtin; (refine wpList_append_own _ rfl _ _ 166 rfl w.heap.size 3 i0 (.int .i64 0) 1 8 Try.underlying166 HI.out HZ0.out HZ1.out HZ2.out rfl (by decide) _ k (ivs (fun k => (P k).2.1) k) rfl (ROWc.out.alloc _) ⟨_, 0, none⟩ 1 1 [.int .i64 (P k).2.1] rfl rfl (one_new' _ _ _ _ (by simp)) (by intro u hu; simp at hu; subst hu; rfl) (by unfold maxLen; omega) (by omega) (by simp; omega) ?_); intro v' w7 hown' hgrow _; have OW := Lib.hid hown'; have GR := Lib.hid hgrow; clear hown' hgrow)
      have BG := (B0.out.alloc szw _).grown GR.out (by simp; omega) (fun gg hg => (ROWc.out.lt gg hg).1)
      go_roundw
      case rel => exact ⟨k + 1, by omega, by go_num, by rw [NX.out]; exact OW.out, BG⟩
      case measure => simp [intOf]; omega
    · obtain rfl : k = n := by omega
      go_wp2
      go_ret
      exact ⟨_, rfl, ROWc.out, B0.out⟩
set_option maxRecDepth 100000 in
set_option maxHeartbeats 2000000 in
theorem rax2_any (b n c : Nat) (P : Nat → P3) (w : World) (r : RwG w b n P) (hn : n ≤ 1000) : Calls Try.prog 160 #[.slice (some ⟨b, 0, none⟩) n c, .int .i64 2] w fun e w' => ∃ v, e = .returned v ∧ w'.ownsRow w.heap.size 3 1 v n (ivs (fun k => (P k).2.2) n) ∧ Below w.heap.size w w' := by
  obtain ⟨i0, hi, hz0, hz1, hz2⟩ := info_parts infoI1
  have HI := Lib.hid hi
  have HZ0 := Lib.hid hz0
  have HZ1 := Lib.hid hz1
  have HZ2 := Lib.hid hz2
  clear hi hz0 hz1 hz2
  have hn' : (n : Int) ≤ 1000 := by omega
  have R := Lib.hid r
  have hbl := r.1
  clear r
  go_enter Try.func160, Try.ntmps160
  go_wp2
  go_loopw [5, 6] (fun sv kv wr => ∃ k : Nat, k ≤ n ∧ kv = .int .i64 k ∧ wr.ownsRow w.heap.size 3 1 sv k (ivs (fun k => (P k).2.2) k) ∧ Below w.heap.size w wr) (fun _ kv _ => n - (intOf kv).toNat)
  case atStart => exact ⟨0, Nat.zero_le _, rfl, World.ownsRow_nil _ _ _ _, Below.refl _ _⟩
  case round =>
    obtain ⟨k, hk, rfl, hrow, BB⟩ := hrel
    have B0 := Lib.hid BB
    have ROWc := Lib.hid hrow
    clear BB hrow
    by_cases hlt : k < n
    · have hk1 : (k : Int) < (n : Int) := by omega
      have hk0 : 0 ≤ (k : Int) := by omega
      have q1 := rwg_in R.out B0.out hbl
      obtain ⟨c0, c1, c2⟩ := q1.2 k hlt
      have s1 := q1.1
      have szw := B0.out.size
      have NX := Lib.hid (show ivs (fun k => (P k).2.2) (k + 1) = ivs (fun k => (P k).2.2) k ++ [.int .i64 (P k).2.2] from rfl)
      clear q1
      go_wp2_with (at_builtin; (refine wpList_append_own _ rfl _ _ 166 rfl w.heap.size 3 i0 (.int .i64 0) 1 8 Try.underlying166 HI.out HZ0.out HZ1.out HZ2.out rfl (by decide) _ k (ivs (fun k => (P k).2.2) k) rfl (ROWc.out.alloc _) ⟨_, 0, none⟩ 1 1 [.int .i64 (P k).2.2] rfl rfl (one_new' _ _ _ _ (by simp)) (by intro u hu; simp at hu; subst hu; rfl) (by unfold maxLen; omega) (by omega) (by simp; omega) ?_); intro v' w7 hown' hgrow _; have OW := Lib.hid hown'; have GR := Lib.hid hgrow; clear hown' hgrow)
      have BG := (B0.out.alloc szw _).grown GR.out (by simp; omega) (fun gg hg => (ROWc.out.lt gg hg).1)
      go_roundw
      case rel => exact ⟨k + 1, by omega, by go_num, by rw [NX.out]; exact OW.out, BG⟩
      case measure => simp [intOf]; omega
    · obtain rfl : k = n := by omega
      go_wp2
      go_ret
      exact ⟨_, rfl, ROWc.out, B0.out⟩

end Go.Proofs.Ytjigcgpcglfjfaa
