/-
  The contract of allUsed; slices of bools.
-/
import Derived.Test.YtllonfaogbdbnaaPanel
import Derived.Laws.OwnMore
namespace Go.Proofs.Ytllonfaogbdbnaa
open Go.ChangeShapes Go.WideShapes Go.RowKit
open Sh
/-- block q holds a mesh -/
def Mes (w : World) (q : Nat) (a : Option Addr) (n c : Nat) (a' : Option Addr) (n' c' : Nat) : Prop := w.cell? ⟨q, 0, none⟩ = some (.slice a n c) ∧ w.cell? ⟨q, 1, none⟩ = some (.slice a' n' c') ∧ q < w.heap.size
theorem mes_new (w : World) (a : Option Addr) (n c : Nat) (a' : Option Addr) (n' c' : Nat) (t : TypeId) : Mes (w.alloc (msc a n c a' n' c' t)) w.heap.size a n c a' n' c' := ⟨by go_simp, by go_simp, by simp⟩
theorem mes_in {w w1 : World} {B q : Nat} {a : Option Addr} {n c : Nat} {a' : Option Addr} {n' c' : Nat} (h : Mes w q a n c a' n' c') (hb : Below B w w1) (k : q < B) : Mes w1 q a n c a' n' c' :=
  ⟨(hb.cell (p := ⟨q, 0, none⟩) k).trans h.1, (hb.cell (p := ⟨q, 1, none⟩) k).trans h.2.1, Nat.lt_of_lt_of_le h.2.2 hb.size⟩
theorem mes_below {w w1 : World} {q : Nat} {a : Option Addr} {n c : Nat} {a' : Option Addr} {n' c' : Nat} (h : Mes w q a n c a' n' c') (hb : Below w.heap.size w w1) : Mes w1 q a n c a' n' c' := mes_in h hb h.2.2
theorem mes_alloc {w : World} {q : Nat} {a : Option Addr} {n c : Nat} {a' : Option Addr} {n' c' : Nat} (h : Mes w q a n c a' n' c') (o : Obj) : Mes (w.alloc o) q a n c a' n' c' := mes_below h ((Below.refl _ _).alloc (Nat.le_refl _) _)
/-- block B holds n bools of the call's own -/
def Bools (w : World) (B n : Nat) (g : Nat → Bool) : Prop := B < w.heap.size ∧ ∀ i, i < n → w.cell? ⟨B, i, none⟩ = some (.bool (g i)) ∧ w.frozen? ⟨B, i, none⟩ = false
theorem bools_below {w w1 : World} {B n : Nat} {g : Nat → Bool} (h : Bools w B n g) (hb : Below w.heap.size w w1) : Bools w1 B n g :=
  ⟨Nat.lt_of_lt_of_le h.1 hb.size, fun i hi => ⟨(hb.cell (p := ⟨B, i, none⟩) h.1).trans (h.2 i hi).1, (hb.frozen (p := ⟨B, i, none⟩) h.1).trans (h.2 i hi).2⟩⟩
theorem bools_alloc {w : World} {B n : Nat} {g : Nat → Bool} (h : Bools w B n g) (o : Obj) : Bools (w.alloc o) B n g := bools_below h ((Below.refl _ _).alloc (Nat.le_refl _) _)
theorem bools_eq {w : World} {B n : Nat} {g g' : Nat → Bool} (h : Bools w B n g) (e : ∀ i, i < n → g i = g' i) : Bools w B n g' :=
  ⟨h.1, fun i hi => by rw [← e i hi]; exact h.2 i hi⟩
theorem bools_set {w : World} {B n : Nat} {g : Nat → Bool} (h : Bools w B n g) {x : Nat} (hx : x < n) : Bools (w.setCell ⟨B, x, none⟩ (.bool true)) B n (fun i => if i = x then true else g i) := by
  refine ⟨by simpa using h.1, fun i hi => ?_⟩
  obtain ⟨c1, f1⟩ := h.2 i hi
  obtain ⟨c2, f2⟩ := h.2 x hx
  by_cases e : i = x
  · subst e
    dsimp only
    rw [if_pos rfl]
    exact ⟨by go_simp, by go_simp⟩
  · dsimp only
    rw [if_neg e]
    have e' : ¬ x = i := fun k => e k.symm
    exact ⟨by go_simp, by go_simp⟩
theorem infoB : (Try.prog.info? 4).map (fun i => (i.zero, i.size, i.bytes)) = some (some (.bool false), 1, 1) := by kernel_rfl
theorem bools_make (w : World) (n : Nat) (hn : n ≤ 1000000) : ∃ w', (Instr.makeSlice 134 (.int .i64 (n : Int)) (.int .i64 (n : Int))).run Try.prog w = .ok (.slice (some ⟨w.heap.size, 0, none⟩) n n) w' ∧ Bools w' w.heap.size n (fun _ => false) ∧ w.grownBy w' none := by
  obtain ⟨i0, hi, hz0, hz1, hz2⟩ := info_parts infoB
  obtain ⟨w', h1, h2, h3⟩ := run_make_full (P := Try.prog) w 0 134 4 i0 (.bool false) 1 Try.underlying134 hi hz0 hz1 .i64 .i64 n (by rw [hz2]; omega) (by unfold maxLen; omega) (Nat.zero_le _)
  have hlt : w.heap.size < w'.heap.size := by
    rcases h2.2 with ⟨h', _⟩ | ⟨g', cap', cur, h', _, hg, _⟩
    · simp at h'
    · simp only [Value.slice.injEq, Option.some.injEq, Addr.mk.injEq, and_true] at h'
      obtain ⟨rfl, _⟩ := h'
      exact (Array.getElem?_eq_some_iff.1 hg).1
  refine ⟨w', h1, ⟨hlt, fun i hi' => ⟨?_, h2.frozenAt i⟩⟩, h3⟩
  rw [h2.cellAt i (by omega)]
  simp [madeCells, Value.cells, hi', Nat.mod_one]
theorem usedB_succ (F : Nat → P3) (k i : Nat) (x y z : Nat) (h : F k = ((x : Int), (y : Int), (z : Int))) : (if i = z then true else if i = y then true else if i = x then true else usedB F k i) = usedB F (k + 1) i := by
  unfold usedB
  rw [List.range_succ, List.any_append]
  simp only [List.any_cons, List.any_nil, Bool.or_false, h]
  by_cases c1 : i = z
  · subst c1; simp
  · by_cases c2 : i = y
    · subst c2; simp
    · by_cases c3 : i = x
      · subst c3; simp
      · rw [if_neg c1, if_neg c2, if_neg c3]
        have : decide ((x : Int) = (i : Int) ∨ (y : Int) = (i : Int) ∨ (z : Int) = (i : Int)) = false := by
          rw [decide_eq_false_iff_not]; omega
        rw [this, Bool.or_false]
/-- a face's numbers are those of points -/
def Fok (np : Nat) (p : P3) : Prop := 0 ≤ p.1 ∧ p.1 < np ∧ 0 ≤ p.2.1 ∧ p.2.1 < np ∧ 0 ≤ p.2.2 ∧ p.2.2 < np
theorem fok_nat {np : Nat} {p : P3} (h : Fok np p) : ∃ x y z : Nat, p = ((x : Int), (y : Int), (z : Int)) ∧ x < np ∧ y < np ∧ z < np := by
  obtain ⟨a, b, c⟩ := p
  obtain ⟨h1, h2, h3, h4, h5, h6⟩ := h
  dsimp only at h1 h2 h3 h4 h5 h6
  exact ⟨a.toNat, b.toNat, c.toNat, by rw [Int.toNat_of_nonneg h1, Int.toNat_of_nonneg h3, Int.toNat_of_nonneg h5], by omega, by omega, by omega⟩
theorem all_good {F : Nat → P3} {nf np : Nat} (h : ∀ k, k < np → usedB F nf k = true) : allB F nf np = true := by
  unfold allB
  rw [List.all_eq_true]
  exact fun k hk => h k (List.mem_range.1 hk)
theorem all_bad {F : Nat → P3} {nf np k : Nat} (h : k < np) (b : usedB F nf k = false) : allB F nf np = false := by
  unfold allB
  rw [List.all_eq_false]
  exact ⟨k, List.mem_range.2 h, by simp [b]⟩
set_option maxRecDepth 100000 in
set_option maxHeartbeats 2000000 in
theorem used_row (b off np c b' off' nf c' : Nat) (F : Nat → P3) (w : World) (r : Row3 w b' off' nf F) (hn : np ≤ 1000000) (hm : nf ≤ 1000000) (nr : ∀ k, k < nf → Fok np (F k)) :
    Calls Try.prog 74 #[msv (some ⟨b, off, none⟩) np c (some ⟨b', off', none⟩) nf c'] w fun e w' => e = .returned (.bool (allB F nf np)) ∧ Below w.heap.size w w' := by
  have hb1 : b' < w.heap.size := r.1
  have R := Lib.hid r
  have NR := Lib.hid nr
  have hn' : (np : Int) ≤ 1000000 := by omega
  have hm' : (nf : Int) ≤ 1000000 := by omega
  obtain ⟨res, hres⟩ : ∃ res, allB F nf np = res := ⟨_, rfl⟩
  have RES := Lib.hid hres
  rw [hres]
  obtain ⟨w1, hmk, hB, hg⟩ := bools_make (w.alloc (msc (some ⟨b, off, none⟩) np c (some ⟨b', off', none⟩) nf c' 25)) np hn
  have M := Lib.hid hB
  have B1 := Lib.hid (((Below.refl w.heap.size w).alloc (Nat.le_refl _) (msc (some ⟨b, off, none⟩) np c (some ⟨b', off', none⟩) nf c' 25)).grown hg (by simp) (fun k hk => by cases hk))
  have ME := Lib.hid (mes_in (mes_new w (some ⟨b, off, none⟩) np c (some ⟨b', off', none⟩) nf c' 25) (((Below.refl (w.heap.size + 1) _).grown hg (by simp) (fun k hk => by cases hk)) : Below (w.heap.size + 1) _ w1) (by omega))
  simp only [World.size_alloc] at hmk
  have sz := World.size_alloc w (msc (some ⟨b, off, none⟩) np c (some ⟨b', off', none⟩) nf c' 25)
  rw [sz] at M
  clear r nr hres hB hg sz
  obtain ⟨e1, e2, e3⟩ := ME.out
  go_enter Try.func74, Try.ntmps74
  go_wp2
  clear e1 e2 e3 hmk
  go_loopw [17] (fun kv wr => ∃ k : Nat, k ≤ nf ∧ kv = .int .i64 k ∧ Bools wr (w.heap.size + 1) np (usedB F k) ∧ Below w.heap.size w wr) (fun kv _ => nf - (intOf kv).toNat)
  case atStart => exact ⟨0, Nat.zero_le _, rfl, bools_eq M.out (fun i _ => rfl), B1.out⟩
  case round =>
    obtain ⟨k, hk, rfl, hm0, BB⟩ := hrel
    have HM := Lib.hid hm0
    have B0 := Lib.hid BB
    clear hm0 BB
    by_cases hlt : k < nf
    · have r2 := row3_in R.out B0.out hb1
      obtain ⟨c1, c2, c3⟩ := r2.2 k hlt
      have r5 := r2.1
      clear r2
      have hk1 : (k : Int) < (nf : Int) := by omega
      obtain ⟨x, y, z, hp, hx, hy, hz⟩ := fok_nat (NR.out k hlt)
      have S1 := Lib.hid (fun i => usedB_succ F k i x y z hp)
      rw [hp] at c1 c2 c3
      dsimp only at c1 c2 c3
      clear hp
      have x1 : (x : Int) < (np : Int) := by omega
      have y1 : (y : Int) < (np : Int) := by omega
      have z1 : (z : Int) < (np : Int) := by omega
      have M0 := Lib.hid (bools_alloc HM.out (.cells #[.int .i64 (x : Int), .int .i64 (y : Int), .int .i64 (z : Int)] 112))
      have i0 : ∀ w, (Instr.index 112 (.agg #[.int .i64 (x : Int), .int .i64 (y : Int), .int .i64 (z : Int)]) (.int .i64 0)).run Try.prog w = .ok (.int .i64 (x : Int)) w := fun _ => by kernel_rfl
      have i1 : ∀ w, (Instr.index 112 (.agg #[.int .i64 (x : Int), .int .i64 (y : Int), .int .i64 (z : Int)]) (.int .i64 1)).run Try.prog w = .ok (.int .i64 (y : Int)) w := fun _ => by kernel_rfl
      have i2 : ∀ w, (Instr.index 112 (.agg #[.int .i64 (x : Int), .int .i64 (y : Int), .int .i64 (z : Int)]) (.int .i64 2)).run Try.prog w = .ok (.int .i64 (z : Int)) w := fun _ => by kernel_rfl
      go_wp2
      clear c1 c2 c3
      refine wp_loop_rounds 4 ?_
      obtain ⟨d1, d2⟩ := M0.out.2 x hx
      have l1 := M0.out.1
      have M1 := Lib.hid (bools_set M0.out hx)
      rw [rounds_succ]
      go_wp2
      clear d1 d2 l1
      obtain ⟨d1, d2⟩ := M1.out.2 y hy
      have l1 := M1.out.1
      have M2 := Lib.hid (bools_set M1.out hy)
      rw [rounds_succ]
      go_wp2
      clear d1 d2 l1
      obtain ⟨d1, d2⟩ := M2.out.2 z hz
      have l1 := M2.out.1
      have M3 := Lib.hid (bools_set M2.out hz)
      rw [rounds_succ]
      go_wp2
      clear d1 d2 l1
      rw [rounds_succ]
      go_wp2
      go_roundw
      case rel => exact ⟨k + 1, by omega, by go_num, bools_eq M3.out (fun i _ => by rw [← S1.out i]), by have hB := B0.out; (repeat' (first | exact Below.refl _ _ | refine bstep ?_ hB | refine Below.setCell ?_ (by simp <;> omega) _ | refine balloc ?_ _ | refine Below.drew ?_ | refine bdrewN ?_ _))⟩
      case measure => simp [intOf]; omega
    · obtain rfl : k = nf := by omega
      go_wp2
      go_loopw [32] (fun kv wx => ∃ j : Nat, j ≤ np ∧ kv = .int .i64 j ∧ (∀ i, i < j → usedB F k i = true) ∧ wx = wr) (fun kv _ => np - (intOf kv).toNat)
      case atStart => exact ⟨0, Nat.zero_le _, rfl, fun i hi => absurd hi (Nat.not_lt_zero i), rfl⟩
      case round =>
        obtain ⟨j, hj, rfl, good, rfl⟩ := hrel
        have GOOD := Lib.hid good
        clear good
        by_cases hjt : j < np
        · obtain ⟨d1, _⟩ := HM.out.2 j hjt
          have l1 := HM.out.1
          have j1 : (j : Int) < (np : Int) := by omega
          cases hu : usedB F k j with
          | false =>
            rw [hu] at d1
            have hf : res = false := by rw [← RES.out]; exact all_bad hjt hu
            clear hu
            subst hf
            go_wp2
            go_ret
            exact ⟨rfl, B0.out⟩
          | true =>
            rw [hu] at d1
            have HU := Lib.hid hu
            clear hu
            go_wp2
            go_roundw
            case rel => exact ⟨j + 1, by omega, by go_num, fun i hi => by
                by_cases c : i = j
                · subst c; exact HU.out
                · exact GOOD.out i (by omega), trivial⟩
            case measure => simp [intOf]; omega
        · obtain rfl : j = np := by omega
          have hf : res = true := by rw [← RES.out]; exact all_good GOOD.out
          subst hf
          go_wp2
          go_ret
          exact ⟨rfl, B0.out⟩

end Go.Proofs.Ytllonfaogbdbnaa
