/-
  The contract of closed.
-/
import Derived.Test.YtllonfaogbdbnaaCSides
namespace Go.Proofs.Ytllonfaogbdbnaa
open Go.ChangeShapes Go.WideShapes Go.RowKit
open Sh
theorem cntS_one {f : Nat → P3} {n : Nat} {p q : Int} : cntS f n (p, q) = 1 ↔ cnt f n p q = 1 := by
  show ((cnt f n p q : Nat) : Int) = 1 ↔ _
  omega
theorem closed_good {f : Nat → P3} {n : Nat} (h : ∀ k, k < n → faceB f n (f k) = true) : closedB f n = true := by
  unfold closedB
  rw [List.all_eq_true]
  exact fun k hk => h k (List.mem_range.1 hk)
theorem closed_bad {f : Nat → P3} {n k : Nat} (h : k < n) (b : faceB f n (f k) = false) : closedB f n = false := by
  unfold closedB
  rw [List.all_eq_false]
  exact ⟨k, List.mem_range.2 h, by simp [b]⟩
/-- the six numbers at the sides of a face -/
theorem face_good {f : Nat → P3} {n : Nat} {p : P3} (a1 : cntS f n (p.1, p.2.1) = 1) (a2 : cntS f n (p.2.1, p.1) = 1) (b1 : cntS f n (p.2.1, p.2.2) = 1) (b2 : cntS f n (p.2.2, p.2.1) = 1) (c1 : cntS f n (p.2.2, p.1) = 1) (c2 : cntS f n (p.1, p.2.2) = 1) : faceB f n p = true := by
  unfold faceB sideB
  simp [cntS_one.1 a1, cntS_one.1 a2, cntS_one.1 b1, cntS_one.1 b2, cntS_one.1 c1, cntS_one.1 c2]
theorem face_bad {f : Nat → P3} {n : Nat} {p : P3} {x y : Int} (hx : (x, y) = (p.1, p.2.1) ∨ (x, y) = (p.2.1, p.1) ∨ (x, y) = (p.2.1, p.2.2) ∨ (x, y) = (p.2.2, p.2.1) ∨ (x, y) = (p.2.2, p.1) ∨ (x, y) = (p.1, p.2.2)) (h : cntS f n (x, y) ≠ 1) : faceB f n p = false := by
  have h' : cnt f n x y ≠ 1 := fun e => h (cntS_one.2 e)
  cases e : faceB f n p with
  | false => rfl
  | true =>
    exfalso
    unfold faceB sideB at e
    simp only [Bool.and_eq_true, decide_eq_true_eq] at e
    obtain ⟨⟨⟨a1, a2⟩, b1, b2⟩, c1, c2⟩ := e
    rcases hx with hx | hx | hx | hx | hx | hx <;> (simp only [Prod.mk.injEq] at hx; obtain ⟨rfl, rfl⟩ := hx; exact h' (by assumption))
theorem sd_look {g : Int × Int → Int} {w : World} {b n : Nat} (h : SdM g w b n) {t : Int × Int} (h1 : Nr t.1) (h2 : Nr t.2) : (Instr.lookup 127 (.map (some b)) (sdv t) false).run Try.prog w = .ok (.int .i64 (g t)) w := by
  obtain ⟨kl, hkey⟩ := keySd (s := t) (nr_wf h1) (nr_wf h2)
  exact look_int lawSd Try.underlying127 h hkey
set_option maxRecDepth 100000 in
set_option maxHeartbeats 4000000 in
theorem closed_row (b off n cap : Nat) (f : Nat → P3) (w : World) (r : Row3 w b off n f) (hn : n ≤ 1000) (nr : ∀ k, k < n → Fnr (f k)) :
    Calls Try.prog 73 #[.slice (some ⟨b, off, none⟩) n cap] w fun e w' => e = .returned (.bool (closedB f n)) ∧ Below w.heap.size w w' := by
  have hb1 : b < w.heap.size := r.1
  have R := Lib.hid r
  have NR := Lib.hid nr
  have hn' : (n : Int) ≤ 1000 := by omega
  obtain ⟨res, hres⟩ : ∃ res, closedB f n = res := ⟨_, rfl⟩
  have RES := Lib.hid hres
  rw [hres]
  have CR := Lib.hid (count_row b off n cap f w r hn nr)
  clear r nr hres
  go_enter Try.func73, Try.ntmps73
  go_wp2_with fail
  refine CR.out.mono ?_
  rintro e w1 ⟨rfl, hm1, hb2⟩
  have M := Lib.hid hm1
  have BW := Lib.hid hb2
  clear hm1 hb2
  go_wp2
  go_loopw [12] (fun kv wr => ∃ k : Nat, k ≤ n ∧ kv = .int .i64 k ∧ (∀ i, i < k → faceB f n (f i) = true) ∧ SdM (cntS f n) wr w.heap.size (3 * n) ∧ Below w.heap.size w wr) (fun kv _ => n - (intOf kv).toNat)
  case atStart => exact ⟨0, Nat.zero_le _, rfl, fun i hi => absurd hi (Nat.not_lt_zero i), M.out, BW.out⟩
  case round =>
    obtain ⟨k, hk, rfl, good, hm, BB⟩ := hrel
    have GOOD := Lib.hid good
    clear good
    by_cases hlt : k < n
    · have r2 := row3_in R.out BB hb1
      obtain ⟨c1, c2, c3⟩ := r2.2 k hlt
      have r5 := r2.1
      clear r2
      have HM := Lib.hid hm
      have B0 := Lib.hid BB
      have PBAD := Lib.hid (fun h : faceB f n (f k) = false => closed_bad hlt h)
      have FN := Lib.hid (NR.out k hlt)
      have HW : w.heap.size ≤ wr.heap.size := BB.size
      clear hm BB
      have hk1 : (k : Int) < (n : Int) := by omega
      obtain ⟨p, hp⟩ : ∃ p, f k = p := ⟨_, rfl⟩
      rw [hp] at c1 c2 c3 PBAD FN
      have HP := Lib.hid hp
      clear hp
      have N0 := Lib.hid (show Nr p.1 ∧ Nr p.2.1 from ⟨FN.out.1, FN.out.2.1⟩)
      have N1 := Lib.hid (show Nr p.2.1 ∧ Nr p.2.2 from ⟨FN.out.2.1, FN.out.2.2⟩)
      have N2 := Lib.hid (show Nr p.2.2 ∧ Nr p.1 from ⟨FN.out.2.2, FN.out.1⟩)
      go_wp2_with fail
      refine (sides_any p _).mono ?_
      rintro e u0 ⟨rfl, hb0⟩
      have M0 := Lib.hid (mapOf_below (mapOf_alloc HM.out _) hb0)
      have BU := Lib.hid (bstep (balloc B0.out _) hb0)
      clear hb0 c1 c2 c3 HM
      have i0 : ∀ w, (Instr.index 131 (.agg #[.int .i64 p.1, .int .i64 p.2.1, .int .i64 p.2.1, .int .i64 p.2.2, .int .i64 p.2.2, .int .i64 p.1]) (.int .i64 0)).run Try.prog w = .ok (.agg #[.int .i64 p.1, .int .i64 p.2.1]) w := fun _ => by kernel_rfl
      have i1 : ∀ w, (Instr.index 131 (.agg #[.int .i64 p.1, .int .i64 p.2.1, .int .i64 p.2.1, .int .i64 p.2.2, .int .i64 p.2.2, .int .i64 p.1]) (.int .i64 1)).run Try.prog w = .ok (.agg #[.int .i64 p.2.1, .int .i64 p.2.2]) w := fun _ => by kernel_rfl
      have i2 : ∀ w, (Instr.index 131 (.agg #[.int .i64 p.1, .int .i64 p.2.1, .int .i64 p.2.1, .int .i64 p.2.2, .int .i64 p.2.2, .int .i64 p.1]) (.int .i64 2)).run Try.prog w = .ok (.agg #[.int .i64 p.2.2, .int .i64 p.1]) w := fun _ => by kernel_rfl
      go_wp2
      refine wp_loop_rounds 4 ?_
      rw [rounds_succ]
      have m0 : SdM (cntS f n) (u0.alloc (.cells #[.int .i64 p.1, .int .i64 p.2.1] 130)) w.heap.size (3 * n) := mapOf_alloc M0.out _
      have lk := sd_look (t := (p.1, p.2.1)) m0 N0.out.1 N0.out.2
      obtain ⟨c, hc⟩ : ∃ c, cntS f n (p.1, p.2.1) = c := ⟨_, rfl⟩
      rw [hc] at lk
      by_cases h1 : c = 1
      case neg =>
        have hf : res = false := by rw [← RES.out]; exact PBAD.out (face_bad (.inl rfl) (by rw [hc]; exact h1))
        have t1 : (c != 1) = true := bne_iff_ne.2 h1
        clear h1 hc
        subst hf
        go_wp2
        go_ret
        exact ⟨rfl, by have hB := BU.out; (repeat' (first | exact Below.refl _ _ | refine bstep ?_ hB | refine Below.setCell ?_ (by simp <;> omega) _ | refine balloc ?_ _ | refine Below.drew ?_ | refine bdrewN ?_ _))⟩
      case pos =>
        rw [h1] at lk hc
        have C0 := Lib.hid hc
        clear h1 hc c
        have mm0 := Lib.hid m0
        clear m0
        go_wp2_with fail
        refine (back_any (p.1, p.2.1) _).mono ?_
        rintro e v0 ⟨rfl, hv0⟩
        have n0 := mapOf_below mm0.out hv0
        have M1 := Lib.hid n0
        have lk2 := sd_look (t := (p.2.1, p.1)) n0 N0.out.2 N0.out.1
        clear n0 lk
        obtain ⟨c, hc⟩ : ∃ c, cntS f n (p.2.1, p.1) = c := ⟨_, rfl⟩
        rw [hc] at lk2
        by_cases h1 : c = 1
        case neg =>
          have hf : res = false := by rw [← RES.out]; exact PBAD.out (face_bad (.inr (.inl rfl)) (by rw [hc]; exact h1))
          have t1 : (c != 1) = true := bne_iff_ne.2 h1
          clear h1 hc
          subst hf
          go_wp2
          go_ret
          exact ⟨rfl, by have hB := BU.out; (repeat' (first | exact Below.refl _ _ | refine bstep ?_ hv0 | refine bstep ?_ hB | refine Below.setCell ?_ (by simp <;> omega) _ | refine balloc ?_ _ | refine Below.drew ?_ | refine bdrewN ?_ _))⟩
        case pos =>
          rw [h1] at lk2 hc
          have D0 := Lib.hid hc
          clear h1 hc c
          go_wp2
          clear lk2
          rw [rounds_succ]
          have m1 : SdM (cntS f n) (v0.alloc (.cells #[.int .i64 p.2.1, .int .i64 p.2.2] 130)) w.heap.size (3 * n) := mapOf_alloc M1.out _
          have lk := sd_look (t := (p.2.1, p.2.2)) m1 N1.out.1 N1.out.2
          obtain ⟨c, hc⟩ : ∃ c, cntS f n (p.2.1, p.2.2) = c := ⟨_, rfl⟩
          rw [hc] at lk
          by_cases h1 : c = 1
          case neg =>
            have hf : res = false := by rw [← RES.out]; exact PBAD.out (face_bad (.inr (.inr (.inl rfl))) (by rw [hc]; exact h1))
            have t1 : (c != 1) = true := bne_iff_ne.2 h1
            clear h1 hc
            subst hf
            go_wp2
            go_ret
            exact ⟨rfl, by have hB := BU.out; (repeat' (first | exact Below.refl _ _ | refine bstep ?_ hv0 | refine bstep ?_ hB | refine Below.setCell ?_ (by simp <;> omega) _ | refine balloc ?_ _ | refine Below.drew ?_ | refine bdrewN ?_ _))⟩
          case pos =>
            rw [h1] at lk hc
            have C1 := Lib.hid hc
            clear h1 hc c
            have mm1 := Lib.hid m1
            clear m1
            go_wp2_with fail
            refine (back_any (p.2.1, p.2.2) _).mono ?_
            rintro e v1 ⟨rfl, hv1⟩
            have n1 := mapOf_below mm1.out hv1
            have M2 := Lib.hid n1
            have lk2 := sd_look (t := (p.2.2, p.2.1)) n1 N1.out.2 N1.out.1
            clear n1 lk
            obtain ⟨c, hc⟩ : ∃ c, cntS f n (p.2.2, p.2.1) = c := ⟨_, rfl⟩
            rw [hc] at lk2
            by_cases h1 : c = 1
            case neg =>
              have hf : res = false := by rw [← RES.out]; exact PBAD.out (face_bad (.inr (.inr (.inr (.inl rfl)))) (by rw [hc]; exact h1))
              have t1 : (c != 1) = true := bne_iff_ne.2 h1
              clear h1 hc
              subst hf
              go_wp2
              go_ret
              exact ⟨rfl, by have hB := BU.out; (repeat' (first | exact Below.refl _ _ | refine bstep ?_ hv1 | refine bstep ?_ hv0 | refine bstep ?_ hB | refine Below.setCell ?_ (by simp <;> omega) _ | refine balloc ?_ _ | refine Below.drew ?_ | refine bdrewN ?_ _))⟩
            case pos =>
              rw [h1] at lk2 hc
              have D1 := Lib.hid hc
              clear h1 hc c
              go_wp2
              clear lk2
              rw [rounds_succ]
              have m2 : SdM (cntS f n) (v1.alloc (.cells #[.int .i64 p.2.2, .int .i64 p.1] 130)) w.heap.size (3 * n) := mapOf_alloc M2.out _
              have lk := sd_look (t := (p.2.2, p.1)) m2 N2.out.1 N2.out.2
              obtain ⟨c, hc⟩ : ∃ c, cntS f n (p.2.2, p.1) = c := ⟨_, rfl⟩
              rw [hc] at lk
              by_cases h1 : c = 1
              case neg =>
                have hf : res = false := by rw [← RES.out]; exact PBAD.out (face_bad (.inr (.inr (.inr (.inr (.inl rfl))))) (by rw [hc]; exact h1))
                have t1 : (c != 1) = true := bne_iff_ne.2 h1
                clear h1 hc
                subst hf
                go_wp2
                go_ret
                exact ⟨rfl, by have hB := BU.out; (repeat' (first | exact Below.refl _ _ | refine bstep ?_ hv1 | refine bstep ?_ hv0 | refine bstep ?_ hB | refine Below.setCell ?_ (by simp <;> omega) _ | refine balloc ?_ _ | refine Below.drew ?_ | refine bdrewN ?_ _))⟩
              case pos =>
                rw [h1] at lk hc
                have C2 := Lib.hid hc
                clear h1 hc c
                have mm2 := Lib.hid m2
                clear m2
                go_wp2_with fail
                refine (back_any (p.2.2, p.1) _).mono ?_
                rintro e v2 ⟨rfl, hv2⟩
                have n2 := mapOf_below mm2.out hv2
                have M3 := Lib.hid n2
                have lk2 := sd_look (t := (p.1, p.2.2)) n2 N2.out.2 N2.out.1
                clear n2 lk
                obtain ⟨c, hc⟩ : ∃ c, cntS f n (p.1, p.2.2) = c := ⟨_, rfl⟩
                rw [hc] at lk2
                by_cases h1 : c = 1
                case neg =>
                  have hf : res = false := by rw [← RES.out]; exact PBAD.out (face_bad (.inr (.inr (.inr (.inr (.inr rfl))))) (by rw [hc]; exact h1))
                  have t1 : (c != 1) = true := bne_iff_ne.2 h1
                  clear h1 hc
                  subst hf
                  go_wp2
                  go_ret
                  exact ⟨rfl, by have hB := BU.out; (repeat' (first | exact Below.refl _ _ | refine bstep ?_ hv2 | refine bstep ?_ hv1 | refine bstep ?_ hv0 | refine bstep ?_ hB | refine Below.setCell ?_ (by simp <;> omega) _ | refine balloc ?_ _ | refine Below.drew ?_ | refine bdrewN ?_ _))⟩
                case pos =>
                  rw [h1] at lk2 hc
                  have D2 := Lib.hid hc
                  clear h1 hc c
                  go_wp2
                  clear lk2
                  rw [rounds_succ]
                  go_wp2
                  go_roundw
                  case rel => exact ⟨k + 1, by omega, by go_num, fun i hi => by
                      by_cases c : i = k
                      · subst c; rw [HP.out]; exact face_good C0.out D0.out C1.out D1.out C2.out D2.out
                      · exact GOOD.out i (by omega), M3.out, by have hB := BU.out; (repeat' (first | exact Below.refl _ _ | refine bstep ?_ hv2 | refine bstep ?_ hv1 | refine bstep ?_ hv0 | refine bstep ?_ hB | refine Below.setCell ?_ (by simp <;> omega) _ | refine balloc ?_ _ | refine Below.drew ?_ | refine bdrewN ?_ _))⟩
                  case measure => simp [intOf]; omega
    · obtain rfl : k = n := by omega
      have hf : res = true := by rw [← RES.out]; exact closed_good GOOD.out
      subst hf
      go_wp2
      go_ret
      exact ⟨rfl, BB⟩

end Go.Proofs.Ytllonfaogbdbnaa
