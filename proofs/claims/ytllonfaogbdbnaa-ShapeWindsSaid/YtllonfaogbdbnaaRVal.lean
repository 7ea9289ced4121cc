/-
  The contract of the document's Validate: it answers for every mesh as the program's does.
-/
import Derived.Test.YtllonfaogbdbnaaREdges
import Derived.Test.YtllonfaogbdbnaaRVol
import Derived.Test.YtllonfaogbdbnaaValidate
import Derived.Test.YtllonfaogbdbnaaClosed
namespace Go.Proofs.Ytllonfaogbdbnaa
open Go.ChangeShapes Go.WideShapes Go.RowKit
open Sh
theorem mes_set {w : World} {q r o : Nat} {v : Value} {a : Option Addr} {n c : Nat} {a' : Option Addr} {n' c' : Nat} (h : Mes w q a n c a' n' c') (k : r ≠ q) : Mes (w.setCell ⟨r, o, none⟩ v) q a n c a' n' c' := by
  obtain ⟨h1, h2, h3⟩ := h
  have k' : ¬ r = q := k
  have k2 : ¬ q = r := fun e => k e.symm
  exact ⟨by go_simp, by go_simp, by simpa using h3⟩
theorem ne3 {p0 p1 p2 q0 q1 q2 : Int} (h : ¬ ((q0, q1, q2) : P3) = (p0, p1, p2)) : ¬ p0 = q0 ∨ (p0 = q0 ∧ ¬ p1 = q1) ∨ (p0 = q0 ∧ p1 = q1 ∧ ¬ p2 = q2) := by
  by_cases h0 : p0 = q0
  · by_cases h1 : p1 = q1
    · by_cases h2 : p2 = q2
      · exact absurd (by rw [h0, h1, h2]) h
      · exact Or.inr (Or.inr ⟨h0, h1, h2⟩)
    · exact Or.inr (Or.inl ⟨h0, h1⟩)
  · exact Or.inl h0
theorem below_set1 {a w : World} {r o : Nat} {v : Value} (h : Below a.heap.size a w) (n : a.heap.size ≤ r) : Below a.heap.size a (w.setCell ⟨r, o, none⟩ v) := h.setCell n _
theorem row3_setc {w : World} {b off n q o : Nat} {f : Nat → P3} {v : Value} (r : Row3 w b off n f) (h : q ≠ b) : Row3 (w.setCell ⟨q, o, none⟩ v) b off n f := by
  refine ⟨by simpa using r.1, fun k hk => ?_⟩
  obtain ⟨h1, h2, h3⟩ := r.2 k hk
  have n1 : ¬ q = b := h
  have n2 : ¬ b = q := fun e => h e.symm
  exact ⟨by go_simp, by go_simp, by go_simp⟩
section
variable {np nf : Nat} {P F : Nat → P3}
theorem vc_pts (g : ¬ (64 < np ∨ nf = 0 ∨ 96 < nf)) (h : ptsB P np = false) : vcode ⟨np, nf, P, F⟩ = 1 := by
  unfold vcode; dsimp only; rw [if_neg g, if_pos h]
theorem vc_face (g : ¬ (64 < np ∨ nf = 0 ∨ 96 < nf)) (h : ptsB P np = true) {k : Nat} (hk : k < nf) (z : ∀ i, i < k → fcode np P (F i) = 0) (ne : fcode np P (F k) ≠ 0) : vcode ⟨np, nf, P, F⟩ = fcode np P (F k) := by
  unfold vcode; dsimp only; rw [if_neg g, if_neg (by rw [h]; decide), fcodes_bad hk ne z, if_pos ne]
theorem vc_open (g : ¬ (64 < np ∨ nf = 0 ∨ 96 < nf)) (h : ptsB P np = true) (z : ∀ i, i < nf → fcode np P (F i) = 0) (o : closedB F nf = false) : vcode ⟨np, nf, P, F⟩ = 7 := by
  unfold vcode; dsimp only; rw [if_neg g, if_neg (by rw [h]; decide), fcodes_zero z, if_neg (by decide), if_pos o]
theorem vc_used (g : ¬ (64 < np ∨ nf = 0 ∨ 96 < nf)) (h : ptsB P np = true) (z : ∀ i, i < nf → fcode np P (F i) = 0) (o : closedB F nf = true) (u : allB F nf np = false) : vcode ⟨np, nf, P, F⟩ = 5 := by
  unfold vcode; dsimp only; rw [if_neg g, if_neg (by rw [h]; decide), fcodes_zero z, if_neg (by decide), if_neg (by rw [o]; decide), if_pos u]
theorem vc_turn (g : ¬ (64 < np ∨ nf = 0 ∨ 96 < nf)) (h : ptsB P np = true) (z : ∀ i, i < nf → fcode np P (F i) = 0) (o : closedB F nf = true) (u : allB F nf np = true) (v : vol P F nf ≤ 0) : vcode ⟨np, nf, P, F⟩ = 8 := by
  unfold vcode; dsimp only; rw [if_neg g, if_neg (by rw [h]; decide), fcodes_zero z, if_neg (by decide), if_neg (by rw [o]; decide), if_neg (by rw [u]; decide), if_pos v]
theorem vc_fine (g : ¬ (64 < np ∨ nf = 0 ∨ 96 < nf)) (h : ptsB P np = true) (z : ∀ i, i < nf → fcode np P (F i) = 0) (o : closedB F nf = true) (u : allB F nf np = true) (v : ¬ vol P F nf ≤ 0) : vcode ⟨np, nf, P, F⟩ = 0 := by
  unfold vcode; dsimp only; rw [if_neg g, if_neg (by rw [h]; decide), fcodes_zero z, if_neg (by decide), if_neg (by rw [o]; decide), if_neg (by rw [u]; decide), if_neg v]
theorem ptB_no {k : Nat} (h : inP 64 (P k) = false) : ptB P k = false := by unfold ptB; rw [h]; rfl
theorem ptB_eq {k j : Nat} (hj : j < k) (h : P j = P k) : ptB P k = false := by
  unfold ptB
  rw [Bool.and_eq_false_iff]
  exact Or.inr (List.all_eq_false.2 ⟨j, List.mem_range.2 hj, by simp [h]⟩)
theorem ptB_yes {k : Nat} (h : inP 64 (P k) = true) (g : ∀ j, j < k → P j ≠ P k) : ptB P k = true := by
  unfold ptB
  rw [h, Bool.true_and, List.all_eq_true]
  exact fun j hj => decide_eq_true (g j (List.mem_range.1 hj))
theorem fcode_no {p : P3} (h : ¬ Fok np p) : fcode np P p = 5 := by unfold fcode; exact if_neg h
theorem fcode_flat {x y z : Nat} (hx : x < np) (hy : y < np) (hz : z < np) (h : nrm (P x) (P y) (P z) = (0, 0, 0)) : fcode np P ((x : Int), (y : Int), (z : Int)) = 6 := by
  unfold fcode
  rw [if_pos (show 0 ≤ (x : Int) ∧ (x : Int) < np ∧ 0 ≤ (y : Int) ∧ (y : Int) < np ∧ 0 ≤ (z : Int) ∧ (z : Int) < np by omega)]
  exact if_pos h
theorem fcode_yes {x y z : Nat} (hx : x < np) (hy : y < np) (hz : z < np) (h : nrm (P x) (P y) (P z) ≠ (0, 0, 0)) : fcode np P ((x : Int), (y : Int), (z : Int)) = 0 := by
  unfold fcode
  rw [if_pos (show 0 ≤ (x : Int) ∧ (x : Int) < np ∧ 0 ≤ (y : Int) ∧ (y : Int) < np ∧ 0 ≤ (z : Int) ∧ (z : Int) < np by omega)]
  exact if_neg h
theorem face_yes {p : P3} (a1 : cnt F nf p.1 p.2.1 = 1) (a2 : cnt F nf p.2.1 p.1 = 1) (b1 : cnt F nf p.2.1 p.2.2 = 1) (b2 : cnt F nf p.2.2 p.2.1 = 1) (c1 : cnt F nf p.2.2 p.1 = 1) (c2 : cnt F nf p.1 p.2.2 = 1) : faceB F nf p = true := by
  unfold faceB sideB
  simp [a1, a2, b1, b2, c1, c2]
theorem face_no {p : P3} {x y : Int} (hx : (x, y) = (p.1, p.2.1) ∨ (x, y) = (p.2.1, p.1) ∨ (x, y) = (p.2.1, p.2.2) ∨ (x, y) = (p.2.2, p.2.1) ∨ (x, y) = (p.2.2, p.1) ∨ (x, y) = (p.1, p.2.2)) (h : ((cnt F nf x y : Nat) : Int) ≠ 1) : faceB F nf p = false :=
  face_bad hx (by show ((cnt F nf x y : Nat) : Int) ≠ 1; exact h)
end
theorem rval_big1 (a : Option Addr) (np c : Nat) (a' : Option Addr) (nf c' : Nat) (w : World) (h : 64 < np) (l : np ≤ 1000000) :
    Calls Try.prog 81 #[msv a np c a' nf c'] w fun e w' => e = .returned (.int .i64 4) ∧ Below w.heap.size w w' := by
  have t1 : (64 : Int) < (np : Int) := by omega
  clear h
  go_enter Try.func81, Try.ntmps81
  go_wp2
  go_ret
  exact ⟨rfl, by (repeat' (first | exact Below.refl _ _ | refine Below.setCell ?_ (by simp <;> omega) _ | refine balloc ?_ _ | refine Below.drew ?_ | refine bdrewN ?_ _))⟩
theorem rval_big2 (a : Option Addr) (np c : Nat) (a' : Option Addr) (nf c' : Nat) (w : World) (h : np ≤ 64) (k : nf = 0 ∨ 96 < nf) (l2 : nf ≤ 1000000) :
    Calls Try.prog 81 #[msv a np c a' nf c'] w fun e w' => e = .returned (.int .i64 4) ∧ Below w.heap.size w w' := by
  have t1 : decide ((64 : Int) < (np : Int)) = false := decide_eq_false (by omega)
  have WI := Lib.hid (fun W => ((show decide ((1 : Int) ≤ (nf : Int) ∧ (nf : Int) ≤ 96) = false from decide_eq_false (by omega)) ▸ rwithin_any (nf : Int) 1 96 W : Calls Try.prog 102 #[.int .i64 (nf : Int), .int .i64 1, .int .i64 96] W fun e w' => e = .returned (.bool false) ∧ W = w'))
  clear h k
  go_enter Try.func81, Try.ntmps81
  go_wp2_with fail
  refine (WI.out _).mono ?_
  rintro e w' ⟨rfl, rfl⟩
  go_wp2
  go_ret
  exact ⟨rfl, by (repeat' (first | exact Below.refl _ _ | refine Below.setCell ?_ (by simp <;> omega) _ | refine balloc ?_ _ | refine Below.drew ?_ | refine bdrewN ?_ _))⟩
set_option maxRecDepth 100000 in
set_option maxHeartbeats 8000000 in
theorem rval_row (b off np c b' off' nf c' : Nat) (P F : Nat → P3) (w : World) (rp : Row3 w b off np P) (rf : Row3 w b' off' nf F) (h1 : 0 < np) (h2 : np ≤ 64) (h3 : 0 < nf) (h4 : nf ≤ 96) :
    Calls Try.prog 81 #[msv (some ⟨b, off, none⟩) np c (some ⟨b', off', none⟩) nf c'] w fun e w' => e = .returned (.int .i64 (vcode ⟨np, nf, P, F⟩)) ∧ Below w.heap.size w w' := by
  have RP := Lib.hid rp
  have RF := Lib.hid rf
  have hb : b < w.heap.size := rp.1
  have hb' : b' < w.heap.size := rf.1
  have G := Lib.hid (show ¬ (64 < np ∨ nf = 0 ∨ 96 < nf) by omega)
  have nn : (np : Int) ≤ 64 := by omega
  have mm : (nf : Int) ≤ 96 := by omega
  have L1 := Lib.hid (show np ≤ 1000000 by omega)
  have L2 := Lib.hid (show nf ≤ 1000000 by omega)
  have t1 : decide ((64 : Int) < (np : Int)) = false := decide_eq_false (by omega)
  obtain ⟨res, hres⟩ : ∃ res, vcode ⟨np, nf, P, F⟩ = res := ⟨_, rfl⟩
  have RES := Lib.hid hres
  rw [hres]
  clear rp rf hres h3 h4
  have WI := Lib.hid (fun W => ((show decide ((1 : Int) ≤ (nf : Int) ∧ (nf : Int) ≤ 96) = true from decide_eq_true (by have := G.out; omega)) ▸ rwithin_any (nf : Int) 1 96 W : Calls Try.prog 102 #[.int .i64 (nf : Int), .int .i64 1, .int .i64 96] W fun e w' => e = .returned (.bool true) ∧ W = w'))
  go_enter Try.func81, Try.ntmps81
  go_wp2_with fail
  refine (WI.out _).mono ?_
  rintro e w' ⟨rfl, rfl⟩
  go_wp2
  go_loopw [3] (fun kv wr => ∃ k : Nat, k ≤ np ∧ kv = .int .i64 k ∧ (∀ i, i < k → ptB P i = true) ∧ Mes wr w.heap.size (some ⟨b, off, none⟩) np c (some ⟨b', off', none⟩) nf c' ∧ Below w.heap.size w wr) (fun kv _ => np - (intOf kv).toNat)
  case atStart => exact ⟨0, Nat.zero_le _, rfl, fun i hi => absurd hi (Nat.not_lt_zero i), mes_new _ _ _ _ _ _ _ _, by (repeat' (first | exact Below.refl _ _ | refine Below.setCell ?_ (by simp <;> omega) _ | refine balloc ?_ _ | refine Below.drew ?_ | refine bdrewN ?_ _))⟩
  case round =>
    obtain ⟨k, hk, rfl, good, hme, BB⟩ := hrel
    have GOOD := Lib.hid good
    have ME := Lib.hid hme
    have B0 := Lib.hid BB
    clear good hme BB
    obtain ⟨m1, m2, m3⟩ := ME.out
    by_cases hlt : k < np
    · have k1 : (k : Int) < (np : Int) := by omega
      have r2 := row3_in RP.out B0.out hb
      obtain ⟨c1, c2, c3⟩ := r2.2 k hlt
      have r5 := r2.1
      clear r2
      have PBAD := Lib.hid (fun h : ptB P k = false => ptsB_bad hlt h)
      have PEQ := Lib.hid (fun j (hj : j < k) (h : P j = P k) => PBAD.out (ptB_eq hj h))
      have PNO := Lib.hid (fun h : inP 64 (P k) = false => PBAD.out (ptB_no h))
      have PYES := Lib.hid (fun (h : inP 64 (P k) = true) (g : ∀ j, j < k → P j ≠ P k) => ptB_yes h g)
      obtain ⟨p, hp⟩ : ∃ p, P k = p := ⟨_, rfl⟩
      rw [hp] at c1 c2 c3 PEQ PNO PYES
      have HP := Lib.hid hp
      clear hp
      have NE := Lib.hid (fun W => near_any p 64 W (by decide) (by decide))
      cases hin : inP 64 p with
      | false =>
        rw [hin] at NE
        have hf : res = 1 := by rw [← RES.out]; exact vc_pts G.out (PNO.out hin)
        clear hin
        subst hf
        go_wp2_with fail
        refine (NE.out _).mono ?_
        rintro e w2 ⟨rfl, hb2⟩
        go_wp2
        go_ret
        exact ⟨rfl, by have hB := B0.out; (repeat' (first | exact Below.refl _ _ | refine bstep ?_ hb2 | refine bstep ?_ hB | refine Below.setCell ?_ (by simp <;> omega) _ | refine balloc ?_ _ | refine Below.drew ?_ | refine bdrewN ?_ _))⟩
      | true =>
        rw [hin] at NE
        have HIN := Lib.hid hin
        clear hin
        go_wp2_with fail
        refine (NE.out _).mono ?_
        rintro e w2 ⟨rfl, hb2⟩
        have B2 := Lib.hid (show Below w.heap.size w w2 by have hB := B0.out; (repeat' (first | exact Below.refl _ _ | refine bstep ?_ hb2 | refine bstep ?_ hB | refine Below.setCell ?_ (by simp <;> omega) _ | refine balloc ?_ _ | refine Below.drew ?_ | refine bdrewN ?_ _)))
        have ME2 := Lib.hid (mes_below ME.out hb2)
        clear c1 c2 c3 m1 m2 m3 hb2 r5
        go_wp2
        go_loopw [4] (fun jv wx => ∃ j : Nat, j ≤ k ∧ jv = .int .i64 j ∧ (∀ i, i < j → P i ≠ p) ∧ Mes wx w.heap.size (some ⟨b, off, none⟩) np c (some ⟨b', off', none⟩) nf c' ∧ Below w.heap.size w wx) (fun jv _ => k - (intOf jv).toNat)
        case atStart => exact ⟨0, Nat.zero_le _, rfl, fun i hi => absurd hi (Nat.not_lt_zero i), ME2.out, B2.out⟩
        case round =>
          obtain ⟨j, hj, rfl, diff, hme, BB⟩ := hrel
          have DIFF := Lib.hid diff
          have ME3 := Lib.hid hme
          have B3 := Lib.hid BB
          clear diff hme BB
          obtain ⟨m1, m2, m3⟩ := ME3.out
          by_cases hjt : j < k
          · have j1 : (j : Int) < (k : Int) := by omega
            have r2 := row3_in RP.out B3.out hb
            obtain ⟨c1, c2, c3⟩ := r2.2 k hlt
            obtain ⟨d1, d2, d3⟩ := r2.2 j (by omega)
            have r5 := r2.1
            have PE := Lib.hid (PEQ.out j hjt)
            rw [HP.out] at c1 c2 c3
            have DJ := Lib.hid (DIFF.out)
            obtain ⟨q, hq⟩ : ∃ q, P j = q := ⟨_, rfl⟩
            rw [hq] at d1 d2 d3 PE
            have HQ := Lib.hid hq
            clear r2 hq
            by_cases eq : q = p
            · have hf : res = 1 := by rw [← RES.out]; exact vc_pts G.out (PE.out eq)
              subst hf
              subst eq
              clear PE
              go_wp2
              go_region
              go_wp2
              go_ret
              exact ⟨rfl, by have hB := B3.out; (repeat' (first | exact Below.refl _ _ | refine bstep ?_ hB | refine Below.setCell ?_ (by simp <;> omega) _ | refine balloc ?_ _ | refine Below.drew ?_ | refine bdrewN ?_ _))⟩
            · have EQ := Lib.hid eq
              obtain ⟨p0, p1, p2⟩ := p
              obtain ⟨q0, q1, q2⟩ := q
              dsimp only at c1 c2 c3 d1 d2 d3
              clear PE
              rcases ne3 eq with hx | ⟨rfl, hx⟩ | ⟨rfl, rfl, hx⟩
              all_goals
                have hx' := beq_eq_false_iff_ne.2 hx
                clear eq
                go_wp2
                go_region
                go_wp2
                go_roundw
                case rel => exact ⟨j + 1, by omega, by go_num, fun i hi => by
                    by_cases c : i = j
                    · subst c; rw [HQ.out]; exact EQ.out
                    · exact DIFF.out i (by omega), mes_drew ME3.out, Below.drew B3.out⟩
                case measure => simp [intOf]; omega
          · obtain rfl : j = k := by omega
            have PT := Lib.hid (PYES.out HIN.out (fun i hi => DIFF.out i hi))
            go_wp2
            go_roundw
            case rel => exact ⟨j + 1, by omega, by go_num, fun i hi => by
                by_cases c : i = j
                · subst c; exact PT.out
                · exact GOOD.out i (by omega), ME3.out, B3.out⟩
            case measure => simp [intOf]; omega
    · obtain rfl : k = np := by omega
      have PTS := Lib.hid (ptsB_good GOOD.out)
      obtain ⟨w1, hmk, hB1, hg⟩ := bools_make wr k L1.out
      have M := Lib.hid hB1
      have B1 := Lib.hid (B0.out.grown hg (Nat.le_of_lt m3) (fun k hk => by cases hk))
      have ME1 := Lib.hid (grown_mes ME.out hg (fun q => by cases q))
      have hBw : w.heap.size < wr.heap.size := m3
      obtain ⟨B, hBB⟩ : ∃ B, wr.heap.size = B := ⟨_, rfl⟩
      rw [hBB] at M hmk hBw
      have n1 : B ≠ w.heap.size := by omega
      have n2 : B ≠ b' := by omega
      have n3 : B ≠ b := by omega
      have N := Lib.hid (And.intro n1 (And.intro n2 n3))
      clear n1 n2 n3 hB1 hg hBB
      go_wp2
      clear hmk m1 m2 m3
      go_loopw [6] (fun kv wr => ∃ i : Nat, i ≤ nf ∧ kv = .int .i64 i ∧ (∀ t, t < i → fcode k P (F t) = 0) ∧ Bools wr B k (usedB F i) ∧ Mes wr w.heap.size (some ⟨b, off, none⟩) k c (some ⟨b', off', none⟩) nf c' ∧ Below w.heap.size w wr) (fun kv _ => nf - (intOf kv).toNat)
      case atStart => exact ⟨0, Nat.zero_le _, rfl, fun t ht => absurd ht (Nat.not_lt_zero t), bools_eq M.out (fun i _ => rfl), ME1.out, B1.out⟩
      case round =>
        clear M ME1 B1 ME B0
        obtain ⟨i, hi, rfl, zero, hbo, hme, BB⟩ := hrel
        have ZERO := Lib.hid zero
        have M0 := Lib.hid hbo
        have ME := Lib.hid hme
        have B0 := Lib.hid BB
        clear zero hbo hme BB
        obtain ⟨m1, m2, m3⟩ := ME.out
        by_cases hlt : i < nf
        · have i1 : (i : Int) < (nf : Int) := by omega
          have RR0 := Lib.hid (row3_in RF.out B0.out hb')
          obtain ⟨c1, c2, c3⟩ := RR0.out.2 i hlt
          have r5 := RR0.out.1
          have VB := Lib.hid (fun ne => vc_face G.out PTS.out hlt ZERO.out ne)
          have S1 := Lib.hid (fun x y z h q => usedB_succ F i q x y z h)
          have HF := Lib.hid (show F i = F i from rfl)
          have BU0 := Lib.hid B0.out
          obtain ⟨p, hp⟩ : ∃ p, F i = p := ⟨_, rfl⟩
          rw [hp] at c1 c2 c3 VB S1
          have HP := Lib.hid hp
          clear hp HF
          obtain ⟨p0, p1, p2⟩ := p
          dsimp only at c1 c2 c3
          go_wp2
          refine wp_loop_rounds 4 ?_
          rcases Int.lt_or_le p0 0 with g0 | g0
          · have NF : ¬ Fok k (p0, p1, p2) := (fun h => by unfold Fok at h; dsimp only at h; omega)
            have hf : res = 5 := by rw [← RES.out]; exact (VB.out (by rw [fcode_no NF]; decide)).trans (fcode_no NF)
            subst hf
            clear NF VB
            rw [rounds_succ]
            go_wp2
            go_ret
            exact ⟨rfl, by have hB := BU0.out; (repeat' (first | exact Below.refl _ _ | refine bstep ?_ hB | refine Below.setCell ?_ (by simp <;> omega) _ | refine balloc ?_ _ | refine Below.drew ?_ | refine bdrewN ?_ _))⟩
          rcases Int.lt_or_le p0 (k : Int) with f0 | f0
          rotate_left
          · have NF : ¬ Fok k (p0, p1, p2) := (fun h => by unfold Fok at h; dsimp only at h; omega)
            have hf : res = 5 := by rw [← RES.out]; exact (VB.out (by rw [fcode_no NF]; decide)).trans (fcode_no NF)
            subst hf
            clear NF VB
            have g0' : decide (p0 < 0) = false := decide_eq_false (by omega)
            clear g0
            rw [rounds_succ]
            go_wp2
            go_ret
            exact ⟨rfl, by have hB := BU0.out; (repeat' (first | exact Below.refl _ _ | refine bstep ?_ hB | refine Below.setCell ?_ (by simp <;> omega) _ | refine balloc ?_ _ | refine Below.drew ?_ | refine bdrewN ?_ _))⟩
          obtain ⟨x, rfl⟩ := Int.eq_ofNat_of_zero_le g0
          have hx : x < k := by omega
          obtain ⟨d1, d2⟩ := M0.out.2 x hx
          have l1 := M0.out.1
          have M1 := Lib.hid (bools_set M0.out hx)
          rw [rounds_succ]
          go_wp2
          clear d1 d2 l1 c1 c2 c3 m1 m2 m3 r5
          have BU1 := Lib.hid (below_set1 (o := x) (v := .bool true) BU0.out (Nat.le_of_lt hBw))
          have ME1 := Lib.hid (mes_set (o := x) (v := .bool true) ME.out N.out.1)
          have RR1 := Lib.hid (row3_setc (o := x) (v := .bool true) RR0.out N.out.2.1)
          obtain ⟨m1, m2, m3⟩ := ME1.out
          obtain ⟨c1, c2, c3⟩ := RR1.out.2 i hlt
          rw [HP.out] at c1 c2 c3
          dsimp only at c1 c2 c3
          have r5 := RR1.out.1
          rcases Int.lt_or_le p1 0 with g1 | g1
          · have NF : ¬ Fok k ((x : Int), p1, p2) := (fun h => by unfold Fok at h; dsimp only at h; omega)
            have hf : res = 5 := by rw [← RES.out]; exact (VB.out (by rw [fcode_no NF]; decide)).trans (fcode_no NF)
            subst hf
            clear NF VB
            rw [rounds_succ]
            go_wp2
            go_ret
            exact ⟨rfl, by have hB := BU1.out; (repeat' (first | exact Below.refl _ _ | refine bstep ?_ hB | refine Below.setCell ?_ (by simp <;> omega) _ | refine balloc ?_ _ | refine Below.drew ?_ | refine bdrewN ?_ _))⟩
          rcases Int.lt_or_le p1 (k : Int) with f1 | f1
          rotate_left
          · have NF : ¬ Fok k ((x : Int), p1, p2) := (fun h => by unfold Fok at h; dsimp only at h; omega)
            have hf : res = 5 := by rw [← RES.out]; exact (VB.out (by rw [fcode_no NF]; decide)).trans (fcode_no NF)
            subst hf
            clear NF VB
            have g1' : decide (p1 < 0) = false := decide_eq_false (by omega)
            clear g1
            rw [rounds_succ]
            go_wp2
            go_ret
            exact ⟨rfl, by have hB := BU1.out; (repeat' (first | exact Below.refl _ _ | refine bstep ?_ hB | refine Below.setCell ?_ (by simp <;> omega) _ | refine balloc ?_ _ | refine Below.drew ?_ | refine bdrewN ?_ _))⟩
          obtain ⟨y, rfl⟩ := Int.eq_ofNat_of_zero_le g1
          have hy : y < k := by omega
          obtain ⟨d1, d2⟩ := M1.out.2 y hy
          have l1 := M1.out.1
          have M2 := Lib.hid (bools_set M1.out hy)
          rw [rounds_succ]
          go_wp2
          clear d1 d2 l1 c1 c2 c3 m1 m2 m3 r5
          have BU2 := Lib.hid (below_set1 (o := y) (v := .bool true) BU1.out (Nat.le_of_lt hBw))
          have ME2 := Lib.hid (mes_set (o := y) (v := .bool true) ME1.out N.out.1)
          have RR2 := Lib.hid (row3_setc (o := y) (v := .bool true) RR1.out N.out.2.1)
          obtain ⟨m1, m2, m3⟩ := ME2.out
          obtain ⟨c1, c2, c3⟩ := RR2.out.2 i hlt
          rw [HP.out] at c1 c2 c3
          dsimp only at c1 c2 c3
          have r5 := RR2.out.1
          rcases Int.lt_or_le p2 0 with g2 | g2
          · have NF : ¬ Fok k ((x : Int), (y : Int), p2) := (fun h => by unfold Fok at h; dsimp only at h; omega)
            have hf : res = 5 := by rw [← RES.out]; exact (VB.out (by rw [fcode_no NF]; decide)).trans (fcode_no NF)
            subst hf
            clear NF VB
            rw [rounds_succ]
            go_wp2
            go_ret
            exact ⟨rfl, by have hB := BU2.out; (repeat' (first | exact Below.refl _ _ | refine bstep ?_ hB | refine Below.setCell ?_ (by simp <;> omega) _ | refine balloc ?_ _ | refine Below.drew ?_ | refine bdrewN ?_ _))⟩
          rcases Int.lt_or_le p2 (k : Int) with f2 | f2
          rotate_left
          · have NF : ¬ Fok k ((x : Int), (y : Int), p2) := (fun h => by unfold Fok at h; dsimp only at h; omega)
            have hf : res = 5 := by rw [← RES.out]; exact (VB.out (by rw [fcode_no NF]; decide)).trans (fcode_no NF)
            subst hf
            clear NF VB
            have g2' : decide (p2 < 0) = false := decide_eq_false (by omega)
            clear g2
            rw [rounds_succ]
            go_wp2
            go_ret
            exact ⟨rfl, by have hB := BU2.out; (repeat' (first | exact Below.refl _ _ | refine bstep ?_ hB | refine Below.setCell ?_ (by simp <;> omega) _ | refine balloc ?_ _ | refine Below.drew ?_ | refine bdrewN ?_ _))⟩
          obtain ⟨z, rfl⟩ := Int.eq_ofNat_of_zero_le g2
          have hz : z < k := by omega
          obtain ⟨d1, d2⟩ := M2.out.2 z hz
          have l1 := M2.out.1
          have M3 := Lib.hid (bools_set M2.out hz)
          rw [rounds_succ]
          go_wp2
          clear d1 d2 l1 c1 c2 c3 m1 m2 m3 r5
          have BU3 := Lib.hid (below_set1 (o := z) (v := .bool true) BU2.out (Nat.le_of_lt hBw))
          have ME3 := Lib.hid (mes_set (o := z) (v := .bool true) ME2.out N.out.1)
          have RR3 := Lib.hid (row3_setc (o := z) (v := .bool true) RR2.out N.out.2.1)
          obtain ⟨m1, m2, m3⟩ := ME3.out
          obtain ⟨c1, c2, c3⟩ := RR3.out.2 i hlt
          rw [HP.out] at c1 c2 c3
          dsimp only at c1 c2 c3
          have r5 := RR3.out.1
          clear c1 c2 c3
          rw [rounds_succ]
          have TB := Lib.hid (pts_in PTS.out)
          have CN := Lib.hid (fun W (Bw : Below w.heap.size w W) => corners_nat b off k c b' off' nf c' i x y z P F W (row3_in RP.out Bw hb) (row3_in RF.out Bw hb') hlt hx hy hz L1.out L2.out HP.out)
          have AX := Lib.hid (fun W => across_any (P x) (P y) (P z) W (w16 (TB.out x hx)) (w16 (TB.out y hy)) (w16 (TB.out z hz)))
          have FY := Lib.hid (fun h => fcode_yes (P := P) hx hy hz h)
          have FL := Lib.hid (fun h => fcode_flat (P := P) hx hy hz h)
          obtain ⟨px, hpx⟩ : ∃ q, P x = q := ⟨_, rfl⟩
          obtain ⟨py, hpy⟩ : ∃ q, P y = q := ⟨_, rfl⟩
          obtain ⟨pz, hpz⟩ : ∃ q, P z = q := ⟨_, rfl⟩
          rw [hpx, hpy, hpz] at CN AX FY FL
          clear hpx hpy hpz
          go_wp2_with fail
          refine (CN.out _ BU3.out).mono ?_
          rintro e w2 ⟨rfl, hb2⟩
          have BU4 := Lib.hid (show Below w.heap.size w w2 by have hB := BU3.out; (repeat' (first | exact Below.refl _ _ | refine bstep ?_ hb2 | refine bstep ?_ hB | refine Below.setCell ?_ (by simp <;> omega) _ | refine balloc ?_ _ | refine Below.drew ?_ | refine bdrewN ?_ _)))
          have M4 := Lib.hid (bools_below M3.out hb2)
          have ME4 := Lib.hid (mes_below ME3.out hb2)
          clear hb2 m1 m2 m3
          obtain ⟨m1, m2, m3⟩ := ME4.out
          go_wp2_with fail
          refine (AX.out _).mono ?_
          rintro e w3 ⟨rfl, hb3⟩
          have BU5 := Lib.hid (show Below w.heap.size w w3 by have hB := BU4.out; (repeat' (first | exact Below.refl _ _ | refine bstep ?_ hb3 | refine bstep ?_ hB | refine Below.setCell ?_ (by simp <;> omega) _ | refine balloc ?_ _ | refine Below.drew ?_ | refine bdrewN ?_ _)))
          have M5 := Lib.hid (bools_below M4.out hb3)
          have ME5 := Lib.hid (mes_below ME4.out hb3)
          clear hb3 m1 m2 m3
          obtain ⟨m1, m2, m3⟩ := ME5.out
          obtain ⟨nv, hnv⟩ : ∃ q, nrm px py pz = q := ⟨_, rfl⟩
          rw [hnv] at FY FL ⊢
          clear hnv
          by_cases hn : nv = (0, 0, 0)
          · have hf : res = 6 := by rw [← RES.out]; exact (VB.out (by rw [FL.out hn]; decide)).trans (FL.out hn)
            subst hf
            subst hn
            clear VB
            go_wp2
            go_ret
            exact ⟨rfl, by have hB := BU5.out; (repeat' (first | exact Below.refl _ _ | refine bstep ?_ hB | refine Below.setCell ?_ (by simp <;> omega) _ | refine balloc ?_ _ | refine Below.drew ?_ | refine bdrewN ?_ _))⟩
          · have HN := Lib.hid hn
            clear hn VB
            go_wp2
            all_goals first
              | exact absurd (p3_zero (by assumption) (by assumption) (by assumption)) HN.out
              | (go_roundw
                 case rel => exact ⟨i + 1, by omega, by go_num, fun t ht => by
                    by_cases c : t = i
                    · subst c; rw [HP.out]; exact FY.out HN.out
                    · exact ZERO.out t (by omega), bools_eq M5.out (fun q _ => S1.out x y z rfl q), ME5.out, BU5.out⟩
                 case measure => simp [intOf]; omega)
        · obtain rfl : i = nf := by omega
          go_wp2
          clear m1 m2 m3
          go_loopw [9] (fun kv wr => ∃ t : Nat, t ≤ i ∧ kv = .int .i64 t ∧ (∀ q, q < t → faceB F i (F q) = true) ∧ Bools wr B k (usedB F i) ∧ Mes wr w.heap.size (some ⟨b, off, none⟩) k c (some ⟨b', off', none⟩) i c' ∧ Below w.heap.size w wr) (fun kv _ => i - (intOf kv).toNat)
          case atStart => exact ⟨0, Nat.zero_le _, rfl, fun t ht => absurd ht (Nat.not_lt_zero t), M0.out, ME.out, B0.out⟩
          case round =>
            clear M0 ME B0
            obtain ⟨t, ht, rfl, good, hbo, hme, BB⟩ := hrel
            have GF := Lib.hid good
            have M0 := Lib.hid hbo
            have ME := Lib.hid hme
            have B0 := Lib.hid BB
            clear good hbo hme BB
            by_cases hlt : t < i
            · have t1' : (t : Int) < (i : Int) := by omega
              have RR0 := Lib.hid (row3_in RF.out B0.out hb')
              obtain ⟨m1, m2, m3⟩ := ME.out
              obtain ⟨c1, c2, c3⟩ := RR0.out.2 t hlt
              have r5 := RR0.out.1
              have OPEN := Lib.hid (fun h : faceB F i (F t) = false => vc_open (nf := i) (P := P) (F := F) G.out PTS.out ZERO.out (closed_bad hlt h))
              have ED := Lib.hid (fun p q W (Bw : Below w.heap.size w W) => edges_row (some ⟨b, off, none⟩) k c b' off' i c' F p q W (row3_in RF.out Bw hb') L2.out)
              obtain ⟨p, hp⟩ : ∃ p, F t = p := ⟨_, rfl⟩
              rw [hp] at c1 c2 c3 OPEN
              have HP := Lib.hid hp
              clear hp
              have ME0 := ME
              have BU0 := B0
              go_wp2
              clear m1 m2 m3
              refine wp_loop_rounds 4 ?_
              obtain ⟨m1, m2, m3⟩ := ME0.out
              rw [rounds_succ]
              go_wp2
              go_region
              go_wp2_with fail
              refine (ED.out p.1 p.2.1 _ (by have hB := BU0.out; (repeat' (first | exact Below.refl _ _ | refine bstep ?_ hB | refine Below.setCell ?_ (by simp <;> omega) _ | refine balloc ?_ _ | refine Below.drew ?_ | refine bdrewN ?_ _)))).mono ?_
              rintro e v0a ⟨rfl, hv⟩
              have BU0a := Lib.hid (show Below w.heap.size w v0a by have hB := BU0.out; (repeat' (first | exact Below.refl _ _ | refine bstep ?_ hv | refine bstep ?_ hB | refine Below.setCell ?_ (by simp <;> omega) _ | refine balloc ?_ _ | refine Below.drew ?_ | refine bdrewN ?_ _)))
              have ME0a := Lib.hid (mes_below (mes_drew ME0.out) hv)
              have M0a := Lib.hid (bools_below (show Bools (World.drew _) B k (usedB F i) from M0.out) hv)
              clear hv m1 m2 m3
              obtain ⟨m1, m2, m3⟩ := ME0a.out
              obtain ⟨n, hn⟩ : ∃ n, ((cnt F i p.1 p.2.1 : Nat) : Int) = n := ⟨_, rfl⟩
              rw [hn]
              by_cases hc : n = 1
              case neg =>
                have hf : res = 7 := by rw [← RES.out]; exact OPEN.out (face_no (.inl rfl) (by rw [hn]; exact hc))
                have t2 : (n != 1) = true := bne_iff_ne.2 hc
                clear hc hn
                subst hf
                go_wp2
                go_ret
                exact ⟨rfl, by have hB := BU0a.out; (repeat' (first | exact Below.refl _ _ | refine bstep ?_ hB | refine Below.setCell ?_ (by simp <;> omega) _ | refine balloc ?_ _ | refine Below.drew ?_ | refine bdrewN ?_ _))⟩
              case pos =>
                rw [hc] at hn
                subst hc
                have C0a := Lib.hid (show cnt F i p.1 p.2.1 = 1 by omega)
                clear hn
                go_wp2_with fail
                refine (ED.out p.2.1 p.1 _ (by have hB := BU0a.out; (repeat' (first | exact Below.refl _ _ | refine bstep ?_ hB | refine Below.setCell ?_ (by simp <;> omega) _ | refine balloc ?_ _ | refine Below.drew ?_ | refine bdrewN ?_ _)))).mono ?_
                rintro e v0b ⟨rfl, hv⟩
                have BU0b := Lib.hid (show Below w.heap.size w v0b by have hB := BU0a.out; (repeat' (first | exact Below.refl _ _ | refine bstep ?_ hv | refine bstep ?_ hB | refine Below.setCell ?_ (by simp <;> omega) _ | refine balloc ?_ _ | refine Below.drew ?_ | refine bdrewN ?_ _)))
                have ME0b := Lib.hid (mes_below ME0a.out hv)
                have M0b := Lib.hid (bools_below M0a.out hv)
                clear hv m1 m2 m3
                obtain ⟨m1, m2, m3⟩ := ME0b.out
                obtain ⟨n, hn⟩ : ∃ n, ((cnt F i p.2.1 p.1 : Nat) : Int) = n := ⟨_, rfl⟩
                rw [hn]
                by_cases hc : n = 1
                case neg =>
                  have hf : res = 7 := by rw [← RES.out]; exact OPEN.out (face_no (.inr (.inl rfl)) (by rw [hn]; exact hc))
                  have t2 : (n != 1) = true := bne_iff_ne.2 hc
                  clear hc hn
                  subst hf
                  go_wp2
                  go_ret
                  exact ⟨rfl, by have hB := BU0b.out; (repeat' (first | exact Below.refl _ _ | refine bstep ?_ hB | refine Below.setCell ?_ (by simp <;> omega) _ | refine balloc ?_ _ | refine Below.drew ?_ | refine bdrewN ?_ _))⟩
                case pos =>
                  rw [hc] at hn
                  subst hc
                  have C0b := Lib.hid (show cnt F i p.2.1 p.1 = 1 by omega)
                  clear hn
                  go_wp2
                  clear c1 c2 c3 r5
                  have RR1 := Lib.hid (row3_in RF.out BU0b.out hb')
                  obtain ⟨c1, c2, c3⟩ := RR1.out.2 t hlt
                  rw [HP.out] at c1 c2 c3
                  have r5 := RR1.out.1
                  rw [rounds_succ]
                  go_wp2
                  go_region
                  go_wp2_with fail
                  refine (ED.out p.2.1 p.2.2 _ (by have hB := BU0b.out; (repeat' (first | exact Below.refl _ _ | refine bstep ?_ hB | refine Below.setCell ?_ (by simp <;> omega) _ | refine balloc ?_ _ | refine Below.drew ?_ | refine bdrewN ?_ _)))).mono ?_
                  rintro e v1a ⟨rfl, hv⟩
                  have BU1a := Lib.hid (show Below w.heap.size w v1a by have hB := BU0b.out; (repeat' (first | exact Below.refl _ _ | refine bstep ?_ hv | refine bstep ?_ hB | refine Below.setCell ?_ (by simp <;> omega) _ | refine balloc ?_ _ | refine Below.drew ?_ | refine bdrewN ?_ _)))
                  have ME1a := Lib.hid (mes_below (mes_drew ME0b.out) hv)
                  have M1a := Lib.hid (bools_below (show Bools (World.drew _) B k (usedB F i) from M0b.out) hv)
                  clear hv m1 m2 m3
                  obtain ⟨m1, m2, m3⟩ := ME1a.out
                  obtain ⟨n, hn⟩ : ∃ n, ((cnt F i p.2.1 p.2.2 : Nat) : Int) = n := ⟨_, rfl⟩
                  rw [hn]
                  by_cases hc : n = 1
                  case neg =>
                    have hf : res = 7 := by rw [← RES.out]; exact OPEN.out (face_no (.inr (.inr (.inl rfl))) (by rw [hn]; exact hc))
                    have t2 : (n != 1) = true := bne_iff_ne.2 hc
                    clear hc hn
                    subst hf
                    go_wp2
                    go_ret
                    exact ⟨rfl, by have hB := BU1a.out; (repeat' (first | exact Below.refl _ _ | refine bstep ?_ hB | refine Below.setCell ?_ (by simp <;> omega) _ | refine balloc ?_ _ | refine Below.drew ?_ | refine bdrewN ?_ _))⟩
                  case pos =>
                    rw [hc] at hn
                    subst hc
                    have C1a := Lib.hid (show cnt F i p.2.1 p.2.2 = 1 by omega)
                    clear hn
                    go_wp2_with fail
                    refine (ED.out p.2.2 p.2.1 _ (by have hB := BU1a.out; (repeat' (first | exact Below.refl _ _ | refine bstep ?_ hB | refine Below.setCell ?_ (by simp <;> omega) _ | refine balloc ?_ _ | refine Below.drew ?_ | refine bdrewN ?_ _)))).mono ?_
                    rintro e v1b ⟨rfl, hv⟩
                    have BU1b := Lib.hid (show Below w.heap.size w v1b by have hB := BU1a.out; (repeat' (first | exact Below.refl _ _ | refine bstep ?_ hv | refine bstep ?_ hB | refine Below.setCell ?_ (by simp <;> omega) _ | refine balloc ?_ _ | refine Below.drew ?_ | refine bdrewN ?_ _)))
                    have ME1b := Lib.hid (mes_below ME1a.out hv)
                    have M1b := Lib.hid (bools_below M1a.out hv)
                    clear hv m1 m2 m3
                    obtain ⟨m1, m2, m3⟩ := ME1b.out
                    obtain ⟨n, hn⟩ : ∃ n, ((cnt F i p.2.2 p.2.1 : Nat) : Int) = n := ⟨_, rfl⟩
                    rw [hn]
                    by_cases hc : n = 1
                    case neg =>
                      have hf : res = 7 := by rw [← RES.out]; exact OPEN.out (face_no (.inr (.inr (.inr (.inl rfl)))) (by rw [hn]; exact hc))
                      have t2 : (n != 1) = true := bne_iff_ne.2 hc
                      clear hc hn
                      subst hf
                      go_wp2
                      go_ret
                      exact ⟨rfl, by have hB := BU1b.out; (repeat' (first | exact Below.refl _ _ | refine bstep ?_ hB | refine Below.setCell ?_ (by simp <;> omega) _ | refine balloc ?_ _ | refine Below.drew ?_ | refine bdrewN ?_ _))⟩
                    case pos =>
                      rw [hc] at hn
                      subst hc
                      have C1b := Lib.hid (show cnt F i p.2.2 p.2.1 = 1 by omega)
                      clear hn
                      go_wp2
                      clear c1 c2 c3 r5
                      have RR2 := Lib.hid (row3_in RF.out BU1b.out hb')
                      obtain ⟨c1, c2, c3⟩ := RR2.out.2 t hlt
                      rw [HP.out] at c1 c2 c3
                      have r5 := RR2.out.1
                      rw [rounds_succ]
                      go_wp2
                      go_region
                      go_wp2_with fail
                      refine (ED.out p.2.2 p.1 _ (by have hB := BU1b.out; (repeat' (first | exact Below.refl _ _ | refine bstep ?_ hB | refine Below.setCell ?_ (by simp <;> omega) _ | refine balloc ?_ _ | refine Below.drew ?_ | refine bdrewN ?_ _)))).mono ?_
                      rintro e v2a ⟨rfl, hv⟩
                      have BU2a := Lib.hid (show Below w.heap.size w v2a by have hB := BU1b.out; (repeat' (first | exact Below.refl _ _ | refine bstep ?_ hv | refine bstep ?_ hB | refine Below.setCell ?_ (by simp <;> omega) _ | refine balloc ?_ _ | refine Below.drew ?_ | refine bdrewN ?_ _)))
                      have ME2a := Lib.hid (mes_below (mes_drew ME1b.out) hv)
                      have M2a := Lib.hid (bools_below (show Bools (World.drew _) B k (usedB F i) from M1b.out) hv)
                      clear hv m1 m2 m3
                      obtain ⟨m1, m2, m3⟩ := ME2a.out
                      obtain ⟨n, hn⟩ : ∃ n, ((cnt F i p.2.2 p.1 : Nat) : Int) = n := ⟨_, rfl⟩
                      rw [hn]
                      by_cases hc : n = 1
                      case neg =>
                        have hf : res = 7 := by rw [← RES.out]; exact OPEN.out (face_no (.inr (.inr (.inr (.inr (.inl rfl))))) (by rw [hn]; exact hc))
                        have t2 : (n != 1) = true := bne_iff_ne.2 hc
                        clear hc hn
                        subst hf
                        go_wp2
                        go_ret
                        exact ⟨rfl, by have hB := BU2a.out; (repeat' (first | exact Below.refl _ _ | refine bstep ?_ hB | refine Below.setCell ?_ (by simp <;> omega) _ | refine balloc ?_ _ | refine Below.drew ?_ | refine bdrewN ?_ _))⟩
                      case pos =>
                        rw [hc] at hn
                        subst hc
                        have C2a := Lib.hid (show cnt F i p.2.2 p.1 = 1 by omega)
                        clear hn
                        go_wp2_with fail
                        refine (ED.out p.1 p.2.2 _ (by have hB := BU2a.out; (repeat' (first | exact Below.refl _ _ | refine bstep ?_ hB | refine Below.setCell ?_ (by simp <;> omega) _ | refine balloc ?_ _ | refine Below.drew ?_ | refine bdrewN ?_ _)))).mono ?_
                        rintro e v2b ⟨rfl, hv⟩
                        have BU2b := Lib.hid (show Below w.heap.size w v2b by have hB := BU2a.out; (repeat' (first | exact Below.refl _ _ | refine bstep ?_ hv | refine bstep ?_ hB | refine Below.setCell ?_ (by simp <;> omega) _ | refine balloc ?_ _ | refine Below.drew ?_ | refine bdrewN ?_ _)))
                        have ME2b := Lib.hid (mes_below ME2a.out hv)
                        have M2b := Lib.hid (bools_below M2a.out hv)
                        clear hv m1 m2 m3
                        obtain ⟨m1, m2, m3⟩ := ME2b.out
                        obtain ⟨n, hn⟩ : ∃ n, ((cnt F i p.1 p.2.2 : Nat) : Int) = n := ⟨_, rfl⟩
                        rw [hn]
                        by_cases hc : n = 1
                        case neg =>
                          have hf : res = 7 := by rw [← RES.out]; exact OPEN.out (face_no (.inr (.inr (.inr (.inr (.inr rfl))))) (by rw [hn]; exact hc))
                          have t2 : (n != 1) = true := bne_iff_ne.2 hc
                          clear hc hn
                          subst hf
                          go_wp2
                          go_ret
                          exact ⟨rfl, by have hB := BU2b.out; (repeat' (first | exact Below.refl _ _ | refine bstep ?_ hB | refine Below.setCell ?_ (by simp <;> omega) _ | refine balloc ?_ _ | refine Below.drew ?_ | refine bdrewN ?_ _))⟩
                        case pos =>
                          rw [hc] at hn
                          subst hc
                          have C2b := Lib.hid (show cnt F i p.1 p.2.2 = 1 by omega)
                          clear hn
                          go_wp2
                          clear c1 c2 c3 r5
                          rw [rounds_succ]
                          go_wp2
                          go_roundw
                          case rel => exact ⟨t + 1, by omega, by go_num, fun q hq => by
                              by_cases c : q = t
                              · subst c; rw [HP.out]; exact face_yes C0a.out C0b.out C1a.out C1b.out C2a.out C2b.out
                              · exact GF.out q (by omega), M2b.out, ME2b.out, BU2b.out⟩
                          case measure => simp [intOf]; omega
            · obtain rfl : t = i := by omega
              have CLO := Lib.hid (closed_good GF.out)
              obtain ⟨m1, m2, m3⟩ := ME.out
              go_wp2
              clear m1 m2 m3
              go_loopw [13] (fun kv wx => ∃ j : Nat, j ≤ k ∧ kv = .int .i64 j ∧ (∀ q, q < j → usedB F t q = true) ∧ wx = wr) (fun kv _ => k - (intOf kv).toNat)
              case atStart => exact ⟨0, Nat.zero_le _, rfl, fun q hq => absurd hq (Nat.not_lt_zero q), rfl⟩
              case round =>
                obtain ⟨j, hj, rfl, good, rfl⟩ := hrel
                have GU := Lib.hid good
                clear good
                by_cases hjt : j < k
                · obtain ⟨d1, _⟩ := M0.out.2 j hjt
                  have l1 := M0.out.1
                  have j1 : (j : Int) < (k : Int) := by omega
                  cases hu : usedB F t j with
                  | false =>
                    rw [hu] at d1
                    have hf : res = 5 := by rw [← RES.out]; exact vc_used (P := P) (F := F) G.out PTS.out ZERO.out CLO.out (all_bad hjt hu)
                    clear hu
                    subst hf
                    go_wp2
                    go_ret
                    exact ⟨rfl, B0.out⟩
                  | true =>
                    rw [hu] at d1
                    have HU := Lib.hid hu
                    clear hu
                    go_wp2
                    go_roundw
                    case rel => exact ⟨j + 1, by omega, by go_num, fun q hq => by
                        by_cases c : q = j
                        · subst c; exact HU.out
                        · exact GU.out q (by omega), trivial⟩
                    case measure => simp [intOf]; omega
                · obtain rfl : j = k := by omega
                  have ALL := Lib.hid (all_good (F := F) GU.out)
                  obtain ⟨m1, m2, m3⟩ := ME.out
                  have fo : ∀ q, q < t → Fok j (F q) := fun q hq => fcode_ok (ZERO.out q hq)
                  have VO := Lib.hid (rvol_row b off j c b' off' t c' P F wr (row3_in RP.out B0.out hb) (row3_in RF.out B0.out hb') L1.out L2.out fo (trB_of (fun q h => inP_iff.1 (pts_in PTS.out q h)) fo))
                  clear fo
                  go_wp2_with fail
                  refine VO.out.mono ?_
                  rintro e w4 ⟨rfl, hb4⟩
                  by_cases hv : vol P F t ≤ 0
                  · have hf : res = 8 := by rw [← RES.out]; exact vc_turn (P := P) (F := F) G.out PTS.out ZERO.out CLO.out ALL.out hv
                    subst hf
                    go_wp2
                    go_ret
                    exact ⟨rfl, by have hB := B0.out; (repeat' (first | exact Below.refl _ _ | refine bstep ?_ hb4 | refine bstep ?_ hB | refine Below.setCell ?_ (by simp <;> omega) _ | refine balloc ?_ _ | refine Below.drew ?_ | refine bdrewN ?_ _))⟩
                  · have hf : res = 0 := by rw [← RES.out]; exact vc_fine (P := P) (F := F) G.out PTS.out ZERO.out CLO.out ALL.out hv
                    have hv' : decide (vol P F t ≤ 0) = false := decide_eq_false hv
                    clear hv
                    subst hf
                    go_wp2
                    go_ret
                    exact ⟨rfl, by have hB := B0.out; (repeat' (first | exact Below.refl _ _ | refine bstep ?_ hb4 | refine bstep ?_ hB | refine Below.setCell ?_ (by simp <;> omega) _ | refine balloc ?_ _ | refine Below.drew ?_ | refine bdrewN ?_ _))⟩

end Go.Proofs.Ytllonfaogbdbnaa
