/-
  The contract of the document's det.
-/
import Derived.Test.YtllonfaogbdbnaaCr16
namespace Go.Proofs.Ytllonfaogbdbnaa
open Go.ChangeShapes Go.WideShapes Go.RowKit
open Cr
theorem dt_sub (M : List (List Int)) (i : Int) (rs cs : List Int) {k : Nat} (hk : k < cs.length) : dt rs.length (sub M (i :: rs) cs) k = sg k * ent M i (at_ cs k) * detR M rs (cs.eraseIdx k) := by
  unfold dt
  show sg k * at_ (cs.map fun j => ent M i j) k * det rs.length (cut (sub M rs cs) k) = _
  have e : cut (sub M rs cs) k = sub M rs (cs.eraseIdx k) := by
    unfold cut sub
    rw [List.map_map]
    exact List.map_congr_left fun x _ => eraseIdx_map _ _ _
  rw [e, det_sub, at_map _ _ _ hk]
theorem detR_cons (M : List (List Int)) (i : Int) (rs cs : List Int) : detR M (i :: rs) cs = ps (dt rs.length (sub M (i :: rs) cs)) cs.length :=
  ps_congr fun _ hk => (dt_sub M i rs cs hk).symm
theorem under_tail {i : Int} {rs : List Int} {n : Nat} (h : Under (i :: rs) n) : Under rs n := fun a ha => h (a + 1) (by simp; omega)
theorem at_erase (l : List Int) (j k : Nat) : at_ (l.eraseIdx j) k = if k < j then at_ l k else at_ l (k + 1) := by
  unfold at_
  simp only [List.getD, List.getElem?_eraseIdx]
  split <;> rfl
theorem under_erase {l : List Int} {n : Nat} (h : Under l n) (j : Nat) : Under (l.eraseIdx j) n := fun k hk => by
  rw [at_erase]
  rw [List.length_eraseIdx] at hk
  split
  · exact h k (by split at hk <;> omega)
  · exact h (k + 1) (by split at hk <;> omega)
theorem detR_bd {n m K : Nat} {M : List (List Int)} (q : Sq n m M) {rows cols : List Int} (ur : Under rows n) (uc : Under cols m) (kr : rows.length = K) (kc : cols.length = K) : -fB K ≤ detR M rows cols ∧ detR M rows cols ≤ fB K := by
  have s := sub_sq q ur uc
  rw [kr, kc] at s
  have := det_bd K _ s
  rw [← kr, det_sub] at this
  rw [← kr]; exact this
/-- what a round of det holds -/
def DS (w : World) (br or ba oa bc oc be oe m ca : Nat) (Ar : Option Addr) (ri cj : Nat) (x : Int) (k : Nat) (w' : World) : Prop :=
  w'.cell? ⟨br, or, none⟩ = some (.int .i64 (ri : Int)) ∧ w'.cell? ⟨ba, oa + ri, none⟩ = some (.slice Ar m ca) ∧ w'.cell? ⟨bc, oc + k, none⟩ = some (.int .i64 (cj : Int)) ∧ w'.cell? ⟨be, oe + cj, none⟩ = some (.int .i64 x) ∧ Below w.heap.size w w' ∧ (br < w'.heap.size ∧ ba < w'.heap.size ∧ bc < w'.heap.size ∧ be < w'.heap.size)
theorem ds_s {w : World} {br or ba oa bc oc be oe m ca : Nat} {Ar : Option Addr} {ri cj : Nat} {x : Int} {k : Nat} {w1 : World} (h : DS w br or ba oa bc oc be oe m ca Ar ri cj x k w1) : w1.cell? ⟨br, or, none⟩ = some (.int .i64 (ri : Int)) ∧ w1.cell? ⟨ba, oa + ri, none⟩ = some (.slice Ar m ca) ∧ w1.cell? ⟨bc, oc + k, none⟩ = some (.int .i64 (cj : Int)) ∧ w1.cell? ⟨be, oe + cj, none⟩ = some (.int .i64 x) ∧ Below w.heap.size w w1 ∧ (br < w1.heap.size ∧ ba < w1.heap.size ∧ bc < w1.heap.size ∧ be < w1.heap.size) := h
theorem ds_of {w : World} {br or ba oa bc oc be oe m ca : Nat} {Ar : Option Addr} {ri cj : Nat} {x : Int} {k : Nat} {w1 : World} (h : w1.cell? ⟨br, or, none⟩ = some (.int .i64 (ri : Int)) ∧ w1.cell? ⟨ba, oa + ri, none⟩ = some (.slice Ar m ca) ∧ w1.cell? ⟨bc, oc + k, none⟩ = some (.int .i64 (cj : Int)) ∧ w1.cell? ⟨be, oe + cj, none⟩ = some (.int .i64 x) ∧ Below w.heap.size w w1 ∧ (br < w1.heap.size ∧ ba < w1.heap.size ∧ bc < w1.heap.size ∧ be < w1.heap.size)) : DS w br or ba oa bc oc be oe m ca Ar ri cj x k w1 := h
theorem ds_drew {w : World} {br or ba oa bc oc be oe m ca : Nat} {Ar : Option Addr} {ri cj : Nat} {x : Int} {k : Nat} {w1 : World} (h : DS w br or ba oa bc oc be oe m ca Ar ri cj x k w1) : DS w br or ba oa bc oc be oe m ca Ar ri cj x k w1.drew := ⟨h.1, h.2.1, h.2.2.1, h.2.2.2.1, Below.drew h.2.2.2.2.1, h.2.2.2.2.2⟩
theorem DS.bel {w : World} {br or ba oa bc oc be oe m ca : Nat} {Ar : Option Addr} {ri cj : Nat} {x : Int} {k : Nat} {w1 : World} (h : DS w br or ba oa bc oc be oe m ca Ar ri cj x k w1) : Below w.heap.size w w1 := h.2.2.2.2.1
theorem ds_below {w : World} {br or ba oa bc oc be oe m ca : Nat} {Ar : Option Addr} {ri cj : Nat} {x : Int} {k : Nat} {w1 : World} {w2 : World} (h : DS w br or ba oa bc oc be oe m ca Ar ri cj x k w1) (hb : Below w1.heap.size w1 w2) : DS w br or ba oa bc oc be oe m ca Ar ri cj x k w2 := by
  obtain ⟨h0, h1, h2, h3, h4, b1, b2, b3, b4⟩ := h
  have hs := hb.size
  exact ⟨(hb.cell (p := ⟨br, or, none⟩) b1).trans h0, (hb.cell (p := ⟨ba, oa + ri, none⟩) b2).trans h1, (hb.cell (p := ⟨bc, oc + k, none⟩) b3).trans h2, (hb.cell (p := ⟨be, oe + cj, none⟩) b4).trans h3, bstep h4 hb, by omega, by omega, by omega, by omega⟩
set_option maxHeartbeats 4000000 in
theorem rdet_any (n m c : Nat) (M : List (List Int)) (q : Sq n m M) (K : Nat) : ∀ (A R C : Option Addr) (cr cc : Nat) (rows cols : List Int) (w : World), K ≤ 7 → rows.length = K → cols.length = K → K ≤ cr → K ≤ cc → ML w A M → IL w R rows → IL w C cols → Under rows n → Under cols m →
    Calls Try.prog 89 #[.slice A n c, .slice R K cr, .slice C K cc] w fun e w' => e = .returned (.int .i64 (detR M rows cols)) ∧ Below w.heap.size w w' := by
  have Q := Lib.hid q
  clear q
  induction K with
  | zero =>
    intro A R C cr cc rows cols w _ kr _ _ _ _ _ _ _ _
    obtain rfl : rows = [] := List.eq_nil_of_length_eq_zero kr
    go_enter Try.func89, Try.ntmps89
    go_wp2_with fail
    go_ret
    exact ⟨rfl, Below.refl _ _⟩
  | succ K ih =>
    intro A R C cr cc rows cols w h7 kr kc hcr hcc hM hR hC ur uc
    cases rows with
    | nil => simp at kr
    | cons i rs =>
    have kr2 : rs.length = K := by simpa using kr
    clear kr
    have u0 := ur 0 (by simp)
    obtain ⟨ri, hri⟩ : ∃ ri : Nat, i = (ri : Int) := ⟨i.toNat, by have : at_ (i :: rs) 0 = i := rfl; omega⟩
    subst hri
    have u00 : (0 : Int) ≤ (ri : Int) ∧ (ri : Int) < (n : Int) := u0
    clear u0
    have DC := Lib.hid (detR_cons M (ri : Int) rs cols)
    have DT := Lib.hid (fun k (hk : k < K + 1) => dt_sub M (ri : Int) rs cols (k := k) (by omega))
    have SQ := Lib.hid (sub_sq Q.out ur uc)
    have e1 : ((ri : Int) :: rs).length = K + 1 := by simp [kr2]
    rw [e1, kc] at SQ
    rw [kr2, kc] at DC
    rw [kr2] at DT
    have PB := Lib.hid (fun k (hk : k ≤ K + 1) => part_bd SQ.out h7 hk)
    have TB := Lib.hid (fun k (hk : k < K + 1) => dt_bd SQ.out hk)
    have LO := fB_low h7
    obtain ⟨br, or, rfl, hbr, hc0⟩ := hR 0 (by simp)
    have C0 := Lib.hid (show w.cell? ⟨br, or, none⟩ = some (.int .i64 (ri : Int)) from hc0)
    obtain ⟨ba, oa, Ar, ca, rfl, hba, hca, hla, hra⟩ := hM ri (by rw [Q.out.len]; omega)
    rw [rw_len Q.out (by omega)] at hca hla
    have CA := Lib.hid hca
    have RA := Lib.hid hra
    have RL := Lib.hid (rw_len Q.out (show ri < n by omega))
    have HC := Lib.hid hC
    have UC := Lib.hid uc
    have KC := Lib.hid kc
    have WO := Lib.hid (fun k (hk : k < K + 1) W (B : Below w.heap.size w W) => rwo_any C cc (K + 1) k cols W (il_in hC B) kc hcc hk (by omega))
    simp only [Nat.add_sub_cancel] at WO
    have RS := Lib.hid (il_drop hR (show ((ri : Int) :: rs).length ≤ cr by rw [e1]; omega) 1)
    have IH := Lib.hid (fun k (hk : k < K + 1) A2 c2 W (B : Below w.heap.size w W) (h2 : IL W A2 (cols.eraseIdx k)) (hc2 : K ≤ c2) => ih (some ⟨ba, oa, none⟩) (cutA (some ⟨br, or, none⟩) 1 cr) A2 (cr - 1) c2 rs (cols.eraseIdx k) W (by omega) kr2 (by rw [List.length_eraseIdx, kc, if_pos hk]; rfl) (by omega) hc2 (ml_in hM B) (il_in RS.out B) h2 (under_tail ur) (under_erase uc k))
    have RB := Lib.hid (fun k (hk : k < K + 1) => detR_bd Q.out (under_tail ur) (under_erase uc k) kr2 (by rw [List.length_eraseIdx, kc, if_pos hk]; rfl))
    have hK : (K : Int) + 1 ≤ 7 := by omega
    have x1 : (0 : Int) < (K : Int) + 1 := by omega
    have x2 : ((K : Int) + 1 == 0) = false := by simp; omega
    have x3 : (1 : Int) ≤ (K : Int) + 1 := by omega
    have x4 : (0 : Int) ≤ (K : Int) := by omega
    clear hM hR hC ur uc hc0 hca hra ih kc kr2 e1 RS
    generalize sub M ((ri : Int) :: rs) cols = S at *
    go_enter Try.func89, Try.ntmps89
    go_wp2_with fail
    go_loopw [7, 8, 9] (fun sv gv kv wr => ∃ k : Nat, k ≤ K + 1 ∧ kv = .int .i64 k ∧ sv = .int .i64 (ps (dt K S) k) ∧ gv = .int .i64 (sg k) ∧ Below w.heap.size w wr) (fun _ _ kv _ => K + 1 - (intOf kv).toNat)
    case atStart => exact ⟨0, Nat.zero_le _, rfl, rfl, rfl, Below.refl _ _⟩
    case round =>
      obtain ⟨k, hk, rfl, rfl, rfl, B⟩ := hrel
      by_cases hlt : k < K + 1
      · have hk1 : (k : Int) < (K : Int) + 1 := by omega
        have hk0 : 0 ≤ (k : Int) := by omega
        obtain ⟨bc, oc, rfl, hbc, hcc0⟩ := HC.out k (by rw [KC.out]; exact hlt)
        have u2 := UC.out k (by rw [KC.out]; exact hlt)
        obtain ⟨cj, hcj⟩ : ∃ cj : Nat, at_ cols k = (cj : Int) := ⟨(at_ cols k).toNat, by omega⟩
        have p1 := PB.out k hk
        have p2 := PB.out (k + 1) (by omega)
        have PS := Lib.hid (show ps (dt K S) (k + 1) = ps (dt K S) k + dt K S k from rfl)
        have tb := TB.out k hlt
        have rb := RB.out k hlt
        have DTk := DT.out k hlt
        rw [hcj] at hcc0 u2 DTk
        obtain ⟨be, oe, rfl, hbe, hce0⟩ := RA.out cj (by rw [RL.out]; omega)
        have xb : -100 ≤ at_ (rw_ M ri) cj ∧ at_ (rw_ M ri) cj ≤ 100 := Q.out.at (by omega) (by omega)
        have ex : ent M (ri : Int) (cj : Int) = at_ (rw_ M ri) cj := by unfold ent; simp only [Int.toNat_natCast]; rfl
        rw [ex] at DTk
        rw [DTk] at tb
        rw [PS.out, DTk] at p2
        have s1 := sg_bd (j := k) xb.1 xb.2
        have s2 : -1 ≤ sg k ∧ sg k ≤ 1 := by rcases sg_cases k with e | e <;> rw [e] <;> decide
        have SS := Lib.hid (sg_succ k)
        have WOk := Lib.hid (WO.out k hlt)
        have IHk := Lib.hid (IH.out k hlt)
        have hsz := B.size
        have D0 := Lib.hid (show DS w br or ba oa bc oc be oe m ca (some ⟨be, oe, none⟩) ri cj (at_ (rw_ M ri) cj) k wr from ⟨(B.cell (p := ⟨br, or, none⟩) hbr).trans C0.out, (B.cell (p := ⟨ba, oa + ri, none⟩) hba).trans CA.out, (B.cell (p := ⟨bc, oc + k, none⟩) hbc).trans hcc0, (B.cell (p := ⟨be, oe + cj, none⟩) hbe).trans hce0, B, by omega, by omega, by omega, by omega⟩)
        generalize sg k = s at *
        generalize at_ (rw_ M ri) cj = x at *
        generalize detR M rs (cols.eraseIdx k) = d at *
        generalize ps (dt K S) k = p at *
        generalize fB K = f at *
        obtain ⟨xb1, xb2⟩ := xb
        obtain ⟨p11, p12⟩ := p1
        obtain ⟨p21, p22⟩ := p2
        obtain ⟨s11, s12⟩ := s1
        obtain ⟨s21, s22⟩ := s2
        obtain ⟨tb1, tb2⟩ := tb
        obtain ⟨u11, u12⟩ := u00
        obtain ⟨u21, u22⟩ := u2
        have WR1 : IntKind.i64.wrap (s * x) = s * x := IntWalk.i64_in _ (by omega)
        have WR2 : IntKind.i64.wrap (s * x * d) = s * x * d := IntWalk.i64_in _ (by omega)
        have WR3 : IntKind.i64.wrap (p + s * x * d) = p + s * x * d := IntWalk.i64_in _ (by omega)
        have PE := Lib.hid (show ps (dt K S) (k + 1) = p + s * x * d by rw [PS.out, DTk])
        clear DTk tb1 tb2 rb LO hcc0 hce0 B hcj ex hbr hba hbc hbe
        go_wp2_with fail
        go_region_held3 (fun w' => w'.cell? ⟨br, or, none⟩ = some (.int .i64 (ri : Int)) ∧ w'.cell? ⟨ba, oa + ri, none⟩ = some (.slice (some ⟨be, oe, none⟩) m ca) ∧ w'.cell? ⟨bc, oc + k, none⟩ = some (.int .i64 (cj : Int)) ∧ w'.cell? ⟨be, oe + cj, none⟩ = some (.int .i64 x) ∧ Below w.heap.size w w' ∧ (br < w'.heap.size ∧ ba < w'.heap.size ∧ bc < w'.heap.size ∧ be < w'.heap.size))
          (first | with_reducible exact ds_s (ds_drew D0.out) | with_reducible exact ds_s S1.out | with_reducible exact ds_s S2.out | fail)
          (first
            | (go_at_call 110; (with_reducible refine (WOk.out _ (DS.bel (ds_of (by assumption)))).mono ?_); rintro e w2 ⟨A2, c2, rfl, hc2, hI, hb⟩; have S1 := Lib.hid (ds_below (ds_of (by assumption)) hb); have I1 := Lib.hid hI; have C1 := Lib.hid hc2; clear hI hb hc2)
            | (go_at_call 89; (with_reducible refine (IHk.out A2 c2 _ (DS.bel (ds_of (by assumption))) I1.out C1.out).mono ?_); rintro e w3 ⟨rfl, hb⟩; have S2 := Lib.hid (ds_below (ds_of (by assumption)) hb); clear hb)
            | fail)
        all_goals
          clear WR1 WR2 WR3
          go_wp2_with fail
          go_roundw
          case rel => exact ⟨k + 1, by omega, by go_num, by rw [PE.out], by rw [SS.out], S2.out.bel⟩
          case measure => simp [intOf]; omega
      · obtain rfl : k = K + 1 := by omega
        go_wp2_with fail
        go_ret
        exact ⟨by rw [DC.out]; rfl, B⟩

end Go.Proofs.Ytllonfaogbdbnaa
