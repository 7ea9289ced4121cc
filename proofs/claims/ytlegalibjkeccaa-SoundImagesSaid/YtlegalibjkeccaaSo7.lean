/-
  The contract of spans: what the parts of a panel give, in order.
-/
import Derived.Test.YtlegalibjkeccaaSo6s
import Derived.Test.YtlegalibjkeccaaFiCo
import Derived.Deep.DeepCutAuto
namespace Go.Proofs.Ytlegalibjkeccaa
open Go.ChangeShapes Go.WideShapes Go.RowKit
open Sh
/-- n panels in memory, one behind the other -/
def RowP (w : World) (b off n : Nat) (L : Nat → P9) : Prop := b < w.heap.size ∧ ∀ k, k < n → w.cell? ⟨b, off + k * 9, none⟩ = some (.int .i64 (L k).1.1) ∧ w.cell? ⟨b, off + k * 9 + 1, none⟩ = some (.int .i64 (L k).1.2.1) ∧ w.cell? ⟨b, off + k * 9 + 1 + 1, none⟩ = some (.int .i64 (L k).1.2.2) ∧ w.cell? ⟨b, off + k * 9 + 1 + 1 + 1, none⟩ = some (.int .i64 (L k).2.1.1) ∧ w.cell? ⟨b, off + k * 9 + 1 + 1 + 1 + 1, none⟩ = some (.int .i64 (L k).2.1.2.1) ∧ w.cell? ⟨b, off + k * 9 + 1 + 1 + 1 + 1 + 1, none⟩ = some (.int .i64 (L k).2.1.2.2) ∧ w.cell? ⟨b, off + k * 9 + 1 + 1 + 1 + 1 + 1 + 1, none⟩ = some (.int .i64 (L k).2.2.1) ∧ w.cell? ⟨b, off + k * 9 + 1 + 1 + 1 + 1 + 1 + 1 + 1, none⟩ = some (.int .i64 (L k).2.2.2.1) ∧ w.cell? ⟨b, off + k * 9 + 1 + 1 + 1 + 1 + 1 + 1 + 1 + 1, none⟩ = some (.int .i64 (L k).2.2.2.2)
theorem rowP_in {w wr : World} {B b off n : Nat} {L : Nat → P9} (r : RowP w b off n L) (hb : Below B w wr) (h : b < B) : RowP wr b off n L := by
  refine ⟨Nat.lt_of_lt_of_le r.1 hb.size, fun k hk => ?_⟩
  obtain ⟨h0, h1, h2, h3, h4, h5, h6, h7, h8⟩ := r.2 k hk
  exact ⟨(hb.cell (p := ⟨b, off + k * 9, none⟩) h).trans h0, (hb.cell (p := ⟨b, off + k * 9 + 1, none⟩) h).trans h1, (hb.cell (p := ⟨b, off + k * 9 + 1 + 1, none⟩) h).trans h2, (hb.cell (p := ⟨b, off + k * 9 + 1 + 1 + 1, none⟩) h).trans h3, (hb.cell (p := ⟨b, off + k * 9 + 1 + 1 + 1 + 1, none⟩) h).trans h4, (hb.cell (p := ⟨b, off + k * 9 + 1 + 1 + 1 + 1 + 1, none⟩) h).trans h5, (hb.cell (p := ⟨b, off + k * 9 + 1 + 1 + 1 + 1 + 1 + 1, none⟩) h).trans h6, (hb.cell (p := ⟨b, off + k * 9 + 1 + 1 + 1 + 1 + 1 + 1 + 1, none⟩) h).trans h7, (hb.cell (p := ⟨b, off + k * 9 + 1 + 1 + 1 + 1 + 1 + 1 + 1 + 1, none⟩) h).trans h8⟩
/-- the cells of spans -/
def svs (l : List (Int × Int)) : List Value := l.flatMap fun r => [.int .i64 r.1, .int .i64 r.2]
theorem svs_snoc (l : List (Int × Int)) (r : Int × Int) : svs l ++ [.int .i64 r.1, .int .i64 r.2] = svs (l ++ [r]) := by simp [svs]
theorem infoSp8 : (Try.prog.info? 52).map (fun i => (i.zero, i.size, i.bytes)) = some (some (.agg #[.int .i64 0, .int .i64 0]), 2, 16) := by kernel_rfl
theorem sp2_new (w : World) (x y : Int) (t : TypeId) : ∀ j u, ([.int .i64 x, .int .i64 y] : List Value)[j]? = some u → (w.alloc (.cells #[.int .i64 x, .int .i64 y] t)).cell? ((⟨w.heap.size, 0, none⟩ : Addr).add j) = some u := by
  intro j u hu
  match j, hu with
  | 0, hu =>
    have : u = .int .i64 x := by simp at hu; exact hu.symm
    subst this
    show (w.alloc (.cells #[.int .i64 x, .int .i64 y] t)).cell? ⟨w.heap.size, 0, none⟩ = _
    go_simp
  | 1, hu =>
    have : u = .int .i64 y := by simp at hu; exact hu.symm
    subst this
    show (w.alloc (.cells #[.int .i64 x, .int .i64 y] t)).cell? ⟨w.heap.size, 1, none⟩ = _
    go_simp
theorem own_below9 {w w1 : World} {base : Nat} {e : TypeId} {n : Nat} {v : Value} {k : Nat} {xs : List Value} (h : w.ownsRow base e n v k xs) (hb : Below w.heap.size w w1) : w1.ownsRow base e n v k xs := by
  refine ⟨h.1, ?_⟩
  rcases h.2 with hn | ⟨g, cap, cur, rfl, hg, hgg, rest⟩
  · exact .inl hn
  · exact .inr ⟨g, cap, cur, rfl, hg, by rw [hb.block g (Array.getElem?_eq_some_iff.1 hgg).1]; exact hgg, rest⟩
/-- the spans of the first k parts -/
def gis (g : P9 → Sp.R) (L : Nat → P9) : Nat → List (Int × Int)
  | 0 => []
  | k + 1 => gis g L k ++ [(g (L k)).1]
theorem gis_len (g : P9 → Sp.R) (L : Nat → P9) : ∀ k, (gis g L k).length = k
  | 0 => rfl
  | k + 1 => by show (gis g L k ++ [_]).length = _; rw [List.length_append, gis_len g L k]; rfl
/-- the first error of the first k parts -/
def gie (g : P9 → Sp.R) (L : Nat → P9) : Nat → Int
  | 0 => 0
  | k + 1 => if gie g L k = 0 then (g (L k)).2 else gie g L k
theorem gie_stop {g : P9 → Sp.R} {L : Nat → P9} {k : Nat} (h : gie g L k ≠ 0) : ∀ {n : Nat}, k ≤ n → gie g L n = gie g L k
  | 0, hn => by
    have : k = 0 := by omega
    subst this; rfl
  | n + 1, hn => by
    by_cases e : k = n + 1
    · subst e; rfl
    · have z := gie_stop h (n := n) (by omega)
      show (if gie g L n = 0 then _ else _) = _
      rw [z, if_neg h]
theorem gie_hit {g : P9 → Sp.R} {L : Nat → P9} {k n : Nat} (hk : k < n) (e : gie g L k = 0) (h : (g (L k)).2 ≠ 0) : gie g L n = (g (L k)).2 := by
  have q : gie g L (k + 1) = (g (L k)).2 := by
    show (if gie g L k = 0 then _ else _) = _
    rw [if_pos e]
  rw [gie_stop (k := k + 1) (by rw [q]; exact h) (by omega), q]
theorem gie_next {g : P9 → Sp.R} {L : Nat → P9} {k : Nat} (e : gie g L k = 0) (h : (g (L k)).2 = 0) : gie g L (k + 1) = 0 := by
  show (if gie g L k = 0 then _ else _) = _
  rw [if_pos e, h]
theorem pair_put8 {w : World} {b : Nat} {x y : Int} (h : Pair w b x y) (u v : Int) : Pair ((w.setCell ⟨b, 0, none⟩ (.int .i64 u)).setCell ⟨b, 1, none⟩ (.int .i64 v)) b u v := by
  obtain ⟨h1, h2, h3, h4, h5⟩ := h
  exact ⟨by go_simp, by go_simp, by go_simp, by go_simp, by simpa using h5⟩
theorem spn_keep {W : World} {b0 b off k n : Nat} {c : P3} {i o kk : Int} {L : Nat → P9} {t : P9} (h : OwnSh W b0 c i o kk) (r : RowP W b off n L) (hk : k < n) (e : L k = t) : W.cell? ⟨b0, 0, none⟩ = some (.int .i64 c.1) ∧ W.cell? ⟨b0, 1, none⟩ = some (.int .i64 c.2.1) ∧ W.cell? ⟨b0, 2, none⟩ = some (.int .i64 c.2.2) ∧ W.cell? ⟨b0, 3, none⟩ = some (.int .i64 i) ∧ W.cell? ⟨b0, 4, none⟩ = some (.int .i64 o) ∧ W.cell? ⟨b0, 5, none⟩ = some (.int .i64 kk) ∧ W.cell? ⟨b, off + k * 9, none⟩ = some (.int .i64 t.1.1) ∧ W.cell? ⟨b, off + k * 9 + 1, none⟩ = some (.int .i64 t.1.2.1) ∧ W.cell? ⟨b, off + k * 9 + 1 + 1, none⟩ = some (.int .i64 t.1.2.2) ∧ W.cell? ⟨b, off + k * 9 + 1 + 1 + 1, none⟩ = some (.int .i64 t.2.1.1) ∧ W.cell? ⟨b, off + k * 9 + 1 + 1 + 1 + 1, none⟩ = some (.int .i64 t.2.1.2.1) ∧ W.cell? ⟨b, off + k * 9 + 1 + 1 + 1 + 1 + 1, none⟩ = some (.int .i64 t.2.1.2.2) ∧ W.cell? ⟨b, off + k * 9 + 1 + 1 + 1 + 1 + 1 + 1, none⟩ = some (.int .i64 t.2.2.1) ∧ W.cell? ⟨b, off + k * 9 + 1 + 1 + 1 + 1 + 1 + 1 + 1, none⟩ = some (.int .i64 t.2.2.2.1) ∧ W.cell? ⟨b, off + k * 9 + 1 + 1 + 1 + 1 + 1 + 1 + 1 + 1, none⟩ = some (.int .i64 t.2.2.2.2) := by
  subst e
  obtain ⟨⟨h0, h1, h2, h3, h4, h5⟩, _⟩ := h
  obtain ⟨k0, k1, k2, k3, k4, k5, k6, k7, k8⟩ := r.2 k hk
  exact ⟨h0, h1, h2, h3, h4, h5, k0, k1, k2, k3, k4, k5, k6, k7, k8⟩
set_option maxRecDepth 100000 in
set_option maxHeartbeats 4000000 in
theorem spans_row (c : P3) (i o kk : Int) (b off n cap : Nat) (L : Nat → P9) (g : P9 → Sp.R) (w : World) (r : RowP w b off n L) (hn : n ≤ 64)
    (G : Hid (∀ k, k < n → ∀ W, Calls Try.prog 73 #[shv c i o kk, p9w (L k)] W fun e w' => e = .returned (spr (g (L k))) ∧ Below W.heap.size W w')) :
    Calls Try.prog 61 #[shv c i o kk, .slice (some ⟨b, off, none⟩) n cap] w fun e w' => ∃ v, e = .returned (.tuple #[v, .int .i64 (gie g L n)]) ∧ (gie g L n = 0 → w'.ownsRow w.heap.size 52 2 v n (svs (gis g L n))) ∧ Below w.heap.size w w' := by
  obtain ⟨i0, hi, hz0, hz1, hz2⟩ := info_parts infoSp8
  have hb1 : b < w.heap.size := r.1
  have R := Lib.hid r
  have hn' : (n : Int) ≤ 64 := by omega
  have HI := Lib.hid hi
  have HZ0 := Lib.hid hz0
  have HZ1 := Lib.hid hz1
  have HZ2 := Lib.hid hz2
  obtain ⟨res, hres⟩ : ∃ res, gie g L n = res := ⟨_, rfl⟩
  have RES := Lib.hid hres
  have SH0 := Lib.hid (ownSh_new w c i o kk 87)
  rw [hres]
  clear r hres hi hz0 hz1 hz2
  go_enter Try.func61, Try.ntmps61
  go_wp2
  go_loopw [6, 12] (fun sv kv wr => ∃ k : Nat, k ≤ n ∧ kv = .int .i64 k ∧ gie g L k = 0 ∧ wr.ownsRow (w.heap.size + 1) 52 2 sv k (svs (gis g L k)) ∧ OwnSh wr w.heap.size c i o kk ∧ Below w.heap.size w wr) (fun _ kv _ => n - (intOf kv).toNat)
  case atStart => exact ⟨0, Nat.zero_le _, rfl, rfl, World.ownsRow_nil _ _ _ _, SH0.out, balloc (Below.refl _ _) _⟩
  case round =>
    obtain ⟨k, hk, rfl, good, hrow, hsh, hbb⟩ := hrel
    have GOOD := Lib.hid good
    have ROW := Lib.hid hrow
    have SH := Lib.hid hsh
    have B0 := Lib.hid hbb
    clear good hrow hsh hbb SH0
    by_cases hlt : k < n
    · have hk1 : (k : Int) < (n : Int) := by omega
      have R2 := Lib.hid (rowP_in R.out B0.out hb1)
      have GK := Lib.hid (G.out k hlt)
      have HIT := Lib.hid (fun h : (g (L k)).2 ≠ 0 => gie_hit hlt GOOD.out h)
      have NEXT := Lib.hid (fun h : (g (L k)).2 = 0 => gie_next GOOD.out h)
      have GS := Lib.hid (show gis g L (k + 1) = gis g L k ++ [(g (L k)).1] from rfl)
      have hbl : b < wr.heap.size := R2.out.1
      obtain ⟨t, ht⟩ : ∃ t, L k = t := ⟨_, rfl⟩
      rw [ht] at GK HIT NEXT GS
      generalize g t = gr at *
      have szr := B0.out.size
      go_upto_region 5 with fail
      go_cut [8, 9] (fun t8 t9 wx => ∃ b8 : Nat, t8 = .pointer (some ⟨b8, 0, none⟩) ∧ t9 = .int .i64 gr.2 ∧ Pair wx b8 gr.1.1 gr.1.2 ∧ Below wr.heap.size wr wx)
      case first =>
        have j0 := ownSh_drew SH.out
        have j1 := rowP_in R2.out (Below.drew (Below.refl wr.heap.size wr)) hbl
        go_region_held3 (fun w' => w'.cell? ⟨w.heap.size, 0, none⟩ = some (.int .i64 c.1) ∧ w'.cell? ⟨w.heap.size, 1, none⟩ = some (.int .i64 c.2.1) ∧ w'.cell? ⟨w.heap.size, 2, none⟩ = some (.int .i64 c.2.2) ∧ w'.cell? ⟨w.heap.size, 3, none⟩ = some (.int .i64 i) ∧ w'.cell? ⟨w.heap.size, 4, none⟩ = some (.int .i64 o) ∧ w'.cell? ⟨w.heap.size, 5, none⟩ = some (.int .i64 kk) ∧ w'.cell? ⟨b, off + k * 9, none⟩ = some (.int .i64 t.1.1) ∧ w'.cell? ⟨b, off + k * 9 + 1, none⟩ = some (.int .i64 t.1.2.1) ∧ w'.cell? ⟨b, off + k * 9 + 1 + 1, none⟩ = some (.int .i64 t.1.2.2) ∧ w'.cell? ⟨b, off + k * 9 + 1 + 1 + 1, none⟩ = some (.int .i64 t.2.1.1) ∧ w'.cell? ⟨b, off + k * 9 + 1 + 1 + 1 + 1, none⟩ = some (.int .i64 t.2.1.2.1) ∧ w'.cell? ⟨b, off + k * 9 + 1 + 1 + 1 + 1 + 1, none⟩ = some (.int .i64 t.2.1.2.2) ∧ w'.cell? ⟨b, off + k * 9 + 1 + 1 + 1 + 1 + 1 + 1, none⟩ = some (.int .i64 t.2.2.1) ∧ w'.cell? ⟨b, off + k * 9 + 1 + 1 + 1 + 1 + 1 + 1 + 1, none⟩ = some (.int .i64 t.2.2.2.1) ∧ w'.cell? ⟨b, off + k * 9 + 1 + 1 + 1 + 1 + 1 + 1 + 1 + 1, none⟩ = some (.int .i64 t.2.2.2.2))
          (first | (refine spn_keep j0 j1 hlt ht) | (refine spn_keep q0 q1 hlt ht) | (refine spn_keep (ownSh_drew (ownSh_alloc SH.out _)) (rowP_in R2.out (Below.drew ((Below.refl _ _).alloc (Nat.le_refl _) _)) hbl) hlt ht) | (refine spn_keep (ownSh_in q0 ((((Below.refl v0.heap.size v0).alloc (Nat.le_refl _) _))) q0.2) (rowP_in q1 ((Below.refl v0.heap.size v0).alloc (Nat.le_refl _) _) q1.1) hlt ht) | (refine spn_keep (ownSh_in q0 (((Below.refl wr.heap.size v0).setCell (p := ⟨wr.heap.size, 0, none⟩) (Nat.le_refl _) _).setCell (p := ⟨wr.heap.size, 1, none⟩) (Nat.le_refl _) _) SH.out.2) (rowP_in q1 (((Below.refl wr.heap.size v0).setCell (p := ⟨wr.heap.size, 0, none⟩) (Nat.le_refl _) _).setCell (p := ⟨wr.heap.size, 1, none⟩) (Nat.le_refl _) _) hbl) hlt ht) | fail)
          (first | (go_at_call 73; (with_reducible refine (GK.out _).mono ?_); rintro e v0 ⟨rfl, hv0⟩; (first | (have q0 := ownSh_below j0 hv0; have q1 := rowP_in j1 hv0 hbl; have sz0 : wr.heap.size ≤ v0.heap.size := hv0.size) | (have q0 := ownSh_below (ownSh_drew (ownSh_alloc SH.out _)) hv0; have q1 := rowP_in R2.out ((Below.drew ((Below.refl _ _).alloc (Nat.le_refl _) _)).trans (hv0.mono (by simp))) hbl; have sz0 : wr.heap.size + 1 ≤ v0.heap.size := (by have := hv0.size; simp at this; omega); have pz := pair_below (pair_drew' (pair_new wr 0 0 52)) hv0; obtain ⟨za, zb, zc, zd, ze⟩ := id pz))) | fail)
        all_goals
          go_wp2
          go_meet
          first
            | exact ⟨_, rfl, rfl, pair_new _ _ _ _, by (repeat' (first | exact Below.refl _ _ | refine bstep ?_ hv0 | refine Below.setCell ?_ (by simp <;> omega) _ | refine balloc ?_ _ | refine Below.drew ?_))⟩
            | exact ⟨_, rfl, rfl, pair_put8 pz _ _, by (repeat' (first | exact Below.refl _ _ | refine bstep ?_ hv0 | refine Below.setCell ?_ (by simp <;> omega) _ | refine balloc ?_ _ | refine Below.drew ?_))⟩
      case rest =>
        obtain ⟨b8, rfl, rfl, hP, hB⟩ := hcut
        have SHc := Lib.hid (ownSh_below SH.out hB)
        have Bc := Lib.hid (B0.out.trans (hB.mono szr))
        have ROWc := Lib.hid (own_below9 ROW.out hB)
        obtain ⟨p0, p1, p2, p3, p4⟩ := hP
        have hszc : w.heap.size + 1 ≤ wc.heap.size := SHc.out.2
        clear hB SH B0 ROW R2 GK
        obtain ⟨⟨x, y⟩, z⟩ := gr
        dsimp only at *
        by_cases z0 : z = 0
        · subst z0
          have NX := Lib.hid (NEXT.out (by first | rfl | trivial))
          have hkk : k + 1 ≤ 64 := by omega
          clear HIT NEXT
          go_wp2_with (at_builtin; (refine wpList_append_own _ rfl _ _ 84 rfl (w.heap.size + 1) 52 i0 (.agg #[.int .i64 0, .int .i64 0]) 2 16 Try.underlying84 HI.out HZ0.out HZ1.out HZ2.out rfl (by decide) _ k (svs (gis g L k)) rfl (ROWc.out.alloc _) ⟨wc.heap.size, 0, none⟩ 1 1 [.int .i64 x, .int .i64 y] rfl rfl (sp2_new _ _ _ _) (by intro u hu; simp at hu; rcases hu with rfl | rfl <;> rfl) (by unfold maxLen; omega) (by omega) (by simp; omega) ?_); intro v' w1 hown' hgrow _; have OW := Lib.hid hown'; have GR := Lib.hid hgrow; clear hown' hgrow)
          have B1 : Below (w.heap.size + 1) wc w1 := ((Below.refl _ wc).alloc (by omega) _).grown GR.out (by simp; omega) (fun gg hg => (ROWc.out.lt gg hg).1)
          have BG := Lib.hid (Bc.out.trans (B1.mono (by omega)))
          have SH2 := Lib.hid (ownSh_in SHc.out B1 (by omega))
          clear B1
          go_roundw
          case rel => exact ⟨k + 1, by omega, by go_num, NX.out, by rw [GS.out, ← svs_snoc]; exact OW.out, SH2.out, BG.out⟩
          case measure => simp [intOf]; omega
        · have z1 : (z != 0) = true := bne_iff_ne.2 z0
          have hf : res = z := by rw [← RES.out]; exact HIT.out z0
          subst hf
          clear HIT NEXT
          go_wp2
          go_ret2
          exact ⟨_, rfl, fun h => absurd h z0, Bc.out⟩
    · obtain rfl : k = n := by omega
      have hf : res = 0 := by rw [← RES.out]; exact GOOD.out
      subst hf
      go_wp2
      go_ret2
      exact ⟨u6, rfl, by first | exact own_base9 (B := w.heap.size) ROW.out (by omega) | exact fun _ => own_base9 (B := w.heap.size) ROW.out (by omega), B0.out⟩

end Go.Proofs.Ytlegalibjkeccaa
