/-
  The contracts of both Area: the sum of the areas of the faces.
-/
import Derived.Test.YtjflgiegnibgmaaMe1
namespace Go.Proofs.Ytjflgiegnibgmaa
open Go.ChangeShapes Go.WideShapes Go.RowKit
open Sh
def scell (l h : Int) : Nat → Value
  | 0 => .int .i64 l
  | _ => .int .i64 h
def scs (l h : Nat → Int) (k : Nat) : List Value := (List.range (k * 2)).map fun m => scell (l (m / 2)) (h (m / 2)) (m % 2)
theorem scs_succ (l h : Nat → Int) (k : Nat) : scs l h (k + 1) = scs l h k ++ [.int .i64 (l k), .int .i64 (h k)] := by
  unfold scs
  have d (j : Nat) (q : j < 2) : (k * 2 + j) / 2 = k ∧ (k * 2 + j) % 2 = j := ⟨by omega, by omega⟩
  rw [show (k + 1) * 2 = k * 2 + 1 + 1 by omega]
  simp only [List.range_succ, List.map_append, List.map_cons, List.map_nil, List.append_assoc, List.cons_append, List.nil_append]
  have e0 := d 0 (by omega)
  have e1 := d 1 (by omega)
  simp only [Nat.add_zero] at e0
  rw [e0.1, e0.2, e1.1, e1.2]
  rfl
theorem scs_at (l h : Nat → Int) (n k j : Nat) (hk : k < n) (hj : j < 2) : (scs l h n)[k * 2 + j]? = some (scell (l k) (h k) j) := by
  unfold scs
  rw [List.getElem?_map, List.getElem?_range (by omega)]
  have d1 : (k * 2 + j) / 2 = k := by omega
  have d2 : (k * 2 + j) % 2 = j := by omega
  simp [d1, d2]
theorem row_of {w : World} {base n : Nat} {v : Value} {l h : Nat → Int} (o : w.ownsRow base 36 2 v n (scs l h n)) (h0 : 0 < n) : ∃ g cap, v = .slice (some ⟨g, 0, none⟩) n cap ∧ base ≤ g ∧ Row w g 0 n l h := by
  rcases o.2 with ⟨_, h'⟩ | ⟨g, cap, cur, rfl, hb, hg, _⟩
  · omega
  · refine ⟨g, cap, rfl, hb, (Array.getElem?_eq_some_iff.1 hg).1, fun k hk => ?_⟩
    rw [Nat.zero_add]
    have q (j : Nat) (hj : j < 2) : w.cell? ⟨g, k * 2 + j, none⟩ = some (scell (l k) (h k) j) := by rw [o.cellAt (k * 2 + j) (by omega)]; exact scs_at l h n k j hk hj
    exact ⟨q 0 (by omega), q 1 (by omega)⟩
theorem infoS : (Try.prog.info? 36).map (fun i => (i.zero, i.size, i.bytes)) = some (some (.agg #[.int .i64 0, .int .i64 0]), 2, 16) := by kernel_rfl
theorem cells2 (w : World) (c0 c1 : Int) (t : TypeId) : ∀ j u, [Value.int .i64 c0, .int .i64 c1][j]? = some u → (w.alloc (.cells #[.int .i64 c0, .int .i64 c1] t)).cell? ((⟨w.heap.size, 0, none⟩ : Addr).add j) = some u := by
  intro j u h
  match j, h with
  | 0, h | 1, h => (simp at h; subst h; simp only [Addr.add]; go_simp)
  | j + 2, h => simp at h
theorem one2 (c0 c1 : Int) : ∀ u ∈ [Value.int .i64 c0, .int .i64 c1], u.oneCell' = true := by
  intro u h
  simp only [List.mem_cons, List.not_mem_nil, or_false] at h
  rcases h with h | h <;> (subst h; rfl)
theorem pair_in {w w1 : World} {B b : Nat} {x y : Int} (h : Pair w b x y) (hb : Below B w w1) (l : b < B) : Pair w1 b x y := by
  obtain ⟨h1, h2, h3, h4, h5⟩ := h
  exact ⟨(hb.cell (p := ⟨b, 0, none⟩) l).trans h1, (hb.cell (p := ⟨b, 1, none⟩) l).trans h2, (hb.frozen (p := ⟨b, 0, none⟩) l).trans h3, (hb.frozen (p := ⟨b, 1, none⟩) l).trans h4, Nat.lt_of_lt_of_le h5 hb.size⟩
def lo (P F : Nat → P3) (k : Nat) : Int := al (Tr P F k)
def hi (P F : Nat → P3) (k : Nat) : Int := ah (Tr P F k)
/-- the span of the areas' sum -/
def arS (P F : Nat → P3) (n : Nat) : Sp.R := sumR (sm (lo P F) n) (sm (hi P F) n) 0
theorem ar_vld {P F : Nat → P3} {n : Nat} (tb : TrB P F n) (k : Nat) (hk : k < n) : Sp.vldB (lo P F k) (hi P F k) = true := by
  obtain ⟨h1, h2, h3⟩ := tb k hk
  exact (arR_ok (nn_bd h1 h2 h3).1).2
/-- what the loops have: the list of spans, the result's zeros -/
def SAR (w wr : World) (B : Nat) (P F : Nat → P3) (k : Nat) (v : Value) : Prop :=
  wr.ownsRow B 36 2 v k (scs (lo P F) (hi P F) k) ∧ Pair wr (w.heap.size + 1) 0 0 ∧ Below w.heap.size w wr ∧ B ≤ wr.heap.size ∧ w.heap.size + 1 < B
theorem sar_below {w wr w1 : World} {B : Nat} {P F : Nat → P3} {k : Nat} {v : Value} (h : SAR w wr B P F k v) (hb : Below wr.heap.size wr w1) : SAR w w1 B P F k v := by
  obtain ⟨h1, h2, h3, h4, h5⟩ := h
  exact ⟨ownsRow_below h1 hb, pair_below h2 hb, bstep h3 hb, Nat.le_trans h4 hb.size, h5⟩
theorem sar_alloc {w wr : World} {B : Nat} {P F : Nat → P3} {k : Nat} {v : Value} (h : SAR w wr B P F k v) (o : Obj) : SAR w (wr.alloc o) B P F k v := sar_below h ((Below.refl _ _).alloc (Nat.le_refl _) _)
/-- an append of one span: what it comes to -/
theorem sar_push {w wr w' : World} {B : Nat} {P F : Nat → P3} {k : Nat} {v v' : Value} (h : SAR w wr B P F k v) (ho : w'.ownsRow B 36 2 v' (k + 1) (scs (lo P F) (hi P F) k ++ [.int .i64 (al (Tr P F k)), .int .i64 (ah (Tr P F k))])) (hg : wr.grownBy w' v.ownBlock) : SAR w w' B P F (k + 1) v' ∧ Below B wr w' := by
  obtain ⟨h1, h2, h3, h4, h5⟩ := h
  have G := (Below.refl B wr).grown hg h4 (fun q e => ownsRow_block h1 q e)
  refine ⟨⟨?_, pair_in h2 G (by omega), h3.trans (G.mono (by omega)), Nat.le_trans h4 G.size, h5⟩, G⟩
  rw [scs_succ]
  exact ho
theorem sar_ne {w wr : World} {B : Nat} {P F : Nat → P3} {k : Nat} {v : Value} {u : Nat} (h : SAR w wr B P F k v) (l : wr.heap.size ≤ u) : v.ownBlock ≠ some u := fun e => absurd (Nat.lt_of_lt_of_le (h.1.lt _ e).2 l) (Nat.lt_irrefl _)
/-- a span stored in a block of the round's own -/
theorem spair_put {w wr : World} {B : Nat} {P F : Nat → P3} {k : Nat} {v : Value} {q : Nat} {a : Option Addr} {n c : Nat} {a' : Option Addr} {n' c' : Nat} {u : Nat} (h : SAR w wr B P F k v) (m : Mes wr q a n c a' n' c') (x y : Int) (hB : B ≤ u) (hv : v.ownBlock ≠ some u) (hq : q < B) :
    SAR w ((wr.setCell ⟨u, 0, none⟩ (.int .i64 x)).setCell ⟨u, 1, none⟩ (.int .i64 y)) B P F k v ∧ Mes ((wr.setCell ⟨u, 0, none⟩ (.int .i64 x)).setCell ⟨u, 1, none⟩ (.int .i64 y)) q a n c a' n' c' := by
  obtain ⟨h1, h2, h3, h4, h5⟩ := h
  have G : Below B wr ((wr.setCell ⟨u, 0, none⟩ (.int .i64 x)).setCell ⟨u, 1, none⟩ (.int .i64 y)) := ((Below.refl B wr).setCell hB _).setCell hB _
  refine ⟨⟨⟨h1.1, ?_⟩, pair_in h2 G (by omega), h3.trans (G.mono (by omega)), Nat.le_trans h4 G.size, h5⟩, mes_in m G hq⟩
  rcases h1.2 with h' | ⟨g, cap, cur, e1, e2, e3, e4⟩
  · exact .inl h'
  · subst e1
    refine .inr ⟨g, cap, cur, rfl, e2, ?_, e4⟩
    have ne : g ≠ u := fun e => hv (by rw [e]; rfl)
    rw [Below.heap_setCell _ _ _ _ ne, Below.heap_setCell _ _ _ _ ne]
    exact e3
theorem sar_no (a : Option Addr) (np c : Nat) (a' : Option Addr) (nf c' : Nat) (code : Int) (w : World) (V : Hid (∀ W, Below w.heap.size w W → Calls Try.prog 22 #[msv a np c a' nf c'] W fun e w' => e = .returned (.int .i64 code) ∧ Below W.heap.size W w')) (z : code ≠ 0) : Calls Try.prog 12 #[msv a np c a' nf c'] w fun e w' => e = .returned (spr ((0, 0), code)) ∧ Below w.heap.size w w' := by
  have z1 : (code != 0) = true := bne_iff_ne.2 z
  clear z
  go_enter Try.func12, Try.ntmps12
  go_wp2_with fail
  refine (V.out _ (by (repeat' (first | exact Below.refl _ _ | refine Below.setCell ?_ (by simp <;> omega) _ | refine balloc ?_ _ | refine Below.drew ?_ | refine bdrewN ?_ _)))).mono ?_
  rintro e w1 ⟨rfl, hb1⟩
  have Q1 := Lib.hid (by have z := pair_below (pair_new (w.alloc (msc a np c a' nf c' 25)) 0 0 36) hb1; simp only [World.size_alloc] at z; exact z : Pair w1 (w.heap.size + 1) 0 0)
  have B1 := Lib.hid (bstep (balloc (balloc (Below.refl _ w) _) _) hb1)
  clear hb1
  obtain ⟨g1, g2, g3, g4, g5⟩ := Q1.out
  go_wp2
  refine bodyPost_ret (v := spr ((0, 0), code)) (by rw [results_cell_tmp rfl]; go_simp) rfl ⟨rfl, ?_⟩
  exact (B1.out.setCell (by show w.heap.size ≤ w.heap.size + 1; omega) _).setCell (by show w.heap.size ≤ w.heap.size + 1; omega) _
theorem rar_no (a : Option Addr) (np c : Nat) (a' : Option Addr) (nf c' : Nat) (code : Int) (w : World) (V : Hid (∀ W, Below w.heap.size w W → Calls Try.prog 24 #[msv a np c a' nf c'] W fun e w' => e = .returned (.int .i64 code) ∧ Below W.heap.size W w')) (z : code ≠ 0) : Calls Try.prog 13 #[msv a np c a' nf c'] w fun e w' => e = .returned (spr ((0, 0), code)) ∧ Below w.heap.size w w' := by
  have z1 : (code != 0) = true := bne_iff_ne.2 z
  clear z
  go_enter Try.func13, Try.ntmps13
  go_wp2_with fail
  refine (V.out _ (by (repeat' (first | exact Below.refl _ _ | refine Below.setCell ?_ (by simp <;> omega) _ | refine balloc ?_ _ | refine Below.drew ?_ | refine bdrewN ?_ _)))).mono ?_
  rintro e w1 ⟨rfl, hb1⟩
  have Q1 := Lib.hid (by have z := pair_below (pair_new (w.alloc (msc a np c a' nf c' 25)) 0 0 36) hb1; simp only [World.size_alloc] at z; exact z : Pair w1 (w.heap.size + 1) 0 0)
  have B1 := Lib.hid (bstep (balloc (balloc (Below.refl _ w) _) _) hb1)
  clear hb1
  obtain ⟨g1, g2, g3, g4, g5⟩ := Q1.out
  go_wp2
  refine bodyPost_ret (v := spr ((0, 0), code)) (by rw [results_cell_tmp rfl]; go_simp) rfl ⟨rfl, ?_⟩
  exact (B1.out.setCell (by show w.heap.size ≤ w.heap.size + 1; omega) _).setCell (by show w.heap.size ≤ w.heap.size + 1; omega) _
set_option maxRecDepth 100000 in
set_option maxHeartbeats 4000000 in
theorem sar_ok (a : Option Addr) (np c : Nat) (a' : Option Addr) (nf c' : Nat) (P F : Nat → P3) (w : World) (V : Hid (∀ W, Below w.heap.size w W → Calls Try.prog 22 #[msv a np c a' nf c'] W fun e w' => e = .returned (.int .i64 0) ∧ Below W.heap.size W w')) (PC : Hid (∀ W, Below w.heap.size w W → Calls Try.prog 26 #[msv a np c a' nf c'] W (Paneled (Tr P F) nf W))) (h0 : 0 < nf) (hm : nf ≤ 96) (tb : TrB P F nf) :
    Calls Try.prog 12 #[msv a np c a' nf c'] w fun e w' => e = .returned (spr (arS P F nf)) ∧ Below w.heap.size w w' := by
  have TB := Lib.hid tb
  have VL := Lib.hid (fun k hk => ar_vld tb k hk)
  have hm' : (nf : Int) ≤ 96 := by omega
  obtain ⟨i0, hi', hz0, hz1, hz2⟩ := info_parts infoS
  clear tb
  go_enter Try.func12, Try.ntmps12
  go_wp2_with fail
  refine (V.out _ (by (repeat' (first | exact Below.refl _ _ | refine Below.setCell ?_ (by simp <;> omega) _ | refine balloc ?_ _ | refine Below.drew ?_ | refine bdrewN ?_ _)))).mono ?_
  rintro e w1 ⟨rfl, hb1⟩
  have Q1 := Lib.hid (by have z := pair_below (pair_new (w.alloc (msc a np c a' nf c' 25)) 0 0 36) hb1; simp only [World.size_alloc] at z; exact z : Pair w1 (w.heap.size + 1) 0 0)
  have B1 := Lib.hid (bstep (balloc (balloc (Below.refl _ w) _) _) hb1)
  obtain ⟨m1, m2, m3⟩ := mes_below (mes_alloc (mes_new w a np c a' nf c' 25) (.cells #[.int .i64 0, .int .i64 0] 36)) hb1
  clear hb1
  go_wp2_with fail
  refine (PC.out _ B1.out).mono ?_
  rintro e w2 ⟨g, cap, rfl, hg, r9, hb2⟩
  have LB : Hid (w.heap.size + 1 < w2.heap.size ∧ g < w2.heap.size) := Lib.hid ⟨Nat.lt_of_lt_of_le Q1.out.2.2.2.2 hb2.size, r9.1⟩
  obtain ⟨B, eB⟩ : ∃ B, w2.heap.size = B := ⟨_, rfl⟩
  have ST := Lib.hid (show SAR w w2 B P F 0 (.slice none 0 0) ∧ Row9 w2 g nf (Tr P F) from ⟨⟨World.ownsRow_nil _ _ _ _, pair_below Q1.out hb2, bstep B1.out hb2, by omega, by have := LB.out; omega⟩, r9⟩)
  rw [eB] at LB
  clear m1 m2 m3 hb2 r9 eB Q1 B1 hg
  go_wp2
  go_loopw [5, 19] (fun v kv wr => ∃ k : Nat, k ≤ nf ∧ kv = .int .i64 k ∧ SAR w wr B P F k v ∧ Row9 wr g nf (Tr P F)) (fun _ kv _ => nf - (intOf kv).toNat)
  case atStart => exact ⟨0, Nat.zero_le _, rfl, ST.out⟩
  case round =>
    clear ST
    obtain ⟨k, hk, rfl, st⟩ := hrel
    have ST := Lib.hid st
    clear st
    by_cases hlt : k < nf
    · obtain ⟨c1, c2, c3, c4, c5, c6, c7, c8, c9⟩ := ST.out.2.2 k hlt
      have r5 := ST.out.2.1
      have hk1 : (k : Int) < (nf : Int) := by omega
      have T := TB.out k hlt
      have AA := Lib.hid fun W => area_any (Tr P F k).1 (Tr P F k).2.1 (Tr P F k).2.2 W T.1 T.2.1 T.2.2
      have PU := Lib.hid (fun wr w' v v' h ho hg => sar_push (w := w) (wr := wr) (w' := w') (B := B) (P := P) (F := F) (k := k) (v := v) (v' := v') h ho hg)
      have SS := Lib.hid ST.out.1
      have RR := Lib.hid ST.out.2
      clear ST T
      have e1 : al ((Tr P F k).1, (Tr P F k).2.1, (Tr P F k).2.2) = al (Tr P F k) := rfl
      have e2 : ah ((Tr P F k).1, (Tr P F k).2.1, (Tr P F k).2.2) = ah (Tr P F k) := rfl
      rw [e1, e2] at AA
      clear e1 e2
      generalize al (Tr P F k) = x at *
      generalize ah (Tr P F k) = y at *
      generalize (Tr P F k).1 = p at *
      generalize (Tr P F k).2.1 = q at *
      generalize (Tr P F k).2.2 = s at *
      go_wp2_with fail
      refine (AA.out _).mono ?_
      rintro e w3 ⟨rfl, hb3⟩
      have hb3' := (((Below.refl wr.heap.size wr).alloc (Nat.le_refl _) (.cells #[.int .i64 p.1, .int .i64 p.2.1, .int .i64 p.2.2, .int .i64 q.1, .int .i64 q.2.1, .int .i64 q.2.2, .int .i64 s.1, .int .i64 s.2.1, .int .i64 s.2.2] 44)).trans (hb3.mono (by simp))).alloc (by have := hb3.size; simp at this; omega) (.cells #[.int .i64 x, .int .i64 y] 36)
      have S3 := Lib.hid (sar_below SS.out hb3')
      have R3 := Lib.hid (row9_below RR.out hb3')
      have S3a := Lib.hid (sar_alloc S3.out (.cells #[.int .i64 x, .int .i64 y] 36))
      have R3a := Lib.hid (row9_below R3.out ((Below.refl _ _).alloc (Nat.le_refl _) (.cells #[.int .i64 x, .int .i64 y] 36)))
      clear c1 c2 c3 c4 c5 c6 c7 c8 c9 r5 hb3 hb3'
      go_wp2_with (at_builtin; refine wpList_append_own _ rfl _ _ 60 rfl B 36 i0 _ 2 16 Try.underlying60 hi' hz0 hz1 hz2 rfl (by decide) _ _ _ rfl S3a.out.1 ⟨w3.heap.size + 1, 0, none⟩ 1 1 [.int .i64 x, .int .i64 y] rfl rfl (by have z := cells2 (w3.alloc (.cells #[.int .i64 x, .int .i64 y] 36)) x y 36; simp only [World.size_alloc] at z; exact z) (one2 _ _) (by unfold maxLen; omega) (by omega) S3a.out.2.2.2.1 ?_; intro v' w9 hown' hgrow hnil)
      have Z := PU.out _ _ _ _ S3a.out hown' hgrow
      go_roundw
      case rel => exact ⟨k + 1, by omega, by go_num, Z.1, row9_in R3a.out Z.2 LB.out.2⟩
      case measure => simp [intOf]; omega
    · obtain rfl : k = nf := by omega
      obtain ⟨gs, cap', hv, hgs, rs⟩ := row_of ST.out.1.1 h0
      subst hv
      have TC := Lib.hid (fun W (B : Below wr.heap.size wr W) => total_ok gs 0 k cap' (lo P F) (hi P F) W (row_below rs B) (by omega) (fun i hi => VL.out i hi) : TotC 71 (some ⟨gs, 0, none⟩) k cap' (sm (lo P F) k) (sm (hi P F) k) 0 wr)
      clear rs
      go_wp2_with fail
      refine (sum_any _ _ _ _ _ _ _ _ TC (Below.refl _ _)).mono ?_
      rintro e w3 ⟨rfl, hb3⟩
      obtain ⟨g1, g2, g3, g4, g5⟩ := pair_below ST.out.1.2.1 hb3
      have B3 := bstep ST.out.1.2.2.1 hb3
      clear hb3
      go_wp2
      refine bodyPost_ret (v := spr (arS P F k)) (by rw [results_cell_tmp rfl]; go_simp; exact ⟨⟨rfl, rfl⟩, rfl⟩) rfl ⟨rfl, ?_⟩
      exact (B3.setCell (by show w.heap.size ≤ w.heap.size + 1; omega) _).setCell (by show w.heap.size ≤ w.heap.size + 1; omega) _
set_option maxRecDepth 100000 in
set_option maxHeartbeats 4000000 in
theorem rar_ok (b off np c b' off' nf c' : Nat) (P F : Nat → P3) (w : World) (V : Hid (∀ W, Below w.heap.size w W → Calls Try.prog 24 #[msv (some ⟨b, off, none⟩) np c (some ⟨b', off', none⟩) nf c'] W fun e w' => e = .returned (.int .i64 0) ∧ Below W.heap.size W w')) (rp : Row3 w b off np P) (r : Row3 w b' off' nf F) (hn : np ≤ 1000000) (h0 : 0 < nf) (hm : nf ≤ 96) (nr : ∀ k, k < nf → Fok np (F k)) (tb : TrB P F nf) :
    Calls Try.prog 13 #[msv (some ⟨b, off, none⟩) np c (some ⟨b', off', none⟩) nf c'] w fun e w' => e = .returned (spr (arS P F nf)) ∧ Below w.heap.size w w' := by
  have NR := Lib.hid nr
  have TB := Lib.hid tb
  have RP := Lib.hid rp
  have RF := Lib.hid r
  have VL := Lib.hid (fun k hk => ar_vld tb k hk)
  have hm' : (nf : Int) ≤ 96 := by omega
  obtain ⟨i0, hi', hz0, hz1, hz2⟩ := info_parts infoS
  clear rp r nr tb
  go_enter Try.func13, Try.ntmps13
  go_wp2_with fail
  refine (V.out _ (by (repeat' (first | exact Below.refl _ _ | refine Below.setCell ?_ (by simp <;> omega) _ | refine balloc ?_ _ | refine Below.drew ?_ | refine bdrewN ?_ _)))).mono ?_
  rintro e w1 ⟨rfl, hb1⟩
  have Q1 := Lib.hid (by have z := pair_below (pair_new (w.alloc (msc (some ⟨b, off, none⟩) np c (some ⟨b', off', none⟩) nf c' 25)) 0 0 36) hb1; simp only [World.size_alloc] at z; exact z : Pair w1 (w.heap.size + 1) 0 0)
  have B1 := Lib.hid (bstep (balloc (balloc (Below.refl _ w) _) _) hb1)
  have M1 := Lib.hid (mes_below (mes_alloc (mes_new w (some ⟨b, off, none⟩) np c (some ⟨b', off', none⟩) nf c' 25) (.cells #[.int .i64 0, .int .i64 0] 36)) hb1)
  have LB : Hid (w.heap.size + 1 < w1.heap.size) := Lib.hid Q1.out.2.2.2.2
  obtain ⟨B, eB⟩ : ∃ B, w1.heap.size = B := ⟨_, rfl⟩
  have ST := Lib.hid (show SAR w w1 B P F 0 (.slice none 0 0) ∧ Mes w1 w.heap.size (some ⟨b, off, none⟩) np c (some ⟨b', off', none⟩) nf c' from ⟨⟨World.ownsRow_nil _ _ _ _, Q1.out, B1.out, by omega, by have := LB.out; omega⟩, M1.out⟩)
  rw [eB] at LB
  clear hb1 eB Q1 B1 M1
  go_wp2
  go_loopw [5, 6] (fun v kv wr => ∃ k : Nat, k ≤ nf ∧ kv = .int .i64 k ∧ SAR w wr B P F k v ∧ Mes wr w.heap.size (some ⟨b, off, none⟩) np c (some ⟨b', off', none⟩) nf c') (fun _ kv _ => nf - (intOf kv).toNat)
  case atStart => exact ⟨0, Nat.zero_le _, rfl, ST.out⟩
  case round =>
    clear ST
    obtain ⟨k, hk, rfl, st⟩ := hrel
    have ST := Lib.hid st
    clear st
    obtain ⟨m1, m2, m3⟩ := ST.out.2
    by_cases hlt : k < nf
    · have hk1 : (k : Int) < (nf : Int) := by omega
      obtain ⟨xn, yn, zn, hp, hx, hy, hz⟩ := fok_nat (NR.out k hlt)
      have CN := Lib.hid (fun W (B : Below w.heap.size w W) => corners_nat b off np c b' off' nf c' k xn yn zn P F W (row3_below RP.out B) (row3_below RF.out B) hlt hx hy hz hn (by omega) hp)
      have T := TB.out k hlt
      have PU := Lib.hid (fun wr w' v v' h ho hg => sar_push (w := w) (wr := wr) (w' := w') (B := B) (P := P) (F := F) (k := k) (v := v) (v' := v') h ho hg)
      have SS := Lib.hid ST.out.1
      have MM := Lib.hid ST.out.2
      have hT : Tr P F k = (P xn, P yn, P zn) := by unfold Tr; rw [hp]; rfl
      rw [hT] at T PU
      clear ST hT hp
      generalize P xn = p at *
      generalize P yn = q at *
      generalize P zn = s at *
      obtain ⟨n1, n2, n3⟩ := nn_bd T.1 T.2.1 T.2.2
      have AC := Lib.hid fun W => across_any p q s W (T.1.mono (by decide)) (T.2.1.mono (by decide)) (T.2.2.mono (by decide))
      have DT := Lib.hid fun W => rdot_any (nrm p q s) (nrm p q s) W n3
      rw [n2] at DT
      have LE := fun W => rlen_yes (nn (p, q, s)) W (Nat.le_trans n1 (by decide))
      rw [told_len2 n1] at LE
      have LE := Lib.hid LE
      have PA := fun W => rpart_any ((Rt.isq (nn (p, q, s) * 1099511627776) : Nat) : Int) ((Rt.csq (nn (p, q, s) * 1099511627776) : Nat) : Int) 2 W
      rw [part_len n1, (arR_ok n1).1] at PA
      have PA := Lib.hid PA
      have e1 : al (p, q, s) = Sp.fl ((Rt.isq (nn (p, q, s) * 1099511627776) : Nat) : Int) 2 := rfl
      have e2 : ah (p, q, s) = Sp.ce ((Rt.csq (nn (p, q, s) * 1099511627776) : Nat) : Int) 2 := rfl
      rw [← e1, ← e2] at PA
      clear T n1 n2 n3 e1 e2
      generalize al (p, q, s) = x at *
      generalize ah (p, q, s) = y at *
      generalize ((Rt.isq (nn (p, q, s) * 1099511627776) : Nat) : Int) = i at *
      generalize ((Rt.csq (nn (p, q, s) * 1099511627776) : Nat) : Int) = j at *
      generalize nrm p q s = n at *
      go_wp2_with fail
      refine (CN.out _ SS.out.2.2.1).mono ?_
      rintro e w2 ⟨rfl, hb2⟩
      have S2 := Lib.hid (sar_below SS.out hb2)
      have M2 := Lib.hid (mes_below MM.out hb2)
      clear hb2 m1 m2 m3
      go_wp2_with fail
      refine (AC.out _).mono ?_
      rintro e w3 ⟨rfl, hb3⟩
      have S3 := Lib.hid (sar_alloc (sar_below S2.out hb3) (ptc n 32))
      have M3 := Lib.hid (mes_alloc (mes_below M2.out hb3) (ptc n 32))
      have ON := Lib.hid (own_new w3 n 32)
      clear hb3
      obtain ⟨x1, x2, x3, x4, x5, x6, x7⟩ := ON.out
      go_wp2_with fail
      refine (DT.out _).mono ?_
      rintro e w4 ⟨rfl, hb4⟩
      clear x1 x2 x3 x4 x5 x6 x7 ON
      have S4 := Lib.hid (sar_below S3.out hb4)
      have M4 := Lib.hid (mes_below M3.out hb4)
      clear hb4
      go_wp2_with fail
      refine (LE.out _).mono ?_
      rintro e w5 ⟨rfl, hb5⟩
      have S5 := Lib.hid (sar_alloc (sar_below S4.out hb5) (.cells #[.int .i64 i, .int .i64 j] 36))
      have M5 := Lib.hid (mes_alloc (mes_below M4.out hb5) (.cells #[.int .i64 i, .int .i64 j] 36))
      have O5 := Lib.hid (pair_new w5 i j 36)
      have Z5 := Lib.hid (Nat.le_trans S4.out.2.2.2.1 hb5.size)
      have NB := Lib.hid (sar_ne S4.out hb5.size)
      clear hb5
      go_wp2_with fail
      refine (PA.out _).mono ?_
      rintro e w6 ⟨rfl, hb6⟩
      have S6 := Lib.hid (sar_below S5.out hb6)
      have M6 := Lib.hid (mes_below M5.out hb6)
      have O6 := Lib.hid (pair_below O5.out hb6)
      clear hb6
      obtain ⟨p1, p2, p3, p4, p5⟩ := O6.out
      obtain ⟨S7, M7⟩ := spair_put S6.out M6.out (u := w5.heap.size) x y Z5.out NB.out (by have := LB.out; omega)
      have S7 := Lib.hid S7
      have M7 := Lib.hid M7
      have S7a := Lib.hid (sar_alloc S7.out (.cells #[.int .i64 x, .int .i64 y] 36))
      have M7a := Lib.hid (mes_alloc M7.out (.cells #[.int .i64 x, .int .i64 y] 36))
      go_wp2_with (at_builtin; refine wpList_append_own _ rfl _ _ 60 rfl B 36 i0 _ 2 16 Try.underlying60 hi' hz0 hz1 hz2 rfl (by decide) _ _ _ rfl S7a.out.1 ⟨w6.heap.size, 0, none⟩ 1 1 [.int .i64 x, .int .i64 y] rfl rfl (by have z := cells2 ((w6.setCell ⟨w5.heap.size, 0, none⟩ (.int .i64 x)).setCell ⟨w5.heap.size, 1, none⟩ (.int .i64 y)) x y 36; simp only [World.size_setCell] at z; exact z) (one2 _ _) (by unfold maxLen; omega) (by omega) S7a.out.2.2.2.1 ?_; intro v' w9 hown' hgrow hnil)
      have Z := PU.out _ _ _ _ S7a.out hown' hgrow
      go_roundw
      case rel => exact ⟨k + 1, by omega, by go_num, Z.1, mes_in M7a.out Z.2 (by have := LB.out; omega)⟩
      case measure => simp [intOf]; omega
    · obtain rfl : k = nf := by omega
      obtain ⟨gs, cap', hv, hgs, rs⟩ := row_of ST.out.1.1 h0
      subst hv
      have TC := Lib.hid (fun W (B : Below wr.heap.size wr W) => rtotal_ok gs 0 k cap' (lo P F) (hi P F) W (row_below rs B) (by omega) (fun i hi => VL.out i hi) : TotC 79 (some ⟨gs, 0, none⟩) k cap' (sm (lo P F) k) (sm (hi P F) k) 0 wr)
      clear rs
      go_wp2_with fail
      refine (rsum_any _ _ _ _ _ _ _ _ TC (Below.refl _ _)).mono ?_
      rintro e w3 ⟨rfl, hb3⟩
      obtain ⟨g1, g2, g3, g4, g5⟩ := pair_below ST.out.1.2.1 hb3
      have B3 := bstep ST.out.1.2.2.1 hb3
      clear hb3
      go_wp2
      refine bodyPost_ret (v := spr (arS P F k)) (by rw [results_cell_tmp rfl]; go_simp; exact ⟨⟨rfl, rfl⟩, rfl⟩) rfl ⟨rfl, ?_⟩
      exact (B3.setCell (by show w.heap.size ≤ w.heap.size + 1; omega) _).setCell (by show w.heap.size ≤ w.heap.size + 1; omega) _

end Go.Proofs.Ytjflgiegnibgmaa
