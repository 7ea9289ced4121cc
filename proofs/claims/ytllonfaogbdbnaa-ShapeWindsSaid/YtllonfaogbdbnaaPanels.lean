/-
  The contract of panels: the triangles of all faces, in memory of the call's own.
-/
import Derived.Test.YtllonfaogbdbnaaAllUsed
import Derived.OwnWalk
namespace Go.Proofs.Ytllonfaogbdbnaa
open Go.ChangeShapes Go.WideShapes Go.RowKit
open Sh
/-- the triangle of the face k -/
def Tr (P F : Nat → P3) (k : Nat) : P3 × P3 × P3 := (P (F k).1.toNat, P (F k).2.1.toNat, P (F k).2.2.toNat)
def pcell (t : P3 × P3 × P3) : Nat → Value
  | 0 => .int .i64 t.1.1
  | 1 => .int .i64 t.1.2.1
  | 2 => .int .i64 t.1.2.2
  | 3 => .int .i64 t.2.1.1
  | 4 => .int .i64 t.2.1.2.1
  | 5 => .int .i64 t.2.1.2.2
  | 6 => .int .i64 t.2.2.1
  | 7 => .int .i64 t.2.2.2.1
  | _ => .int .i64 t.2.2.2.2
def pcs (T : Nat → P3 × P3 × P3) (k : Nat) : List Value := (List.range (k * 9)).map fun m => pcell (T (m / 9)) (m % 9)
theorem pcs_succ (T : Nat → P3 × P3 × P3) (k : Nat) : pcs T (k + 1) = pcs T k ++ [.int .i64 (T k).1.1, .int .i64 (T k).1.2.1, .int .i64 (T k).1.2.2, .int .i64 (T k).2.1.1, .int .i64 (T k).2.1.2.1, .int .i64 (T k).2.1.2.2, .int .i64 (T k).2.2.1, .int .i64 (T k).2.2.2.1, .int .i64 (T k).2.2.2.2] := by
  unfold pcs
  have d (j : Nat) (h : j < 9) : (k * 9 + j) / 9 = k ∧ (k * 9 + j) % 9 = j := ⟨by omega, by omega⟩
  rw [show (k + 1) * 9 = k * 9 + 1 + 1 + 1 + 1 + 1 + 1 + 1 + 1 + 1 by omega]
  simp only [List.range_succ, List.map_append, List.map_cons, List.map_nil, List.append_assoc, List.cons_append, List.nil_append]
  have e0 := d 0 (by omega); have e1 := d 1 (by omega); have e2 := d 2 (by omega); have e3 := d 3 (by omega); have e4 := d 4 (by omega)
  have e5 := d 5 (by omega); have e6 := d 6 (by omega); have e7 := d 7 (by omega); have e8 := d 8 (by omega)
  simp only [Nat.add_zero] at e0
  rw [e0.1, e0.2, e1.1, e1.2, e2.1, e2.2, e3.1, e3.2, e4.1, e4.2, e5.1, e5.2, e6.1, e6.2, e7.1, e7.2, e8.1, e8.2]
  rfl
theorem pcs_at (T : Nat → P3 × P3 × P3) (n k j : Nat) (hk : k < n) (hj : j < 9) : (pcs T n)[k * 9 + j]? = some (pcell (T k) j) := by
  unfold pcs
  rw [List.getElem?_map, List.getElem?_range (by omega)]
  have d1 : (k * 9 + j) / 9 = k := by omega
  have d2 : (k * 9 + j) % 9 = j := by omega
  simp [d1, d2]
/-- n panels in memory, at a block's head -/
def Row9 (w : World) (g n : Nat) (T : Nat → P3 × P3 × P3) : Prop :=
  g < w.heap.size ∧ ∀ k, k < n → w.cell? ⟨g, k * 9, none⟩ = some (.int .i64 (T k).1.1) ∧ w.cell? ⟨g, k * 9 + 1, none⟩ = some (.int .i64 (T k).1.2.1) ∧ w.cell? ⟨g, k * 9 + 2, none⟩ = some (.int .i64 (T k).1.2.2) ∧
    w.cell? ⟨g, k * 9 + 3, none⟩ = some (.int .i64 (T k).2.1.1) ∧ w.cell? ⟨g, k * 9 + 4, none⟩ = some (.int .i64 (T k).2.1.2.1) ∧ w.cell? ⟨g, k * 9 + 5, none⟩ = some (.int .i64 (T k).2.1.2.2) ∧
    w.cell? ⟨g, k * 9 + 6, none⟩ = some (.int .i64 (T k).2.2.1) ∧ w.cell? ⟨g, k * 9 + 7, none⟩ = some (.int .i64 (T k).2.2.2.1) ∧ w.cell? ⟨g, k * 9 + 8, none⟩ = some (.int .i64 (T k).2.2.2.2)
theorem row9_in {w wr : World} {B g n : Nat} {T : Nat → P3 × P3 × P3} (r : Row9 w g n T) (hb : Below B w wr) (h : g < B) : Row9 wr g n T := by
  refine ⟨Nat.lt_of_lt_of_le r.1 hb.size, fun k hk => ?_⟩
  obtain ⟨h1, h2, h3, h4, h5, h6, h7, h8, h9⟩ := r.2 k hk
  exact ⟨(hb.cell (p := ⟨g, _, none⟩) h).trans h1, (hb.cell (p := ⟨g, _, none⟩) h).trans h2, (hb.cell (p := ⟨g, _, none⟩) h).trans h3, (hb.cell (p := ⟨g, _, none⟩) h).trans h4, (hb.cell (p := ⟨g, _, none⟩) h).trans h5, (hb.cell (p := ⟨g, _, none⟩) h).trans h6, (hb.cell (p := ⟨g, _, none⟩) h).trans h7, (hb.cell (p := ⟨g, _, none⟩) h).trans h8, (hb.cell (p := ⟨g, _, none⟩) h).trans h9⟩
theorem row9_below {w w1 : World} {g n : Nat} {T : Nat → P3 × P3 × P3} (r : Row9 w g n T) (hb : Below w.heap.size w w1) : Row9 w1 g n T := row9_in r hb r.1
theorem row9_of {w : World} {base n : Nat} {v : Value} {T : Nat → P3 × P3 × P3} (h : w.ownsRow base 77 9 v n (pcs T n)) (h0 : 0 < n) : ∃ g cap, v = .slice (some ⟨g, 0, none⟩) n cap ∧ base ≤ g ∧ Row9 w g n T := by
  rcases h.2 with ⟨_, h'⟩ | ⟨g, cap, cur, rfl, hb, hg, _⟩
  · omega
  · refine ⟨g, cap, rfl, hb, (Array.getElem?_eq_some_iff.1 hg).1, fun k hk => ?_⟩
    have q (j : Nat) (hj : j < 9) : w.cell? ⟨g, k * 9 + j, none⟩ = some (pcell (T k) j) := by rw [h.cellAt (k * 9 + j) (by omega)]; exact pcs_at T n k j hk hj
    exact ⟨q 0 (by omega), q 1 (by omega), q 2 (by omega), q 3 (by omega), q 4 (by omega), q 5 (by omega), q 6 (by omega), q 7 (by omega), q 8 (by omega)⟩
theorem infoP : (Try.prog.info? 77).map (fun i => (i.zero, i.size, i.bytes)) = some (some (.agg #[.int .i64 0, .int .i64 0, .int .i64 0, .int .i64 0, .int .i64 0, .int .i64 0, .int .i64 0, .int .i64 0, .int .i64 0]), 9, 72) := by kernel_rfl
theorem cells9 (w : World) (c0 c1 c2 c3 c4 c5 c6 c7 c8 : Int) (t : TypeId) : ∀ j u, [Value.int .i64 c0, .int .i64 c1, .int .i64 c2, .int .i64 c3, .int .i64 c4, .int .i64 c5, .int .i64 c6, .int .i64 c7, .int .i64 c8][j]? = some u →
    (w.alloc (.cells #[.int .i64 c0, .int .i64 c1, .int .i64 c2, .int .i64 c3, .int .i64 c4, .int .i64 c5, .int .i64 c6, .int .i64 c7, .int .i64 c8] t)).cell? ((⟨w.heap.size, 0, none⟩ : Addr).add j) = some u := by
  intro j u h
  match j, h with
  | 0, h | 1, h | 2, h | 3, h | 4, h | 5, h | 6, h | 7, h | 8, h => (simp at h; subst h; simp only [Addr.add]; go_simp)
  | j + 9, h => simp at h
theorem one9 (c0 c1 c2 c3 c4 c5 c6 c7 c8 : Int) : ∀ u ∈ [Value.int .i64 c0, .int .i64 c1, .int .i64 c2, .int .i64 c3, .int .i64 c4, .int .i64 c5, .int .i64 c6, .int .i64 c7, .int .i64 c8], u.oneCell' = true := by
  intro u h
  simp only [List.mem_cons, List.not_mem_nil, or_false] at h
  rcases h with h | h | h | h | h | h | h | h | h <;> (subst h; rfl)
theorem ownsRow_below {w w1 : World} {base : Nat} {e : TypeId} {size n : Nat} {v : Value} {xs : List Value} (h : w.ownsRow base e size v n xs) (hb : Below w.heap.size w w1) : w1.ownsRow base e size v n xs := by
  refine ⟨h.1, ?_⟩
  rcases h.2 with h' | ⟨g, cap, cur, h1, h2, h3, h4⟩
  · exact .inl h'
  · exact .inr ⟨g, cap, cur, h1, h2, (hb.block g (Array.getElem?_eq_some_iff.1 h3).1).trans h3, h4⟩
theorem ownsRow_block {w : World} {base : Nat} {e : TypeId} {size n : Nat} {v : Value} {xs : List Value} (h : w.ownsRow base e size v n xs) : ∀ g, v.ownBlock = some g → base ≤ g := by
  intro g hg
  rcases h.2 with ⟨h', _⟩ | ⟨g', cap, cur, h1, h2, _⟩
  · subst h'; cases hg
  · subst h1; cases hg; exact h2
theorem grown_mes {w w1 : World} {row : Option Nat} {q : Nat} {a : Option Addr} {n c : Nat} {a' : Option Addr} {n' c' : Nat} (h : Mes w q a n c a' n' c') (hg : w.grownBy w1 row) (hr : row ≠ some q) : Mes w1 q a n c a' n' c' := by
  have e := hg.block q h.2.2 (fun e => hr e.symm)
  exact ⟨(World.cell?_of_block (w := w) (a := ⟨q, 0, none⟩) e).trans h.1, (World.cell?_of_block (w := w) (a := ⟨q, 1, none⟩) e).trans h.2.1, Nat.lt_of_lt_of_le h.2.2 hg.size⟩
def Paneled (T : Nat → P3 × P3 × P3) (n : Nat) (w : World) (e : Ending) (w' : World) : Prop :=
  ∃ g cap, e = .returned (.slice (some ⟨g, 0, none⟩) n cap) ∧ w.heap.size ≤ g ∧ Row9 w' g n T ∧ Below w.heap.size w w'
set_option maxRecDepth 100000 in
set_option maxHeartbeats 2000000 in
theorem panels_row (b off np c b' off' nf c' : Nat) (P F : Nat → P3) (w : World) (rp : Row3 w b off np P) (r : Row3 w b' off' nf F) (hn : np ≤ 1000000) (hm : nf ≤ 1000000) (h0 : 0 < nf) (nr : ∀ k, k < nf → Fok np (F k)) :
    Calls Try.prog 33 #[msv (some ⟨b, off, none⟩) np c (some ⟨b', off', none⟩) nf c'] w (Paneled (Tr P F) nf w) := by
  have hb1 : b' < w.heap.size := r.1
  have hb2 : b < w.heap.size := rp.1
  have R := Lib.hid r
  have RP := Lib.hid rp
  have NR := Lib.hid nr
  have hn' : (np : Int) ≤ 1000000 := by omega
  have hm' : (nf : Int) ≤ 1000000 := by omega
  obtain ⟨i0, hi, hz0, hz1, hz2⟩ := info_parts infoP
  clear r rp nr
  go_enter Try.func33, Try.ntmps33
  go_wp2
  go_loopw [3, 9] (fun v kv wr => ∃ k : Nat, k ≤ nf ∧ kv = .int .i64 k ∧ wr.ownsRow (w.heap.size + 1) 77 9 v k (pcs (Tr P F) k) ∧ Mes wr w.heap.size (some ⟨b, off, none⟩) np c (some ⟨b', off', none⟩) nf c' ∧ Below w.heap.size w wr) (fun _ kv _ => nf - (intOf kv).toNat)
  case atStart => exact ⟨0, Nat.zero_le _, rfl, World.ownsRow_nil _ _ _ _, mes_new _ _ _ _ _ _ _ _, by (repeat' (first | exact Below.refl _ _ | refine Below.setCell ?_ (by simp <;> omega) _ | refine balloc ?_ _ | refine Below.drew ?_ | refine bdrewN ?_ _))⟩
  case round =>
    obtain ⟨k, hk, rfl, hown, hme, BB⟩ := hrel
    have B0 := Lib.hid BB
    have HO := Lib.hid hown
    have ME := Lib.hid hme
    clear BB hown hme
    by_cases hlt : k < nf
    · have r2 := row3_in R.out B0.out hb1
      obtain ⟨c1, c2, c3⟩ := r2.2 k hlt
      have r5 := r2.1
      have hk1 : (k : Int) < (nf : Int) := by omega
      obtain ⟨x, y, z, hp, hx, hy, hz⟩ := fok_nat (NR.out k hlt)
      have S1 := Lib.hid (show pcs (Tr P F) (k + 1) = pcs (Tr P F) k ++ [.int .i64 (P x).1, .int .i64 (P x).2.1, .int .i64 (P x).2.2, .int .i64 (P y).1, .int .i64 (P y).2.1, .int .i64 (P y).2.2, .int .i64 (P z).1, .int .i64 (P z).2.1, .int .i64 (P z).2.2] by rw [pcs_succ]; unfold Tr; rw [hp]; rfl)
      rw [hp] at c1 c2 c3
      dsimp only at c1 c2 c3
      clear hp r2
      obtain ⟨m1, m2, m3⟩ := ME.out
      have RPr := Lib.hid (row3_alloc (row3_in RP.out B0.out hb2) (.cells #[.int .i64 (x : Int), .int .i64 (y : Int), .int .i64 (z : Int)] 112))
      go_wp2_with fail
      refine (panel_nat b off np c (some ⟨b', off', none⟩) nf c' x y z P _ RPr.out hx hy hz hn).mono ?_
      rintro e u0 ⟨rfl, hb0⟩
      have O1 := Lib.hid (ownsRow_below (HO.out.alloc (.cells #[.int .i64 (x : Int), .int .i64 (y : Int), .int .i64 (z : Int)] 112)) hb0)
      have ME1 := Lib.hid (mes_below (mes_alloc ME.out (.cells #[.int .i64 (x : Int), .int .i64 (y : Int), .int .i64 (z : Int)] 112)) hb0)
      have B1 := Lib.hid (bstep (balloc B0.out _) hb0)
      have Z := Lib.hid (show w.heap.size + 1 ≤ u0.heap.size by have := ME1.out.2.2; omega)
      clear hb0 m1 m2 m3 c1 c2 c3 RPr
      generalize P x = px at *
      generalize P y = py at *
      generalize P z = pz at *
      go_wp2_with (at_builtin; refine wpList_append_own _ rfl _ _ 74 rfl (w.heap.size + 1) 77 i0 _ 9 72 Try.underlying74 hi hz0 hz1 hz2 rfl (by decide) _ _ _ rfl (O1.out.alloc _) ⟨u0.heap.size, 0, none⟩ 1 1 [.int .i64 px.1, .int .i64 px.2.1, .int .i64 px.2.2, .int .i64 py.1, .int .i64 py.2.1, .int .i64 py.2.2, .int .i64 pz.1, .int .i64 pz.2.1, .int .i64 pz.2.2] rfl rfl (cells9 _ _ _ _ _ _ _ _ _ _ _) (one9 _ _ _ _ _ _ _ _ _) (by unfold maxLen; omega) (by omega) (by have := Z.out; simp; omega) ?_; intro v' w3 hown' hgrow hnil)
      have OB := ownsRow_block O1.out
      go_roundw
      case rel => exact ⟨k + 1, by omega, by go_num, by rw [S1.out]; exact hown', grown_mes (mes_alloc ME1.out _) hgrow (fun q => by have := OB _ q; omega), (balloc B1.out _).grown hgrow (by have := ME1.out.2.2; simp; omega) (fun i hi => by have := OB i hi; omega)⟩
      case measure => simp [intOf]; omega
    · obtain rfl : k = nf := by omega
      go_wp2
      go_ret
      obtain ⟨g, cap, hv, hg, r9⟩ := row9_of HO.out h0
      exact ⟨g, cap, by rw [hv]; rfl, by omega, r9, B0.out⟩

end Go.Proofs.Ytllonfaogbdbnaa
