/-
  The contracts of a view: low, high, touches.
-/
import Derived.Test.YtjigcgpcglfjfaaFg8
namespace Go.Proofs.Ytjigcgpcglfjfaa
open Go.ChangeShapes Go.WideShapes Go.RowKit
open Sh
/-- a view as a value, and as a block -/
abbrev vwv (d m e : Nat) (bl bh : P3) (sc : Int) (kv : Value) : Value := .agg #[.slice (some ⟨d, 0, none⟩) m e, .int .i64 bl.1, .int .i64 bl.2.1, .int .i64 bl.2.2, .int .i64 bh.1, .int .i64 bh.2.1, .int .i64 bh.2.2, .int .i64 sc, kv]
abbrev vwb (d m e : Nat) (bl bh : P3) (sc : Int) (kv : Value) (t : TypeId) : Obj := .cells #[.slice (some ⟨d, 0, none⟩) m e, .int .i64 bl.1, .int .i64 bl.2.1, .int .i64 bl.2.2, .int .i64 bh.1, .int .i64 bh.2.1, .int .i64 bh.2.2, .int .i64 sc, kv] t
def VwP (w : World) (x d m e : Nat) (bl bh : P3) (sc : Int) (kv : Value) : Prop := (w.cell? ⟨x, 0, none⟩ = some (.slice (some ⟨d, 0, none⟩) m e) ∧ w.cell? ⟨x, 1, none⟩ = some (.int .i64 bl.1) ∧ w.cell? ⟨x, 2, none⟩ = some (.int .i64 bl.2.1) ∧ w.cell? ⟨x, 3, none⟩ = some (.int .i64 bl.2.2) ∧ w.cell? ⟨x, 4, none⟩ = some (.int .i64 bh.1) ∧ w.cell? ⟨x, 5, none⟩ = some (.int .i64 bh.2.1) ∧ w.cell? ⟨x, 6, none⟩ = some (.int .i64 bh.2.2) ∧ w.cell? ⟨x, 7, none⟩ = some (.int .i64 sc) ∧ w.cell? ⟨x, 8, none⟩ = some kv) ∧ x < w.heap.size
theorem vwp_new (w : World) (d m e : Nat) (bl bh : P3) (sc : Int) (kv : Value) (t : TypeId) : VwP (w.alloc (vwb d m e bl bh sc kv t)) w.heap.size d m e bl bh sc kv :=
  ⟨⟨by go_simp, by go_simp, by go_simp, by go_simp, by go_simp, by go_simp, by go_simp, by go_simp, by go_simp⟩, by simp⟩
theorem vwp_in {w w1 : World} {N x d m e : Nat} {bl bh : P3} {sc : Int} {kv : Value} (h : VwP w x d m e bl bh sc kv) (hb : Below N w w1) (hq : x < N) : VwP w1 x d m e bl bh sc kv := by
  obtain ⟨⟨h0, h1, h2, h3, h4, h5, h6, h7, h8⟩, h9⟩ := h
  exact ⟨⟨(hb.cell (p := ⟨x, 0, none⟩) hq).trans h0, (hb.cell (p := ⟨x, 1, none⟩) hq).trans h1, (hb.cell (p := ⟨x, 2, none⟩) hq).trans h2, (hb.cell (p := ⟨x, 3, none⟩) hq).trans h3, (hb.cell (p := ⟨x, 4, none⟩) hq).trans h4, (hb.cell (p := ⟨x, 5, none⟩) hq).trans h5, (hb.cell (p := ⟨x, 6, none⟩) hq).trans h6, (hb.cell (p := ⟨x, 7, none⟩) hq).trans h7, (hb.cell (p := ⟨x, 8, none⟩) hq).trans h8⟩, Nat.lt_of_lt_of_le h9 hb.size⟩
theorem vwp_alloc {w : World} {x d m e : Nat} {bl bh : P3} {sc : Int} {kv : Value} (h : VwP w x d m e bl bh sc kv) (o : Obj) : VwP (w.alloc o) x d m e bl bh sc kv := vwp_in h ((Below.refl w.heap.size _).alloc (Nat.le_refl _) _) h.2
theorem vwp_drew {w : World} {x d m e : Nat} {bl bh : P3} {sc : Int} {kv : Value} (h : VwP w x d m e bl bh sc kv) : VwP w.drew x d m e bl bh sc kv := h
set_option maxRecDepth 100000 in
set_option maxHeartbeats 2000000 in
theorem floi_any (b n c d m e : Nat) (al ah bl bh : P3) (sc : Int) (r : Sp.R) (w : World) (P Q : Nat → P3) (rp : RwG w b n P) (rq : RwG w d m Q) (hn : n ≤ 1000) (hm : m ≤ 1000) (hb : ∀ i, i < n → ∀ j, j < m → BdP 1000000 (sub (P i) (Q j))) (KC : Hid (∀ W, Calls Try.prog 50 #[.int .i64 (fG P Q m n), .int .i64 sc] W fun e w' => e = .returned (spr r) ∧ Below W.heap.size W w')) :
    Calls Try.prog 110 #[vwv d m e bl bh sc (.func (.func 50) #[] #[]), grv b n c al ah] w fun e w' => e = .returned (.int .i64 r.1.1) ∧ Below w.heap.size w w' := by
  have FC := Lib.hid (fun (W : World) (B : Below w.heap.size w W) => ffar_any b n c d m e al ah bl bh P Q W (rwg_below rp B) (rwg_below rq B) hn hm hb)
  clear rp rq hb
  generalize fG P Q m n = f at *
  have X0 := Lib.hid (vwp_alloc (vwp_new w d m e bl bh sc (.func (.func 50) #[] #[]) 132) (grb b n c al ah 101))
  have Y0 := Lib.hid (grp_new (w.alloc (vwb d m e bl bh sc (.func (.func 50) #[] #[]) 132)) b n c al ah 101)
  simp only [World.size_alloc] at Y0
  have B0 := Lib.hid (show Below w.heap.size w ((w.alloc (vwb d m e bl bh sc (.func (.func 50) #[] #[]) 132)).alloc (grb b n c al ah 101)) by (repeat' (first | exact Below.refl _ _ | refine Below.setCell ?_ (by simp <;> omega) _ | refine balloc ?_ _ | refine Below.drew ?_ | refine bdrewN ?_ _)))
  go_enter Try.func110, Try.ntmps110
  go_wp2_with fail
  generalize hW : (w.alloc (vwb d m e bl bh sc (.func (.func 50) #[] #[]) 132)).alloc (grb b n c al ah 101) = W0 at *
  have hS : W0.heap.size = w.heap.size + 1 + 1 := by rw [← hW]; simp
  clear hW
  refine floi_reg (fun W => (VwP W w.heap.size d m e bl bh sc (.func (.func 50) #[] #[]) ∧ Grp W (w.heap.size + 1) b n c al ah) ∧ Below w.heap.size w W) (w.heap.size + 1 + 1) w.heap.size (w.heap.size + 1) b n c d m e al ah bl bh sc f r (Lib.hid fun W h => by obtain ⟨⟨h1, h2⟩, _⟩ := h; obtain ⟨⟨k0, k1, k2, k3, k4, k5, k6, k7, k8⟩, _⟩ := h1; obtain ⟨k', _⟩ := h2; exact ⟨k0, k1, k2, k3, k4, k5, k6, k7, k8, k'⟩) (Lib.hid fun W h => FC.out W h.2) KC (Lib.hid fun W W' hb h => ⟨⟨vwp_in h.1.1 hb (by omega), grp_in h.1.2 hb (by omega)⟩, Below.trans h.2 (hb.mono (by omega))⟩) (by omega) ⟨⟨vwp_drew X0.out, grp_drew Y0.out⟩, Below.drew B0.out⟩ ?_
  intros
  rename_i k0 W1 kN kG kb kO
  obtain ⟨o0, o1, o2, o3, o4⟩ := id kO
  have kB := kG.2
  go_wp2
  go_ret
  exact ⟨rfl, by first | exact kB | (repeat' (first | exact Below.refl _ _ | refine bstep ?_ kB | refine Below.setCell ?_ (by simp <;> omega) _ | refine balloc ?_ _ | refine Below.drew ?_ | refine bdrewN ?_ _))⟩
set_option maxRecDepth 100000 in
set_option maxHeartbeats 2000000 in
theorem fhii_any (b n c d m e : Nat) (al ah bl bh : P3) (sc : Int) (r : Sp.R) (w : World) (h1 : BdP 1000000 al) (h2 : BdP 1000000 ah) (h3 : BdP 1000000 bl) (h4 : BdP 1000000 bh) (KC : Hid (∀ W, Calls Try.prog 50 #[.int .i64 (nG al ah bl bh), .int .i64 sc] W fun e w' => e = .returned (spr r) ∧ Below W.heap.size W w')) :
    Calls Try.prog 111 #[vwv d m e bl bh sc (.func (.func 50) #[] #[]), grv b n c al ah] w fun e w' => e = .returned (.int .i64 r.1.2) ∧ Below w.heap.size w w' := by
  have FC := Lib.hid (fun (W : World) (_ : Below w.heap.size w W) => fnear_any b n c d m e al ah bl bh W h1 h2 h3 h4)
  clear h1 h2 h3 h4
  generalize nG al ah bl bh = f at *
  have X0 := Lib.hid (vwp_alloc (vwp_new w d m e bl bh sc (.func (.func 50) #[] #[]) 132) (grb b n c al ah 101))
  have Y0 := Lib.hid (grp_new (w.alloc (vwb d m e bl bh sc (.func (.func 50) #[] #[]) 132)) b n c al ah 101)
  simp only [World.size_alloc] at Y0
  have B0 := Lib.hid (show Below w.heap.size w ((w.alloc (vwb d m e bl bh sc (.func (.func 50) #[] #[]) 132)).alloc (grb b n c al ah 101)) by (repeat' (first | exact Below.refl _ _ | refine Below.setCell ?_ (by simp <;> omega) _ | refine balloc ?_ _ | refine Below.drew ?_ | refine bdrewN ?_ _)))
  go_enter Try.func111, Try.ntmps111
  go_wp2_with fail
  generalize hW : (w.alloc (vwb d m e bl bh sc (.func (.func 50) #[] #[]) 132)).alloc (grb b n c al ah 101) = W0 at *
  have hS : W0.heap.size = w.heap.size + 1 + 1 := by rw [← hW]; simp
  clear hW
  refine fhii_reg (fun W => (VwP W w.heap.size d m e bl bh sc (.func (.func 50) #[] #[]) ∧ Grp W (w.heap.size + 1) b n c al ah) ∧ Below w.heap.size w W) (w.heap.size + 1 + 1) w.heap.size (w.heap.size + 1) b n c d m e al ah bl bh sc f r (Lib.hid fun W h => by obtain ⟨⟨h1, h2⟩, _⟩ := h; obtain ⟨⟨k0, k1, k2, k3, k4, k5, k6, k7, k8⟩, _⟩ := h1; obtain ⟨k', _⟩ := h2; exact ⟨k0, k1, k2, k3, k4, k5, k6, k7, k8, k'⟩) (Lib.hid fun W h => FC.out W h.2) KC (Lib.hid fun W W' hb h => ⟨⟨vwp_in h.1.1 hb (by omega), grp_in h.1.2 hb (by omega)⟩, Below.trans h.2 (hb.mono (by omega))⟩) (by omega) ⟨⟨vwp_drew X0.out, grp_drew Y0.out⟩, Below.drew B0.out⟩ ?_
  intros
  rename_i k0 W1 kN kG kb kO
  obtain ⟨o0, o1, o2, o3, o4⟩ := id kO
  have kB := kG.2
  go_wp2
  go_ret
  exact ⟨rfl, by first | exact kB | (repeat' (first | exact Below.refl _ _ | refine bstep ?_ kB | refine Below.setCell ?_ (by simp <;> omega) _ | refine balloc ?_ _ | refine Below.drew ?_ | refine bdrewN ?_ _))⟩
set_option maxRecDepth 100000 in
set_option maxHeartbeats 2000000 in
theorem floc_any (b n c d m e : Nat) (al ah bl bh : P3) (sc : Int) (r : Sp.R) (w : World) (P Q : Nat → P3) (rp : RwG w b n P) (rq : RwG w d m Q) (hn : n ≤ 1000) (hm : m ≤ 1000) (hb : ∀ i, i < n → ∀ j, j < m → BdP 1000000 (sub (P i) (Q j))) (KC : Hid (∀ W, Calls Try.prog 53 #[.int .i64 (fG P Q m n), .int .i64 sc] W fun e w' => e = .returned (spr r) ∧ Below W.heap.size W w')) :
    Calls Try.prog 110 #[vwv d m e bl bh sc (.func (.func 53) #[] #[]), grv b n c al ah] w fun e w' => e = .returned (.int .i64 r.1.1) ∧ Below w.heap.size w w' := by
  have FC := Lib.hid (fun (W : World) (B : Below w.heap.size w W) => ffar_any b n c d m e al ah bl bh P Q W (rwg_below rp B) (rwg_below rq B) hn hm hb)
  clear rp rq hb
  generalize fG P Q m n = f at *
  have X0 := Lib.hid (vwp_alloc (vwp_new w d m e bl bh sc (.func (.func 53) #[] #[]) 132) (grb b n c al ah 101))
  have Y0 := Lib.hid (grp_new (w.alloc (vwb d m e bl bh sc (.func (.func 53) #[] #[]) 132)) b n c al ah 101)
  simp only [World.size_alloc] at Y0
  have B0 := Lib.hid (show Below w.heap.size w ((w.alloc (vwb d m e bl bh sc (.func (.func 53) #[] #[]) 132)).alloc (grb b n c al ah 101)) by (repeat' (first | exact Below.refl _ _ | refine Below.setCell ?_ (by simp <;> omega) _ | refine balloc ?_ _ | refine Below.drew ?_ | refine bdrewN ?_ _)))
  go_enter Try.func110, Try.ntmps110
  go_wp2_with fail
  generalize hW : (w.alloc (vwb d m e bl bh sc (.func (.func 53) #[] #[]) 132)).alloc (grb b n c al ah 101) = W0 at *
  have hS : W0.heap.size = w.heap.size + 1 + 1 := by rw [← hW]; simp
  clear hW
  refine floc_reg (fun W => (VwP W w.heap.size d m e bl bh sc (.func (.func 53) #[] #[]) ∧ Grp W (w.heap.size + 1) b n c al ah) ∧ Below w.heap.size w W) (w.heap.size + 1 + 1) w.heap.size (w.heap.size + 1) b n c d m e al ah bl bh sc f r (Lib.hid fun W h => by obtain ⟨⟨h1, h2⟩, _⟩ := h; obtain ⟨⟨k0, k1, k2, k3, k4, k5, k6, k7, k8⟩, _⟩ := h1; obtain ⟨k', _⟩ := h2; exact ⟨k0, k1, k2, k3, k4, k5, k6, k7, k8, k'⟩) (Lib.hid fun W h => FC.out W h.2) KC (Lib.hid fun W W' hb h => ⟨⟨vwp_in h.1.1 hb (by omega), grp_in h.1.2 hb (by omega)⟩, Below.trans h.2 (hb.mono (by omega))⟩) (by omega) ⟨⟨vwp_drew X0.out, grp_drew Y0.out⟩, Below.drew B0.out⟩ ?_
  intros
  rename_i k0 W1 kN kG kb kO
  obtain ⟨o0, o1, o2, o3, o4⟩ := id kO
  have kB := kG.2
  go_wp2
  go_ret
  exact ⟨rfl, by first | exact kB | (repeat' (first | exact Below.refl _ _ | refine bstep ?_ kB | refine Below.setCell ?_ (by simp <;> omega) _ | refine balloc ?_ _ | refine Below.drew ?_ | refine bdrewN ?_ _))⟩
set_option maxRecDepth 100000 in
set_option maxHeartbeats 2000000 in
theorem fhic_any (b n c d m e : Nat) (al ah bl bh : P3) (sc : Int) (r : Sp.R) (w : World) (h1 : BdP 1000000 al) (h2 : BdP 1000000 ah) (h3 : BdP 1000000 bl) (h4 : BdP 1000000 bh) (KC : Hid (∀ W, Calls Try.prog 53 #[.int .i64 (nG al ah bl bh), .int .i64 sc] W fun e w' => e = .returned (spr r) ∧ Below W.heap.size W w')) :
    Calls Try.prog 111 #[vwv d m e bl bh sc (.func (.func 53) #[] #[]), grv b n c al ah] w fun e w' => e = .returned (.int .i64 r.1.2) ∧ Below w.heap.size w w' := by
  have FC := Lib.hid (fun (W : World) (_ : Below w.heap.size w W) => fnear_any b n c d m e al ah bl bh W h1 h2 h3 h4)
  clear h1 h2 h3 h4
  generalize nG al ah bl bh = f at *
  have X0 := Lib.hid (vwp_alloc (vwp_new w d m e bl bh sc (.func (.func 53) #[] #[]) 132) (grb b n c al ah 101))
  have Y0 := Lib.hid (grp_new (w.alloc (vwb d m e bl bh sc (.func (.func 53) #[] #[]) 132)) b n c al ah 101)
  simp only [World.size_alloc] at Y0
  have B0 := Lib.hid (show Below w.heap.size w ((w.alloc (vwb d m e bl bh sc (.func (.func 53) #[] #[]) 132)).alloc (grb b n c al ah 101)) by (repeat' (first | exact Below.refl _ _ | refine Below.setCell ?_ (by simp <;> omega) _ | refine balloc ?_ _ | refine Below.drew ?_ | refine bdrewN ?_ _)))
  go_enter Try.func111, Try.ntmps111
  go_wp2_with fail
  generalize hW : (w.alloc (vwb d m e bl bh sc (.func (.func 53) #[] #[]) 132)).alloc (grb b n c al ah 101) = W0 at *
  have hS : W0.heap.size = w.heap.size + 1 + 1 := by rw [← hW]; simp
  clear hW
  refine fhic_reg (fun W => (VwP W w.heap.size d m e bl bh sc (.func (.func 53) #[] #[]) ∧ Grp W (w.heap.size + 1) b n c al ah) ∧ Below w.heap.size w W) (w.heap.size + 1 + 1) w.heap.size (w.heap.size + 1) b n c d m e al ah bl bh sc f r (Lib.hid fun W h => by obtain ⟨⟨h1, h2⟩, _⟩ := h; obtain ⟨⟨k0, k1, k2, k3, k4, k5, k6, k7, k8⟩, _⟩ := h1; obtain ⟨k', _⟩ := h2; exact ⟨k0, k1, k2, k3, k4, k5, k6, k7, k8, k'⟩) (Lib.hid fun W h => FC.out W h.2) KC (Lib.hid fun W W' hb h => ⟨⟨vwp_in h.1.1 hb (by omega), grp_in h.1.2 hb (by omega)⟩, Below.trans h.2 (hb.mono (by omega))⟩) (by omega) ⟨⟨vwp_drew X0.out, grp_drew Y0.out⟩, Below.drew B0.out⟩ ?_
  intros
  rename_i k0 W1 kN kG kb kO
  obtain ⟨o0, o1, o2, o3, o4⟩ := id kO
  have kB := kG.2
  go_wp2
  go_ret
  exact ⟨rfl, by first | exact kB | (repeat' (first | exact Below.refl _ _ | refine bstep ?_ kB | refine Below.setCell ?_ (by simp <;> omega) _ | refine balloc ?_ _ | refine Below.drew ?_ | refine bdrewN ?_ _))⟩
theorem ftouch_any (b n c d m e : Nat) (al ah bl bh : P3) (sc : Int) (kv : Value) (w : World) (h1 : BdP 1000000 al) (h2 : BdP 1000000 ah) (h3 : BdP 1000000 bl) (h4 : BdP 1000000 bh) :
    Calls Try.prog 108 #[vwv d m e bl bh sc kv, grv b n c al ah] w fun e w' => e = .returned (.bool (nG al ah bl bh == 0)) ∧ Below w.heap.size w w' := by
  have FC := Lib.hid (fun (W : World) => fnear_any b n c d m e al ah bl bh W h1 h2 h3 h4)
  clear h1 h2 h3 h4
  generalize nG al ah bl bh = f at *
  have X0 := Lib.hid (vwp_alloc (vwp_new w d m e bl bh sc (kv) 132) (grb b n c al ah 101))
  have Y0 := Lib.hid (grp_new (w.alloc (vwb d m e bl bh sc (kv) 132)) b n c al ah 101)
  simp only [World.size_alloc] at Y0
  have B0 := Lib.hid (show Below w.heap.size w ((w.alloc (vwb d m e bl bh sc (kv) 132)).alloc (grb b n c al ah 101)) by (repeat' (first | exact Below.refl _ _ | refine Below.setCell ?_ (by simp <;> omega) _ | refine balloc ?_ _ | refine Below.drew ?_ | refine bdrewN ?_ _)))
  obtain ⟨⟨k0, k1, k2, k3, k4, k5, k6, k7, k8⟩, _⟩ := X0.out
  obtain ⟨⟨g0, g1, g2, g3, g4, g5, g6⟩, _⟩ := Y0.out
  go_enter Try.func108, Try.ntmps108
  go_wp2_with fail
  with_reducible refine (FC.out _).mono ?_
  rintro e w2 ⟨rfl, hb⟩
  go_wp2
  go_ret
  exact ⟨rfl, by (repeat' (first | exact Below.refl _ _ | refine bstep ?_ hb | refine Below.setCell ?_ (by simp <;> omega) _ | refine balloc ?_ _ | refine Below.drew ?_ | refine bdrewN ?_ _))⟩

end Go.Proofs.Ytjigcgpcglfjfaa
