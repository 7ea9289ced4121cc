/-
  The contract of the document's Winding, and the law ShapeWinds: for every mesh and point it answers true.
-/
import Derived.Test.YtllonfaogbdbnaaWi7
import Derived.Test.YtllonfaogbdbnaaValsW
namespace Go.Proofs.Ytllonfaogbdbnaa
open Go.ChangeShapes Go.WideShapes Go.RowKit
open Sh
theorem rwn_c (a : Option Addr) (np c : Nat) (a' : Option Addr) (nf c' : Nat) (p : P3) (code : Int) (w : World) (AC : Hid (∀ W, Below w.heap.size w W → Calls Try.prog 36 #[msv a np c a' nf c', ptv p] W fun e w' => e = .returned (.int .i64 code) ∧ Below W.heap.size W w')) (z : (code != 0) = true) : Calls Try.prog 11 #[msv a np c a' nf c', ptv p] w fun e w' => e = .returned (.tuple #[.int .i64 0, .int .i64 code]) ∧ Below w.heap.size w w' := by
  have XM0 := Lib.hid (mes_alloc (mes_new w a np c a' nf c' 25) (ptc p 27))
  have XP0 := Lib.hid (by have z := own_new (w.alloc (msc a np c a' nf c' 25)) p 27; simp only [World.size_alloc] at z; exact z : Own ((w.alloc (msc a np c a' nf c' 25)).alloc (ptc p 27)) (w.heap.size + 1) p)
  go_enter Try.func11, Try.ntmps11
  go_wp2_with fail
  refine (AC.out _ (by (repeat' (first | exact Below.refl _ _ | refine Below.setCell ?_ (by simp <;> omega) _ | refine balloc ?_ _ | refine Below.drew ?_ | refine bdrewN ?_ _)))).mono ?_
  rintro e w1 ⟨rfl, hb1⟩
  have XM := Lib.hid (mes_below XM0.out hb1)
  have XP := Lib.hid (own_below XP0.out hb1)
  have B1 := Lib.hid (bstep (balloc (balloc (Below.refl _ w) _) _) hb1)
  clear hb1 XM0 XP0
  go_wp2
  go_ret2
  exact ⟨rfl, B1.out⟩
theorem rwn_9 (a : Option Addr) (np c : Nat) (a' : Option Addr) (nf c' : Nat) (p : P3) (w : World) (AC : Hid (∀ W, Below w.heap.size w W → Calls Try.prog 36 #[msv a np c a' nf c', ptv p] W fun e w' => e = .returned (.int .i64 0) ∧ Below W.heap.size W w')) (OC : Hid (∀ W, Below w.heap.size w W → Calls Try.prog 37 #[msv a np c a' nf c', ptv p] W fun e w' => e = .returned (.bool true) ∧ Below W.heap.size W w')) : Calls Try.prog 11 #[msv a np c a' nf c', ptv p] w fun e w' => e = .returned (.tuple #[.int .i64 0, .int .i64 9]) ∧ Below w.heap.size w w' := by
  have XM0 := Lib.hid (mes_alloc (mes_new w a np c a' nf c' 25) (ptc p 27))
  have XP0 := Lib.hid (by have z := own_new (w.alloc (msc a np c a' nf c' 25)) p 27; simp only [World.size_alloc] at z; exact z : Own ((w.alloc (msc a np c a' nf c' 25)).alloc (ptc p 27)) (w.heap.size + 1) p)
  go_enter Try.func11, Try.ntmps11
  go_wp2_with fail
  refine (AC.out _ (by (repeat' (first | exact Below.refl _ _ | refine Below.setCell ?_ (by simp <;> omega) _ | refine balloc ?_ _ | refine Below.drew ?_ | refine bdrewN ?_ _)))).mono ?_
  rintro e w1 ⟨rfl, hb1⟩
  have XM := Lib.hid (mes_below XM0.out hb1)
  have XP := Lib.hid (own_below XP0.out hb1)
  have B1 := Lib.hid (bstep (balloc (balloc (Below.refl _ w) _) _) hb1)
  clear hb1 XM0 XP0
  obtain ⟨m1, m2, m3⟩ := XM.out
  have XP' := XP.out
  obtain ⟨q1, q2, q3, q4, q5, q6, q7⟩ := XP'
  go_wp2_with fail
  refine (OC.out _ B1.out).mono ?_
  rintro e w2 ⟨rfl, hb2⟩
  clear m1 m2 m3
  clear q1 q2 q3 q4 q5 q6 q7
  have XM := Lib.hid (mes_below XM.out hb2)
  have XP := Lib.hid (own_below XP.out hb2)
  have B2 := Lib.hid (bstep B1.out hb2)
  clear hb2
  go_wp2
  go_ret2
  exact ⟨rfl, B2.out⟩
section
variable {P : Program} {ops : Array Oper} {Q : Exit → Act → World → Prop} {md : Region.Mode} {S : World → Prop} {hd : Nat → Bool}
/-- an operation whose guard says no is passed over -/
theorem wpHU_skip {i : Nat} {o : Oper} {fuel : Nat} {listed : Array Bool} {a : Act} {w : World} (hr : Region.ready md ops listed = [i]) (ho : ops[i]? = some o) (hw : Region.wanted o (yielded ops a.tmps) = false) (hS : S w)
    (h : wpHU P md ops Q S hd fuel (listed.setIfInBounds i true) (a.put o.dst undef) w) : wpHU P md ops Q S hd (fuel + 1) listed a w :=
  wpHU_one hr ho fun K' hK => by
    rw [if_neg (by rw [hw]; decide)]
    exact hK.out _ _ hS (fun _ => h)
end
theorem a1_none (W : World) (B : Nat) (u : P3) : A1 W B none u := fun _ e => by cases e
theorem k_eq {K : Act → World → Prop} {a a' : Act} {w : World} (h : a = a') (z : K a w) : K a' w := h ▸ z
theorem Shut.intro' {p : Prop} (h : p) : Shut p := h
/-- what is asked of the round's calls -/
structure RWC (x y z p A D E n v1 v2 v3 : P3) (e0 d0 r1 r2 r3 th s0 s1 s2 s3 : Int) : Prop where
  M1 : Hid (∀ W, Calls Try.prog 40 #[ptv x, ptv p] W fun e w' => e = .returned (ptv A) ∧ Below W.heap.size W w')
  M2 : Hid (∀ W, Calls Try.prog 40 #[ptv y, ptv p] W fun e w' => e = .returned (ptv D) ∧ Below W.heap.size W w')
  M3 : Hid (∀ W, Calls Try.prog 40 #[ptv z, ptv p] W fun e w' => e = .returned (ptv E) ∧ Below W.heap.size W w')
  NN : Hid (∀ W, Calls Try.prog 43 #[pnv x y z] W fun e w' => e = .returned (ptv n) ∧ Below W.heap.size W w')
  DR : Hid (∀ W, Calls Try.prog 42 #[.agg #[.int .i64 1, .int .i64 1048576, .int .i64 1099511627776], ptv n] W fun e w' => e = .returned (.int .i64 e0) ∧ Below W.heap.size W w')
  DA : Hid (∀ W, Calls Try.prog 42 #[ptv n, ptv A] W fun e w' => e = .returned (.int .i64 d0) ∧ Below W.heap.size W w')
  X1 : Hid (∀ W, Calls Try.prog 44 #[ptv A, ptv D] W fun e w' => e = .returned (ptv v1) ∧ Below W.heap.size W w')
  X2 : Hid (∀ W, Calls Try.prog 44 #[ptv D, ptv E] W fun e w' => e = .returned (ptv v2) ∧ Below W.heap.size W w')
  X3 : Hid (∀ W, Calls Try.prog 44 #[ptv E, ptv A] W fun e w' => e = .returned (ptv v3) ∧ Below W.heap.size W w')
  R1 : Hid (∀ W, Calls Try.prog 42 #[.agg #[.int .i64 1, .int .i64 1048576, .int .i64 1099511627776], ptv v1] W fun e w' => e = .returned (.int .i64 r1) ∧ Below W.heap.size W w')
  R2 : Hid (∀ W, Calls Try.prog 42 #[.agg #[.int .i64 1, .int .i64 1048576, .int .i64 1099511627776], ptv v2] W fun e w' => e = .returned (.int .i64 r2) ∧ Below W.heap.size W w')
  R3 : Hid (∀ W, Calls Try.prog 42 #[.agg #[.int .i64 1, .int .i64 1048576, .int .i64 1099511627776], ptv v3] W fun e w' => e = .returned (.int .i64 r3) ∧ Below W.heap.size W w')
  GR : Hid (∀ W, Calls Try.prog 41 #[.int .i64 e0] W fun e w' => e = .returned (.int .i64 th) ∧ W = w')
  GA : Hid (∀ W, Calls Try.prog 41 #[.int .i64 d0] W fun e w' => e = .returned (.int .i64 s0) ∧ W = w')
  G1 : Hid (∀ W, Calls Try.prog 41 #[.int .i64 r1] W fun e w' => e = .returned (.int .i64 s1) ∧ W = w')
  G2 : Hid (∀ W, Calls Try.prog 41 #[.int .i64 r2] W fun e w' => e = .returned (.int .i64 s2) ∧ W = w')
  G3 : Hid (∀ W, Calls Try.prog 41 #[.int .i64 r3] W fun e w' => e = .returned (.int .i64 s3) ∧ W = w')
theorem rwc_of (x y z p : P3) (hx : BdP 64 x) (hy : BdP 64 y) (hz : BdP 64 z) (hp : BdP 256 p) : RWC x y z p (sub x p) (sub y p) (sub z p) (nrm x y z) (vec (sub x p) (sub y p)) (vec (sub y p) (sub z p)) (vec (sub z p) (sub x p))
    (dot ray (nrm x y z)) (dot (nrm x y z) (sub x p)) (dot ray (vec (sub x p) (sub y p))) (dot ray (vec (sub y p) (sub z p))) (dot ray (vec (sub z p) (sub x p))) (sg (dot ray (nrm x y z))) (sg (dot (nrm x y z) (sub x p))) (sg (dot ray (vec (sub x p) (sub y p)))) (sg (dot ray (vec (sub y p) (sub z p)))) (sg (dot ray (vec (sub z p) (sub x p)))) := by
  have bx := sub_bd hx hp
  have bY := sub_bd hy hp
  have bz := sub_bd hz hp
  have n := nrm_bd hx hy hz
  have mn (q : P3) (h : BdP (64 + 256) (sub q p)) := Lib.hid fun W => rminus_any q p W (h.mono (by decide))
  have cx (q r : P3) (h : BdP (64 + 256) q) (k : BdP (64 + 256) r) := Lib.hid fun W => cross_any q r W (h.mono (by decide)) (k.mono (by decide))
  have vb (q r : P3) (h : BdP (64 + 256) q) (k : BdP (64 + 256) r) : BdP 262144 (vec q r) := (vec_bd h k).mono (by decide)
  exact ⟨mn x bx, mn y bY, mn z bz, Lib.hid fun W => across_any x y z W (hx.mono (by decide)) (hy.mono (by decide)) (hz.mono (by decide)), Lib.hid fun W => rdot_any ray (nrm x y z) W (ray_bd (n.mono (by decide))), Lib.hid fun W => rdot_any (nrm x y z) (sub x p) W ((pw_bd2 n bx).mono (by decide)),
    cx _ _ bx bY, cx _ _ bY bz, cx _ _ bz bx, Lib.hid fun W => rdot_any ray _ W (ray_bd (vb _ _ bx bY)), Lib.hid fun W => rdot_any ray _ W (ray_bd (vb _ _ bY bz)), Lib.hid fun W => rdot_any ray _ W (ray_bd (vb _ _ bz bx)),
    Lib.hid fun W => sign_any _ W, Lib.hid fun W => sign_any _ W, Lib.hid fun W => sign_any _ W, Lib.hid fun W => sign_any _ W, Lib.hid fun W => sign_any _ W⟩
set_option maxRecDepth 100000 in
set_option maxHeartbeats 40000000 in
theorem rwn_row (b off np c b' off' nf c' : Nat) (p : P3) (P F : Nat → P3) (w : World) (AC : Hid (∀ W, Below w.heap.size w W → Calls Try.prog 36 #[msv (some ⟨b, off, none⟩) np c (some ⟨b', off', none⟩) nf c', ptv p] W fun e w' => e = .returned (.int .i64 0) ∧ Below W.heap.size W w')) (OC : Hid (∀ W, Below w.heap.size w W → Calls Try.prog 37 #[msv (some ⟨b, off, none⟩) np c (some ⟨b', off', none⟩) nf c', ptv p] W fun e w' => e = .returned (.bool false) ∧ Below W.heap.size W w')) (rp : Row3 w b off np P) (r : Row3 w b' off' nf F) (hn : np ≤ 1000000) (hm : nf ≤ 96) (nr : ∀ k, k < nf → Fok np (F k)) (tb : TrB P F nf) (hp : BdP 256 p) :
    Calls Try.prog 11 #[msv (some ⟨b, off, none⟩) np c (some ⟨b', off', none⟩) nf c', ptv p] w fun e w' => e = .returned (.tuple #[.int .i64 (wnB (Tr P F) p nf), .int .i64 0]) ∧ Below w.heap.size w w' := by
  have NR := Lib.hid nr
  have TB := Lib.hid tb
  have RP := Lib.hid rp
  have RF := Lib.hid r
  have HP := Lib.hid hp
  have hm' : (nf : Int) ≤ 96 := by omega
  clear rp r nr tb hp
  have XM0 := Lib.hid (mes_alloc (mes_new w (some ⟨b, off, none⟩) np c (some ⟨b', off', none⟩) nf c' 25) (ptc p 27))
  have XP0 := Lib.hid (by have z := own_new (w.alloc (msc (some ⟨b, off, none⟩) np c (some ⟨b', off', none⟩) nf c' 25)) p 27; simp only [World.size_alloc] at z; exact z : Own ((w.alloc (msc (some ⟨b, off, none⟩) np c (some ⟨b', off', none⟩) nf c' 25)).alloc (ptc p 27)) (w.heap.size + 1) p)
  go_enter Try.func11, Try.ntmps11
  go_wp2_with fail
  refine (AC.out _ (by (repeat' (first | exact Below.refl _ _ | refine Below.setCell ?_ (by simp <;> omega) _ | refine balloc ?_ _ | refine Below.drew ?_ | refine bdrewN ?_ _)))).mono ?_
  rintro e w1 ⟨rfl, hb1⟩
  have XM := Lib.hid (mes_below XM0.out hb1)
  have XP := Lib.hid (own_below XP0.out hb1)
  have B1 := Lib.hid (bstep (balloc (balloc (Below.refl _ w) _) _) hb1)
  clear hb1 XM0 XP0
  obtain ⟨m1, m2, m3⟩ := XM.out
  have XP' := XP.out
  obtain ⟨q1, q2, q3, q4, q5, q6, q7⟩ := XP'
  go_wp2_with fail
  refine (OC.out _ B1.out).mono ?_
  rintro e w2 ⟨rfl, hb2⟩
  clear m1 m2 m3
  clear q1 q2 q3 q4 q5 q6 q7
  have XM := Lib.hid (mes_below XM.out hb2)
  have XP := Lib.hid (own_below XP.out hb2)
  have B2 := Lib.hid (bstep B1.out hb2)
  clear hb2
  obtain ⟨rb, eB⟩ : ∃ rb, w2.heap.size = rb := ⟨_, rfl⟩
  have LR := Lib.hid (show w.heap.size + 1 < rb from eB ▸ XP.out.2.2.2.2.2.2)
  have ST := Lib.hid (show Own (w2.alloc (.cells #[.int .i64 1, .int .i64 1048576, .int .i64 1099511627776] 27)) (w.heap.size + 1) p ∧ Own (w2.alloc (.cells #[.int .i64 1, .int .i64 1048576, .int .i64 1099511627776] 27)) rb ray ∧ Mes (w2.alloc (.cells #[.int .i64 1, .int .i64 1048576, .int .i64 1099511627776] 27)) w.heap.size (some ⟨b, off, none⟩) np c (some ⟨b', off', none⟩) nf c' ∧ Below w.heap.size w (w2.alloc (.cells #[.int .i64 1, .int .i64 1048576, .int .i64 1099511627776] 27)) from ⟨own_alloc XP.out _, eB ▸ own_new w2 ray 27, mes_alloc XM.out _, balloc B2.out _⟩)
  clear XM XP B1 B2
  go_wp2
  clear eB
  go_loopw [8, 9] (fun sv kv wr => ∃ k : Nat, k ≤ nf ∧ kv = .int .i64 k ∧ sv = .int .i64 (wnB (Tr P F) p k) ∧ Own wr (w.heap.size + 1) p ∧ Own wr rb ray ∧ Mes wr w.heap.size (some ⟨b, off, none⟩) np c (some ⟨b', off', none⟩) nf c' ∧ Below w.heap.size w wr) (fun _ kv _ => nf - (intOf kv).toNat)
  case atStart => exact ⟨0, Nat.zero_le _, by first | rfl | trivial, by first | rfl | trivial, ST.out⟩
  case round =>
    clear ST
    obtain ⟨k, hk, rfl, rfl, st⟩ := hrel
    have ST := Lib.hid st
    clear st
    obtain ⟨m1, m2, m3⟩ := ST.out.2.2.1
    by_cases hlt : k < nf
    · have hk1 : (k : Int) < (nf : Int) := by omega
      obtain ⟨xn, yn, zn, hq, hx, hy, hz⟩ := fok_nat (NR.out k hlt)
      have CN := Lib.hid (fun W (B : Below w.heap.size w W) => corners_nat b off np c b' off' nf c' k xn yn zn P F W (row3_below RP.out B) (row3_below RF.out B) hlt hx hy hz hn (by omega) hq)
      have t := TB.out k hlt
      have hT : Tr P F k = (P xn, P yn, P zn) := by unfold Tr; rw [hq]; rfl
      have NX := Lib.hid (show wnB (Tr P F) p (k + 1) = wnB (Tr P F) p k + croP p (Tr P F k) from rfl)
      have wb := wnB_bd (Tr P F) p k
      rw [hT] at t NX
      clear hT hq
      generalize P xn = x at *
      generalize P yn = y at *
      generalize P zn = z at *
      generalize wnB (Tr P F) p k = sm at *
      have RC := rwc_of x y z p t.1 t.2.1 t.2.2 HP.out
      have cb := croP_bd p (x, y, z)
      have CX0 := Lib.hid (cro_no (p := p) (x := x) (y := y) (z := z))
      have CX1 := Lib.hid (cro_if (p := p) (x := x) (y := y) (z := z))
      have tb0 := sg_bd (dot ray (nrm x y z))
      clear t
      generalize croP p (x, y, z) = cv at *
      generalize sg (dot ray (nrm x y z)) = th at *
      generalize sg (dot (nrm x y z) (sub x p)) = s0 at *
      generalize sg (dot ray (vec (sub x p) (sub y p))) = s1 at *
      generalize sg (dot ray (vec (sub y p) (sub z p))) = s2 at *
      generalize sg (dot ray (vec (sub z p) (sub x p))) = s3 at *
      generalize dot ray (nrm x y z) = e0 at *
      generalize dot (nrm x y z) (sub x p) = d0 at *
      generalize dot ray (vec (sub x p) (sub y p)) = r1 at *
      generalize dot ray (vec (sub y p) (sub z p)) = r2 at *
      generalize dot ray (vec (sub z p) (sub x p)) = r3 at *
      generalize vec (sub x p) (sub y p) = v1 at *
      generalize vec (sub y p) (sub z p) = v2 at *
      generalize vec (sub z p) (sub x p) = v3 at *
      generalize nrm x y z = n at *
      generalize sub x p = A at *
      generalize sub y p = D at *
      generalize sub z p = E at *
      obtain ⟨M1, M2, M3, NN, DR, DA, X1, X2, X3, R1, R2, R3, GR, GA, G1, G2, G3⟩ := RC
      go_wp2_with fail
      refine (CN.out _ ST.out.2.2.2).mono ?_
      rintro e u0 ⟨rfl, hb0⟩
      have LP := Lib.hid (show rb < u0.heap.size from Nat.lt_of_lt_of_le ST.out.2.1.2.2.2.2.2.2 hb0.size)
      have NT := Lib.hid (show NST w (u0.alloc (pnc x y z 77)) u0.heap.size rb (some ⟨b, off, none⟩) np c (some ⟨b', off', none⟩) nf c' x y z p (u0.heap.size + 1) none none none (0, 0, 0) (0, 0, 0) (0, 0, 0) from ⟨⟨pan_new u0 x y z 77, own_alloc (own_below ST.out.1 hb0) _, own_alloc (own_below ST.out.2.1 hb0) _, mes_alloc (mes_below ST.out.2.2.1 hb0) _, balloc (bstep ST.out.2.2.2 hb0) _⟩, a1_none _ _ _, a1_none _ _ _, a1_none _ _ _, fun _ _ e => (by cases e), fun _ _ e => (by cases e), fun _ _ e => (by cases e), by simp⟩)
      clear m1 m2 m3 hb0 ST
      go_wp2
      have NT := Lib.hid (nst_below NT.out (Below.drew (Below.refl _ _)))
      refine wp_region_HU (fun w' => (w'.cell? ⟨w.heap.size + 1, 0, none⟩ = some (.int .i64 p.1) ∧ w'.cell? ⟨w.heap.size + 1, 1, none⟩ = some (.int .i64 p.2.1) ∧ w'.cell? ⟨w.heap.size + 1, 2, none⟩ = some (.int .i64 p.2.2)) ∧ w'.cell? ⟨u0.heap.size, 0, none⟩ = some (.int .i64 x.1) ∧ w'.cell? ⟨u0.heap.size, 1, none⟩ = some (.int .i64 x.2.1) ∧ w'.cell? ⟨u0.heap.size, 2, none⟩ = some (.int .i64 x.2.2) ∧ w'.cell? ⟨u0.heap.size, 3, none⟩ = some (.int .i64 y.1) ∧ w'.cell? ⟨u0.heap.size, 4, none⟩ = some (.int .i64 y.2.1) ∧ w'.cell? ⟨u0.heap.size, 5, none⟩ = some (.int .i64 y.2.2) ∧ w'.cell? ⟨u0.heap.size, 6, none⟩ = some (.int .i64 z.1) ∧ w'.cell? ⟨u0.heap.size, 7, none⟩ = some (.int .i64 z.2.1) ∧ w'.cell? ⟨u0.heap.size, 8, none⟩ = some (.int .i64 z.2.2)) (fun i => i != 0 && (i != 4 && i != 8)) (by kernel_rfl) (nst_cells NT.out) (fun HS => ?_)
      refine wpHU_take0 (i := 0) (v := ?_) rfl (by kernel_rfl) (by kernel_rfl) (by kernel_rfl) (by kernel_rfl) (fun _ _ _ h => h) (Or.inl ⟨by rfl, ?_⟩) ?_
      rotate_left
      · (intro w' _; go_simp; (try with_reducible rfl))
      refine wpHU_take0 (i := 4) (v := ?_) rfl (by kernel_rfl) (by kernel_rfl) (by kernel_rfl) (by kernel_rfl) (fun _ _ _ h => h) (Or.inl ⟨by rfl, ?_⟩) ?_
      rotate_left
      · (intro w' _; go_simp; (try with_reducible rfl))
      refine wpHU_take0 (i := 8) (v := ?_) rfl (by kernel_rfl) (by kernel_rfl) (by kernel_rfl) (by kernel_rfl) (fun _ _ _ h => h) (Or.inl ⟨by rfl, ?_⟩) ?_
      rotate_left
      · (intro w' _; go_simp; (try with_reducible rfl))
      refine wpHU_take (i := 1) (v := ?_) rfl (by kernel_rfl) (by kernel_rfl) (by kernel_rfl) (by kernel_rfl) (fun _ _ _ h => h) (Or.inl ⟨by rfl, ?_⟩) HS ?_
      rotate_left
      · (intro w' hSw; (try dsimp only at hSw); go_simp; (try with_reducible rfl))
      refine wpHU_take (i := 2) (v := ?_) rfl (by kernel_rfl) (by kernel_rfl) (by kernel_rfl) (by kernel_rfl) (fun _ _ _ h => h) (Or.inl ⟨by rfl, ?_⟩) HS ?_
      rotate_left
      · (intro w' hSw; (try dsimp only at hSw); go_simp; (try with_reducible rfl))
      refine wpHU_take (i := 5) (v := ?_) rfl (by kernel_rfl) (by kernel_rfl) (by kernel_rfl) (by kernel_rfl) (fun _ _ _ h => h) (Or.inl ⟨by rfl, ?_⟩) HS ?_
      rotate_left
      · (intro w' hSw; (try dsimp only at hSw); go_simp; (try with_reducible rfl))
      refine wpHU_take (i := 6) (v := ?_) rfl (by kernel_rfl) (by kernel_rfl) (by kernel_rfl) (by kernel_rfl) (fun _ _ _ h => h) (Or.inl ⟨by rfl, ?_⟩) HS ?_
      rotate_left
      · (intro w' hSw; (try dsimp only at hSw); go_simp; (try with_reducible rfl))
      refine wpHU_take (i := 9) (v := ?_) rfl (by kernel_rfl) (by kernel_rfl) (by kernel_rfl) (by kernel_rfl) (fun _ _ _ h => h) (Or.inl ⟨by rfl, ?_⟩) HS ?_
      rotate_left
      · (intro w' hSw; (try dsimp only at hSw); go_simp; (try with_reducible rfl))
      refine wpHU_take (i := 10) (v := ?_) rfl (by kernel_rfl) (by kernel_rfl) (by kernel_rfl) (by kernel_rfl) (fun _ _ _ h => h) (Or.inl ⟨by rfl, ?_⟩) HS ?_
      rotate_left
      · (intro w' hSw; (try dsimp only at hSw); go_simp; (try with_reducible rfl))
      clear HS
      refine wpHU_name (fun a0 ha => ?_)
      obtain ⟨U1, h1⟩ : ∃ U, U = a0.tmps.getD 38 undef := ⟨_, rfl⟩
      obtain ⟨U2, h2⟩ : ∃ U, U = a0.tmps.getD 42 undef := ⟨_, rfl⟩
      obtain ⟨U3, h3⟩ : ∃ U, U = a0.tmps.getD 46 undef := ⟨_, rfl⟩
      obtain ⟨U4, h4⟩ : ∃ U, U = a0.tmps.getD 11 undef := ⟨_, rfl⟩
      obtain ⟨U5, h5⟩ : ∃ U, U = a0.tmps.getD 12 undef := ⟨_, rfl⟩
      obtain ⟨U6, h6⟩ : ∃ U, U = a0.tmps.getD 13 undef := ⟨_, rfl⟩
      refine wpHU_enter (l' := (fun n d1 d2 d3 => #[true, true, true, decide (0 < n), true, true, true, decide (1 < n), true, true, true, decide (2 < n), d1, d2, d3, false, false, false] : Nat → Bool → Bool → Bool → Array Bool) 0 false false false) (a' := (fun x1 x2 x3 y1 y2 y3 => ((((((a0.put (some 38) x1).put (some 42) x2).put (some 46) x3).put (some 11) y1).put (some 12) y2).put (some 13) y3) : Value → Value → Value → Value → Value → Value → Act) U1 U2 U3 U4 U5 U6) (f' := 3 + 6) (by kernel_rfl) (by subst h1 h2 h3 h4 h5 h6 ha; kernel_rfl) rfl ?_
      refine wpHU_net (fun W q1 q2 q3 => NST w W u0.heap.size rb (some ⟨b, off, none⟩) np c (some ⟨b', off', none⟩) nf c' x y z p (u0.heap.size + 1) q1 q2 q3 (0, 0, 0) (0, 0, 0) (0, 0, 0)) (fun x1 x2 x3 y1 y2 y3 => ((((((a0.put (some 38) x1).put (some 42) x2).put (some 46) x3).put (some 11) y1).put (some 12) y2).put (some 13) y3)) (ptv A) (ptv D) (ptv E) U1 U2 U3 U4 U5 U6 (fun n d1 d2 d3 => #[true, true, true, decide (0 < n), true, true, true, decide (1 < n), true, true, true, decide (2 < n), d1, d2, d3, false, false, false]) 3 7 11 12 13 14 3
        ?_ (fun d1 d2 d3 => rfl) (fun d1 d2 d3 => rfl) (fun d1 d2 d3 => rfl) (fun n d2 d3 _ => rfl) (fun n d1 d3 _ => rfl) (fun n d1 d2 _ => rfl) (fun W q1 q2 q3 h => nst_cells h) ?_ ?_ ?_ ?_ ?_ ?_ ?_ 6 0 none none none _ (by omega) rfl NT.out
      · intro n q1 q2 q3 hn3 hl
        have hn4 : n = 0 ∨ n = 1 ∨ n = 2 ∨ n = 3 := by omega
        rcases hn4 with rfl | rfl | rfl | rfl <;> cases q1 <;> cases q2 <;> cases q3 <;> first | (exfalso; revert hl; simp [left]; done) | (show _ = _; kernel_rfl)
      · intro y1 y2 y3 q1 q2 q3 W K hst hk
        have HT := Lib.hid hst
        have HK := Lib.hid hk
        clear hst hk h1 h2 h3 h4 h5 h6
        subst ha
        refine wpOp_step rfl (fun K' hK => ?_)
        have HK' := Shut.intro' hK
        clear hK
        go_simp
        go_at_call 40
        refine (M1.out _).mono ?_
        rintro e v ⟨rfl, hv⟩
        have HV := Lib.hid hv
        clear hv
        go_wp2_with fail
        refine HK'.out _ _ ?_
        exact k_eq (by kernel_rfl) (HK.out v (nst_below HT.out HV.out))
      · intro y1 y2 y3 q1 q2 q3 W K hst hk
        have HT := Lib.hid hst
        have HK := Lib.hid hk
        clear hst hk h1 h2 h3 h4 h5 h6
        subst ha
        refine wpOp_step rfl (fun K' hK => ?_)
        have HK' := Shut.intro' hK
        clear hK
        go_simp
        go_at_call 40
        refine (M2.out _).mono ?_
        rintro e v ⟨rfl, hv⟩
        have HV := Lib.hid hv
        clear hv
        go_wp2_with fail
        refine HK'.out _ _ ?_
        exact k_eq (by kernel_rfl) (HK.out v (nst_below HT.out HV.out))
      · intro y1 y2 y3 q1 q2 q3 W K hst hk
        have HT := Lib.hid hst
        have HK := Lib.hid hk
        clear hst hk h1 h2 h3 h4 h5 h6
        subst ha
        refine wpOp_step rfl (fun K' hK => ?_)
        have HK' := Shut.intro' hK
        clear hK
        go_simp
        go_at_call 40
        refine (M3.out _).mono ?_
        rintro e v ⟨rfl, hv⟩
        have HV := Lib.hid hv
        clear hv
        go_wp2_with fail
        refine HK'.out _ _ ?_
        exact k_eq (by kernel_rfl) (HK.out v (nst_below HT.out HV.out))
      · intro x1 x2 x3 y2 y3 q2 q3 W K hst hk
        have zz := hk W.heap.size _ (nst_a1 hst rfl)
        have Z2 := Lib.hid zz
        clear hst hk zz h1 h2 h3 h4 h5 h6
        subst ha
        refine wpOp_step rfl (fun K' hK => ?_)
        have HK' := Shut.intro' hK
        clear hK
        go_simp
        refine HK'.out _ _ ?_
        exact k_eq (by kernel_rfl) Z2.out
      · intro x1 x2 x3 y1 y3 q1 q3 W K hst hk
        have zz := hk W.heap.size _ (nst_a2 hst rfl)
        have Z2 := Lib.hid zz
        clear hst hk zz h1 h2 h3 h4 h5 h6
        subst ha
        refine wpOp_step rfl (fun K' hK => ?_)
        have HK' := Shut.intro' hK
        clear hK
        go_simp
        refine HK'.out _ _ ?_
        exact k_eq (by kernel_rfl) Z2.out
      · intro x1 x2 x3 y1 y2 q1 q2 W K hst hk
        have zz := hk W.heap.size _ (nst_a3 hst rfl)
        have Z2 := Lib.hid zz
        clear hst hk zz h1 h2 h3 h4 h5 h6
        subst ha
        refine wpOp_step rfl (fun K' hK => ?_)
        have HK' := Shut.intro' hK
        clear hK
        go_simp
        refine HK'.out _ _ ?_
        exact k_eq (by kernel_rfl) Z2.out
      · intro b1 b2 b3 W hst
        have HT := Lib.hid hst
        clear hst h1 h2 h3 h4 h5 h6
        subst ha
        dsimp only [pq]
        have HS1 := Lib.hid (nst_s1 A HT.out (by omega) (by have := LR.out; have := LP.out; omega) (by have := LP.out; omega))
        obtain ⟨i1, i2, i3, i4, i5, i6, i7⟩ := (HT.out.2.1 b1 rfl).1
        refine wpHU_one (i := 15) (by kernel_rfl) rfl (fun K' hK => ?_)
        have HK' := Shut.intro' hK
        clear hK
        go_simp
        refine HK'.out _ _ (nst_cells HS1.out) (fun _ => ?_)
        clear HK' i1 i2 i3 i4 i5 i6 i7
        have HS2 := Lib.hid (nst_s2 D HS1.out (by omega) (by have := LR.out; have := LP.out; omega) (by have := LP.out; omega))
        obtain ⟨i1, i2, i3, i4, i5, i6, i7⟩ := (HS1.out.2.2.1 b2 rfl).1
        refine wpHU_one (i := 16) (by kernel_rfl) rfl (fun K' hK => ?_)
        have HK' := Shut.intro' hK
        clear hK
        go_simp
        refine HK'.out _ _ (nst_cells HS2.out) (fun _ => ?_)
        clear HK' i1 i2 i3 i4 i5 i6 i7
        have HS3 := Lib.hid (nst_s3 E HS2.out (by omega) (by have := LR.out; have := LP.out; omega) (by have := LP.out; omega))
        obtain ⟨i1, i2, i3, i4, i5, i6, i7⟩ := (HS2.out.2.2.2.1 b3 rfl).1
        refine wpHU_one (i := 17) (by kernel_rfl) rfl (fun K' hK => ?_)
        have HK' := Shut.intro' hK
        clear hK
        go_simp
        refine HK'.out _ _ (nst_cells HS3.out) (fun _ => ?_)
        clear HK' i1 i2 i3 i4 i5 i6 i7
        have X := Lib.hid (nst_fin HS3.out)
        clear HT HS1 HS2 HS3
        refine wpHU_done (by kernel_rfl) ?_ _
        go_wp2
        have X := Lib.hid (wr2_drew X.out)
        go_region_held3 (fun w' => (w'.cell? ⟨rb, 0, none⟩ = some (.int .i64 1) ∧ w'.cell? ⟨rb, 1, none⟩ = some (.int .i64 1048576) ∧ w'.cell? ⟨rb, 2, none⟩ = some (.int .i64 1099511627776)) ∧ (w'.cell? ⟨b1, 0, none⟩ = some (.int .i64 A.1) ∧ w'.cell? ⟨b1, 1, none⟩ = some (.int .i64 A.2.1) ∧ w'.cell? ⟨b1, 2, none⟩ = some (.int .i64 A.2.2)) ∧ (w'.cell? ⟨b2, 0, none⟩ = some (.int .i64 D.1) ∧ w'.cell? ⟨b2, 1, none⟩ = some (.int .i64 D.2.1) ∧ w'.cell? ⟨b2, 2, none⟩ = some (.int .i64 D.2.2)) ∧ (w'.cell? ⟨b3, 0, none⟩ = some (.int .i64 E.1) ∧ w'.cell? ⟨b3, 1, none⟩ = some (.int .i64 E.2.1) ∧ w'.cell? ⟨b3, 2, none⟩ = some (.int .i64 E.2.2)) ∧ w'.cell? ⟨u0.heap.size, 0, none⟩ = some (.int .i64 x.1) ∧ w'.cell? ⟨u0.heap.size, 1, none⟩ = some (.int .i64 x.2.1) ∧ w'.cell? ⟨u0.heap.size, 2, none⟩ = some (.int .i64 x.2.2) ∧ w'.cell? ⟨u0.heap.size, 3, none⟩ = some (.int .i64 y.1) ∧ w'.cell? ⟨u0.heap.size, 4, none⟩ = some (.int .i64 y.2.1) ∧ w'.cell? ⟨u0.heap.size, 5, none⟩ = some (.int .i64 y.2.2) ∧ w'.cell? ⟨u0.heap.size, 6, none⟩ = some (.int .i64 z.1) ∧ w'.cell? ⟨u0.heap.size, 7, none⟩ = some (.int .i64 z.2.1) ∧ w'.cell? ⟨u0.heap.size, 8, none⟩ = some (.int .i64 z.2.2))
          (first | with_reducible exact wr2_cells X.out | fail)
          (first | (go_at_call 43; (with_reducible refine (NN.out _).mono ?_); rintro e vv ⟨rfl, hv⟩; have X := Lib.hid (wr2_below X.out hv)) | (go_at_call 42; (with_reducible refine (DR.out _).mono ?_); rintro e vv ⟨rfl, hv⟩; have X := Lib.hid (wr2_below X.out hv)) | (go_at_call 41; (with_reducible refine (GR.out _).mono ?_); rintro e vv ⟨rfl, rfl⟩) | fail)
        by_cases c0 : s0 = th
        · have f0 : (s0 != th) = false := by rw [c0]; simp
          go_wp2
          have X := Lib.hid (wr2_drew X.out)
          go_region_held3 (fun w' => (w'.cell? ⟨rb, 0, none⟩ = some (.int .i64 1) ∧ w'.cell? ⟨rb, 1, none⟩ = some (.int .i64 1048576) ∧ w'.cell? ⟨rb, 2, none⟩ = some (.int .i64 1099511627776)) ∧ (w'.cell? ⟨b1, 0, none⟩ = some (.int .i64 A.1) ∧ w'.cell? ⟨b1, 1, none⟩ = some (.int .i64 A.2.1) ∧ w'.cell? ⟨b1, 2, none⟩ = some (.int .i64 A.2.2)) ∧ (w'.cell? ⟨b2, 0, none⟩ = some (.int .i64 D.1) ∧ w'.cell? ⟨b2, 1, none⟩ = some (.int .i64 D.2.1) ∧ w'.cell? ⟨b2, 2, none⟩ = some (.int .i64 D.2.2)) ∧ (w'.cell? ⟨b3, 0, none⟩ = some (.int .i64 E.1) ∧ w'.cell? ⟨b3, 1, none⟩ = some (.int .i64 E.2.1) ∧ w'.cell? ⟨b3, 2, none⟩ = some (.int .i64 E.2.2)) ∧ w'.cell? ⟨u0.heap.size, 0, none⟩ = some (.int .i64 x.1) ∧ w'.cell? ⟨u0.heap.size, 1, none⟩ = some (.int .i64 x.2.1) ∧ w'.cell? ⟨u0.heap.size, 2, none⟩ = some (.int .i64 x.2.2) ∧ w'.cell? ⟨u0.heap.size, 3, none⟩ = some (.int .i64 y.1) ∧ w'.cell? ⟨u0.heap.size, 4, none⟩ = some (.int .i64 y.2.1) ∧ w'.cell? ⟨u0.heap.size, 5, none⟩ = some (.int .i64 y.2.2) ∧ w'.cell? ⟨u0.heap.size, 6, none⟩ = some (.int .i64 z.1) ∧ w'.cell? ⟨u0.heap.size, 7, none⟩ = some (.int .i64 z.2.1) ∧ w'.cell? ⟨u0.heap.size, 8, none⟩ = some (.int .i64 z.2.2))
            (first | with_reducible exact wr2_cells X.out | fail)
            (first | (go_at_call 43; (with_reducible refine (NN.out _).mono ?_); rintro e vv ⟨rfl, hv⟩; have X := Lib.hid (wr2_below X.out hv)) | (go_at_call 42; (with_reducible refine (DA.out _).mono ?_); rintro e vv ⟨rfl, hv⟩; have X := Lib.hid (wr2_below X.out hv)) | (go_at_call 41; (with_reducible refine (GA.out _).mono ?_); rintro e vv ⟨rfl, rfl⟩) | fail)
          have CE := Lib.hid (CX1.out c0)
          go_wp2
          by_cases c1 : s1 = th
          · have g1 : (s1 == th) = true := by simp [c1]
            have t1 : decide (s1 = th) = true := decide_eq_true c1
            by_cases c2 : s2 = th
            · have g2 : (s2 == th) = true := by simp [c2]
              have t2 : decide (s2 = th) = true := decide_eq_true c2
              by_cases c3 : s3 = th
              · have g3 : (s3 == th) = true := by simp [c3]
                have t3 : decide (s3 = th) = true := decide_eq_true c3
                have X := Lib.hid (wr2_drew X.out)
                go_region_held3 (fun w' => (w'.cell? ⟨rb, 0, none⟩ = some (.int .i64 1) ∧ w'.cell? ⟨rb, 1, none⟩ = some (.int .i64 1048576) ∧ w'.cell? ⟨rb, 2, none⟩ = some (.int .i64 1099511627776)) ∧ (w'.cell? ⟨b1, 0, none⟩ = some (.int .i64 A.1) ∧ w'.cell? ⟨b1, 1, none⟩ = some (.int .i64 A.2.1) ∧ w'.cell? ⟨b1, 2, none⟩ = some (.int .i64 A.2.2)) ∧ (w'.cell? ⟨b2, 0, none⟩ = some (.int .i64 D.1) ∧ w'.cell? ⟨b2, 1, none⟩ = some (.int .i64 D.2.1) ∧ w'.cell? ⟨b2, 2, none⟩ = some (.int .i64 D.2.2)) ∧ (w'.cell? ⟨b3, 0, none⟩ = some (.int .i64 E.1) ∧ w'.cell? ⟨b3, 1, none⟩ = some (.int .i64 E.2.1) ∧ w'.cell? ⟨b3, 2, none⟩ = some (.int .i64 E.2.2)) ∧ w'.cell? ⟨u0.heap.size, 0, none⟩ = some (.int .i64 x.1) ∧ w'.cell? ⟨u0.heap.size, 1, none⟩ = some (.int .i64 x.2.1) ∧ w'.cell? ⟨u0.heap.size, 2, none⟩ = some (.int .i64 x.2.2) ∧ w'.cell? ⟨u0.heap.size, 3, none⟩ = some (.int .i64 y.1) ∧ w'.cell? ⟨u0.heap.size, 4, none⟩ = some (.int .i64 y.2.1) ∧ w'.cell? ⟨u0.heap.size, 5, none⟩ = some (.int .i64 y.2.2) ∧ w'.cell? ⟨u0.heap.size, 6, none⟩ = some (.int .i64 z.1) ∧ w'.cell? ⟨u0.heap.size, 7, none⟩ = some (.int .i64 z.2.1) ∧ w'.cell? ⟨u0.heap.size, 8, none⟩ = some (.int .i64 z.2.2))
                  (first | with_reducible exact wr2_cells X.out | fail)
                  (first | (go_at_call 44; (with_reducible refine (X1.out _).mono ?_); rintro e vv ⟨rfl, hv⟩; have X := Lib.hid (wr2_below X.out hv)) | (go_at_call 44; (with_reducible refine (X2.out _).mono ?_); rintro e vv ⟨rfl, hv⟩; have X := Lib.hid (wr2_below X.out hv)) | (go_at_call 44; (with_reducible refine (X3.out _).mono ?_); rintro e vv ⟨rfl, hv⟩; have X := Lib.hid (wr2_below X.out hv)) | (go_at_call 42; (with_reducible refine (R1.out _).mono ?_); rintro e vv ⟨rfl, hv⟩; have X := Lib.hid (wr2_below X.out hv)) | (go_at_call 42; (with_reducible refine (R2.out _).mono ?_); rintro e vv ⟨rfl, hv⟩; have X := Lib.hid (wr2_below X.out hv)) | (go_at_call 42; (with_reducible refine (R3.out _).mono ?_); rintro e vv ⟨rfl, hv⟩; have X := Lib.hid (wr2_below X.out hv)) | (go_at_call 41; (with_reducible refine (G1.out _).mono ?_); rintro e vv ⟨rfl, rfl⟩) | (go_at_call 41; (with_reducible refine (G2.out _).mono ?_); rintro e vv ⟨rfl, rfl⟩) | (go_at_call 41; (with_reducible refine (G3.out _).mono ?_); rintro e vv ⟨rfl, rfl⟩) | fail)
                go_wp2
                go_roundw
                case rel => exact ⟨k + 1, by omega, by go_num, by rw [NX.out, CE.out, if_pos ⟨c1, c2, c3⟩], (wr2_own X.out).1, (wr2_own X.out).2.1, (wr2_own X.out).2.2.1, (wr2_own X.out).2.2.2⟩
                case measure => simp [intOf]; omega
              · have g3 : (s3 == th) = false := by simp [c3]
                have t3 : decide (s3 = th) = false := decide_eq_false c3
                have X := Lib.hid (wr2_drew X.out)
                go_region_held3 (fun w' => (w'.cell? ⟨rb, 0, none⟩ = some (.int .i64 1) ∧ w'.cell? ⟨rb, 1, none⟩ = some (.int .i64 1048576) ∧ w'.cell? ⟨rb, 2, none⟩ = some (.int .i64 1099511627776)) ∧ (w'.cell? ⟨b1, 0, none⟩ = some (.int .i64 A.1) ∧ w'.cell? ⟨b1, 1, none⟩ = some (.int .i64 A.2.1) ∧ w'.cell? ⟨b1, 2, none⟩ = some (.int .i64 A.2.2)) ∧ (w'.cell? ⟨b2, 0, none⟩ = some (.int .i64 D.1) ∧ w'.cell? ⟨b2, 1, none⟩ = some (.int .i64 D.2.1) ∧ w'.cell? ⟨b2, 2, none⟩ = some (.int .i64 D.2.2)) ∧ (w'.cell? ⟨b3, 0, none⟩ = some (.int .i64 E.1) ∧ w'.cell? ⟨b3, 1, none⟩ = some (.int .i64 E.2.1) ∧ w'.cell? ⟨b3, 2, none⟩ = some (.int .i64 E.2.2)) ∧ w'.cell? ⟨u0.heap.size, 0, none⟩ = some (.int .i64 x.1) ∧ w'.cell? ⟨u0.heap.size, 1, none⟩ = some (.int .i64 x.2.1) ∧ w'.cell? ⟨u0.heap.size, 2, none⟩ = some (.int .i64 x.2.2) ∧ w'.cell? ⟨u0.heap.size, 3, none⟩ = some (.int .i64 y.1) ∧ w'.cell? ⟨u0.heap.size, 4, none⟩ = some (.int .i64 y.2.1) ∧ w'.cell? ⟨u0.heap.size, 5, none⟩ = some (.int .i64 y.2.2) ∧ w'.cell? ⟨u0.heap.size, 6, none⟩ = some (.int .i64 z.1) ∧ w'.cell? ⟨u0.heap.size, 7, none⟩ = some (.int .i64 z.2.1) ∧ w'.cell? ⟨u0.heap.size, 8, none⟩ = some (.int .i64 z.2.2))
                  (first | with_reducible exact wr2_cells X.out | fail)
                  (first | (go_at_call 44; (with_reducible refine (X1.out _).mono ?_); rintro e vv ⟨rfl, hv⟩; have X := Lib.hid (wr2_below X.out hv)) | (go_at_call 44; (with_reducible refine (X2.out _).mono ?_); rintro e vv ⟨rfl, hv⟩; have X := Lib.hid (wr2_below X.out hv)) | (go_at_call 44; (with_reducible refine (X3.out _).mono ?_); rintro e vv ⟨rfl, hv⟩; have X := Lib.hid (wr2_below X.out hv)) | (go_at_call 42; (with_reducible refine (R1.out _).mono ?_); rintro e vv ⟨rfl, hv⟩; have X := Lib.hid (wr2_below X.out hv)) | (go_at_call 42; (with_reducible refine (R2.out _).mono ?_); rintro e vv ⟨rfl, hv⟩; have X := Lib.hid (wr2_below X.out hv)) | (go_at_call 42; (with_reducible refine (R3.out _).mono ?_); rintro e vv ⟨rfl, hv⟩; have X := Lib.hid (wr2_below X.out hv)) | (go_at_call 41; (with_reducible refine (G1.out _).mono ?_); rintro e vv ⟨rfl, rfl⟩) | (go_at_call 41; (with_reducible refine (G2.out _).mono ?_); rintro e vv ⟨rfl, rfl⟩) | (go_at_call 41; (with_reducible refine (G3.out _).mono ?_); rintro e vv ⟨rfl, rfl⟩) | fail)
                go_wp2
                go_roundw
                case rel => exact ⟨k + 1, by omega, by go_num, by rw [NX.out, CE.out, if_neg (fun h => c3 h.2.2), Int.add_zero], (wr2_own X.out).1, (wr2_own X.out).2.1, (wr2_own X.out).2.2.1, (wr2_own X.out).2.2.2⟩
                case measure => simp [intOf]; omega
            · have g2 : (s2 == th) = false := by simp [c2]
              have t2 : decide (s2 = th) = false := decide_eq_false c2
              have X := Lib.hid (wr2_drew X.out)
              refine wp_region_HU (fun w' => (w'.cell? ⟨rb, 0, none⟩ = some (.int .i64 1) ∧ w'.cell? ⟨rb, 1, none⟩ = some (.int .i64 1048576) ∧ w'.cell? ⟨rb, 2, none⟩ = some (.int .i64 1099511627776)) ∧ (w'.cell? ⟨b1, 0, none⟩ = some (.int .i64 A.1) ∧ w'.cell? ⟨b1, 1, none⟩ = some (.int .i64 A.2.1) ∧ w'.cell? ⟨b1, 2, none⟩ = some (.int .i64 A.2.2)) ∧ (w'.cell? ⟨b2, 0, none⟩ = some (.int .i64 D.1) ∧ w'.cell? ⟨b2, 1, none⟩ = some (.int .i64 D.2.1) ∧ w'.cell? ⟨b2, 2, none⟩ = some (.int .i64 D.2.2)) ∧ (w'.cell? ⟨b3, 0, none⟩ = some (.int .i64 E.1) ∧ w'.cell? ⟨b3, 1, none⟩ = some (.int .i64 E.2.1) ∧ w'.cell? ⟨b3, 2, none⟩ = some (.int .i64 E.2.2)) ∧ w'.cell? ⟨u0.heap.size, 0, none⟩ = some (.int .i64 x.1) ∧ w'.cell? ⟨u0.heap.size, 1, none⟩ = some (.int .i64 x.2.1) ∧ w'.cell? ⟨u0.heap.size, 2, none⟩ = some (.int .i64 x.2.2) ∧ w'.cell? ⟨u0.heap.size, 3, none⟩ = some (.int .i64 y.1) ∧ w'.cell? ⟨u0.heap.size, 4, none⟩ = some (.int .i64 y.2.1) ∧ w'.cell? ⟨u0.heap.size, 5, none⟩ = some (.int .i64 y.2.2) ∧ w'.cell? ⟨u0.heap.size, 6, none⟩ = some (.int .i64 z.1) ∧ w'.cell? ⟨u0.heap.size, 7, none⟩ = some (.int .i64 z.2.1) ∧ w'.cell? ⟨u0.heap.size, 8, none⟩ = some (.int .i64 z.2.2)) (fun _ => true) (by kernel_rfl) (wr2_cells X.out) (fun HS => ?_)
              clear HS
              refine wpHU_take (i := 0) (v := ?_) rfl (by kernel_rfl) (by kernel_rfl) (by kernel_rfl) (by kernel_rfl) (fun _ _ _ h => h) (Or.inl ⟨by (first | kernel_rfl | rfl), ?_⟩) (wr2_cells X.out) ?_
              rotate_left
              · (intro w' hSw; (try dsimp only at hSw); go_simp; (try with_reducible rfl))
              refine wpHU_take (i := 1) (v := ?_) rfl (by kernel_rfl) (by kernel_rfl) (by kernel_rfl) (by kernel_rfl) (fun _ _ _ h => h) (Or.inl ⟨by (first | kernel_rfl | rfl), ?_⟩) (wr2_cells X.out) ?_
              rotate_left
              · (intro w' hSw; (try dsimp only at hSw); go_simp; (try with_reducible rfl))
              refine wpHU_take (i := 2) (v := ?_) rfl (by kernel_rfl) (by kernel_rfl) (by kernel_rfl) (by kernel_rfl) (fun _ _ _ h => h) (Or.inl ⟨by (first | kernel_rfl | rfl), ?_⟩) (wr2_cells X.out) ?_
              rotate_left
              · (intro w' hSw; (try dsimp only at hSw); go_simp; (try with_reducible rfl))
              refine wpHU_take (i := 6) (v := ?_) rfl (by kernel_rfl) (by kernel_rfl) (by kernel_rfl) (by kernel_rfl) (fun _ _ _ h => h) (Or.inl ⟨by (first | kernel_rfl | rfl), ?_⟩) (wr2_cells X.out) ?_
              rotate_left
              · (intro w' hSw; (try dsimp only at hSw); go_simp; (try with_reducible rfl))
              refine wpHU_one (i := 3) (by kernel_rfl) rfl (fun K' hK => ?_)
              have HK' := Shut.intro' hK
              clear hK
              go_simp
              go_at_call 44
              refine (X1.out _).mono ?_
              rintro e vv ⟨rfl, hv⟩
              have X := Lib.hid (wr2_below X.out hv)
              clear hv
              go_wp2_with fail
              refine HK'.out _ _ (wr2_cells X.out) (fun _ => ?_)
              clear HK'
              refine wpHU_one (i := 4) (by kernel_rfl) rfl (fun K' hK => ?_)
              have HK' := Shut.intro' hK
              clear hK
              go_simp
              go_at_call 42
              refine (R1.out _).mono ?_
              rintro e vv ⟨rfl, hv⟩
              have X := Lib.hid (wr2_below X.out hv)
              clear hv
              go_wp2_with fail
              refine HK'.out _ _ (wr2_cells X.out) (fun _ => ?_)
              clear HK'
              refine wpHU_one (i := 5) (by kernel_rfl) rfl (fun K' hK => ?_)
              have HK' := Shut.intro' hK
              clear hK
              go_simp
              go_at_call 41
              refine (G1.out _).mono ?_
              rintro e vv ⟨rfl, rfl⟩
              go_wp2_with fail
              refine HK'.out _ _ (wr2_cells X.out) (fun _ => ?_)
              clear HK'
              refine wpHU_one (i := 7) (by kernel_rfl) rfl (fun K' hK => ?_)
              have HK' := Shut.intro' hK
              clear hK
              go_simp
              refine HK'.out _ _ (wr2_cells X.out) (fun _ => ?_)
              clear HK'
              refine wpHU_one (i := 8) (by kernel_rfl) rfl (fun K' hK => ?_)
              have HK' := Shut.intro' hK
              clear hK
              go_simp
              refine HK'.out _ _ (wr2_cells X.out) (fun _ => ?_)
              clear HK'
              refine wpHU_take (i := 9) (v := ?_) rfl (by kernel_rfl) (by kernel_rfl) (by kernel_rfl) (by kernel_rfl) (fun _ _ _ h => h) (Or.inl ⟨by (first | kernel_rfl | rfl), ?_⟩) (wr2_cells X.out) ?_
              rotate_left
              · (intro w' hSw; (try dsimp only at hSw); go_simp; (try with_reducible rfl))
              refine wpHU_take (i := 10) (v := ?_) rfl (by kernel_rfl) (by kernel_rfl) (by kernel_rfl) (by kernel_rfl) (fun _ _ _ h => h) (Or.inl ⟨by (first | kernel_rfl | rfl), ?_⟩) (wr2_cells X.out) ?_
              rotate_left
              · (intro w' hSw; (try dsimp only at hSw); go_simp; (try with_reducible rfl))
              refine wpHU_take (i := 11) (v := ?_) rfl (by kernel_rfl) (by kernel_rfl) (by kernel_rfl) (by kernel_rfl) (fun _ _ _ h => h) (Or.inl ⟨by (first | kernel_rfl | rfl), ?_⟩) (wr2_cells X.out) ?_
              rotate_left
              · (intro w' hSw; (try dsimp only at hSw); go_simp; (try with_reducible rfl))
              refine wpHU_take (i := 15) (v := ?_) rfl (by kernel_rfl) (by kernel_rfl) (by kernel_rfl) (by kernel_rfl) (fun _ _ _ h => h) (Or.inl ⟨by (first | kernel_rfl | rfl), ?_⟩) (wr2_cells X.out) ?_
              rotate_left
              · (intro w' hSw; (try dsimp only at hSw); go_simp; (try with_reducible rfl))
              refine wpHU_one (i := 12) (by kernel_rfl) rfl (fun K' hK => ?_)
              have HK' := Shut.intro' hK
              clear hK
              go_simp
              go_at_call 44
              refine (X2.out _).mono ?_
              rintro e vv ⟨rfl, hv⟩
              have X := Lib.hid (wr2_below X.out hv)
              clear hv
              go_wp2_with fail
              refine HK'.out _ _ (wr2_cells X.out) (fun _ => ?_)
              clear HK'
              refine wpHU_one (i := 13) (by kernel_rfl) rfl (fun K' hK => ?_)
              have HK' := Shut.intro' hK
              clear hK
              go_simp
              go_at_call 42
              refine (R2.out _).mono ?_
              rintro e vv ⟨rfl, hv⟩
              have X := Lib.hid (wr2_below X.out hv)
              clear hv
              go_wp2_with fail
              refine HK'.out _ _ (wr2_cells X.out) (fun _ => ?_)
              clear HK'
              refine wpHU_one (i := 14) (by kernel_rfl) rfl (fun K' hK => ?_)
              have HK' := Shut.intro' hK
              clear hK
              go_simp
              go_at_call 41
              refine (G2.out _).mono ?_
              rintro e vv ⟨rfl, rfl⟩
              go_wp2_with fail
              refine HK'.out _ _ (wr2_cells X.out) (fun _ => ?_)
              clear HK'
              refine wpHU_one (i := 16) (by kernel_rfl) rfl (fun K' hK => ?_)
              have HK' := Shut.intro' hK
              clear hK
              go_simp
              refine HK'.out _ _ (wr2_cells X.out) (fun _ => ?_)
              clear HK'
              refine wpHU_one (i := 17) (by kernel_rfl) rfl (fun K' hK => ?_)
              have HK' := Shut.intro' hK
              clear hK
              go_simp
              refine HK'.out _ _ (wr2_cells X.out) (fun _ => ?_)
              clear HK'
              refine wpHU_one (i := 18) (by kernel_rfl) rfl (fun K' hK => ?_)
              have HK' := Shut.intro' hK
              clear hK
              go_simp
              refine HK'.out _ _ (wr2_cells X.out) (fun _ => ?_)
              clear HK'
              refine wpHU_take (i := 19) (v := undef) rfl (by kernel_rfl) (by kernel_rfl) (by kernel_rfl) (by kernel_rfl) (fun _ _ _ h => h) (Or.inr ⟨by (first | kernel_rfl | rfl), rfl⟩) (wr2_cells X.out) ?_
              refine wpHU_take (i := 20) (v := undef) rfl (by kernel_rfl) (by kernel_rfl) (by kernel_rfl) (by kernel_rfl) (fun _ _ _ h => h) (Or.inr ⟨by (first | kernel_rfl | rfl), rfl⟩) (wr2_cells X.out) ?_
              refine wpHU_take (i := 21) (v := undef) rfl (by kernel_rfl) (by kernel_rfl) (by kernel_rfl) (by kernel_rfl) (fun _ _ _ h => h) (Or.inr ⟨by (first | kernel_rfl | rfl), rfl⟩) (wr2_cells X.out) ?_
              refine wpHU_take (i := 25) (v := undef) rfl (by kernel_rfl) (by kernel_rfl) (by kernel_rfl) (by kernel_rfl) (fun _ _ _ h => h) (Or.inr ⟨by (first | kernel_rfl | rfl), rfl⟩) (wr2_cells X.out) ?_
              refine wpHU_skip (i := 22) (by kernel_rfl) rfl (by (first | kernel_rfl | rfl)) (wr2_cells X.out) ?_
              refine wpHU_skip (i := 23) (by kernel_rfl) rfl (by (first | kernel_rfl | rfl)) (wr2_cells X.out) ?_
              refine wpHU_skip (i := 24) (by kernel_rfl) rfl (by (first | kernel_rfl | rfl)) (wr2_cells X.out) ?_
              refine wpHU_skip (i := 26) (by kernel_rfl) rfl (by (first | kernel_rfl | rfl)) (wr2_cells X.out) ?_
              refine wpHU_one (i := 27) (by kernel_rfl) rfl (fun K' hK => ?_)
              have HK' := Shut.intro' hK
              clear hK
              go_simp
              refine HK'.out _ _ (wr2_cells X.out) (fun _ => ?_)
              clear HK'
              refine wpHU_done (by kernel_rfl) ?_ _
              go_wp2
              go_roundw
              case rel => exact ⟨k + 1, by omega, by go_num, by rw [NX.out, CE.out, if_neg (fun h => c2 h.2.1), Int.add_zero], (wr2_own X.out).1, (wr2_own X.out).2.1, (wr2_own X.out).2.2.1, (wr2_own X.out).2.2.2⟩
              case measure => simp [intOf]; omega
          · have g1 : (s1 == th) = false := by simp [c1]
            have t1 : decide (s1 = th) = false := decide_eq_false c1
            have X := Lib.hid (wr2_drew X.out)
            refine wp_region_HU (fun w' => (w'.cell? ⟨rb, 0, none⟩ = some (.int .i64 1) ∧ w'.cell? ⟨rb, 1, none⟩ = some (.int .i64 1048576) ∧ w'.cell? ⟨rb, 2, none⟩ = some (.int .i64 1099511627776)) ∧ (w'.cell? ⟨b1, 0, none⟩ = some (.int .i64 A.1) ∧ w'.cell? ⟨b1, 1, none⟩ = some (.int .i64 A.2.1) ∧ w'.cell? ⟨b1, 2, none⟩ = some (.int .i64 A.2.2)) ∧ (w'.cell? ⟨b2, 0, none⟩ = some (.int .i64 D.1) ∧ w'.cell? ⟨b2, 1, none⟩ = some (.int .i64 D.2.1) ∧ w'.cell? ⟨b2, 2, none⟩ = some (.int .i64 D.2.2)) ∧ (w'.cell? ⟨b3, 0, none⟩ = some (.int .i64 E.1) ∧ w'.cell? ⟨b3, 1, none⟩ = some (.int .i64 E.2.1) ∧ w'.cell? ⟨b3, 2, none⟩ = some (.int .i64 E.2.2)) ∧ w'.cell? ⟨u0.heap.size, 0, none⟩ = some (.int .i64 x.1) ∧ w'.cell? ⟨u0.heap.size, 1, none⟩ = some (.int .i64 x.2.1) ∧ w'.cell? ⟨u0.heap.size, 2, none⟩ = some (.int .i64 x.2.2) ∧ w'.cell? ⟨u0.heap.size, 3, none⟩ = some (.int .i64 y.1) ∧ w'.cell? ⟨u0.heap.size, 4, none⟩ = some (.int .i64 y.2.1) ∧ w'.cell? ⟨u0.heap.size, 5, none⟩ = some (.int .i64 y.2.2) ∧ w'.cell? ⟨u0.heap.size, 6, none⟩ = some (.int .i64 z.1) ∧ w'.cell? ⟨u0.heap.size, 7, none⟩ = some (.int .i64 z.2.1) ∧ w'.cell? ⟨u0.heap.size, 8, none⟩ = some (.int .i64 z.2.2)) (fun _ => true) (by kernel_rfl) (wr2_cells X.out) (fun HS => ?_)
            clear HS
            refine wpHU_take (i := 0) (v := ?_) rfl (by kernel_rfl) (by kernel_rfl) (by kernel_rfl) (by kernel_rfl) (fun _ _ _ h => h) (Or.inl ⟨by (first | kernel_rfl | rfl), ?_⟩) (wr2_cells X.out) ?_
            rotate_left
            · (intro w' hSw; (try dsimp only at hSw); go_simp; (try with_reducible rfl))
            refine wpHU_take (i := 1) (v := ?_) rfl (by kernel_rfl) (by kernel_rfl) (by kernel_rfl) (by kernel_rfl) (fun _ _ _ h => h) (Or.inl ⟨by (first | kernel_rfl | rfl), ?_⟩) (wr2_cells X.out) ?_
            rotate_left
            · (intro w' hSw; (try dsimp only at hSw); go_simp; (try with_reducible rfl))
            refine wpHU_take (i := 2) (v := ?_) rfl (by kernel_rfl) (by kernel_rfl) (by kernel_rfl) (by kernel_rfl) (fun _ _ _ h => h) (Or.inl ⟨by (first | kernel_rfl | rfl), ?_⟩) (wr2_cells X.out) ?_
            rotate_left
            · (intro w' hSw; (try dsimp only at hSw); go_simp; (try with_reducible rfl))
            refine wpHU_take (i := 6) (v := ?_) rfl (by kernel_rfl) (by kernel_rfl) (by kernel_rfl) (by kernel_rfl) (fun _ _ _ h => h) (Or.inl ⟨by (first | kernel_rfl | rfl), ?_⟩) (wr2_cells X.out) ?_
            rotate_left
            · (intro w' hSw; (try dsimp only at hSw); go_simp; (try with_reducible rfl))
            refine wpHU_one (i := 3) (by kernel_rfl) rfl (fun K' hK => ?_)
            have HK' := Shut.intro' hK
            clear hK
            go_simp
            go_at_call 44
            refine (X1.out _).mono ?_
            rintro e vv ⟨rfl, hv⟩
            have X := Lib.hid (wr2_below X.out hv)
            clear hv
            go_wp2_with fail
            refine HK'.out _ _ (wr2_cells X.out) (fun _ => ?_)
            clear HK'
            refine wpHU_one (i := 4) (by kernel_rfl) rfl (fun K' hK => ?_)
            have HK' := Shut.intro' hK
            clear hK
            go_simp
            go_at_call 42
            refine (R1.out _).mono ?_
            rintro e vv ⟨rfl, hv⟩
            have X := Lib.hid (wr2_below X.out hv)
            clear hv
            go_wp2_with fail
            refine HK'.out _ _ (wr2_cells X.out) (fun _ => ?_)
            clear HK'
            refine wpHU_one (i := 5) (by kernel_rfl) rfl (fun K' hK => ?_)
            have HK' := Shut.intro' hK
            clear hK
            go_simp
            go_at_call 41
            refine (G1.out _).mono ?_
            rintro e vv ⟨rfl, rfl⟩
            go_wp2_with fail
            refine HK'.out _ _ (wr2_cells X.out) (fun _ => ?_)
            clear HK'
            refine wpHU_one (i := 7) (by kernel_rfl) rfl (fun K' hK => ?_)
            have HK' := Shut.intro' hK
            clear hK
            go_simp
            refine HK'.out _ _ (wr2_cells X.out) (fun _ => ?_)
            clear HK'
            refine wpHU_one (i := 8) (by kernel_rfl) rfl (fun K' hK => ?_)
            have HK' := Shut.intro' hK
            clear hK
            go_simp
            refine HK'.out _ _ (wr2_cells X.out) (fun _ => ?_)
            clear HK'
            refine wpHU_take (i := 9) (v := undef) rfl (by kernel_rfl) (by kernel_rfl) (by kernel_rfl) (by kernel_rfl) (fun _ _ _ h => h) (Or.inr ⟨by (first | kernel_rfl | rfl), rfl⟩) (wr2_cells X.out) ?_
            refine wpHU_take (i := 10) (v := undef) rfl (by kernel_rfl) (by kernel_rfl) (by kernel_rfl) (by kernel_rfl) (fun _ _ _ h => h) (Or.inr ⟨by (first | kernel_rfl | rfl), rfl⟩) (wr2_cells X.out) ?_
            refine wpHU_take (i := 11) (v := undef) rfl (by kernel_rfl) (by kernel_rfl) (by kernel_rfl) (by kernel_rfl) (fun _ _ _ h => h) (Or.inr ⟨by (first | kernel_rfl | rfl), rfl⟩) (wr2_cells X.out) ?_
            refine wpHU_take (i := 15) (v := undef) rfl (by kernel_rfl) (by kernel_rfl) (by kernel_rfl) (by kernel_rfl) (fun _ _ _ h => h) (Or.inr ⟨by (first | kernel_rfl | rfl), rfl⟩) (wr2_cells X.out) ?_
            refine wpHU_skip (i := 12) (by kernel_rfl) rfl (by (first | kernel_rfl | rfl)) (wr2_cells X.out) ?_
            refine wpHU_skip (i := 13) (by kernel_rfl) rfl (by (first | kernel_rfl | rfl)) (wr2_cells X.out) ?_
            refine wpHU_skip (i := 14) (by kernel_rfl) rfl (by (first | kernel_rfl | rfl)) (wr2_cells X.out) ?_
            refine wpHU_skip (i := 16) (by kernel_rfl) rfl (by (first | kernel_rfl | rfl)) (wr2_cells X.out) ?_
            refine wpHU_one (i := 17) (by kernel_rfl) rfl (fun K' hK => ?_)
            have HK' := Shut.intro' hK
            clear hK
            go_simp
            refine HK'.out _ _ (wr2_cells X.out) (fun _ => ?_)
            clear HK'
            refine wpHU_one (i := 18) (by kernel_rfl) rfl (fun K' hK => ?_)
            have HK' := Shut.intro' hK
            clear hK
            go_simp
            refine HK'.out _ _ (wr2_cells X.out) (fun _ => ?_)
            clear HK'
            refine wpHU_take (i := 19) (v := undef) rfl (by kernel_rfl) (by kernel_rfl) (by kernel_rfl) (by kernel_rfl) (fun _ _ _ h => h) (Or.inr ⟨by (first | kernel_rfl | rfl), rfl⟩) (wr2_cells X.out) ?_
            refine wpHU_take (i := 20) (v := undef) rfl (by kernel_rfl) (by kernel_rfl) (by kernel_rfl) (by kernel_rfl) (fun _ _ _ h => h) (Or.inr ⟨by (first | kernel_rfl | rfl), rfl⟩) (wr2_cells X.out) ?_
            refine wpHU_take (i := 21) (v := undef) rfl (by kernel_rfl) (by kernel_rfl) (by kernel_rfl) (by kernel_rfl) (fun _ _ _ h => h) (Or.inr ⟨by (first | kernel_rfl | rfl), rfl⟩) (wr2_cells X.out) ?_
            refine wpHU_take (i := 25) (v := undef) rfl (by kernel_rfl) (by kernel_rfl) (by kernel_rfl) (by kernel_rfl) (fun _ _ _ h => h) (Or.inr ⟨by (first | kernel_rfl | rfl), rfl⟩) (wr2_cells X.out) ?_
            refine wpHU_skip (i := 22) (by kernel_rfl) rfl (by (first | kernel_rfl | rfl)) (wr2_cells X.out) ?_
            refine wpHU_skip (i := 23) (by kernel_rfl) rfl (by (first | kernel_rfl | rfl)) (wr2_cells X.out) ?_
            refine wpHU_skip (i := 24) (by kernel_rfl) rfl (by (first | kernel_rfl | rfl)) (wr2_cells X.out) ?_
            refine wpHU_skip (i := 26) (by kernel_rfl) rfl (by (first | kernel_rfl | rfl)) (wr2_cells X.out) ?_
            refine wpHU_one (i := 27) (by kernel_rfl) rfl (fun K' hK => ?_)
            have HK' := Shut.intro' hK
            clear hK
            go_simp
            refine HK'.out _ _ (wr2_cells X.out) (fun _ => ?_)
            clear HK'
            refine wpHU_done (by kernel_rfl) ?_ _
            go_wp2
            go_roundw
            case rel => exact ⟨k + 1, by omega, by go_num, by rw [NX.out, CE.out, if_neg (fun h => c1 h.1), Int.add_zero], (wr2_own X.out).1, (wr2_own X.out).2.1, (wr2_own X.out).2.2.1, (wr2_own X.out).2.2.2⟩
            case measure => simp [intOf]; omega
        · have f0 : (s0 != th) = true := bne_iff_ne.2 c0
          go_wp2
          have X := Lib.hid (wr2_drew X.out)
          go_region_held3 (fun w' => (w'.cell? ⟨rb, 0, none⟩ = some (.int .i64 1) ∧ w'.cell? ⟨rb, 1, none⟩ = some (.int .i64 1048576) ∧ w'.cell? ⟨rb, 2, none⟩ = some (.int .i64 1099511627776)) ∧ (w'.cell? ⟨b1, 0, none⟩ = some (.int .i64 A.1) ∧ w'.cell? ⟨b1, 1, none⟩ = some (.int .i64 A.2.1) ∧ w'.cell? ⟨b1, 2, none⟩ = some (.int .i64 A.2.2)) ∧ (w'.cell? ⟨b2, 0, none⟩ = some (.int .i64 D.1) ∧ w'.cell? ⟨b2, 1, none⟩ = some (.int .i64 D.2.1) ∧ w'.cell? ⟨b2, 2, none⟩ = some (.int .i64 D.2.2)) ∧ (w'.cell? ⟨b3, 0, none⟩ = some (.int .i64 E.1) ∧ w'.cell? ⟨b3, 1, none⟩ = some (.int .i64 E.2.1) ∧ w'.cell? ⟨b3, 2, none⟩ = some (.int .i64 E.2.2)) ∧ w'.cell? ⟨u0.heap.size, 0, none⟩ = some (.int .i64 x.1) ∧ w'.cell? ⟨u0.heap.size, 1, none⟩ = some (.int .i64 x.2.1) ∧ w'.cell? ⟨u0.heap.size, 2, none⟩ = some (.int .i64 x.2.2) ∧ w'.cell? ⟨u0.heap.size, 3, none⟩ = some (.int .i64 y.1) ∧ w'.cell? ⟨u0.heap.size, 4, none⟩ = some (.int .i64 y.2.1) ∧ w'.cell? ⟨u0.heap.size, 5, none⟩ = some (.int .i64 y.2.2) ∧ w'.cell? ⟨u0.heap.size, 6, none⟩ = some (.int .i64 z.1) ∧ w'.cell? ⟨u0.heap.size, 7, none⟩ = some (.int .i64 z.2.1) ∧ w'.cell? ⟨u0.heap.size, 8, none⟩ = some (.int .i64 z.2.2))
            (first | with_reducible exact wr2_cells X.out | fail)
            (first | (go_at_call 43; (with_reducible refine (NN.out _).mono ?_); rintro e vv ⟨rfl, hv⟩; have X := Lib.hid (wr2_below X.out hv)) | (go_at_call 42; (with_reducible refine (DA.out _).mono ?_); rintro e vv ⟨rfl, hv⟩; have X := Lib.hid (wr2_below X.out hv)) | (go_at_call 41; (with_reducible refine (GA.out _).mono ?_); rintro e vv ⟨rfl, rfl⟩) | fail)
          have CE := Lib.hid (CX0.out c0)
          go_wp2
          go_roundw
          case rel => exact ⟨k + 1, by omega, by go_num, by rw [NX.out, CE.out, Int.add_zero], (wr2_own X.out).1, (wr2_own X.out).2.1, (wr2_own X.out).2.2.1, (wr2_own X.out).2.2.2⟩
          case measure => simp [intOf]; omega
    · obtain rfl : k = nf := by omega
      go_wp2
      go_ret2
      exact ⟨rfl, ST.out.2.2.2⟩

end Go.Proofs.Ytllonfaogbdbnaa
