/-
  The contract of the document's Center24.
-/
import Derived.Test.YtjflgiegnibgmaaMe2
import Derived.Test.YtjflgiegnibgmaaHeldT
namespace Go.Proofs.Ytjflgiegnibgmaa
open Go.ChangeShapes Go.WideShapes Go.RowKit
open Sh
theorem cen_next (P F : Nat → P3) (k : Nat) (p q s : P3) (h : Tr P F k = (p, q, s)) : cen P F (k + 1) = add (cen P F k) (tim (dot p (vec q s)) (add p (add q s))) := by
  show add (cen P F k) (tim (det (Tr P F k).1 (Tr P F k).2.1 (Tr P F k).2.2) (add (add (Tr P F k).1 (Tr P F k).2.1) (Tr P F k).2.2)) = _
  rw [h]
  have e : add (add p q) s = add p (add q s) := by
    unfold add
    simp only [Prod.mk.injEq]
    omega
  rw [e]
  rfl
/-- what the loop has: the sum, the result's zeros, the mesh, and a panel in a block of its own -/
def RCS (w W : World) (S pb : Nat) (q0 : Nat) (a : Option Addr) (n c : Nat) (a' : Option Addr) (n' c' : Nat) (p q s sum : P3) : Prop :=
  Pan W pb p q s ∧ Own W S sum ∧ Own W (w.heap.size + 1) (0, 0, 0) ∧ Mes W q0 a n c a' n' c' ∧ Below w.heap.size w W
theorem rcs_below {w W v : World} {S pb q0 : Nat} {a : Option Addr} {n c : Nat} {a' : Option Addr} {n' c' : Nat} {p q s sum : P3} (h : RCS w W S pb q0 a n c a' n' c' p q s sum) (hb : Below W.heap.size W v) : RCS w v S pb q0 a n c a' n' c' p q s sum :=
  ⟨pan_below h.1 hb, own_below h.2.1 hb, own_below h.2.2.1 hb, mes_below h.2.2.2.1 hb, bstep h.2.2.2.2 hb⟩
theorem rcs_drew {w W : World} {S pb q0 : Nat} {a : Option Addr} {n c : Nat} {a' : Option Addr} {n' c' : Nat} {p q s sum : P3} (h : RCS w W S pb q0 a n c a' n' c' p q s sum) : RCS w W.drew S pb q0 a n c a' n' c' p q s sum := rcs_below h (Below.drew (Below.refl _ _))
theorem mes_set0 {w : World} {q r o : Nat} {a : Option Addr} {n c : Nat} {a' : Option Addr} {n' c' : Nat} {v : Value} (h : Mes w q a n c a' n' c') (ne : q < r) : Mes (w.setCell ⟨r, o, none⟩ v) q a n c a' n' c' := mes_in h ((Below.refl (q + 1) w).setCell (show q + 1 ≤ r from ne) v) (by omega)
set_option maxRecDepth 100000 in
set_option maxHeartbeats 8000000 in
theorem rcen_row (b off np c b' off' nf c' : Nat) (P F : Nat → P3) (w : World) (V : Hid (∀ W, Below w.heap.size w W → Calls Try.prog 24 #[msv (some ⟨b, off, none⟩) np c (some ⟨b', off', none⟩) nf c'] W fun e w' => e = .returned (.int .i64 0) ∧ Below W.heap.size W w')) (rp : Row3 w b off np P) (r : Row3 w b' off' nf F) (hn : np ≤ 1000000) (h0 : 0 < nf) (hm : nf ≤ 96) (nr : ∀ k, k < nf → Fok np (F k)) (tb : TrB P F nf) :
    Calls Try.prog 11 #[msv (some ⟨b, off, none⟩) np c (some ⟨b', off', none⟩) nf c'] w fun e w' => e = .returned (.tuple #[ptv (cen P F nf), .int .i64 0]) ∧ Below w.heap.size w w' := by
  have NR := Lib.hid nr
  have TB := Lib.hid tb
  have RP := Lib.hid rp
  have RF := Lib.hid r
  have hm' : (nf : Int) ≤ 96 := by omega
  clear rp r nr tb
  go_enter Try.func11, Try.ntmps11
  go_wp2_with fail
  refine (V.out _ (by (repeat' (first | exact Below.refl _ _ | refine Below.setCell ?_ (by simp <;> omega) _ | refine balloc ?_ _ | refine Below.drew ?_ | refine bdrewN ?_ _)))).mono ?_
  rintro e w1 ⟨rfl, hb1⟩
  have Q1 := Lib.hid (own_below (own_new (w.alloc _) (0, 0, 0) _) hb1)
  simp only [World.size_alloc] at Q1
  have B1 := Lib.hid (bstep (balloc (balloc (Below.refl _ w) _) _) hb1)
  have M1 := Lib.hid (mes_below (mes_alloc (mes_new w (some ⟨b, off, none⟩) np c (some ⟨b', off', none⟩) nf c' 25) (ptc (0, 0, 0) 32)) hb1)
  have LS := Lib.hid (show w.heap.size + 1 < w1.heap.size from Q1.out.2.2.2.2.2.2)
  have ST := Lib.hid (show Own (w1.alloc (ptc (0, 0, 0) 32)) w1.heap.size (cen P F 0) ∧ Own (w1.alloc (ptc (0, 0, 0) 32)) (w.heap.size + 1) (0, 0, 0) ∧ Mes (w1.alloc (ptc (0, 0, 0) 32)) w.heap.size (some ⟨b, off, none⟩) np c (some ⟨b', off', none⟩) nf c' ∧ Below w.heap.size w (w1.alloc (ptc (0, 0, 0) 32)) from
    ⟨own_new w1 (0, 0, 0) 32, own_alloc Q1.out _, mes_alloc M1.out _, balloc B1.out _⟩)
  obtain ⟨S, hS⟩ : ∃ S, w1.heap.size = S := ⟨_, rfl⟩
  rw [hS] at LS
  clear hb1 Q1 B1 M1
  go_wp2
  go_loopw [6] (fun kv wr => ∃ k : Nat, k ≤ nf ∧ kv = .int .i64 k ∧ Own wr w1.heap.size (cen P F k) ∧ Own wr (w.heap.size + 1) (0, 0, 0) ∧ Mes wr w.heap.size (some ⟨b, off, none⟩) np c (some ⟨b', off', none⟩) nf c' ∧ Below w.heap.size w wr) (fun kv _ => nf - (intOf kv).toNat)
  case atStart => exact ⟨0, Nat.zero_le _, rfl, ST.out⟩
  case round =>
    clear ST
    obtain ⟨k, hk, rfl, st⟩ := hrel
    have ST := Lib.hid st
    clear st
    rw [hS] at ST
    obtain ⟨m1, m2, m3⟩ := ST.out.2.2.1
    by_cases hlt : k < nf
    · have hk1 : (k : Int) < (nf : Int) := by omega
      obtain ⟨xn, yn, zn, hp, hx, hy, hz⟩ := fok_nat (NR.out k hlt)
      have CN := Lib.hid (fun W (B : Below w.heap.size w W) => corners_nat b off np c b' off' nf c' k xn yn zn P F W (row3_below RP.out B) (row3_below RF.out B) hlt hx hy hz hn (by omega) hp)
      have T := TB.out k hlt
      have CB := cen_bd (P := P) (F := F) (n := k + 1) (fun i hi => TB.out i (by omega))
      have hT : Tr P F k = (P xn, P yn, P zn) := by unfold Tr; rw [hp]; rfl
      have E := Lib.hid (cen_next P F k _ _ _ hT)
      rw [E.out] at CB
      rw [hT] at T
      clear hT hp
      rw [hS]
      generalize P xn = p at *
      generalize P yn = q at *
      generalize P zn = s at *
      generalize cen P F k = sum at *
      have d := det_bd T.1 T.2.1 T.2.2
      have F0 := Lib.hid (show BdP 4611686018427387904 (add q s) from (add_bd T.2.1 T.2.2).mono (by decide))
      have F1 := Lib.hid (show BdP 4611686018427387904 (add p (add q s)) from (add_bd T.1 (add_bd T.2.1 T.2.2)).mono (by decide))
      have F2 := Lib.hid (show BdP 1048576 q ∧ BdP 1048576 s from ⟨T.2.1.mono (by decide), T.2.2.mono (by decide)⟩)
      have F3 := Lib.hid (det_fit' T.1 T.2.1 T.2.2)
      have F4 := Lib.hid (show BdP 4611686018427387904 (tim (dot p (vec q s)) (add p (add q s))) from (tim_bd d.1 d.2 (add_bd T.1 (add_bd T.2.1 T.2.2))).mono (by decide))
      have F5 := Lib.hid (show BdP 4611686018427387904 (add sum (tim (dot p (vec q s)) (add p (add q s)))) from CB.mono (by omega))
      clear T CB d
      go_wp2_with fail
      refine (CN.out _ ST.out.2.2.2).mono ?_
      rintro e u0 ⟨rfl, hb0⟩
      have X0 := Lib.hid (show RCS w (u0.alloc (pnc p q s 44)) S u0.heap.size w.heap.size (some ⟨b, off, none⟩) np c (some ⟨b', off', none⟩) nf c' p q s sum from ⟨pan_new u0 p q s 44, own_alloc (own_below ST.out.1 hb0) _, own_alloc (own_below ST.out.2.1 hb0) _, mes_alloc (mes_below ST.out.2.2.1 hb0) _, balloc (bstep ST.out.2.2.2 hb0) _⟩)
      have LP := Lib.hid (show S < u0.heap.size from Nat.lt_of_lt_of_le ST.out.1.2.2.2.2.2.2 hb0.size)
      clear m1 m2 m3 hb0 ST
      go_wp2
      have X0 := Lib.hid (rcs_drew X0.out)
      refine wp_region_HT (fun w' => (w'.cell? ⟨S, 0, none⟩ = some (.int .i64 sum.1) ∧ w'.cell? ⟨S, 1, none⟩ = some (.int .i64 sum.2.1) ∧ w'.cell? ⟨S, 2, none⟩ = some (.int .i64 sum.2.2)) ∧ w'.cell? ⟨u0.heap.size, 0, none⟩ = some (.int .i64 p.1) ∧ w'.cell? ⟨u0.heap.size, 1, none⟩ = some (.int .i64 p.2.1) ∧ w'.cell? ⟨u0.heap.size, 2, none⟩ = some (.int .i64 p.2.2) ∧ w'.cell? ⟨u0.heap.size, 3, none⟩ = some (.int .i64 q.1) ∧ w'.cell? ⟨u0.heap.size, 4, none⟩ = some (.int .i64 q.2.1) ∧ w'.cell? ⟨u0.heap.size, 5, none⟩ = some (.int .i64 q.2.2) ∧ w'.cell? ⟨u0.heap.size, 6, none⟩ = some (.int .i64 s.1) ∧ w'.cell? ⟨u0.heap.size, 7, none⟩ = some (.int .i64 s.2.1) ∧ w'.cell? ⟨u0.heap.size, 8, none⟩ = some (.int .i64 s.2.2)) 19 (by kernel_rfl) ⟨own_cells X0.out.2.1, pan_cells X0.out.1⟩ (fun HS => ?_)
      refine wpHT_take (i := 0) (v := ?_) rfl (by kernel_rfl) (by kernel_rfl) (by kernel_rfl) (by decide) (by kernel_rfl) (fun _ _ _ h => h) (Or.inl ⟨by rfl, ?_⟩) HS ?_
      rotate_left
      · (intro w' hSw; (try dsimp only at hSw); go_simp; (try with_reducible rfl))
      refine wpHT_take (i := 1) (v := ?_) rfl (by kernel_rfl) (by kernel_rfl) (by kernel_rfl) (by decide) (by kernel_rfl) (fun _ _ _ h => h) (Or.inl ⟨by rfl, ?_⟩) HS ?_
      rotate_left
      · (intro w' hSw; (try dsimp only at hSw); go_simp; (try with_reducible rfl))
      refine wpHT_take (i := 2) (v := ?_) rfl (by kernel_rfl) (by kernel_rfl) (by kernel_rfl) (by decide) (by kernel_rfl) (fun _ _ _ h => h) (Or.inl ⟨by rfl, ?_⟩) HS ?_
      rotate_left
      · (intro w' hSw; (try dsimp only at hSw); go_simp; (try with_reducible rfl))
      refine wpHT_take (i := 3) (v := ?_) rfl (by kernel_rfl) (by kernel_rfl) (by kernel_rfl) (by decide) (by kernel_rfl) (fun _ _ _ h => h) (Or.inl ⟨by rfl, ?_⟩) HS ?_
      rotate_left
      · (intro w' hSw; (try dsimp only at hSw); go_simp; (try with_reducible rfl))
      refine wpHT_take (i := 4) (v := ?_) rfl (by kernel_rfl) (by kernel_rfl) (by kernel_rfl) (by decide) (by kernel_rfl) (fun _ _ _ h => h) (Or.inl ⟨by rfl, ?_⟩) HS ?_
      rotate_left
      · (intro w' hSw; (try dsimp only at hSw); go_simp; (try with_reducible rfl))
      refine wpHT_take (i := 5) (v := ?_) rfl (by kernel_rfl) (by kernel_rfl) (by kernel_rfl) (by decide) (by kernel_rfl) (fun _ _ _ h => h) (Or.inl ⟨by rfl, ?_⟩) HS ?_
      rotate_left
      · (intro w' hSw; (try dsimp only at hSw); go_simp; (try with_reducible rfl))
      refine wpHT_take (i := 6) (v := ?_) rfl (by kernel_rfl) (by kernel_rfl) (by kernel_rfl) (by decide) (by kernel_rfl) (fun _ _ _ h => h) (Or.inl ⟨by rfl, ?_⟩) HS ?_
      rotate_left
      · (intro w' hSw; (try dsimp only at hSw); go_simp; (try with_reducible rfl))
      refine wpHT_take (i := 9) (v := ?_) rfl (by kernel_rfl) (by kernel_rfl) (by kernel_rfl) (by decide) (by kernel_rfl) (fun _ _ _ h => h) (Or.inl ⟨by rfl, ?_⟩) HS ?_
      rotate_left
      · (intro w' hSw; (try dsimp only at hSw); go_simp; (try with_reducible rfl))
      refine wpHT_take (i := 10) (v := ?_) rfl (by kernel_rfl) (by kernel_rfl) (by kernel_rfl) (by decide) (by kernel_rfl) (fun _ _ _ h => h) (Or.inl ⟨by rfl, ?_⟩) HS ?_
      rotate_left
      · (intro w' hSw; (try dsimp only at hSw); go_simp; (try with_reducible rfl))
      refine wpHT_take (i := 11) (v := ?_) rfl (by kernel_rfl) (by kernel_rfl) (by kernel_rfl) (by decide) (by kernel_rfl) (fun _ _ _ h => h) (Or.inl ⟨by rfl, ?_⟩) HS ?_
      rotate_left
      · (intro w' hSw; (try dsimp only at hSw); go_simp; (try with_reducible rfl))
      refine wpHT_take (i := 12) (v := ?_) rfl (by kernel_rfl) (by kernel_rfl) (by kernel_rfl) (by decide) (by kernel_rfl) (fun _ _ _ h => h) (Or.inl ⟨by rfl, ?_⟩) HS ?_
      rotate_left
      · (intro w' hSw; (try dsimp only at hSw); go_simp; (try with_reducible rfl))
      refine wpHT_take (i := 13) (v := ?_) rfl (by kernel_rfl) (by kernel_rfl) (by kernel_rfl) (by decide) (by kernel_rfl) (fun _ _ _ h => h) (Or.inl ⟨by rfl, ?_⟩) HS ?_
      rotate_left
      · (intro w' hSw; (try dsimp only at hSw); go_simp; (try with_reducible rfl))
      refine wpHT_take (i := 14) (v := ?_) rfl (by kernel_rfl) (by kernel_rfl) (by kernel_rfl) (by decide) (by kernel_rfl) (fun _ _ _ h => h) (Or.inl ⟨by rfl, ?_⟩) HS ?_
      rotate_left
      · (intro w' hSw; (try dsimp only at hSw); go_simp; (try with_reducible rfl))
      refine wpHT_one (i := 7) (by kernel_rfl) rfl (fun K' hK => ?_)
      go_simp
      go_at_call 31
      refine (rplus_any q s _ F0.out).mono ?_
      rintro e v1 ⟨rfl, hv1⟩
      have X1 := Lib.hid (rcs_below X0.out hv1)
      clear hv1
      go_wp2_with fail
      refine hK.out _ _ ?_ (fun HS => ?_)
      · exact ⟨own_cells X1.out.2.1, pan_cells X1.out.1⟩
      clear hK K'
      refine wpHT_one (i := 8) (by kernel_rfl) rfl (fun K' hK => ?_)
      go_simp
      go_at_call 31
      refine (rplus_any p (add q s) _ F1.out).mono ?_
      rintro e v2 ⟨rfl, hv2⟩
      have X2 := Lib.hid (rcs_below X1.out hv2)
      clear hv2
      go_wp2_with fail
      refine hK.out _ _ ?_ (fun HS => ?_)
      · exact ⟨own_cells X2.out.2.1, pan_cells X2.out.1⟩
      clear hK K'
      refine wpHT_one (i := 15) (by kernel_rfl) rfl (fun K' hK => ?_)
      go_simp
      go_at_call 34
      refine (cross_any q s _ F2.out.1 F2.out.2).mono ?_
      rintro e v3 ⟨rfl, hv3⟩
      have X3 := Lib.hid (rcs_below X2.out hv3)
      clear hv3
      go_wp2_with fail
      refine hK.out _ _ ?_ (fun HS => ?_)
      · exact ⟨own_cells X3.out.2.1, pan_cells X3.out.1⟩
      clear hK K'
      refine wpHT_one (i := 16) (by kernel_rfl) rfl (fun K' hK => ?_)
      go_simp
      go_at_call 33
      refine (rdot_any p (vec q s) _ F3.out).mono ?_
      rintro e v4 ⟨rfl, hv4⟩
      have X4 := Lib.hid (rcs_below X3.out hv4)
      clear hv4
      go_wp2_with fail
      refine hK.out _ _ ?_ (fun HS => ?_)
      · exact ⟨own_cells X4.out.2.1, pan_cells X4.out.1⟩
      clear hK K'
      refine wpHT_one (i := 17) (by kernel_rfl) rfl (fun K' hK => ?_)
      go_simp
      go_at_call 32
      refine (rtimes_any (dot p (vec q s)) (add p (add q s)) _ F4.out).mono ?_
      rintro e v5 ⟨rfl, hv5⟩
      have X5 := Lib.hid (rcs_below X4.out hv5)
      clear hv5
      go_wp2_with fail
      refine hK.out _ _ ?_ (fun HS => ?_)
      · exact ⟨own_cells X5.out.2.1, pan_cells X5.out.1⟩
      clear hK K'
      refine wpHT_one (i := 18) (by kernel_rfl) rfl (fun K' hK => ?_)
      go_simp
      go_at_call 31
      refine (rplus_any sum (tim (dot p (vec q s)) (add p (add q s))) _ F5.out).mono ?_
      rintro e v6 ⟨rfl, hv6⟩
      have X6 := Lib.hid (rcs_below X5.out hv6)
      clear hv6
      go_wp2_with fail
      refine hK.out _ _ ?_ (fun HS => ?_)
      · exact ⟨own_cells X6.out.2.1, pan_cells X6.out.1⟩
      clear hK K'
      obtain ⟨y1, y2, y3, y4, y5, y6, y7⟩ := X6.out.2.1
      refine wpHT_last (i := 19) (by kernel_rfl) rfl (by decide) (fun K' hK => ?_)
      go_simp
      refine hK.out _ _ ?_
      clear hK K' HS y1 y2 y3 y4 y5 y6 y7
      refine wpHT_done (by kernel_rfl) ?_ _
      go_wp2
      go_roundw
      case rel => exact ⟨k + 1, by omega, by go_num, by rw [E.out]; exact own_write X6.out.2.1 _, own_set3 X6.out.2.2.1 (by have := LS.out; omega), mes_set0 (mes_set0 (mes_set0 X6.out.2.2.2.1 (by have := LS.out; omega)) (by have := LS.out; omega)) (by have := LS.out; omega), below_set3 X6.out.2.2.2.2 (by have := LS.out; omega)⟩
      case measure => simp [intOf]; omega
    · obtain rfl : k = nf := by omega
      obtain ⟨x1, x2, x3, x4, x5, x6, x7⟩ := ST.out.1
      obtain ⟨y1, y2, y3, y4, y5, y6, y7⟩ := ST.out.2.1
      rw [hS]
      have LS' := LS.out
      go_wp2
      refine bodyPost_ret (v := .tuple #[ptv (cen P F k), .int .i64 0]) (by rw [results_cell_tmp rfl]; go_simp) rfl ⟨rfl, ?_⟩
      exact below_set3 ST.out.2.2.2 (by omega)
theorem rcen_any (a : Option Addr) (np c : Nat) (a' : Option Addr) (nf c' : Nat) (P F : Nat → P3) (w : World) (rp : Lst w a np P) (rf : Lst w a' nf F) (hn : np ≤ 1000000) (hm : nf ≤ 1000000) : Calls Try.prog 11 #[msv a np c a' nf c'] w fun e w' => e = .returned (.tuple #[ptv (if vcode ⟨np, nf, P, F⟩ = 0 then cen P F nf else (0, 0, 0)), .int .i64 (vcode ⟨np, nf, P, F⟩)]) ∧ Below w.heap.size w w' := by
  have V := fun W (B : Below w.heap.size w W) => rval_any a np c a' nf c' P F W (lst_below rp B) (lst_below rf B) hn hm
  by_cases z : vcode ⟨np, nf, P, F⟩ = 0
  · obtain ⟨h1, h2, h3, h4, h5, h6⟩ := vcode_rows z
    obtain ⟨b', off', rfl, rF⟩ := rf h3
    obtain ⟨b, off, rfl, rP⟩ := rp h1
    rw [z] at V
    rw [if_pos z, z]
    exact rcen_row b off np c b' off' nf c' P F w (Lib.hid V) rP rF (by omega) h3 h4 h5 h6
  · rw [if_neg z]
    exact rcen_no a np c a' nf c' _ w (Lib.hid V) z

end Go.Proofs.Ytjflgiegnibgmaa
