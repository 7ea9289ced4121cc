/-
  The contracts of the document's Move and Scale.
-/
import Derived.Test.YtcphdlcglaopjaaCopy0
import Derived.Test.YtcphdlcglaopjaaMoves0
import Derived.Deep.RegionWith
namespace Go.Proofs.Ytcphdlcglaopjaa
open Go.ChangeShapes Go.WideShapes Go.RowKit
open Sh
/-- what a round of the loop has: the points, the mesh that is made, the result, the faces -/
def RS (w W : World) (R T Vb base g np gc nf fc : Nat) (fa : Option Addr) (v : P3) (f F : Nat → P3) : Prop :=
  Row3W W g np f ∧ OwnMs W T (.slice (some ⟨g, 0, none⟩) np gc) (.slice fa nf fc) ∧ OwnMs W R (.slice none 0 0) (.slice none 0 0) ∧ LstW W base fa nf F ∧ Below w.heap.size w W ∧ Own W Vb v
theorem rs_below {w W : World} {R T Vb base g np gc nf fc : Nat} {fa : Option Addr} {v : P3} {f F : Nat → P3} {W' : World} (h : RS w W R T Vb base g np gc nf fc fa v f F) (hb : Below W.heap.size W W') : RS w W' R T Vb base g np gc nf fc fa v f F :=
  ⟨row3w_below h.1 hb, ownMs_below h.2.1 hb, ownMs_below h.2.2.1 hb, lstw_below h.2.2.2.1 hb, bstep h.2.2.2.2.1 hb, own_below h.2.2.2.2.2 hb⟩
theorem rs_drew {w W : World} {R T Vb base g np gc nf fc : Nat} {fa : Option Addr} {v : P3} {f F : Nat → P3} (h : RS w W R T Vb base g np gc nf fc fa v f F) : RS w W.drew R T Vb base g np gc nf fc fa v f F := ⟨h.1, h.2.1, h.2.2.1, h.2.2.2.1, Below.drew h.2.2.2.2.1, h.2.2.2.2.2⟩
theorem rs_put {w W : World} {R T Vb base g np gc nf fc : Nat} {fa : Option Addr} {v : P3} {f F : Nat → P3} (h : RS w W R T Vb base g np gc nf fc fa v f F) {i : Nat} (hi : i < np) (q : P3) (n1 : g ≠ T) (n2 : g ≠ R) (n3 : w.heap.size ≤ g) (n4 : 0 < nf → ∀ b', fa = some b' → b'.block ≠ g) (n5 : Vb ≠ g) {f' : Nat → P3} (hf : ∀ k, (if k = i then q else f k) = f' k) :
    RS w (((W.setCell ⟨g, i * 3, none⟩ (.int .i64 q.1)).setCell ⟨g, i * 3 + 1, none⟩ (.int .i64 q.2.1)).setCell ⟨g, i * 3 + 2, none⟩ (.int .i64 q.2.2)) R T Vb base g np gc nf fc fa v f' F :=
  ⟨row3w_eq (row3w_put h.1 hi q) (fun k _ => hf k), ownMs_sets h.2.1 n1, ownMs_sets h.2.2.1 n2, fun h0 => by
    obtain ⟨x, e, l, r⟩ := h.2.2.2.1 h0
    have ne := n4 h0 _ e
    exact ⟨x, e, l, row3w_set (row3w_set (row3w_set r (fun z => ne z.symm)) (fun z => ne z.symm)) (fun z => ne z.symm)⟩, below_sets h.2.2.2.2.1 n3, own_set (own_set (own_set h.2.2.2.2.2 n5) n5) n5⟩
theorem rmove_no (a : Option Addr) (np c : Nat) (a' : Option Addr) (nf c' : Nat) (v : P3) (code : Int) (w : World) (V : Hid (∀ W, Below w.heap.size w W → Calls Try.prog 21 #[msv a np c a' nf c'] W fun e w' => e = .returned (.int .i64 code) ∧ Below W.heap.size W w')) (z : code ≠ 0) :
    Calls Try.prog 41 #[msv a np c a' nf c', ptv v] w fun e w' => e = .returned (.tuple #[msv none 0 0 none 0 0, .int .i64 code]) ∧ Below w.heap.size w w' := by
  have z1 := int_ne0 z
  clear z
  go_enter Try.func41, Try.ntmps41
  go_wp2_with fail
  refine (V.out _ (by (repeat' (first | exact Below.refl _ _ | refine Below.setCell ?_ (by simp <;> omega) _ | refine balloc ?_ _ | refine Below.drew ?_ | refine bdrewN ?_ _)))).mono ?_
  rintro e w1 ⟨rfl, hb1⟩
  have RM := Lib.hid (by have z := ownMs_below (ownMs_new ((w.alloc (msc a np c a' nf c' 25)).alloc (.cells #[.int .i64 v.1, .int .i64 v.2.1, .int .i64 v.2.2] 33)) (.slice none 0 0) (.slice none 0 0) 25) hb1; simp only [World.size_alloc] at z; exact z : OwnMs w1 (w.heap.size + 1 + 1) (.slice none 0 0) (.slice none 0 0))
  have ME := Lib.hid (mes_below (mes_alloc (mes_alloc (mes_new w a np c a' nf c' 25) (.cells #[.int .i64 v.1, .int .i64 v.2.1, .int .i64 v.2.2] 33)) (.cells #[.slice none 0 0, .slice none 0 0] 25)) hb1)
  have B1 := Lib.hid (bstep (balloc (balloc (balloc (Below.refl w.heap.size w) (msc a np c a' nf c' 25)) (.cells #[.int .i64 v.1, .int .i64 v.2.1, .int .i64 v.2.2] 33)) (.cells #[.slice none 0 0, .slice none 0 0] 25)) hb1)
  clear hb1
  obtain ⟨m1, m2, m3, m4, m5⟩ := RM.out
  go_wp2
  refine bodyPost_ret (v := .tuple #[msv none 0 0 none 0 0, .int .i64 code]) (by rw [results_cell_tmp rfl]; go_simp) rfl ⟨rfl, ?_⟩
  exact below_put2 B1.out (by omega)
theorem rmove_far (a : Option Addr) (np c : Nat) (a' : Option Addr) (nf c' : Nat) (v : P3) (w : World) (V : Hid (∀ W, Below w.heap.size w W → Calls Try.prog 21 #[msv a np c a' nf c'] W fun e w' => e = .returned (.int .i64 0) ∧ Below W.heap.size W w')) (I : Hid (∀ W, Calls Try.prog 69 #[ptv v, .int .i64 128] W fun e w' => e = .returned (.bool false) ∧ Below W.heap.size W w')) :
    Calls Try.prog 41 #[msv a np c a' nf c', ptv v] w fun e w' => e = .returned (.tuple #[msv none 0 0 none 0 0, .int .i64 1]) ∧ Below w.heap.size w w' := by
  go_enter Try.func41, Try.ntmps41
  go_wp2_with fail
  refine (V.out _ (by (repeat' (first | exact Below.refl _ _ | refine Below.setCell ?_ (by simp <;> omega) _ | refine balloc ?_ _ | refine Below.drew ?_ | refine bdrewN ?_ _)))).mono ?_
  rintro e w1 ⟨rfl, hb1⟩
  have HB1 := Lib.hid hb1
  have RM := Lib.hid (by have z := ownMs_below (ownMs_new ((w.alloc (msc a np c a' nf c' 25)).alloc (.cells #[.int .i64 v.1, .int .i64 v.2.1, .int .i64 v.2.2] 33)) (.slice none 0 0) (.slice none 0 0) 25) hb1; simp only [World.size_alloc] at z; exact z : OwnMs w1 (w.heap.size + 1 + 1) (.slice none 0 0) (.slice none 0 0))
  have ME := Lib.hid (mes_below (mes_alloc (mes_alloc (mes_new w a np c a' nf c' 25) (.cells #[.int .i64 v.1, .int .i64 v.2.1, .int .i64 v.2.2] 33)) (.cells #[.slice none 0 0, .slice none 0 0] 25)) hb1)
  have B1 := Lib.hid (bstep (balloc (balloc (balloc (Below.refl w.heap.size w) (msc a np c a' nf c' 25)) (.cells #[.int .i64 v.1, .int .i64 v.2.1, .int .i64 v.2.2] 33)) (.cells #[.slice none 0 0, .slice none 0 0] 25)) hb1)
  clear hb1
  have OV := Lib.hid (by have z := own_below (own_alloc (own_new (w.alloc (msc a np c a' nf c' 25)) v 33) (.cells #[.slice none 0 0, .slice none 0 0] 25)) HB1.out; simp only [World.size_alloc] at z; exact z : Own w1 (w.heap.size + 1) v)
  obtain ⟨o1, o2, o3, o4, o5, o6, o7⟩ := OV.out
  go_wp2_with fail
  refine (I.out _).mono ?_
  rintro e w2 ⟨rfl, hb2⟩
  have RM2 := Lib.hid (ownMs_below RM.out hb2)
  have ME2 := Lib.hid (mes_below ME.out hb2)
  have OV2 := Lib.hid (own_below OV.out hb2)
  have B2 := Lib.hid (bstep B1.out hb2)
  clear hb2 o1 o2 o3 o4 o5 o6 o7 RM ME OV B1
  obtain ⟨m1, m2, m3, m4, m5⟩ := RM2.out
  go_wp2
  refine bodyPost_ret (v := .tuple #[msv none 0 0 none 0 0, .int .i64 1]) (by rw [results_cell_tmp rfl]; go_simp) rfl ⟨rfl, ?_⟩
  exact below_put2 B2.out (by omega)
set_option maxRecDepth 100000 in
set_option maxHeartbeats 4000000 in
theorem rmove_row (b off np c : Nat) (a' : Option Addr) (nf c' : Nat) (v : P3) (P F h : Nat → P3) (N NF : Nat) (code : Int) (w : World) (V : Hid (∀ W, Below w.heap.size w W → Calls Try.prog 21 #[msv (some ⟨b, off, none⟩) np c a' nf c'] W fun e w' => e = .returned (.int .i64 0) ∧ Below W.heap.size W w')) (I : Hid (∀ W, Calls Try.prog 69 #[ptv v, .int .i64 128] W fun e w' => e = .returned (.bool true) ∧ Below W.heap.size W w')) (CP : Hid (∀ W, Below w.heap.size w W → Calls Try.prog 39 #[msv (some ⟨b, off, none⟩) np c a' nf c'] W (PlacedD np nf P F W)))
    (PL : Hid (∀ i, i < np → ∀ W, Calls Try.prog 57 #[ptv (P i), ptv v] W fun e w' => e = .returned (ptv (h i)) ∧ Below W.heap.size W w')) (h0 : 0 < np) (hn : np ≤ 1000000) (hm : nf ≤ 1000000)
    (E : Hid (N = (if vcode ⟨np, nf, h, F⟩ = 0 then np else 0) ∧ NF = (if vcode ⟨np, nf, h, F⟩ = 0 then nf else 0) ∧ code = vcode ⟨np, nf, h, F⟩)) :
    Calls Try.prog 41 #[msv (some ⟨b, off, none⟩) np c a' nf c', ptv v] w (MovedW N NF h F code w) := by
  have HN := Lib.hid hn
  have HM := Lib.hid hm
  have H0 := Lib.hid h0
  have hn' : (np : Int) ≤ 1000000 := by omega
  clear hn hm h0
  go_enter Try.func41, Try.ntmps41
  go_wp2_with fail
  refine (V.out _ (by (repeat' (first | exact Below.refl _ _ | refine Below.setCell ?_ (by simp <;> omega) _ | refine balloc ?_ _ | refine Below.drew ?_ | refine bdrewN ?_ _)))).mono ?_
  rintro e w1 ⟨rfl, hb1⟩
  have HB1 := Lib.hid hb1
  have RM := Lib.hid (by have z := ownMs_below (ownMs_new ((w.alloc (msc (some ⟨b, off, none⟩) np c a' nf c' 25)).alloc (.cells #[.int .i64 v.1, .int .i64 v.2.1, .int .i64 v.2.2] 33)) (.slice none 0 0) (.slice none 0 0) 25) hb1; simp only [World.size_alloc] at z; exact z : OwnMs w1 (w.heap.size + 1 + 1) (.slice none 0 0) (.slice none 0 0))
  have ME := Lib.hid (mes_below (mes_alloc (mes_alloc (mes_new w (some ⟨b, off, none⟩) np c a' nf c' 25) (.cells #[.int .i64 v.1, .int .i64 v.2.1, .int .i64 v.2.2] 33)) (.cells #[.slice none 0 0, .slice none 0 0] 25)) hb1)
  have B1 := Lib.hid (bstep (balloc (balloc (balloc (Below.refl w.heap.size w) (msc (some ⟨b, off, none⟩) np c a' nf c' 25)) (.cells #[.int .i64 v.1, .int .i64 v.2.1, .int .i64 v.2.2] 33)) (.cells #[.slice none 0 0, .slice none 0 0] 25)) hb1)
  clear hb1
  have OV := Lib.hid (by have z := own_below (own_alloc (own_new (w.alloc (msc (some ⟨b, off, none⟩) np c a' nf c' 25)) v 33) (.cells #[.slice none 0 0, .slice none 0 0] 25)) HB1.out; simp only [World.size_alloc] at z; exact z : Own w1 (w.heap.size + 1) v)
  obtain ⟨o1, o2, o3, o4, o5, o6, o7⟩ := OV.out
  go_wp2_with fail
  refine (I.out _).mono ?_
  rintro e w2 ⟨rfl, hb2⟩
  have RM2 := Lib.hid (ownMs_below RM.out hb2)
  have ME2 := Lib.hid (mes_below ME.out hb2)
  have OV2 := Lib.hid (own_below OV.out hb2)
  have B2 := Lib.hid (bstep B1.out hb2)
  clear hb2 o1 o2 o3 o4 o5 o6 o7 RM ME OV B1
  obtain ⟨m1, m2, m3⟩ := ME2.out
  go_wp2_with fail
  refine (CP.out _ B2.out).mono ?_
  rintro e w3 ⟨ga, gc, fa, fc, rfl, lg, lf, hd, hb3⟩
  obtain ⟨g, rfl, hg, rg⟩ := lg H0.out
  have RL := Lib.hid (show w.heap.size + 1 + 1 < w2.heap.size from RM2.out.2.2.2.2)
  have GL := Lib.hid rg.1
  have SL := Lib.hid hb3.size
  have HG := Lib.hid hg
  have N4 := Lib.hid (show 0 < nf → ∀ b', fa = some b' → b'.block ≠ g from fun x b' e => (hd H0.out x ⟨g, 0, none⟩ b' rfl e).symm)
  have ST := Lib.hid (show RS w (w3.alloc (.cells #[.slice (some ⟨g, 0, none⟩) np gc, .slice fa nf fc] 25)) (w.heap.size + 1 + 1) w3.heap.size (w.heap.size + 1) w2.heap.size g np gc nf fc fa v (upd h P 0) F from
    ⟨row3w_eq (row3w_alloc rg _) (fun k _ => upd_zero h P k), ownMs_new w3 _ _ _, ownMs_alloc (ownMs_below RM2.out hb3) _, lstw_alloc lf _, balloc (bstep B2.out hb3) _, own_alloc (own_below OV2.out hb3) _⟩)
  clear lg lf hd hb3 rg hg m1 m2 m3
  go_wp2
  go_loopw [8] (fun kv wr => ∃ k : Nat, k ≤ np ∧ kv = .int .i64 k ∧ RS w wr (w.heap.size + 1 + 1) w3.heap.size (w.heap.size + 1) w2.heap.size g np gc nf fc fa v (upd h P k) F) (fun kv _ => np - (intOf kv).toNat)
  case atStart => exact ⟨0, Nat.zero_le _, rfl, ST.out⟩
  case round =>
    clear ST
    obtain ⟨k, hk, rfl, st⟩ := hrel
    have XX := Lib.hid st
    have YY := Lib.hid (rs_drew st)
    obtain ⟨t1, t2, t3, t4, t5⟩ := st.2.1
    by_cases hlt : k < np
    · have k1 : (k : Int) < (np : Int) := by omega
      obtain ⟨⟨c1, c2, c3⟩, f1, f2, f3⟩ := st.1.2 k hlt
      have r6 := st.1.1
      obtain ⟨o1, o2, o3, o4, o5, o6, o7⟩ := st.2.2.2.2.2
      rw [upd_at] at c1 c2 c3
      have PK := Lib.hid (PL.out k hlt)
      have US := Lib.hid (upd_succ h P k)
      have UA := Lib.hid (upd_at h P k)
      clear st
      obtain ⟨p, hp⟩ : ∃ p, P k = p := ⟨_, rfl⟩
      rw [hp] at c1 c2 c3 PK UA
      clear hp
      obtain ⟨q, hq⟩ : ∃ q, h k = q := ⟨_, rfl⟩
      rw [hq] at PK US
      clear hq
      go_wp2_with fail
      go_region_with (first | (go_at_call 57; (with_reducible refine (PK.out _).mono ?_); rintro e v1 ⟨rfl, hv1⟩; have Y1 := rs_below YY.out hv1; have Z1 := Lib.hid Y1; obtain ⟨⟨d1, d2, d3⟩, e1, e2, e3⟩ := Y1.1.2 k hlt; obtain ⟨u1, u2, u3, u4, u5⟩ := Y1.2.1; have s6 := Y1.1.1; rw [UA.out] at d1 d2 d3; clear Y1 hv1 c1 c2 c3 f1 f2 f3 t1 t2 t3 t4 t5 r6 o1 o2 o3 o4 o5 o6 o7) | fail)
      all_goals
        go_wp2
        go_roundw
        case rel => exact ⟨k + 1, by omega, by go_num, rs_put Z1.out hlt q (by have := GL.out; omega) (by have := RL.out; have := HG.out; omega) (by have := RL.out; have := HG.out; omega) N4.out (by have := RL.out; have := HG.out; omega) US.out⟩
        case measure => simp [intOf]; omega
    · obtain rfl : np = k := by omega
      have LG := Lib.hid (show LstW wr w2.heap.size (some ⟨g, 0, none⟩) np h from fun _ => ⟨g, rfl, HG.out, row3w_eq st.1 (fun i hi => upd_end h P np i hi)⟩)
      have LF := Lib.hid st.2.2.2.1
      have RM3 := Lib.hid st.2.2.1
      have B3 := Lib.hid st.2.2.2.2.1
      clear st
      by_cases hz : vcode ⟨np, nf, h, F⟩ = 0
      · have Z := Lib.hid hz
        clear hz
        go_wp2_with fail
        refine (rtold_yes _ np gc fa nf fc h F _ (lstw_lst LG.out) (lstw_lst LF.out) HN.out HM.out Z.out).mono ?_
        rintro e w4 ⟨rfl, hb4⟩
        have RM4 := Lib.hid (ownMs_below RM3.out hb4)
        have LG4 := Lib.hid (lstw_below LG.out hb4)
        have LF4 := Lib.hid (lstw_below LF.out hb4)
        have B4 := Lib.hid (bstep B3.out hb4)
        clear hb4 t1 t2 t3 t4 t5
        obtain ⟨m1, m2, m3, m4, m5⟩ := RM4.out
        go_wp2
        refine bodyPost_ret (v := .tuple #[msv (some ⟨g, 0, none⟩) np gc fa nf fc, .int .i64 0]) (by rw [results_cell_tmp rfl]; go_simp) rfl ?_
        obtain ⟨e1, e2, e3⟩ := E.out
        rw [if_pos Z.out] at e1 e2
        rw [Z.out] at e3
        subst e1 e2 e3
        exact ⟨_, gc, fa, fc, rfl, lstw_mono (lstw_put2 LG4.out RL.out) (by have := RL.out; omega), lstw_mono (lstw_put2 LF4.out RL.out) (by have := RL.out; omega), below_put2 B4.out (by omega)⟩
      · have Z := Lib.hid hz
        clear hz
        go_wp2_with fail
        refine (rtold_not _ np gc fa nf fc h F _ (lstw_lst LG.out) (lstw_lst LF.out) HN.out HM.out Z.out).mono ?_
        rintro e w4 ⟨rfl, hb4⟩
        have RM4 := Lib.hid (ownMs_below RM3.out hb4)
        have B4 := Lib.hid (bstep B3.out hb4)
        clear hb4 t1 t2 t3 t4 t5
        obtain ⟨m1, m2, m3, m4, m5⟩ := RM4.out
        go_wp2
        refine bodyPost_ret (v := .tuple #[msv none 0 0 none 0 0, .int .i64 (vcode ⟨np, nf, h, F⟩)]) (by rw [results_cell_tmp rfl]; go_simp) rfl ?_
        obtain ⟨e1, e2, e3⟩ := E.out
        rw [if_neg Z.out] at e1 e2
        subst e1 e2 e3
        exact movedW_none ⟨rfl, below_put2 B4.out (by omega)⟩
/-- what a round of the loop has: the points, the mesh that is made, the result, the faces -/
def RT (w W : World) (R T base g np gc nf fc : Nat) (fa : Option Addr) (f F : Nat → P3) : Prop :=
  Row3W W g np f ∧ OwnMs W T (.slice (some ⟨g, 0, none⟩) np gc) (.slice fa nf fc) ∧ OwnMs W R (.slice none 0 0) (.slice none 0 0) ∧ LstW W base fa nf F ∧ Below w.heap.size w W
theorem rt_below {w W : World} {R T base g np gc nf fc : Nat} {fa : Option Addr} {f F : Nat → P3} {W' : World} (h : RT w W R T base g np gc nf fc fa f F) (hb : Below W.heap.size W W') : RT w W' R T base g np gc nf fc fa f F :=
  ⟨row3w_below h.1 hb, ownMs_below h.2.1 hb, ownMs_below h.2.2.1 hb, lstw_below h.2.2.2.1 hb, bstep h.2.2.2.2 hb⟩
theorem rt_drew {w W : World} {R T base g np gc nf fc : Nat} {fa : Option Addr} {f F : Nat → P3} (h : RT w W R T base g np gc nf fc fa f F) : RT w W.drew R T base g np gc nf fc fa f F := ⟨h.1, h.2.1, h.2.2.1, h.2.2.2.1, Below.drew h.2.2.2.2⟩
theorem rt_put {w W : World} {R T base g np gc nf fc : Nat} {fa : Option Addr} {f F : Nat → P3} (h : RT w W R T base g np gc nf fc fa f F) {i : Nat} (hi : i < np) (q : P3) (n1 : g ≠ T) (n2 : g ≠ R) (n3 : w.heap.size ≤ g) (n4 : 0 < nf → ∀ b', fa = some b' → b'.block ≠ g) {f' : Nat → P3} (hf : ∀ k, (if k = i then q else f k) = f' k) :
    RT w (((W.setCell ⟨g, i * 3, none⟩ (.int .i64 q.1)).setCell ⟨g, i * 3 + 1, none⟩ (.int .i64 q.2.1)).setCell ⟨g, i * 3 + 2, none⟩ (.int .i64 q.2.2)) R T base g np gc nf fc fa f' F :=
  ⟨row3w_eq (row3w_put h.1 hi q) (fun k _ => hf k), ownMs_sets h.2.1 n1, ownMs_sets h.2.2.1 n2, fun h0 => by
    obtain ⟨x, e, l, r⟩ := h.2.2.2.1 h0
    have ne := n4 h0 _ e
    exact ⟨x, e, l, row3w_set (row3w_set (row3w_set r (fun z => ne z.symm)) (fun z => ne z.symm)) (fun z => ne z.symm)⟩, below_sets h.2.2.2.2 n3⟩
theorem rscale_no (a : Option Addr) (np c : Nat) (a' : Option Addr) (nf c' : Nat) (k0 : Int) (code : Int) (w : World) (V : Hid (∀ W, Below w.heap.size w W → Calls Try.prog 21 #[msv a np c a' nf c'] W fun e w' => e = .returned (.int .i64 code) ∧ Below W.heap.size W w')) (z : code ≠ 0) :
    Calls Try.prog 43 #[msv a np c a' nf c', .int .i64 k0] w fun e w' => e = .returned (.tuple #[msv none 0 0 none 0 0, .int .i64 code]) ∧ Below w.heap.size w w' := by
  have z1 := int_ne0 z
  clear z
  go_enter Try.func43, Try.ntmps43
  go_wp2_with fail
  refine (V.out _ (by (repeat' (first | exact Below.refl _ _ | refine Below.setCell ?_ (by simp <;> omega) _ | refine balloc ?_ _ | refine Below.drew ?_ | refine bdrewN ?_ _)))).mono ?_
  rintro e w1 ⟨rfl, hb1⟩
  have RM := Lib.hid (by have z := ownMs_below (ownMs_new (w.alloc (msc a np c a' nf c' 25)) (.slice none 0 0) (.slice none 0 0) 25) hb1; simp only [World.size_alloc] at z; exact z : OwnMs w1 (w.heap.size + 1) (.slice none 0 0) (.slice none 0 0))
  have ME := Lib.hid (mes_below (mes_alloc (mes_new w a np c a' nf c' 25) (.cells #[.slice none 0 0, .slice none 0 0] 25)) hb1)
  have B1 := Lib.hid (bstep (balloc (balloc (Below.refl w.heap.size w) (msc a np c a' nf c' 25)) (.cells #[.slice none 0 0, .slice none 0 0] 25)) hb1)
  clear hb1
  obtain ⟨m1, m2, m3, m4, m5⟩ := RM.out
  go_wp2
  refine bodyPost_ret (v := .tuple #[msv none 0 0 none 0 0, .int .i64 code]) (by rw [results_cell_tmp rfl]; go_simp) rfl ⟨rfl, ?_⟩
  exact below_put2 B1.out (by omega)
theorem rscale_far (a : Option Addr) (np c : Nat) (a' : Option Addr) (nf c' : Nat) (k0 : Int) (w : World) (V : Hid (∀ W, Below w.heap.size w W → Calls Try.prog 21 #[msv a np c a' nf c'] W fun e w' => e = .returned (.int .i64 0) ∧ Below W.heap.size W w')) (I : Hid (∀ W, Calls Try.prog 68 #[.int .i64 k0, .int .i64 1, .int .i64 128] W fun e w' => e = .returned (.bool false) ∧ W = w')) :
    Calls Try.prog 43 #[msv a np c a' nf c', .int .i64 k0] w fun e w' => e = .returned (.tuple #[msv none 0 0 none 0 0, .int .i64 1]) ∧ Below w.heap.size w w' := by
  go_enter Try.func43, Try.ntmps43
  go_wp2_with fail
  refine (V.out _ (by (repeat' (first | exact Below.refl _ _ | refine Below.setCell ?_ (by simp <;> omega) _ | refine balloc ?_ _ | refine Below.drew ?_ | refine bdrewN ?_ _)))).mono ?_
  rintro e w1 ⟨rfl, hb1⟩
  have HB1 := Lib.hid hb1
  have RM := Lib.hid (by have z := ownMs_below (ownMs_new (w.alloc (msc a np c a' nf c' 25)) (.slice none 0 0) (.slice none 0 0) 25) hb1; simp only [World.size_alloc] at z; exact z : OwnMs w1 (w.heap.size + 1) (.slice none 0 0) (.slice none 0 0))
  have ME := Lib.hid (mes_below (mes_alloc (mes_new w a np c a' nf c' 25) (.cells #[.slice none 0 0, .slice none 0 0] 25)) hb1)
  have B1 := Lib.hid (bstep (balloc (balloc (Below.refl w.heap.size w) (msc a np c a' nf c' 25)) (.cells #[.slice none 0 0, .slice none 0 0] 25)) hb1)
  clear hb1
  go_wp2_with fail
  refine (I.out _).mono ?_
  rintro e w2 ⟨rfl, rfl⟩
  have RM2 := RM
  have ME2 := ME
  have B2 := B1
  clear RM ME B1
  obtain ⟨m1, m2, m3, m4, m5⟩ := RM2.out
  go_wp2
  refine bodyPost_ret (v := .tuple #[msv none 0 0 none 0 0, .int .i64 1]) (by rw [results_cell_tmp rfl]; go_simp) rfl ⟨rfl, ?_⟩
  exact below_put2 B2.out (by omega)
set_option maxRecDepth 100000 in
set_option maxHeartbeats 4000000 in
theorem rscale_row (b off np c : Nat) (a' : Option Addr) (nf c' : Nat) (k0 : Int) (P F h : Nat → P3) (N NF : Nat) (code : Int) (w : World) (V : Hid (∀ W, Below w.heap.size w W → Calls Try.prog 21 #[msv (some ⟨b, off, none⟩) np c a' nf c'] W fun e w' => e = .returned (.int .i64 0) ∧ Below W.heap.size W w')) (I : Hid (∀ W, Calls Try.prog 68 #[.int .i64 k0, .int .i64 1, .int .i64 128] W fun e w' => e = .returned (.bool true) ∧ W = w')) (CP : Hid (∀ W, Below w.heap.size w W → Calls Try.prog 39 #[msv (some ⟨b, off, none⟩) np c a' nf c'] W (PlacedD np nf P F W)))
    (PL : Hid (∀ i, i < np → ∀ W, Calls Try.prog 58 #[ptv (P i), .int .i64 k0] W fun e w' => e = .returned (ptv (h i)) ∧ Below W.heap.size W w')) (h0 : 0 < np) (hn : np ≤ 1000000) (hm : nf ≤ 1000000)
    (E : Hid (N = (if vcode ⟨np, nf, h, F⟩ = 0 then np else 0) ∧ NF = (if vcode ⟨np, nf, h, F⟩ = 0 then nf else 0) ∧ code = vcode ⟨np, nf, h, F⟩)) :
    Calls Try.prog 43 #[msv (some ⟨b, off, none⟩) np c a' nf c', .int .i64 k0] w (MovedW N NF h F code w) := by
  have HN := Lib.hid hn
  have HM := Lib.hid hm
  have H0 := Lib.hid h0
  have hn' : (np : Int) ≤ 1000000 := by omega
  clear hn hm h0
  go_enter Try.func43, Try.ntmps43
  go_wp2_with fail
  refine (V.out _ (by (repeat' (first | exact Below.refl _ _ | refine Below.setCell ?_ (by simp <;> omega) _ | refine balloc ?_ _ | refine Below.drew ?_ | refine bdrewN ?_ _)))).mono ?_
  rintro e w1 ⟨rfl, hb1⟩
  have HB1 := Lib.hid hb1
  have RM := Lib.hid (by have z := ownMs_below (ownMs_new (w.alloc (msc (some ⟨b, off, none⟩) np c a' nf c' 25)) (.slice none 0 0) (.slice none 0 0) 25) hb1; simp only [World.size_alloc] at z; exact z : OwnMs w1 (w.heap.size + 1) (.slice none 0 0) (.slice none 0 0))
  have ME := Lib.hid (mes_below (mes_alloc (mes_new w (some ⟨b, off, none⟩) np c a' nf c' 25) (.cells #[.slice none 0 0, .slice none 0 0] 25)) hb1)
  have B1 := Lib.hid (bstep (balloc (balloc (Below.refl w.heap.size w) (msc (some ⟨b, off, none⟩) np c a' nf c' 25)) (.cells #[.slice none 0 0, .slice none 0 0] 25)) hb1)
  clear hb1
  go_wp2_with fail
  refine (I.out _).mono ?_
  rintro e w2 ⟨rfl, rfl⟩
  have RM2 := RM
  have ME2 := ME
  have B2 := B1
  clear RM ME B1
  obtain ⟨m1, m2, m3⟩ := ME2.out
  go_wp2_with fail
  refine (CP.out _ B2.out).mono ?_
  rintro e w3 ⟨ga, gc, fa, fc, rfl, lg, lf, hd, hb3⟩
  obtain ⟨g, rfl, hg, rg⟩ := lg H0.out
  have RL := Lib.hid (show w.heap.size + 1 < w1.heap.size from RM2.out.2.2.2.2)
  have GL := Lib.hid rg.1
  have SL := Lib.hid hb3.size
  have HG := Lib.hid hg
  have N4 := Lib.hid (show 0 < nf → ∀ b', fa = some b' → b'.block ≠ g from fun x b' e => (hd H0.out x ⟨g, 0, none⟩ b' rfl e).symm)
  have ST := Lib.hid (show RT w (w3.alloc (.cells #[.slice (some ⟨g, 0, none⟩) np gc, .slice fa nf fc] 25)) (w.heap.size + 1) w3.heap.size w1.heap.size g np gc nf fc fa (upd h P 0) F from
    ⟨row3w_eq (row3w_alloc rg _) (fun k _ => upd_zero h P k), ownMs_new w3 _ _ _, ownMs_alloc (ownMs_below RM2.out hb3) _, lstw_alloc lf _, balloc (bstep B2.out hb3) _⟩)
  clear lg lf hd hb3 rg hg m1 m2 m3
  go_wp2
  go_loopw [8] (fun kv wr => ∃ k : Nat, k ≤ np ∧ kv = .int .i64 k ∧ RT w wr (w.heap.size + 1) w3.heap.size w1.heap.size g np gc nf fc fa (upd h P k) F) (fun kv _ => np - (intOf kv).toNat)
  case atStart => exact ⟨0, Nat.zero_le _, rfl, ST.out⟩
  case round =>
    clear ST
    obtain ⟨k, hk, rfl, st⟩ := hrel
    have XX := Lib.hid st
    have YY := Lib.hid (rt_drew st)
    obtain ⟨t1, t2, t3, t4, t5⟩ := st.2.1
    by_cases hlt : k < np
    · have k1 : (k : Int) < (np : Int) := by omega
      obtain ⟨⟨c1, c2, c3⟩, f1, f2, f3⟩ := st.1.2 k hlt
      have r6 := st.1.1

      rw [upd_at] at c1 c2 c3
      have PK := Lib.hid (PL.out k hlt)
      have US := Lib.hid (upd_succ h P k)
      have UA := Lib.hid (upd_at h P k)
      clear st
      obtain ⟨p, hp⟩ : ∃ p, P k = p := ⟨_, rfl⟩
      rw [hp] at c1 c2 c3 PK UA
      clear hp
      obtain ⟨q, hq⟩ : ∃ q, h k = q := ⟨_, rfl⟩
      rw [hq] at PK US
      clear hq
      go_wp2_with fail
      go_region_with (first | (go_at_call 58; (with_reducible refine (PK.out _).mono ?_); rintro e v1 ⟨rfl, hv1⟩; have Y1 := rt_below YY.out hv1; have Z1 := Lib.hid Y1; obtain ⟨⟨d1, d2, d3⟩, e1, e2, e3⟩ := Y1.1.2 k hlt; obtain ⟨u1, u2, u3, u4, u5⟩ := Y1.2.1; have s6 := Y1.1.1; rw [UA.out] at d1 d2 d3; clear Y1 hv1 c1 c2 c3 f1 f2 f3 t1 t2 t3 t4 t5 r6) | fail)
      all_goals
        go_wp2
        go_roundw
        case rel => exact ⟨k + 1, by omega, by go_num, rt_put Z1.out hlt q (by have := GL.out; omega) (by have := RL.out; have := HG.out; omega) (by have := RL.out; have := HG.out; omega) N4.out US.out⟩
        case measure => simp [intOf]; omega
    · obtain rfl : np = k := by omega
      have LG := Lib.hid (show LstW wr w1.heap.size (some ⟨g, 0, none⟩) np h from fun _ => ⟨g, rfl, HG.out, row3w_eq st.1 (fun i hi => upd_end h P np i hi)⟩)
      have LF := Lib.hid st.2.2.2.1
      have RM3 := Lib.hid st.2.2.1
      have B3 := Lib.hid st.2.2.2.2
      clear st
      by_cases hz : vcode ⟨np, nf, h, F⟩ = 0
      · have Z := Lib.hid hz
        clear hz
        go_wp2_with fail
        refine (rtold_yes _ np gc fa nf fc h F _ (lstw_lst LG.out) (lstw_lst LF.out) HN.out HM.out Z.out).mono ?_
        rintro e w4 ⟨rfl, hb4⟩
        have RM4 := Lib.hid (ownMs_below RM3.out hb4)
        have LG4 := Lib.hid (lstw_below LG.out hb4)
        have LF4 := Lib.hid (lstw_below LF.out hb4)
        have B4 := Lib.hid (bstep B3.out hb4)
        clear hb4 t1 t2 t3 t4 t5
        obtain ⟨m1, m2, m3, m4, m5⟩ := RM4.out
        go_wp2
        refine bodyPost_ret (v := .tuple #[msv (some ⟨g, 0, none⟩) np gc fa nf fc, .int .i64 0]) (by rw [results_cell_tmp rfl]; go_simp) rfl ?_
        obtain ⟨e1, e2, e3⟩ := E.out
        rw [if_pos Z.out] at e1 e2
        rw [Z.out] at e3
        subst e1 e2 e3
        exact ⟨_, gc, fa, fc, rfl, lstw_mono (lstw_put2 LG4.out RL.out) (by have := RL.out; omega), lstw_mono (lstw_put2 LF4.out RL.out) (by have := RL.out; omega), below_put2 B4.out (by omega)⟩
      · have Z := Lib.hid hz
        clear hz
        go_wp2_with fail
        refine (rtold_not _ np gc fa nf fc h F _ (lstw_lst LG.out) (lstw_lst LF.out) HN.out HM.out Z.out).mono ?_
        rintro e w4 ⟨rfl, hb4⟩
        have RM4 := Lib.hid (ownMs_below RM3.out hb4)
        have B4 := Lib.hid (bstep B3.out hb4)
        clear hb4 t1 t2 t3 t4 t5
        obtain ⟨m1, m2, m3, m4, m5⟩ := RM4.out
        go_wp2
        refine bodyPost_ret (v := .tuple #[msv none 0 0 none 0 0, .int .i64 (vcode ⟨np, nf, h, F⟩)]) (by rw [results_cell_tmp rfl]; go_simp) rfl ?_
        obtain ⟨e1, e2, e3⟩ := E.out
        rw [if_neg Z.out] at e1 e2
        subst e1 e2 e3
        exact movedW_none ⟨rfl, below_put2 B4.out (by omega)⟩

end Go.Proofs.Ytcphdlcglaopjaa
