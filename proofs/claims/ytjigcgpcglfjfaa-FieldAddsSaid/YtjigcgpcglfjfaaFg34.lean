/-
  The law FieldAdds: its walk.
-/
import Derived.Test.YtjigcgpcglfjfaaFg33
import Derived.Test.YtjigcgpcglfjfaaFg26
import Derived.Test.YtjigcgpcglfjfaaMoApp
import Derived.Deep.RegionHeld3
namespace Go.Proofs.Ytjigcgpcglfjfaa
open Go.ChangeShapes Go.WideShapes Go.RowKit
open Sh
theorem sm_ad (f : Nat → Int) (n : Nat) : ∀ m, sm f (n + m) = sm f n + sm (fun k => f (n + k)) m
  | 0 => by show sm f n = sm f n + 0; omega
  | m + 1 => by
    show sm f (n + m) + f (n + m) = sm f n + (sm (fun k => f (n + k)) m + f (n + m))
    rw [sm_ad f n m]; omega
theorem sm_cg {f g : Nat → Int} : ∀ {n : Nat}, (∀ k, k < n → f k = g k) → sm f n = sm g n
  | 0, _ => rfl
  | n + 1, h => by
    show sm f n + f n = sm g n + g n
    rw [sm_cg (n := n) fun k hk => h k (by omega), h n (by omega)]
theorem sceR_ok {g : Nat → Sp.R} {n : Nat} (h : (sceR g n).2 = 0) : sceR g n = ((sm (fun k => (g k).1.1) n, sm (fun k => (g k).1.2) n), 0) ∧ Sp.vldB (sm (fun k => (g k).1.1) n) (sm (fun k => (g k).1.2) n) = true := by
  have e1 : sm (fun k => ((gsN g n).getD k (0, 0)).1) n = sm (fun k => (g k).1.1) n := sm_cg fun k hk => by (try dsimp only); rw [gsN_at hk]
  have e2 : sm (fun k => ((gsN g n).getD k (0, 0)).2) n = sm (fun k => (g k).1.2) n := sm_cg fun k hk => by (try dsimp only); rw [gsN_at hk]
  unfold sceR at h ⊢
  by_cases z : geN g n ≠ 0
  · rw [if_pos z] at h; exact absurd h z
  · rw [if_neg z] at h ⊢
    unfold smR8 at h ⊢
    by_cases y : (List.range n).all (fun k => Sp.vldB ((gsN g n).getD k (0, 0)).1 ((gsN g n).getD k (0, 0)).2) = true
    · rw [if_pos y] at h ⊢
      rw [e1, e2] at h ⊢
      unfold sumR at h ⊢
      rw [if_pos rfl] at h ⊢
      unfold Sp.told at h ⊢
      by_cases v : Sp.vldB (sm (fun k => (g k).1.1) n) (sm (fun k => (g k).1.2) n) = true
      · rw [if_pos v]; exact ⟨rfl, v⟩
      · rw [if_neg v] at h; exact absurd h (by decide)
    · rw [if_neg y] at h; exact absurd h (by decide)
theorem potF_ok {n : Nat} {Q : Nat → Ch} {x : P3} {D : Int} (h : (potF n Q x D).2 = 0) : potF n Q x D = ((sm (fun k => (potC x D (Q k)).1.1) n, sm (fun k => (potC x D (Q k)).1.2) n), 0) ∧ Sp.vldB (sm (fun k => (potC x D (Q k)).1.1) n) (sm (fun k => (potC x D (Q k)).1.2) n) = true := by
  unfold potF at h ⊢
  by_cases z : ccode n Q = 0
  · rw [if_pos z] at h ⊢
    by_cases y : akc x D = 0
    · rw [if_pos y] at h ⊢
      exact sceR_ok h
    · rw [if_neg y] at h; exact absurd h y
  · rw [if_neg z] at h; exact absurd h z
theorem potF_join {n m : Nat} {Q R : Nat → Ch} {x : P3} {D : Int} (h1 : (potF n Q x D).2 = 0) (h2 : (potF m R x D).2 = 0) (h3 : (potF (n + m) (joinQ Q n R) x D).2 = 0) :
    (potF (n + m) (joinQ Q n R) x D).1.1 = (potF n Q x D).1.1 + (potF m R x D).1.1 ∧ (potF (n + m) (joinQ Q n R) x D).1.2 = (potF n Q x D).1.2 + (potF m R x D).1.2 := by
  rw [(potF_ok h1).1, (potF_ok h2).1, (potF_ok h3).1]
  have a : ∀ k, k < n → joinQ Q n R k = Q k := fun k hk => if_pos hk
  have b : ∀ k, joinQ Q n R (n + k) = R k := fun k => by unfold joinQ; rw [if_neg (by omega), show n + k - n = k by omega]
  refine ⟨?_, ?_⟩
  · show sm _ (n + m) = sm _ n + sm _ m
    rw [sm_ad, sm_cg (g := fun k => (potC x D (Q k)).1.1) fun k hk => by (try dsimp only); rw [a k hk]]
    simp only [b]
  · show sm _ (n + m) = sm _ n + sm _ m
    rw [sm_ad, sm_cg (g := fun k => (potC x D (Q k)).1.2) fun k hk => by (try dsimp only); rw [a k hk]]
    simp only [b]
theorem flong_any (a : Option Addr) (n cap : Nat) (w : World) (hn : n ≤ 9223372036854775807) : Calls Try.prog 22 #[.slice a n cap] w fun e w' => e = .returned (.bool (decide (150 < (n : Int)))) ∧ Below w.heap.size w w' := by
  have hn' : (n : Int) ≤ 9223372036854775807 := by omega
  go_enter Try.func22, Try.ntmps22
  go_wp2
  go_ret
  exact ⟨rfl, Below.refl _ _⟩
theorem lstC_of' {w : World} {base n : Nat} {v : Value} {Q : Nat → Ch} (h : w.ownsRow base 90 10 v n (ccs Q n)) : ∃ ao c, v = .slice ao n c ∧ LstC w ao n Q := by
  rcases Nat.eq_zero_or_pos n with h0 | h0
  · subst h0
    rcases h.2 with ⟨e, _⟩ | ⟨g, cap, cur, e, _⟩
    · exact ⟨none, 0, e, fun h => absurd h (Nat.lt_irrefl 0)⟩
    · exact ⟨_, cap, e, fun h => absurd h (Nat.lt_irrefl 0)⟩
  · obtain ⟨g, cap, e, _, r⟩ := rowC_of h h0
    exact ⟨_, cap, e, fun _ => ⟨g, 0, rfl, r⟩⟩
/-- what the law has while it appends -/
def UAd (w W : World) (g1 g2 B : Nat) (t : P9) (x : P3) (d : Int) (s r : Int × Int) : Prop :=
  Sen W w.heap.size t x d ∧ OwP W g1 s ∧ OwP W g2 r ∧ Below w.heap.size w W ∧ w.heap.size < g1 ∧ g1 < g2 ∧ g2 < B ∧ B ≤ W.heap.size
section
variable {w W W1 : World} {g1 g2 B : Nat} {t : P9} {x : P3} {d : Int} {s r : Int × Int}
theorem ua_step (h : UAd w W g1 g2 B t x d s r) (hb : Below B W W1) : UAd w W1 g1 g2 B t x d s r := by
  obtain ⟨h1, h2, h3, h4, h5, h6, h7, h8⟩ := h
  exact ⟨sen_in h1 hb (by omega), owp_in h2 hb (by omega), owp_in h3 hb (by omega), h4.trans (hb.mono (by omega)), h5, h6, h7, Nat.le_trans h8 hb.size⟩
theorem ua_below (h : UAd w W g1 g2 B t x d s r) (hb : Below W.heap.size W W1) : UAd w W1 g1 g2 B t x d s r := ua_step h (hb.mono h.2.2.2.2.2.2.2)
theorem ua_alloc (h : UAd w W g1 g2 B t x d s r) (o : Obj) : UAd w (W.alloc o) g1 g2 B t x d s r := ua_below h ((Below.refl _ _).alloc (Nat.le_refl _) _)
theorem ua_drew (h : UAd w W g1 g2 B t x d s r) : UAd w W.drew g1 g2 B t x d s r := ua_below h (Below.drew (Below.refl _ _))
abbrev uaS (w W : World) (g1 g2 B : Nat) (t : P9) (x : P3) (d : Int) (s r : Int × Int) : Prop := (W.cell? ⟨w.heap.size, 9, none⟩ = some (.int .i64 x.1) ∧ W.cell? ⟨w.heap.size, 10, none⟩ = some (.int .i64 x.2.1) ∧ W.cell? ⟨w.heap.size, 11, none⟩ = some (.int .i64 x.2.2) ∧ W.cell? ⟨w.heap.size, 12, none⟩ = some (.int .i64 d)) ∧ UAd w W g1 g2 B t x d s r
theorem sa_of (h : UAd w W g1 g2 B t x d s r) : uaS w W g1 g2 B t x d s r := ⟨⟨h.1.1.2.2.2.2.2.2.2.2.2.1, h.1.1.2.2.2.2.2.2.2.2.2.2.1, h.1.1.2.2.2.2.2.2.2.2.2.2.2.1, h.1.1.2.2.2.2.2.2.2.2.2.2.2.2⟩, h⟩
theorem sa_un (h : uaS w W g1 g2 B t x d s r) : UAd w W g1 g2 B t x d s r := h.2
theorem sa_alloc (h : uaS w W g1 g2 B t x d s r) (o : Obj) : uaS w (W.alloc o) g1 g2 B t x d s r := sa_of (ua_alloc h.2 o)
theorem sa_put {G : Nat} {v0 v1 : Value} (h : uaS w W g1 g2 B t x d s r) (hG : B ≤ G) : uaS w ((W.setCell ⟨G, 0, none⟩ v0).setCell ⟨G, 1, none⟩ v1) g1 g2 B t x d s r := sa_of (ua_step h.2 (below_set2 _ _ hG))
end
/-- two zeros that the call made, unread as yet -/
def zp (W : World) (G : Nat) : Prop := W.heap[G]? = some (.cells #[.int .i64 0, .int .i64 0] 35)
theorem zp_new (W : World) : zp (W.alloc (.cells #[.int .i64 0, .int .i64 0] 35)) W.heap.size := heap_alloc_new W _
theorem zp_below {W W1 : World} {G : Nat} (h : zp W G) (hb : Below W.heap.size W W1) : zp W1 G := (hb.block G (Array.getElem?_eq_some_iff.1 h).1).trans h
theorem zp_alloc {W : World} {G : Nat} (h : zp W G) (o : Obj) : zp (W.alloc o) G := zp_below h ((Below.refl _ _).alloc (Nat.le_refl _) _)
theorem zp_drew {W : World} {G : Nat} (h : zp W G) : zp W.drew G := h
theorem zp_own {W : World} {G : Nat} (h : zp W G) : OwP W G (0, 0) := by
  have hl := (Array.getElem?_eq_some_iff.1 h).1
  unfold zp at h
  refine ⟨?_, ?_, ?_, ?_, hl⟩ <;> simp [World.cell?, World.frozen?, h]
theorem zp_keep {W W1 : World} {G B n : Nat} {v : Value} {xs : List Value} (h : zp W G) (ho : W.ownsRow B 90 10 v n xs) (hg : W.grownBy W1 v.ownBlock) : zp W1 G := by
  have hl := (Array.getElem?_eq_some_iff.1 h).1
  have ne : some G ≠ v.ownBlock := by
    intro e
    rcases ho.2 with ⟨rfl, _⟩ | ⟨g, cap, cur, rfl, hb, hg', _⟩
    · cases e
    · cases e
      unfold zp at h
      rw [h] at hg'
      exact absurd (Obj.cells.inj (Option.some.inj hg')).2.1 (by decide)
  exact (hg.block G hl ne).trans h
theorem step_ua1 {ops : Array Oper} {o : Oper} {A : Act} {W : World} {K : Act → World → Prop} {Q0 : Exit → Act → World → Prop} {E : Prop} {w : World} {g1 g2 B g : Nat} {t : P9} {x : P3} {d : Int} {s r : Int × Int}
    (hg : o.guard = none) (u y : Operand) (hop : o.op = Op.call { callee := Callee.builtin Builtin.append, args := #[u, y], argTypes := #[39, 39] }) (hs : A.eval u = .slice (some ⟨g, 0, none⟩) 0 0)
    (a : Option Addr) (n cap : Nat) (hx : A.eval y = .slice a n cap) (ho : W.ownsRow B 90 10 (.slice (some ⟨g, 0, none⟩) 0 0) 0 []) (h : UAd w W g1 g2 B t x d s r) (Q : Nat → Ch) (rr : LstC w a n Q) (hn : n ≤ 150)
    (hK : ∀ v' w', w'.ownsRow B 90 10 v' n (ccs Q n) → UAd w w' g1 g2 B t x d s r → (∀ G, zp W G → zp w' G) → K (A.put o.dst v') w') :
    if Region.wanted o (yielded ops A.tmps) = true then Oper.wp Try.prog o A W K Q0 else E := by
  have r2 : LstC W a n Q := lstC_below rr h.2.2.2.1
  obtain ⟨v', w', h1, h2, h3⟩ := appC_run (w := W) B o.type _ 0 [] ho h.2.2.2.2.2.2.2 a n cap Q r2 (by omega)
  rw [Nat.zero_add, List.nil_append] at h2
  exact stepC hg u y 39 hop _ _ v' w' hs hx h1 (hK v' w' h2 (ua_step h ((Below.refl B W).grown h3 h.2.2.2.2.2.2.2 (fun q e => (ho.lt q e).1))) (fun G z => zp_keep z ho h3))
theorem step_ua2 {ops : Array Oper} {o : Oper} {A : Act} {W : World} {K : Act → World → Prop} {Q0 : Exit → Act → World → Prop} {E : Prop} {w : World} {g1 g2 B : Nat} {t : P9} {x : P3} {d : Int} {s r : Int × Int} {v : Value} {n : Nat} {Q : Nat → Ch}
    (hg : o.guard = none) (u y : Operand) (hop : o.op = Op.call { callee := Callee.builtin Builtin.append, args := #[u, y], argTypes := #[39, 39] }) (hs : A.eval u = v)
    (a : Option Addr) (m cap : Nat) (hx : A.eval y = .slice a m cap) (ho : W.ownsRow B 90 10 v n (ccs Q n)) (h : UAd w W g1 g2 B t x d s r) (Q' : Nat → Ch) (rr : LstC w a m Q') (hn : n + m ≤ 300)
    (hK : ∀ ao c w', LstC w' ao (n + m) (joinQ Q n Q') → UAd w w' g1 g2 B t x d s r → (∀ G, zp W G → zp w' G) → K (A.put o.dst (.slice ao (n + m) c)) w') :
    if Region.wanted o (yielded ops A.tmps) = true then Oper.wp Try.prog o A W K Q0 else E := by
  have r2 : LstC W a m Q' := lstC_below rr h.2.2.2.1
  obtain ⟨v', w', h1, h2, h3⟩ := appC_run (w := W) B o.type v n _ ho h.2.2.2.2.2.2.2 a m cap Q' r2 (by omega)
  rw [ccs_join] at h2
  obtain ⟨ao, c, ev, hL⟩ := lstC_of' h2
  subst ev
  exact stepC hg u y 39 hop _ _ _ w' hs hx h1 (hK ao c w' hL (ua_step h ((Below.refl B W).grown h3 h.2.2.2.2.2.2.2 (fun q e => (ho.lt q e).1))) (fun G z => zp_keep z ho h3))
set_option maxRecDepth 100000 in
set_option maxHeartbeats 4000000 in
theorem fadds_big1 (a : Option Addr) (n cap : Nat) (a' : Option Addr) (m cap' : Nat) (t : P9) (x : P3) (d : Int) (w : World) (L1 : Hid (∀ W, Calls Try.prog 22 #[.slice a n cap] W fun e w' => e = .returned (.bool true) ∧ Below W.heap.size W w')) (K : Hid (∀ W, Calls Try.prog 15 #[] W fun e w' => e = .returned (.bool true) ∧ Below W.heap.size W w')) : Calls Try.prog 6 #[.slice a n cap, .slice a' m cap', senv t x d] w fun e w' => e = .returned (.bool true) ∧ Below w.heap.size w w' := by
  go_enter Try.func6, Try.ntmps6
  go_wp2_with fail
  refine (L1.out _).mono ?_
  rintro e w1 ⟨rfl, hb1⟩
  go_wp2_with fail
  refine (K.out _).mono ?_
  rintro e w2 ⟨rfl, hb2⟩
  go_wp2
  go_ret
  exact ⟨rfl, by (repeat' (first | exact Below.refl _ _ | refine bstep ?_ hb2 | refine bstep ?_ hb1 | refine Below.setCell ?_ (by simp <;> omega) _ | refine balloc ?_ _ | refine Below.drew ?_ | refine bdrewN ?_ _))⟩
set_option maxRecDepth 100000 in
set_option maxHeartbeats 4000000 in
theorem fadds_big2 (a : Option Addr) (n cap : Nat) (a' : Option Addr) (m cap' : Nat) (t : P9) (x : P3) (d : Int) (w : World) (L1 : Hid (∀ W, Calls Try.prog 22 #[.slice a n cap] W fun e w' => e = .returned (.bool false) ∧ Below W.heap.size W w')) (L2 : Hid (∀ W, Calls Try.prog 22 #[.slice a' m cap'] W fun e w' => e = .returned (.bool true) ∧ Below W.heap.size W w')) (K : Hid (∀ W, Calls Try.prog 15 #[] W fun e w' => e = .returned (.bool true) ∧ Below W.heap.size W w')) : Calls Try.prog 6 #[.slice a n cap, .slice a' m cap', senv t x d] w fun e w' => e = .returned (.bool true) ∧ Below w.heap.size w w' := by
  go_enter Try.func6, Try.ntmps6
  go_wp2_with fail
  refine (L1.out _).mono ?_
  rintro e w1 ⟨rfl, hb1⟩
  go_wp2_with fail
  refine (L2.out _).mono ?_
  rintro e w2 ⟨rfl, hb2⟩
  go_wp2_with fail
  refine (K.out _).mono ?_
  rintro e w3 ⟨rfl, hb3⟩
  go_wp2
  go_ret
  exact ⟨rfl, by (repeat' (first | exact Below.refl _ _ | refine bstep ?_ hb3 | refine bstep ?_ hb2 | refine bstep ?_ hb1 | refine Below.setCell ?_ (by simp <;> omega) _ | refine balloc ?_ _ | refine Below.drew ?_ | refine bdrewN ?_ _))⟩
theorem use2' {A B : Prop} (h : A) (k : A → B) : B := k h
theorem use2'' {A B C : Prop} (h : A) (k : B) (c : A → B → C) : C := c h k
set_option maxRecDepth 100000 in
set_option maxHeartbeats 4000000 in
theorem fadds_main (a : Option Addr) (n cap : Nat) (a' : Option Addr) (m cap' : Nat) (t : P9) (x : P3) (d : Int) (Q Q' : Nat → Ch) (p q u : Int × Int) (c1 c2 c3 : Int) (w : World) (rr : LstC w a n Q) (rr' : LstC w a' m Q') (hn : n ≤ 150) (hm : m ≤ 150) (L1 : Hid (∀ W, Calls Try.prog 22 #[.slice a n cap] W fun e w' => e = .returned (.bool false) ∧ Below W.heap.size W w')) (L2 : Hid (∀ W, Calls Try.prog 22 #[.slice a' m cap'] W fun e w' => e = .returned (.bool false) ∧ Below W.heap.size W w')) (K : Hid (∀ W, Calls Try.prog 15 #[] W fun e w' => e = .returned (.bool true) ∧ Below W.heap.size W w'))
    (O1 : Hid (∀ W, Below w.heap.size w W → Calls Try.prog 23 #[.slice a n cap, ptv x, .int .i64 d] W fun e w' => e = .returned (spr (p, c1)) ∧ Below W.heap.size W w')) (O2 : Hid (∀ W, Below w.heap.size w W → Calls Try.prog 23 #[.slice a' m cap', ptv x, .int .i64 d] W fun e w' => e = .returned (spr (q, c2)) ∧ Below W.heap.size W w'))
    (O3 : Hid (∀ W ao c', LstC W ao (n + m) (joinQ Q n Q') → Calls Try.prog 23 #[.slice ao (n + m) c', ptv x, .int .i64 d] W fun e w' => e = .returned (spr (u, c3)) ∧ Below W.heap.size W w'))
    (REL : Hid (c1 = 0 → c2 = 0 → c3 = 0 → (u.1 = p.1 + q.1 ∧ u.2 = p.2 + q.2) ∧ (-1099511627776 ≤ p.1 ∧ p.1 ≤ 1099511627776) ∧ (-1099511627776 ≤ p.2 ∧ p.2 ≤ 1099511627776) ∧ (-1099511627776 ≤ q.1 ∧ q.1 ≤ 1099511627776) ∧ -1099511627776 ≤ q.2 ∧ q.2 ≤ 1099511627776)) : Calls Try.prog 6 #[.slice a n cap, .slice a' m cap', senv t x d] w fun e w' => e = .returned (.bool true) ∧ Below w.heap.size w w' := by
  have R0 := Lib.hid rr
  have R1 := Lib.hid rr'
  have HN := Lib.hid hn
  have HM := Lib.hid (show n + m ≤ 300 by omega)
  have S0 := Lib.hid (sen_new w t x d 33)
  have B0 := Lib.hid (show Below w.heap.size w (w.alloc (senb t x d 33)) from (Below.refl _ w).alloc (Nat.le_refl _) _)
  clear rr rr' hn hm
  go_enter Try.func6, Try.ntmps6
  go_wp2_with fail
  refine (L1.out _).mono ?_
  rintro e w1 ⟨rfl, hb1⟩
  have S1 := Lib.hid (sen_below S0.out hb1)
  have B1 := Lib.hid (bstep B0.out hb1)
  go_wp2_with fail
  refine (L2.out _).mono ?_
  rintro e w2 ⟨rfl, hb2⟩
  have S2 := Lib.hid (sen_below S1.out hb2)
  have B2 := Lib.hid (bstep B1.out hb2)
  clear S0 S1 B0 B1 hb1 hb2
  obtain ⟨⟨g0, g1, g2, g3, g4, g5, g6, g7, g8, g9, g10, g11, g12⟩, gl⟩ := S2.out
  go_wp2_with fail
  with_reducible refine (O1.out _ B2.out).mono ?_
  rintro e w3 ⟨rfl, hb3⟩
  have LG := Lib.hid (show w.heap.size < w3.heap.size from Nat.lt_of_lt_of_le S2.out.2 hb3.size)
  have S3 := Lib.hid (sen_alloc (sen_below S2.out hb3) (.cells #[.int .i64 p.1, .int .i64 p.2] 35))
  have B3 := Lib.hid (balloc (bstep B2.out hb3) (.cells #[.int .i64 p.1, .int .i64 p.2] 35))
  have V3 := Lib.hid (owp_new w3 p 35)
  clear g0 g1 g2 g3 g4 g5 g6 g7 g8 g9 g10 g11 g12 gl hb3 S2 B2
  obtain ⟨⟨g0, g1, g2, g3, g4, g5, g6, g7, g8, g9, g10, g11, g12⟩, gl⟩ := S3.out
  go_wp2_with fail
  with_reducible refine (O2.out _ B3.out).mono ?_
  rintro e w4 ⟨rfl, hb4⟩
  have LH := Lib.hid (show w3.heap.size < w4.heap.size from Nat.lt_of_lt_of_le V3.out.2.2.2.2 hb4.size)
  have S4 := Lib.hid (sen_alloc (sen_below S3.out hb4) (.cells #[.int .i64 q.1, .int .i64 q.2] 35))
  have B4 := Lib.hid (balloc (bstep B3.out hb4) (.cells #[.int .i64 q.1, .int .i64 q.2] 35))
  have V4 := Lib.hid (owp_alloc (owp_below V3.out hb4) (.cells #[.int .i64 q.1, .int .i64 q.2] 35))
  have U4 := Lib.hid (owp_new w4 q 35)
  clear g0 g1 g2 g3 g4 g5 g6 g7 g8 g9 g10 g11 g12 gl hb4 S3 B3 V3
  have UA0 : UAd w (w4.alloc (.cells #[.int .i64 q.1, .int .i64 q.2] 35)) w3.heap.size w4.heap.size (w4.alloc (.cells #[.int .i64 q.1, .int .i64 q.2] 35)).heap.size t x d p q := ⟨S4.out, V4.out, U4.out, B4.out, LG.out, LH.out, by simp, Nat.le_refl _⟩
  clear S4 B4 V4 U4 LG LH
  go_wp2
  generalize (w4.alloc (.cells #[.int .i64 q.1, .int .i64 q.2] 35)) = W2 at *
  have UA := Lib.hid UA0
  have M0 := Lib.hid (show (W2.alloc (.cells #[] 90)).ownsRow W2.heap.size 90 10 (.slice (some ⟨W2.heap.size, 0, none⟩) 0 0) 0 [] from World.ownsRow_made (base := W2.heap.size) (e := 90) (size := 10) W2 #[] 0 (Nat.le_refl _) (by decide) rfl)
  have M1 := Lib.hid (show ((W2.alloc (.cells #[.int .i64 0, .int .i64 0] 35)).alloc (.cells #[] 90)).ownsRow W2.heap.size 90 10 (.slice (some ⟨W2.heap.size + 1, 0, none⟩) 0 0) 0 [] by
    have z := World.ownsRow_made (base := W2.heap.size) (e := 90) (size := 10) (W2.alloc (.cells #[.int .i64 0, .int .i64 0] 35)) #[] 0 (by simp) (by decide) rfl
    simp only [World.size_alloc] at z
    exact z)
  clear UA0
  go_region_held3 (fun w' => (w'.cell? ⟨w.heap.size, 9, none⟩ = some (.int .i64 x.1) ∧ w'.cell? ⟨w.heap.size, 10, none⟩ = some (.int .i64 x.2.1) ∧ w'.cell? ⟨w.heap.size, 11, none⟩ = some (.int .i64 x.2.2) ∧ w'.cell? ⟨w.heap.size, 12, none⟩ = some (.int .i64 d)) ∧ UAd w w' w3.heap.size w4.heap.size W2.heap.size t x d p q)
    (first | with_reducible exact sa_of (ua_drew UA.out) | with_reducible exact sa_of (ua_drew (ua_alloc UA.out _)) | with_reducible exact sa_of (ua_drew (ua_alloc (ua_alloc UA.out _) _)) | with_reducible exact sa_of HU.out | with_reducible exact sa_of UA5.out | with_reducible exact sa_of (ua_alloc UA5.out _) | with_reducible exact sa_alloc (by assumption) _ | (with_reducible refine sa_put (by assumption) ?_; (first | exact Nat.le_refl _ | exact Nat.le_succ _ | omega | (simp; done) | (simp <;> omega))))
    (first | ((refine step_ua1 (w := w) (g1 := w3.heap.size) (g2 := w4.heap.size) (B := W2.heap.size) (t := t) (x := x) (d := d) (s := p) (r := q) (g := W2.heap.size) rfl (.tmp 39) (.tmp 40) rfl (by simp [Act.eval]) a n cap (by simp [Act.eval]) (by first | exact World.ownsRow.drew M0.out | exact World.ownsRow.drew (M0.out.alloc _)) (sa_un (by assumption)) Q R0.out HN.out ?_); intro va wa hO hU hZ1; have OW := Lib.hid hO; have HU := Lib.hid hU; have HZ1 := Lib.hid hZ1; have hs1 := hU.2.2.2.2.2.2.2; clear hO hU hZ1) | ((refine step_ua1 (w := w) (g1 := w3.heap.size) (g2 := w4.heap.size) (B := W2.heap.size) (t := t) (x := x) (d := d) (s := p) (r := q) (g := W2.heap.size + 1) rfl (.tmp 39) (.tmp 40) rfl (by simp [Act.eval]) a n cap (by simp [Act.eval]) (by first | exact World.ownsRow.drew M1.out) (sa_un (by assumption)) Q R0.out HN.out ?_); intro va wa hO hU hZ1; have OW := Lib.hid hO; have HU := Lib.hid hU; have HZ1 := Lib.hid hZ1; have hs1 := hU.2.2.2.2.2.2.2; clear hO hU hZ1) | ((refine step_ua2 (w := w) (g1 := w3.heap.size) (g2 := w4.heap.size) (B := W2.heap.size) (t := t) (x := x) (d := d) (s := p) (r := q) (v := va) (n := n) (Q := Q) rfl (.tmp 41) (.tmp 42) rfl (by simp [Act.eval]) a' m cap' (by simp [Act.eval]) (by first | exact OW.out | exact OW.out.alloc _) (sa_un (by assumption)) Q' R1.out HM.out ?_); intro ao kc wb hL hU hZ2; have LL := Lib.hid hL; have HU := Lib.hid hU; have HZ2 := Lib.hid hZ2; have hs2 := hU.2.2.2.2.2.2.2; clear hL hU hZ2) | (go_at_call 23; (refine (O3.out _ _ _ (by first | exact LL.out | exact lstC_below LL.out ((Below.refl _ _).alloc (Nat.le_refl _) _))).mono ?_); rintro e w5 ⟨rfl, hb5⟩; have hs5 := hb5.size; have UA5 := Lib.hid (ua_below (sa_un (w := w) (g1 := w3.heap.size) (g2 := w4.heap.size) (B := W2.heap.size) (t := t) (x := x) (d := d) (s := p) (r := q) (by assumption)) hb5); have HB4 := Lib.hid hb5; clear hb5; (first | ((with_reducible refine use2' (zp_own (zp_below (HZ2.out _ (HZ1.out _ (zp_drew (zp_alloc (zp_new W2) _)))) HB4.out)) ?_); rintro ⟨z0, z1, f0, f1, zl⟩; have ZF := Lib.hid (show OwP w5 _ (0, 0) from ⟨z0, z1, f0, f1, zl⟩)) | ((with_reducible refine use2' (zp_own (zp_below (HZ2.out _ (HZ1.out _ (zp_drew (zp_new _)))) HB4.out)) ?_); rintro ⟨z0, z1, f0, f1, zl⟩; (try simp only [World.size_alloc] at z0 z1 f0 f1 zl); have ZF := Lib.hid (show OwP w5 _ (0, 0) from ⟨z0, z1, f0, f1, zl⟩)) | ((with_reducible refine use2' (zp_own (zp_below (HZ2.out _ (zp_new _)) HB4.out)) ?_); rintro ⟨z0, z1, f0, f1, zl⟩; have ZF := Lib.hid (show OwP w5 _ (0, 0) from ⟨z0, z1, f0, f1, zl⟩)) | ((with_reducible refine use2' (zp_own (zp_below (zp_new _) HB4.out)) ?_); rintro ⟨z0, z1, f0, f1, zl⟩; have ZF := Lib.hid (show OwP w5 _ (0, 0) from ⟨z0, z1, f0, f1, zl⟩)) | skip)) | fail)
  all_goals
    clear M0 M1
    (first
      | ((with_reducible refine use2'' (ua_step (W1 := ((w5.setCell ⟨wb.heap.size, 0, none⟩ (.int .i64 u.1)).setCell ⟨wb.heap.size, 1, none⟩ (.int .i64 u.2))) UA5.out (below_set2 _ _ (hs2))) (owp_put (show OwP w5 (wb.heap.size) (0, 0) from ZF.out) u) ?_); intro UF0 OG0; obtain ⟨W5, hW5⟩ : ∃ W5, ((w5.setCell ⟨wb.heap.size, 0, none⟩ (.int .i64 u.1)).setCell ⟨wb.heap.size, 1, none⟩ (.int .i64 u.2)) = W5 := ⟨_, rfl⟩; rw [hW5] at UF0 OG0 ⊢; clear hW5; have UF := Lib.hid UF0; have OG := Lib.hid OG0; clear UF0 OG0 z0 z1 f0 f1 zl ZF)
      | ((with_reducible refine use2'' (ua_step (W1 := ((w5.setCell ⟨wa.heap.size, 0, none⟩ (.int .i64 u.1)).setCell ⟨wa.heap.size, 1, none⟩ (.int .i64 u.2))) UA5.out (below_set2 _ _ (hs1))) (owp_put (show OwP w5 (wa.heap.size) (0, 0) from ZF.out) u) ?_); intro UF0 OG0; obtain ⟨W5, hW5⟩ : ∃ W5, ((w5.setCell ⟨wa.heap.size, 0, none⟩ (.int .i64 u.1)).setCell ⟨wa.heap.size, 1, none⟩ (.int .i64 u.2)) = W5 := ⟨_, rfl⟩; rw [hW5] at UF0 OG0 ⊢; clear hW5; have UF := Lib.hid UF0; have OG := Lib.hid OG0; clear UF0 OG0 z0 z1 f0 f1 zl ZF)
      | ((with_reducible refine use2'' (ua_step (W1 := ((w5.setCell ⟨W2.heap.size + 1, 0, none⟩ (.int .i64 u.1)).setCell ⟨W2.heap.size + 1, 1, none⟩ (.int .i64 u.2))) UA5.out (below_set2 _ _ (Nat.le_succ _))) (owp_put (show OwP w5 (W2.heap.size + 1) (0, 0) from ZF.out) u) ?_); intro UF0 OG0; obtain ⟨W5, hW5⟩ : ∃ W5, ((w5.setCell ⟨W2.heap.size + 1, 0, none⟩ (.int .i64 u.1)).setCell ⟨W2.heap.size + 1, 1, none⟩ (.int .i64 u.2)) = W5 := ⟨_, rfl⟩; rw [hW5] at UF0 OG0 ⊢; clear hW5; have UF := Lib.hid UF0; have OG := Lib.hid OG0; clear UF0 OG0 z0 z1 f0 f1 zl ZF)
      | ((with_reducible refine use2'' (ua_step (W1 := ((w5.setCell ⟨W2.heap.size, 0, none⟩ (.int .i64 u.1)).setCell ⟨W2.heap.size, 1, none⟩ (.int .i64 u.2))) UA5.out (below_set2 _ _ (Nat.le_refl _))) (owp_put (show OwP w5 (W2.heap.size) (0, 0) from ZF.out) u) ?_); intro UF0 OG0; obtain ⟨W5, hW5⟩ : ∃ W5, ((w5.setCell ⟨W2.heap.size, 0, none⟩ (.int .i64 u.1)).setCell ⟨W2.heap.size, 1, none⟩ (.int .i64 u.2)) = W5 := ⟨_, rfl⟩; rw [hW5] at UF0 OG0 ⊢; clear hW5; have UF := Lib.hid UF0; have OG := Lib.hid OG0; clear UF0 OG0 z0 z1 f0 f1 zl ZF)
      | ((with_reducible refine use2'' (ua_alloc UA5.out (.cells #[.int .i64 u.1, .int .i64 u.2] 35)) (owp_new w5 u 35) ?_); intro UF0 OG0; with_reducible generalize (w5.alloc (.cells #[.int .i64 u.1, .int .i64 u.2] 35)) = W5 at *; have UF := Lib.hid UF0; have OG := Lib.hid OG0; clear UF0 OG0)
      | fail)
    clear HU UA5 HB4 HZ1 HZ2 OW LL UA
    have BF := Lib.hid UF.out.2.2.2.1
    obtain ⟨u0, u1, u2, u3, u4⟩ := OG.out
    obtain ⟨p0, p1, p2, p3, p4⟩ := UF.out.2.1
    obtain ⟨q0, q1, q2, q3, q4⟩ := UF.out.2.2.1
    clear UF OG
    by_cases y1 : c1 = 0
    · by_cases y2 : c2 = 0
      · by_cases y3 : c3 = 0
        · obtain ⟨⟨e1, e2⟩, ⟨b1, b2⟩, ⟨b3, b4⟩, ⟨b5, b6⟩, b7, b8⟩ := REL.out y1 y2 y3
          subst y1 y2 y3
          obtain ⟨v1, v2⟩ := u
          dsimp only at *
          subst e1 e2
          go_wp2_with fail
          refine (K.out _).mono ?_
          rintro e w9 ⟨rfl, hb9⟩
          have hB := bstep BF.out hb9
          go_wp2
          go_ret
          exact ⟨rfl, hB⟩
        · have z : (c3 != 0) = true := bne_iff_ne.2 y3
          subst y1 y2
          go_wp2_with fail
          refine (K.out _).mono ?_
          rintro e w9 ⟨rfl, hb9⟩
          have hB := bstep BF.out hb9
          go_wp2
          go_ret
          exact ⟨rfl, hB⟩
      · have z : (c2 != 0) = true := bne_iff_ne.2 y2
        subst y1
        go_wp2_with fail
        refine (K.out _).mono ?_
        rintro e w9 ⟨rfl, hb9⟩
        have hB := bstep BF.out hb9
        go_wp2
        go_ret
        exact ⟨rfl, hB⟩
    · have z : (c1 != 0) = true := bne_iff_ne.2 y1
      go_wp2_with fail
      refine (K.out _).mono ?_
      rintro e w9 ⟨rfl, hb9⟩
      have hB := bstep BF.out hb9
      go_wp2
      go_ret
      exact ⟨rfl, hB⟩
theorem fadds_walk (a : Option Addr) (n cap : Nat) (Q : Nat → Ch) (a' : Option Addr) (m cap' : Nat) (Q' : Nat → Ch) (t : P9) (x : P3) (d : Int) (w : World) (hn : n ≤ maxLen) (rr : LstC w a n Q) (hm : m ≤ maxLen) (rr' : LstC w a' m Q') : Calls Try.prog 6 #[.slice a n cap, .slice a' m cap', senv t x d] w fun e w' => e = .returned (.bool true) ∧ Below w.heap.size w w' := by
  have KK := Lib.hid (fun W => fkn_any W)
  have n1 : n ≤ 9223372036854775807 := by unfold maxLen at hn; omega
  have m1 : m ≤ 9223372036854775807 := by unfold maxLen at hm; omega
  have L1 := fun W => flong_any a n cap W n1
  have L2 := fun W => flong_any a' m cap' W m1
  by_cases h1 : 150 < (n : Int)
  · rw [decide_eq_true h1] at L1
    exact fadds_big1 a n cap a' m cap' t x d w (Lib.hid L1) KK
  · rw [decide_eq_false h1] at L1
    by_cases h2 : 150 < (m : Int)
    · rw [decide_eq_true h2] at L2
      exact fadds_big2 a n cap a' m cap' t x d w (Lib.hid L1) (Lib.hid L2) KK
    · rw [decide_eq_false h2] at L2
      refine fadds_main a n cap a' m cap' t x d Q Q' (potF n Q x d).1 (potF m Q' x d).1 (potF (n + m) (joinQ Q n Q') x d).1 (potF n Q x d).2 (potF m Q' x d).2 (potF (n + m) (joinQ Q n Q') x d).2 w rr rr' (by omega) (by omega) (Lib.hid L1) (Lib.hid L2) KK (Lib.hid fun W B => pot_any a n cap Q x d W (lstC_below rr B) (by omega)) (Lib.hid fun W B => pot_any a' m cap' Q' x d W (lstC_below rr' B) (by omega)) (Lib.hid fun W ao c' r => pot_any ao (n + m) c' _ x d W r (by omega)) (Lib.hid fun y1 y2 y3 => ?_)
      have v1 := (potF_ok y1).2
      have v2 := (potF_ok y2).2
      have e1 := (potF_ok y1).1
      have e2 := (potF_ok y2).1
      refine ⟨potF_join y1 y2 y3, ?_⟩
      rw [e1, e2]
      have w1 := Sp.vld_iff.1 v1
      have w2 := Sp.vld_iff.1 v2
      dsimp only
      omega

end Go.Proofs.Ytjigcgpcglfjfaa
