/-
  The law TopSpans: for every input it answers true.
-/
import Derived.Test.YthpjjpfflpjpdabTopMeets
import Derived.Deep.DeepCutAuto
import Derived.Deep.Cut
namespace Go.Proofs.Ythpjjpfflpjpdab
open Go.ChangeShapes Go.WideShapes Go.RowKit
set_option maxRecDepth 100000 in
set_option maxHeartbeats 4000000 in
theorem top_walk (al ah bl bh cl ch : Int) (s x p q m o t d i n r u v z y g k h j l : Sp.R) (w : World)
    (hone : Hid (∀ W : World, Calls Try.prog 15 #[.int .i64 1, .int .i64 3] W fun e w' => e = .returned (spr ((349525, 349526), 0)) ∧ Below W.heap.size W w'))
    (hs : Hid (∀ W : World, Calls Try.prog 16 #[spv al ah, spv bl bh] W fun e w' => e = .returned (spr s) ∧ Below W.heap.size W w'))
    (hx : Hid (∀ W : World, Calls Try.prog 17 #[spv s.1.1 s.1.2] W fun e w' => e = .returned (spr x) ∧ Below W.heap.size W w'))
    (hp : Hid (∀ W : World, Calls Try.prog 17 #[spv al ah] W fun e w' => e = .returned (spr p) ∧ Below W.heap.size W w'))
    (hq : Hid (∀ W : World, Calls Try.prog 17 #[spv bl bh] W fun e w' => e = .returned (spr q) ∧ Below W.heap.size W w'))
    (hm : Hid (∀ W : World, Calls Try.prog 18 #[spv al ah, spv bl bh] W fun e w' => e = .returned (spr m) ∧ Below W.heap.size W w'))
    (ho : Hid (∀ W : World, Calls Try.prog 19 #[spv m.1.1 m.1.2, .int .i64 2] W fun e w' => e = .returned (spr o) ∧ Below W.heap.size W w'))
    (ht : Hid (∀ (W : World) (b : Nat), Row W b 0 3 (L3 p.1.1 o.1.1 q.1.1) (L3 p.1.2 o.1.2 q.1.2) → Calls Try.prog 20 #[.slice (some ⟨b, 0, none⟩) 3 3] W fun e w' => e = .returned (spr t) ∧ Below W.heap.size W w'))
    (k1 : Hid (s.2 = 0 → p.2 = 0 → q.2 = 0 → m.2 = 0 → o.2 = 0 → ∀ W : World, Calls Try.prog 21 #[spv x.1.1 x.1.2, .int .i64 x.2, spv t.1.1 t.1.2, .int .i64 t.2] W fun e w' => e = .returned (.bool true) ∧ Below W.heap.size W w'))
    (hd : Hid (∀ W : World, Calls Try.prog 22 #[spv al ah, spv cl ch] W fun e w' => e = .returned (spr d) ∧ Below W.heap.size W w'))
    (hi : Hid (∀ W : World, Calls Try.prog 22 #[spv 1048576 1048576, spv cl ch] W fun e w' => e = .returned (spr i) ∧ Below W.heap.size W w'))
    (hn : Hid (∀ W : World, Calls Try.prog 18 #[spv al ah, spv i.1.1 i.1.2] W fun e w' => e = .returned (spr n) ∧ Below W.heap.size W w'))
    (k2 : Hid (i.2 = 0 → ∀ W : World, Calls Try.prog 21 #[spv d.1.1 d.1.2, .int .i64 d.2, spv n.1.1 n.1.2, .int .i64 n.2] W fun e w' => e = .returned (.bool true) ∧ Below W.heap.size W w'))
    (hr : Hid (∀ W : World, Calls Try.prog 23 #[spv al ah] W fun e w' => e = .returned (spr r) ∧ Below W.heap.size W w'))
    (hu : Hid (∀ W : World, Calls Try.prog 23 #[spv bl bh] W fun e w' => e = .returned (spr u) ∧ Below W.heap.size W w'))
    (hv : Hid (∀ W : World, Calls Try.prog 18 #[spv r.1.1 r.1.2, spv u.1.1 u.1.2] W fun e w' => e = .returned (spr v) ∧ Below W.heap.size W w'))
    (hz : Hid (∀ W : World, Calls Try.prog 23 #[spv m.1.1 m.1.2] W fun e w' => e = .returned (spr z) ∧ Below W.heap.size W w'))
    (k3 : Hid (r.2 = 0 → u.2 = 0 → m.2 = 0 → ∀ W : World, Calls Try.prog 21 #[spv v.1.1 v.1.2, .int .i64 v.2, spv z.1.1 z.1.2, .int .i64 z.2] W fun e w' => e = .returned (.bool true) ∧ Below W.heap.size W w'))
    (hy : Hid (∀ (W : World) (b : Nat), Row W b 0 4 (L4 al bl cl al) (L4 ah bh ch ah) → Calls Try.prog 24 #[.slice (some ⟨b, 0, none⟩) 4 4] W fun e w' => e = .returned (spr y) ∧ Below W.heap.size W w'))
    (hg : Hid (∀ (W : World) (b : Nat), Row W b 0 4 (L4 al bl cl al) (L4 ah bh ch ah) → Calls Try.prog 20 #[.slice (some ⟨b, 0, none⟩) 4 4] W fun e w' => e = .returned (spr g) ∧ Below W.heap.size W w'))
    (hk : Hid (∀ W : World, Calls Try.prog 25 #[spv g.1.1 g.1.2, .int .i64 4] W fun e w' => e = .returned (spr k) ∧ Below W.heap.size W w'))
    (k4 : Hid (g.2 = 0 → y.2 = 0 ∧ k.2 = 0 ∧ y.1.1 = k.1.1 ∧ y.1.2 = k.1.2))
    (hh : Hid (∀ W : World, Calls Try.prog 26 #[spv al ah, spv bl bh] W fun e w' => e = .returned (spr h) ∧ Below W.heap.size W w'))
    (hj : Hid (∀ W : World, Calls Try.prog 18 #[spv h.1.1 h.1.2, spv cl ch] W fun e w' => e = .returned (spr j) ∧ Below W.heap.size W w'))
    (hl : Hid (∀ W : World, Calls Try.prog 18 #[spv al ah, spv cl ch] W fun e w' => e = .returned (spr l) ∧ Below W.heap.size W w'))
    (k5 : Hid (h.2 = 0 → j.2 = 0 → l.2 = 0 → ∀ W : World, Calls Try.prog 27 #[spv l.1.1 l.1.2, spv j.1.1 j.1.2] W fun e w' => e = .returned (.tuple #[.bool true, .int .i64 0]) ∧ Below W.heap.size W w')) :
    Calls Try.prog 4 #[spv al ah, spv bl bh, spv cl ch] w fun e w' => e = .returned (.bool true) ∧ Below w.heap.size w w' := by
  go_enter Try.func4, Try.ntmps4
  go_wp2_with fail
  with_reducible refine (hone.out _).mono ?_
  rintro e w1 ⟨rfl, hb1⟩
  have a1 := pair_below (pair_alloc (pair_alloc (pair_new _ al ah _) _) _) hb1
  try simp only [World.size_alloc] at a1
  have b1 := pair_below (pair_alloc (pair_new _ bl bh _) _) hb1
  try simp only [World.size_alloc] at b1
  have c1 := pair_below (pair_new _ cl ch _) hb1
  try simp only [World.size_alloc] at c1
  have ca1 := a1.1
  have da1 := a1.2.1
  have sa1 := a1.2.2.2.2
  have cb1 := b1.1
  have db1 := b1.2.1
  have sb1 := b1.2.2.2.2
  have cc1 := c1.1
  have dc1 := c1.2.1
  have sc1 := c1.2.2.2.2
  go_wp2_with fail
  with_reducible refine (hs.out _).mono ?_
  rintro e w2 ⟨rfl, hb2⟩
  have a2 := pair_below (pair_alloc a1 _) hb2
  have b2 := pair_below (pair_alloc b1 _) hb2
  have c2 := pair_below (pair_alloc c1 _) hb2
  clear ca1 da1 sa1 a1 cb1 db1 sb1 b1 cc1 dc1 sc1 c1
  have ca2 := a2.1
  have da2 := a2.2.1
  have sa2 := a2.2.2.2.2
  have cb2 := b2.1
  have db2 := b2.2.1
  have sb2 := b2.2.2.2.2
  have cc2 := c2.1
  have dc2 := c2.2.1
  have sc2 := c2.2.2.2.2
  go_wp2_with fail
  with_reducible refine (hx.out _).mono ?_
  rintro e w3 ⟨rfl, hb3⟩
  have a3 := pair_below (pair_alloc a2 _) hb3
  have b3 := pair_below (pair_alloc b2 _) hb3
  have c3 := pair_below (pair_alloc c2 _) hb3
  have s3 := pair_below (pair_new _ s.1.1 s.1.2 _) hb3
  clear ca2 da2 sa2 a2 cb2 db2 sb2 b2 cc2 dc2 sc2 c2
  have ca3 := a3.1
  have da3 := a3.2.1
  have sa3 := a3.2.2.2.2
  have cb3 := b3.1
  have db3 := b3.2.1
  have sb3 := b3.2.2.2.2
  have cc3 := c3.1
  have dc3 := c3.2.1
  have sc3 := c3.2.2.2.2
  have cs3 := s3.1
  have ds3 := s3.2.1
  have ss3 := s3.2.2.2.2
  go_wp2_with fail
  with_reducible refine (hp.out _).mono ?_
  rintro e w4 ⟨rfl, hb4⟩
  have a4 := pair_below (pair_alloc a3 _) hb4
  have b4 := pair_below (pair_alloc b3 _) hb4
  have c4 := pair_below (pair_alloc c3 _) hb4
  have s4 := pair_below (pair_alloc s3 _) hb4
  have x4 := pair_below (pair_new _ x.1.1 x.1.2 _) hb4
  clear ca3 da3 sa3 a3 cb3 db3 sb3 b3 cc3 dc3 sc3 c3 cs3 ds3 ss3 s3
  have ca4 := a4.1
  have da4 := a4.2.1
  have sa4 := a4.2.2.2.2
  have cb4 := b4.1
  have db4 := b4.2.1
  have sb4 := b4.2.2.2.2
  have cc4 := c4.1
  have dc4 := c4.2.1
  have sc4 := c4.2.2.2.2
  have cs4 := s4.1
  have ds4 := s4.2.1
  have ss4 := s4.2.2.2.2
  have cx4 := x4.1
  have dx4 := x4.2.1
  have sx4 := x4.2.2.2.2
  go_wp2_with fail
  with_reducible refine (hq.out _).mono ?_
  rintro e w5 ⟨rfl, hb5⟩
  have a5 := pair_below (pair_alloc a4 _) hb5
  have b5 := pair_below (pair_alloc b4 _) hb5
  have c5 := pair_below (pair_alloc c4 _) hb5
  have s5 := pair_below (pair_alloc s4 _) hb5
  have x5 := pair_below (pair_alloc x4 _) hb5
  have p5 := pair_below (pair_new _ p.1.1 p.1.2 _) hb5
  clear ca4 da4 sa4 a4 cb4 db4 sb4 b4 cc4 dc4 sc4 c4 cs4 ds4 ss4 s4 cx4 dx4 sx4 x4
  have ca5 := a5.1
  have da5 := a5.2.1
  have sa5 := a5.2.2.2.2
  have cb5 := b5.1
  have db5 := b5.2.1
  have sb5 := b5.2.2.2.2
  have cc5 := c5.1
  have dc5 := c5.2.1
  have sc5 := c5.2.2.2.2
  have cs5 := s5.1
  have ds5 := s5.2.1
  have ss5 := s5.2.2.2.2
  have cx5 := x5.1
  have dx5 := x5.2.1
  have sx5 := x5.2.2.2.2
  have cp5 := p5.1
  have dp5 := p5.2.1
  have sp5 := p5.2.2.2.2
  go_wp2_with fail
  with_reducible refine (hm.out _).mono ?_
  rintro e w6 ⟨rfl, hb6⟩
  have a6 := pair_below (pair_alloc a5 _) hb6
  have b6 := pair_below (pair_alloc b5 _) hb6
  have c6 := pair_below (pair_alloc c5 _) hb6
  have s6 := pair_below (pair_alloc s5 _) hb6
  have x6 := pair_below (pair_alloc x5 _) hb6
  have p6 := pair_below (pair_alloc p5 _) hb6
  have q6 := pair_below (pair_new _ q.1.1 q.1.2 _) hb6
  clear ca5 da5 sa5 a5 cb5 db5 sb5 b5 cc5 dc5 sc5 c5 cs5 ds5 ss5 s5 cx5 dx5 sx5 x5 cp5 dp5 sp5 p5
  have ca6 := a6.1
  have da6 := a6.2.1
  have sa6 := a6.2.2.2.2
  have cb6 := b6.1
  have db6 := b6.2.1
  have sb6 := b6.2.2.2.2
  have cc6 := c6.1
  have dc6 := c6.2.1
  have sc6 := c6.2.2.2.2
  have cs6 := s6.1
  have ds6 := s6.2.1
  have ss6 := s6.2.2.2.2
  have cx6 := x6.1
  have dx6 := x6.2.1
  have sx6 := x6.2.2.2.2
  have cp6 := p6.1
  have dp6 := p6.2.1
  have sp6 := p6.2.2.2.2
  have cq6 := q6.1
  have dq6 := q6.2.1
  have sq6 := q6.2.2.2.2
  go_wp2_with fail
  with_reducible refine (ho.out _).mono ?_
  rintro e w7 ⟨rfl, hb7⟩
  have a7 := pair_below (pair_alloc a6 _) hb7
  have b7 := pair_below (pair_alloc b6 _) hb7
  have c7 := pair_below (pair_alloc c6 _) hb7
  have s7 := pair_below (pair_alloc s6 _) hb7
  have x7 := pair_below (pair_alloc x6 _) hb7
  have p7 := pair_below (pair_alloc p6 _) hb7
  have q7 := pair_below (pair_alloc q6 _) hb7
  have m7 := pair_below (pair_new _ m.1.1 m.1.2 _) hb7
  clear ca6 da6 sa6 a6 cb6 db6 sb6 b6 cc6 dc6 sc6 c6 cs6 ds6 ss6 s6 cx6 dx6 sx6 x6 cp6 dp6 sp6 p6 cq6 dq6 sq6 q6
  have ca7 := a7.1
  have da7 := a7.2.1
  have sa7 := a7.2.2.2.2
  have cb7 := b7.1
  have db7 := b7.2.1
  have sb7 := b7.2.2.2.2
  have cc7 := c7.1
  have dc7 := c7.2.1
  have sc7 := c7.2.2.2.2
  have cs7 := s7.1
  have ds7 := s7.2.1
  have ss7 := s7.2.2.2.2
  have cx7 := x7.1
  have dx7 := x7.2.1
  have sx7 := x7.2.2.2.2
  have cp7 := p7.1
  have dp7 := p7.2.1
  have sp7 := p7.2.2.2.2
  have cq7 := q7.1
  have dq7 := q7.2.1
  have sq7 := q7.2.2.2.2
  have cm7 := m7.1
  have dm7 := m7.2.1
  have sm7 := m7.2.2.2.2
  go_wp2_with fail
  with_reducible refine (ht.out _ _ ?_).mono ?_
  · exact row_new3 _ _ (by simp) _ _ _ _ _ _ _
  rintro e w8 ⟨rfl, hb8⟩
  have a8 := pair_below (pair_alloc (pair_alloc a7 _) _) hb8
  have b8 := pair_below (pair_alloc (pair_alloc b7 _) _) hb8
  have c8 := pair_below (pair_alloc (pair_alloc c7 _) _) hb8
  have s8 := pair_below (pair_alloc (pair_alloc s7 _) _) hb8
  have x8 := pair_below (pair_alloc (pair_alloc x7 _) _) hb8
  have p8 := pair_below (pair_alloc (pair_alloc p7 _) _) hb8
  have q8 := pair_below (pair_alloc (pair_alloc q7 _) _) hb8
  have m8 := pair_below (pair_alloc (pair_alloc m7 _) _) hb8
  have o8 := pair_below (pair_alloc (pair_new _ o.1.1 o.1.2 _) _) hb8
  clear ca7 da7 sa7 a7 cb7 db7 sb7 b7 cc7 dc7 sc7 c7 cs7 ds7 ss7 s7 cx7 dx7 sx7 x7 cp7 dp7 sp7 p7 cq7 dq7 sq7 q7 cm7 dm7 sm7 m7
  have ca8 := a8.1
  have da8 := a8.2.1
  have sa8 := a8.2.2.2.2
  have cb8 := b8.1
  have db8 := b8.2.1
  have sb8 := b8.2.2.2.2
  have cc8 := c8.1
  have dc8 := c8.2.1
  have sc8 := c8.2.2.2.2
  have cs8 := s8.1
  have ds8 := s8.2.1
  have ss8 := s8.2.2.2.2
  have cx8 := x8.1
  have dx8 := x8.2.1
  have sx8 := x8.2.2.2.2
  have cp8 := p8.1
  have dp8 := p8.2.1
  have sp8 := p8.2.2.2.2
  have cq8 := q8.1
  have dq8 := q8.2.1
  have sq8 := q8.2.2.2.2
  have cm8 := m8.1
  have dm8 := m8.2.1
  have sm8 := m8.2.2.2.2
  have co8 := o8.1
  have do8 := o8.2.1
  have so8 := o8.2.2.2.2
  go_upto_region 11 with fail
  go_cut [120] (fun sv wx => sv = .bool false ∧ S4 w wx w6.heap.size al ah bl bh cl ch m.1.1 m.1.2)
  case first => as_aux_lemma =>
    by_cases q0 : s.2 = 0
    case neg =>
      have y0 : (s.2 == 0) = false := beq_eq_false_iff_ne.2 q0
      clear q0
      go_wp2
      go_meet
      exact ⟨rfl, ⟨(pair_alloc a8 _), (pair_alloc b8 _), (pair_alloc c8 _), (pair_alloc m8 _), by (repeat' (first | exact Below.refl _ _ | refine bstep ?_ hb1 | refine bstep ?_ hb2 | refine bstep ?_ hb3 | refine bstep ?_ hb4 | refine bstep ?_ hb5 | refine bstep ?_ hb6 | refine bstep ?_ hb7 | refine bstep ?_ hb8 | refine Below.setCell ?_ (by simp <;> omega) _ | refine balloc ?_ _ | refine Below.drew ?_ | refine bdrewN ?_ _))⟩⟩
    case pos =>
      by_cases q1 : p.2 = 0
      case neg =>
        have y0 : (s.2 == 0) = true := beq_iff_eq.2 q0
        have y1 : (p.2 == 0) = false := beq_eq_false_iff_ne.2 q1
        clear q0 q1
        go_wp2
        go_meet
        exact ⟨rfl, ⟨(pair_alloc a8 _), (pair_alloc b8 _), (pair_alloc c8 _), (pair_alloc m8 _), by (repeat' (first | exact Below.refl _ _ | refine bstep ?_ hb1 | refine bstep ?_ hb2 | refine bstep ?_ hb3 | refine bstep ?_ hb4 | refine bstep ?_ hb5 | refine bstep ?_ hb6 | refine bstep ?_ hb7 | refine bstep ?_ hb8 | refine Below.setCell ?_ (by simp <;> omega) _ | refine balloc ?_ _ | refine Below.drew ?_ | refine bdrewN ?_ _))⟩⟩
      case pos =>
        by_cases q2 : q.2 = 0
        case neg =>
          have y0 : (s.2 == 0) = true := beq_iff_eq.2 q0
          have y1 : (p.2 == 0) = true := beq_iff_eq.2 q1
          have y2 : (q.2 == 0) = false := beq_eq_false_iff_ne.2 q2
          clear q0 q1 q2
          go_wp2
          go_meet
          exact ⟨rfl, ⟨(pair_alloc a8 _), (pair_alloc b8 _), (pair_alloc c8 _), (pair_alloc m8 _), by (repeat' (first | exact Below.refl _ _ | refine bstep ?_ hb1 | refine bstep ?_ hb2 | refine bstep ?_ hb3 | refine bstep ?_ hb4 | refine bstep ?_ hb5 | refine bstep ?_ hb6 | refine bstep ?_ hb7 | refine bstep ?_ hb8 | refine Below.setCell ?_ (by simp <;> omega) _ | refine balloc ?_ _ | refine Below.drew ?_ | refine bdrewN ?_ _))⟩⟩
        case pos =>
          by_cases q3 : m.2 = 0
          case neg =>
            have y0 : (s.2 == 0) = true := beq_iff_eq.2 q0
            have y1 : (p.2 == 0) = true := beq_iff_eq.2 q1
            have y2 : (q.2 == 0) = true := beq_iff_eq.2 q2
            have y3 : (m.2 == 0) = false := beq_eq_false_iff_ne.2 q3
            clear q0 q1 q2 q3
            go_wp2
            go_meet
            exact ⟨rfl, ⟨(pair_alloc a8 _), (pair_alloc b8 _), (pair_alloc c8 _), (pair_alloc m8 _), by (repeat' (first | exact Below.refl _ _ | refine bstep ?_ hb1 | refine bstep ?_ hb2 | refine bstep ?_ hb3 | refine bstep ?_ hb4 | refine bstep ?_ hb5 | refine bstep ?_ hb6 | refine bstep ?_ hb7 | refine bstep ?_ hb8 | refine Below.setCell ?_ (by simp <;> omega) _ | refine balloc ?_ _ | refine Below.drew ?_ | refine bdrewN ?_ _))⟩⟩
          case pos =>
            by_cases q4 : o.2 = 0
            case neg =>
              have y0 : (s.2 == 0) = true := beq_iff_eq.2 q0
              have y1 : (p.2 == 0) = true := beq_iff_eq.2 q1
              have y2 : (q.2 == 0) = true := beq_iff_eq.2 q2
              have y3 : (m.2 == 0) = true := beq_iff_eq.2 q3
              have y4 : (o.2 == 0) = false := beq_eq_false_iff_ne.2 q4
              clear q0 q1 q2 q3 q4
              go_wp2
              go_meet
              exact ⟨rfl, ⟨(pair_alloc a8 _), (pair_alloc b8 _), (pair_alloc c8 _), (pair_alloc m8 _), by (repeat' (first | exact Below.refl _ _ | refine bstep ?_ hb1 | refine bstep ?_ hb2 | refine bstep ?_ hb3 | refine bstep ?_ hb4 | refine bstep ?_ hb5 | refine bstep ?_ hb6 | refine bstep ?_ hb7 | refine bstep ?_ hb8 | refine Below.setCell ?_ (by simp <;> omega) _ | refine balloc ?_ _ | refine Below.drew ?_ | refine bdrewN ?_ _))⟩⟩
            case pos =>
              have y0 : (s.2 == 0) = true := beq_iff_eq.2 q0
              have y1 : (p.2 == 0) = true := beq_iff_eq.2 q1
              have y2 : (q.2 == 0) = true := beq_iff_eq.2 q2
              have y3 : (m.2 == 0) = true := beq_iff_eq.2 q3
              have y4 : (o.2 == 0) = true := beq_iff_eq.2 q4
              have CC := Lib.hid (k1.out q0 q1 q2 q3 q4)
              clear q0 q1 q2 q3 q4
              go_wp2_with fail
              refine (CC.out _).mono ?_
              rintro e v ⟨rfl, hv⟩
              go_wp2
              go_meet
              exact ⟨rfl, s4_below ⟨(pair_alloc a8 _), (pair_alloc b8 _), (pair_alloc c8 _), (pair_alloc m8 _), by (repeat' (first | exact Below.refl _ _ | refine bstep ?_ hb1 | refine bstep ?_ hb2 | refine bstep ?_ hb3 | refine bstep ?_ hb4 | refine bstep ?_ hb5 | refine bstep ?_ hb6 | refine bstep ?_ hb7 | refine bstep ?_ hb8 | refine Below.setCell ?_ (by simp <;> omega) _ | refine balloc ?_ _ | refine Below.drew ?_ | refine bdrewN ?_ _))⟩ hv⟩
  case rest =>
    obtain ⟨rfl, hst⟩ := hcut
    clear ca8 da8 sa8 a8 cb8 db8 sb8 b8 cc8 dc8 sc8 c8 cs8 ds8 ss8 s8 cx8 dx8 sx8 x8 cp8 dp8 sp8 p8 cq8 dq8 sq8 q8 cm8 dm8 sm8 m8 co8 do8 so8 o8
    clear hb1 hb2 hb3 hb4 hb5 hb6 hb7 hb8
    obtain ⟨pa1, pb1, pc1, pm1, B1⟩ := hst
    have cpa1 := pa1.1
    have dpa1 := pa1.2.1
    have spa1 := pa1.2.2.2.2
    have cpb1 := pb1.1
    have dpb1 := pb1.2.1
    have spb1 := pb1.2.2.2.2
    have cpc1 := pc1.1
    have dpc1 := pc1.2.1
    have spc1 := pc1.2.2.2.2
    have cpm1 := pm1.1
    have dpm1 := pm1.2.1
    have spm1 := pm1.2.2.2.2
    go_wp2_with fail
    with_reducible refine (hd.out _).mono ?_
    rintro e w9 ⟨rfl, hb9⟩
    have a9 := pair_below (pair_alloc pa1 _) hb9
    have b9 := pair_below (pair_alloc pb1 _) hb9
    have c9 := pair_below (pair_alloc pc1 _) hb9
    have m9 := pair_below (pair_alloc pm1 _) hb9
    have unit9 := pair_below (pair_new _ 1048576 1048576 _) hb9
    clear cpa1 dpa1 spa1 pa1 cpb1 dpb1 spb1 pb1 cpc1 dpc1 spc1 pc1 cpm1 dpm1 spm1 pm1
    have ca9 := a9.1
    have da9 := a9.2.1
    have sa9 := a9.2.2.2.2
    have cb9 := b9.1
    have db9 := b9.2.1
    have sb9 := b9.2.2.2.2
    have cc9 := c9.1
    have dc9 := c9.2.1
    have sc9 := c9.2.2.2.2
    have cm9 := m9.1
    have dm9 := m9.2.1
    have sm9 := m9.2.2.2.2
    have cunit9 := unit9.1
    have dunit9 := unit9.2.1
    have sunit9 := unit9.2.2.2.2
    go_wp2_with fail
    with_reducible refine (hi.out _).mono ?_
    rintro e w10 ⟨rfl, hb10⟩
    have a10 := pair_below (pair_alloc a9 _) hb10
    have b10 := pair_below (pair_alloc b9 _) hb10
    have c10 := pair_below (pair_alloc c9 _) hb10
    have m10 := pair_below (pair_alloc m9 _) hb10
    have unit10 := pair_below (pair_alloc unit9 _) hb10
    have d10 := pair_below (pair_new _ d.1.1 d.1.2 _) hb10
    clear ca9 da9 sa9 a9 cb9 db9 sb9 b9 cc9 dc9 sc9 c9 cm9 dm9 sm9 m9 cunit9 dunit9 sunit9 unit9
    have ca10 := a10.1
    have da10 := a10.2.1
    have sa10 := a10.2.2.2.2
    have cb10 := b10.1
    have db10 := b10.2.1
    have sb10 := b10.2.2.2.2
    have cc10 := c10.1
    have dc10 := c10.2.1
    have sc10 := c10.2.2.2.2
    have cm10 := m10.1
    have dm10 := m10.2.1
    have sm10 := m10.2.2.2.2
    have cunit10 := unit10.1
    have dunit10 := unit10.2.1
    have sunit10 := unit10.2.2.2.2
    have cd10 := d10.1
    have dd10 := d10.2.1
    have sd10 := d10.2.2.2.2
    go_wp2_with fail
    with_reducible refine (hn.out _).mono ?_
    rintro e w11 ⟨rfl, hb11⟩
    have a11 := pair_below (pair_alloc a10 _) hb11
    have b11 := pair_below (pair_alloc b10 _) hb11
    have c11 := pair_below (pair_alloc c10 _) hb11
    have m11 := pair_below (pair_alloc m10 _) hb11
    have unit11 := pair_below (pair_alloc unit10 _) hb11
    have d11 := pair_below (pair_alloc d10 _) hb11
    have i11 := pair_below (pair_new _ i.1.1 i.1.2 _) hb11
    clear ca10 da10 sa10 a10 cb10 db10 sb10 b10 cc10 dc10 sc10 c10 cm10 dm10 sm10 m10 cunit10 dunit10 sunit10 unit10 cd10 dd10 sd10 d10
    have ca11 := a11.1
    have da11 := a11.2.1
    have sa11 := a11.2.2.2.2
    have cb11 := b11.1
    have db11 := b11.2.1
    have sb11 := b11.2.2.2.2
    have cc11 := c11.1
    have dc11 := c11.2.1
    have sc11 := c11.2.2.2.2
    have cm11 := m11.1
    have dm11 := m11.2.1
    have sm11 := m11.2.2.2.2
    have cunit11 := unit11.1
    have dunit11 := unit11.2.1
    have sunit11 := unit11.2.2.2.2
    have cd11 := d11.1
    have dd11 := d11.2.1
    have sd11 := d11.2.2.2.2
    have ci11 := i11.1
    have di11 := i11.2.1
    have si11 := i11.2.2.2.2
    go_upto_region 17 with fail
    go_cut [149] (fun sv wx => sv = .bool false ∧ S4 w wx w6.heap.size al ah bl bh cl ch m.1.1 m.1.2)
    case first => as_aux_lemma =>
      by_cases q0 : i.2 = 0
      case neg =>
        have y0 : (i.2 == 0) = false := beq_eq_false_iff_ne.2 q0
        clear q0
        go_wp2
        go_meet
        exact ⟨rfl, ⟨(pair_alloc a11 _), (pair_alloc b11 _), (pair_alloc c11 _), (pair_alloc m11 _), by (repeat' (first | exact B1 | exact Below.refl _ _ | refine bstep ?_ hb9 | refine bstep ?_ hb10 | refine bstep ?_ hb11 | refine Below.setCell ?_ (by simp <;> omega) _ | refine balloc ?_ _ | refine Below.drew ?_ | refine bdrewN ?_ _))⟩⟩
      case pos =>
        have y0 : (i.2 == 0) = true := beq_iff_eq.2 q0
        have CC := Lib.hid (k2.out q0)
        clear q0
        go_wp2_with fail
        refine (CC.out _).mono ?_
        rintro e v ⟨rfl, hv⟩
        go_wp2
        go_meet
        exact ⟨rfl, s4_below ⟨(pair_alloc a11 _), (pair_alloc b11 _), (pair_alloc c11 _), (pair_alloc m11 _), by (repeat' (first | exact B1 | exact Below.refl _ _ | refine bstep ?_ hb9 | refine bstep ?_ hb10 | refine bstep ?_ hb11 | refine Below.setCell ?_ (by simp <;> omega) _ | refine balloc ?_ _ | refine Below.drew ?_ | refine bdrewN ?_ _))⟩ hv⟩
    case rest =>
      obtain ⟨rfl, hst⟩ := hcut
      clear ca11 da11 sa11 a11 cb11 db11 sb11 b11 cc11 dc11 sc11 c11 cm11 dm11 sm11 m11 cunit11 dunit11 sunit11 unit11 cd11 dd11 sd11 d11 ci11 di11 si11 i11
      clear hb9 hb10 hb11
      obtain ⟨pa2, pb2, pc2, pm2, B2⟩ := hst
      have cpa2 := pa2.1
      have dpa2 := pa2.2.1
      have spa2 := pa2.2.2.2.2
      have cpb2 := pb2.1
      have dpb2 := pb2.2.1
      have spb2 := pb2.2.2.2.2
      have cpc2 := pc2.1
      have dpc2 := pc2.2.1
      have spc2 := pc2.2.2.2.2
      have cpm2 := pm2.1
      have dpm2 := pm2.2.1
      have spm2 := pm2.2.2.2.2
      go_wp2_with fail
      with_reducible refine (hr.out _).mono ?_
      rintro e w12 ⟨rfl, hb12⟩
      have a12 := pair_below pa2 hb12
      have b12 := pair_below pb2 hb12
      have c12 := pair_below pc2 hb12
      have m12 := pair_below pm2 hb12
      clear cpa2 dpa2 spa2 pa2 cpb2 dpb2 spb2 pb2 cpc2 dpc2 spc2 pc2 cpm2 dpm2 spm2 pm2
      have ca12 := a12.1
      have da12 := a12.2.1
      have sa12 := a12.2.2.2.2
      have cb12 := b12.1
      have db12 := b12.2.1
      have sb12 := b12.2.2.2.2
      have cc12 := c12.1
      have dc12 := c12.2.1
      have sc12 := c12.2.2.2.2
      have cm12 := m12.1
      have dm12 := m12.2.1
      have sm12 := m12.2.2.2.2
      go_wp2_with fail
      with_reducible refine (hu.out _).mono ?_
      rintro e w13 ⟨rfl, hb13⟩
      have a13 := pair_below (pair_alloc a12 _) hb13
      have b13 := pair_below (pair_alloc b12 _) hb13
      have c13 := pair_below (pair_alloc c12 _) hb13
      have m13 := pair_below (pair_alloc m12 _) hb13
      have r13 := pair_below (pair_new _ r.1.1 r.1.2 _) hb13
      clear ca12 da12 sa12 a12 cb12 db12 sb12 b12 cc12 dc12 sc12 c12 cm12 dm12 sm12 m12
      have ca13 := a13.1
      have da13 := a13.2.1
      have sa13 := a13.2.2.2.2
      have cb13 := b13.1
      have db13 := b13.2.1
      have sb13 := b13.2.2.2.2
      have cc13 := c13.1
      have dc13 := c13.2.1
      have sc13 := c13.2.2.2.2
      have cm13 := m13.1
      have dm13 := m13.2.1
      have sm13 := m13.2.2.2.2
      have cr13 := r13.1
      have dr13 := r13.2.1
      have sr13 := r13.2.2.2.2
      go_wp2_with fail
      with_reducible refine (hv.out _).mono ?_
      rintro e w14 ⟨rfl, hb14⟩
      have a14 := pair_below (pair_alloc a13 _) hb14
      have b14 := pair_below (pair_alloc b13 _) hb14
      have c14 := pair_below (pair_alloc c13 _) hb14
      have m14 := pair_below (pair_alloc m13 _) hb14
      have r14 := pair_below (pair_alloc r13 _) hb14
      have u14 := pair_below (pair_new _ u.1.1 u.1.2 _) hb14
      clear ca13 da13 sa13 a13 cb13 db13 sb13 b13 cc13 dc13 sc13 c13 cm13 dm13 sm13 m13 cr13 dr13 sr13 r13
      have ca14 := a14.1
      have da14 := a14.2.1
      have sa14 := a14.2.2.2.2
      have cb14 := b14.1
      have db14 := b14.2.1
      have sb14 := b14.2.2.2.2
      have cc14 := c14.1
      have dc14 := c14.2.1
      have sc14 := c14.2.2.2.2
      have cm14 := m14.1
      have dm14 := m14.2.1
      have sm14 := m14.2.2.2.2
      have cr14 := r14.1
      have dr14 := r14.2.1
      have sr14 := r14.2.2.2.2
      have cu14 := u14.1
      have du14 := u14.2.1
      have su14 := u14.2.2.2.2
      go_wp2_with fail
      with_reducible refine (hz.out _).mono ?_
      rintro e w15 ⟨rfl, hb15⟩
      have a15 := pair_below (pair_alloc a14 _) hb15
      have b15 := pair_below (pair_alloc b14 _) hb15
      have c15 := pair_below (pair_alloc c14 _) hb15
      have m15 := pair_below (pair_alloc m14 _) hb15
      have r15 := pair_below (pair_alloc r14 _) hb15
      have u15 := pair_below (pair_alloc u14 _) hb15
      have v15 := pair_below (pair_new _ v.1.1 v.1.2 _) hb15
      clear ca14 da14 sa14 a14 cb14 db14 sb14 b14 cc14 dc14 sc14 c14 cm14 dm14 sm14 m14 cr14 dr14 sr14 r14 cu14 du14 su14 u14
      have ca15 := a15.1
      have da15 := a15.2.1
      have sa15 := a15.2.2.2.2
      have cb15 := b15.1
      have db15 := b15.2.1
      have sb15 := b15.2.2.2.2
      have cc15 := c15.1
      have dc15 := c15.2.1
      have sc15 := c15.2.2.2.2
      have cm15 := m15.1
      have dm15 := m15.2.1
      have sm15 := m15.2.2.2.2
      have cr15 := r15.1
      have dr15 := r15.2.1
      have sr15 := r15.2.2.2.2
      have cu15 := u15.1
      have du15 := u15.2.1
      have su15 := u15.2.2.2.2
      have cv15 := v15.1
      have dv15 := v15.2.1
      have sv15 := v15.2.2.2.2
      go_upto_region 23 with fail
      go_cut [188] (fun sv wx => sv = .bool false ∧ S4 w wx w6.heap.size al ah bl bh cl ch m.1.1 m.1.2)
      case first => as_aux_lemma =>
        by_cases q0 : r.2 = 0
        case neg =>
          have y0 : (r.2 == 0) = false := beq_eq_false_iff_ne.2 q0
          clear q0
          go_wp2
          go_meet
          exact ⟨rfl, ⟨(pair_alloc a15 _), (pair_alloc b15 _), (pair_alloc c15 _), (pair_alloc m15 _), by (repeat' (first | exact B2 | exact Below.refl _ _ | refine bstep ?_ hb12 | refine bstep ?_ hb13 | refine bstep ?_ hb14 | refine bstep ?_ hb15 | refine Below.setCell ?_ (by simp <;> omega) _ | refine balloc ?_ _ | refine Below.drew ?_ | refine bdrewN ?_ _))⟩⟩
        case pos =>
          by_cases q1 : u.2 = 0
          case neg =>
            have y0 : (r.2 == 0) = true := beq_iff_eq.2 q0
            have y1 : (u.2 == 0) = false := beq_eq_false_iff_ne.2 q1
            clear q0 q1
            go_wp2
            go_meet
            exact ⟨rfl, ⟨(pair_alloc a15 _), (pair_alloc b15 _), (pair_alloc c15 _), (pair_alloc m15 _), by (repeat' (first | exact B2 | exact Below.refl _ _ | refine bstep ?_ hb12 | refine bstep ?_ hb13 | refine bstep ?_ hb14 | refine bstep ?_ hb15 | refine Below.setCell ?_ (by simp <;> omega) _ | refine balloc ?_ _ | refine Below.drew ?_ | refine bdrewN ?_ _))⟩⟩
          case pos =>
            by_cases q2 : m.2 = 0
            case neg =>
              have y0 : (r.2 == 0) = true := beq_iff_eq.2 q0
              have y1 : (u.2 == 0) = true := beq_iff_eq.2 q1
              have y2 : (m.2 == 0) = false := beq_eq_false_iff_ne.2 q2
              clear q0 q1 q2
              go_wp2
              go_meet
              exact ⟨rfl, ⟨(pair_alloc a15 _), (pair_alloc b15 _), (pair_alloc c15 _), (pair_alloc m15 _), by (repeat' (first | exact B2 | exact Below.refl _ _ | refine bstep ?_ hb12 | refine bstep ?_ hb13 | refine bstep ?_ hb14 | refine bstep ?_ hb15 | refine Below.setCell ?_ (by simp <;> omega) _ | refine balloc ?_ _ | refine Below.drew ?_ | refine bdrewN ?_ _))⟩⟩
            case pos =>
              have y0 : (r.2 == 0) = true := beq_iff_eq.2 q0
              have y1 : (u.2 == 0) = true := beq_iff_eq.2 q1
              have y2 : (m.2 == 0) = true := beq_iff_eq.2 q2
              have CC := Lib.hid (k3.out q0 q1 q2)
              clear q0 q1 q2
              go_wp2_with fail
              refine (CC.out _).mono ?_
              rintro e v ⟨rfl, hv⟩
              go_wp2
              go_meet
              exact ⟨rfl, s4_below ⟨(pair_alloc a15 _), (pair_alloc b15 _), (pair_alloc c15 _), (pair_alloc m15 _), by (repeat' (first | exact B2 | exact Below.refl _ _ | refine bstep ?_ hb12 | refine bstep ?_ hb13 | refine bstep ?_ hb14 | refine bstep ?_ hb15 | refine Below.setCell ?_ (by simp <;> omega) _ | refine balloc ?_ _ | refine Below.drew ?_ | refine bdrewN ?_ _))⟩ hv⟩
      case rest =>
        obtain ⟨rfl, hst⟩ := hcut
        clear ca15 da15 sa15 a15 cb15 db15 sb15 b15 cc15 dc15 sc15 c15 cm15 dm15 sm15 m15 cr15 dr15 sr15 r15 cu15 du15 su15 u15 cv15 dv15 sv15 v15
        clear hb12 hb13 hb14 hb15
        obtain ⟨pa3, pb3, pc3, pm3, B3⟩ := hst
        have cpa3 := pa3.1
        have dpa3 := pa3.2.1
        have spa3 := pa3.2.2.2.2
        have cpb3 := pb3.1
        have dpb3 := pb3.2.1
        have spb3 := pb3.2.2.2.2
        have cpc3 := pc3.1
        have dpc3 := pc3.2.1
        have spc3 := pc3.2.2.2.2
        have cpm3 := pm3.1
        have dpm3 := pm3.2.1
        have spm3 := pm3.2.2.2.2
        go_wp2_with fail
        with_reducible refine (hy.out _ _ ?_).mono ?_
        · exact row_new4 _ _ (by simp) _ _ _ _ _ _ _ _ _
        rintro e w16 ⟨rfl, hb16⟩
        have a16 := pair_below (pair_alloc pa3 _) hb16
        have b16 := pair_below (pair_alloc pb3 _) hb16
        have c16 := pair_below (pair_alloc pc3 _) hb16
        have m16 := pair_below (pair_alloc pm3 _) hb16
        have R16 := row_below (row_new4 _ _ rfl _ _ _ _ _ _ _ _ _) hb16
        clear cpa3 dpa3 spa3 pa3 cpb3 dpb3 spb3 pb3 cpc3 dpc3 spc3 pc3 cpm3 dpm3 spm3 pm3
        have ca16 := a16.1
        have da16 := a16.2.1
        have sa16 := a16.2.2.2.2
        have cb16 := b16.1
        have db16 := b16.2.1
        have sb16 := b16.2.2.2.2
        have cc16 := c16.1
        have dc16 := c16.2.1
        have sc16 := c16.2.2.2.2
        have cm16 := m16.1
        have dm16 := m16.2.1
        have sm16 := m16.2.2.2.2
        go_wp2_with fail
        with_reducible refine (hg.out _ _ ?_).mono ?_
        · exact (row_alloc R16 _)
        rintro e w17 ⟨rfl, hb17⟩
        have a17 := pair_below (pair_alloc a16 _) hb17
        have b17 := pair_below (pair_alloc b16 _) hb17
        have c17 := pair_below (pair_alloc c16 _) hb17
        have m17 := pair_below (pair_alloc m16 _) hb17
        have R17 := row_below (row_alloc R16 _) hb17
        have y17 := pair_below (pair_new _ y.1.1 y.1.2 _) hb17
        clear ca16 da16 sa16 a16 cb16 db16 sb16 b16 cc16 dc16 sc16 c16 cm16 dm16 sm16 m16 R16
        have ca17 := a17.1
        have da17 := a17.2.1
        have sa17 := a17.2.2.2.2
        have cb17 := b17.1
        have db17 := b17.2.1
        have sb17 := b17.2.2.2.2
        have cc17 := c17.1
        have dc17 := c17.2.1
        have sc17 := c17.2.2.2.2
        have cm17 := m17.1
        have dm17 := m17.2.1
        have sm17 := m17.2.2.2.2
        have cy17 := y17.1
        have dy17 := y17.2.1
        have sy17 := y17.2.2.2.2
        go_wp2_with fail
        with_reducible refine (hk.out _).mono ?_
        rintro e w18 ⟨rfl, hb18⟩
        have a18 := pair_below (pair_alloc a17 _) hb18
        have b18 := pair_below (pair_alloc b17 _) hb18
        have c18 := pair_below (pair_alloc c17 _) hb18
        have m18 := pair_below (pair_alloc m17 _) hb18
        have R18 := row_below (row_alloc R17 _) hb18
        have y18 := pair_below (pair_alloc y17 _) hb18
        have g18 := pair_below (pair_new _ g.1.1 g.1.2 _) hb18
        clear ca17 da17 sa17 a17 cb17 db17 sb17 b17 cc17 dc17 sc17 c17 cm17 dm17 sm17 m17 R17 cy17 dy17 sy17 y17
        have ca18 := a18.1
        have da18 := a18.2.1
        have sa18 := a18.2.2.2.2
        have cb18 := b18.1
        have db18 := b18.2.1
        have sb18 := b18.2.2.2.2
        have cc18 := c18.1
        have dc18 := c18.2.1
        have sc18 := c18.2.2.2.2
        have cm18 := m18.1
        have dm18 := m18.2.1
        have sm18 := m18.2.2.2.2
        have cy18 := y18.1
        have dy18 := y18.2.1
        have sy18 := y18.2.2.2.2
        have cg18 := g18.1
        have dg18 := g18.2.1
        have sg18 := g18.2.2.2.2
        go_upto_region 29 with fail
        go_cut [223] (fun sv wx => sv = .bool false ∧ S4 w wx w6.heap.size al ah bl bh cl ch m.1.1 m.1.2)
        case first => as_aux_lemma =>
          by_cases q0 : g.2 = 0
          case neg =>
            have y0 : (g.2 == 0) = false := beq_eq_false_iff_ne.2 q0
            clear q0
            go_wp2
            go_meet
            exact ⟨rfl, ⟨(pair_alloc a18 _), (pair_alloc b18 _), (pair_alloc c18 _), (pair_alloc m18 _), by (repeat' (first | exact B3 | exact Below.refl _ _ | refine bstep ?_ hb16 | refine bstep ?_ hb17 | refine bstep ?_ hb18 | refine Below.setCell ?_ (by simp <;> omega) _ | refine balloc ?_ _ | refine Below.drew ?_ | refine bdrewN ?_ _))⟩⟩
          case pos =>
            have y0 : (g.2 == 0) = true := beq_iff_eq.2 q0
            obtain ⟨x1, x2, x3, x4⟩ := k4.out q0
            have y1 : (y.2 != 0) = false := by rw [x1]; rfl
            have y2 : (k.2 != 0) = false := by rw [x2]; rfl
            clear q0 x1 x2
            go_wp2
            go_meet
            exact ⟨rfl, ⟨(pair_alloc a18 _), (pair_alloc b18 _), (pair_alloc c18 _), (pair_alloc m18 _), by (repeat' (first | exact B3 | exact Below.refl _ _ | refine bstep ?_ hb16 | refine bstep ?_ hb17 | refine bstep ?_ hb18 | refine Below.setCell ?_ (by simp <;> omega) _ | refine balloc ?_ _ | refine Below.drew ?_ | refine bdrewN ?_ _))⟩⟩
        case rest =>
          obtain ⟨rfl, hst⟩ := hcut
          clear ca18 da18 sa18 a18 cb18 db18 sb18 b18 cc18 dc18 sc18 c18 cm18 dm18 sm18 m18 R18 cy18 dy18 sy18 y18 cg18 dg18 sg18 g18
          clear hb16 hb17 hb18
          obtain ⟨pa4, pb4, pc4, pm4, B4⟩ := hst
          have cpa4 := pa4.1
          have dpa4 := pa4.2.1
          have spa4 := pa4.2.2.2.2
          have cpb4 := pb4.1
          have dpb4 := pb4.2.1
          have spb4 := pb4.2.2.2.2
          have cpc4 := pc4.1
          have dpc4 := pc4.2.1
          have spc4 := pc4.2.2.2.2
          have cpm4 := pm4.1
          have dpm4 := pm4.2.1
          have spm4 := pm4.2.2.2.2
          go_wp2_with fail
          with_reducible refine (hh.out _).mono ?_
          rintro e w19 ⟨rfl, hb19⟩
          have a19 := pair_below pa4 hb19
          have b19 := pair_below pb4 hb19
          have c19 := pair_below pc4 hb19
          have m19 := pair_below pm4 hb19
          clear cpa4 dpa4 spa4 pa4 cpb4 dpb4 spb4 pb4 cpc4 dpc4 spc4 pc4 cpm4 dpm4 spm4 pm4
          have ca19 := a19.1
          have da19 := a19.2.1
          have sa19 := a19.2.2.2.2
          have cb19 := b19.1
          have db19 := b19.2.1
          have sb19 := b19.2.2.2.2
          have cc19 := c19.1
          have dc19 := c19.2.1
          have sc19 := c19.2.2.2.2
          have cm19 := m19.1
          have dm19 := m19.2.1
          have sm19 := m19.2.2.2.2
          go_wp2_with fail
          with_reducible refine (hj.out _).mono ?_
          rintro e w20 ⟨rfl, hb20⟩
          have a20 := pair_below (pair_alloc a19 _) hb20
          have b20 := pair_below (pair_alloc b19 _) hb20
          have c20 := pair_below (pair_alloc c19 _) hb20
          have m20 := pair_below (pair_alloc m19 _) hb20
          have h20 := pair_below (pair_new _ h.1.1 h.1.2 _) hb20
          clear ca19 da19 sa19 a19 cb19 db19 sb19 b19 cc19 dc19 sc19 c19 cm19 dm19 sm19 m19
          have ca20 := a20.1
          have da20 := a20.2.1
          have sa20 := a20.2.2.2.2
          have cb20 := b20.1
          have db20 := b20.2.1
          have sb20 := b20.2.2.2.2
          have cc20 := c20.1
          have dc20 := c20.2.1
          have sc20 := c20.2.2.2.2
          have cm20 := m20.1
          have dm20 := m20.2.1
          have sm20 := m20.2.2.2.2
          have ch20 := h20.1
          have dh20 := h20.2.1
          have sh20 := h20.2.2.2.2
          go_wp2_with fail
          with_reducible refine (hl.out _).mono ?_
          rintro e w21 ⟨rfl, hb21⟩
          have a21 := pair_below (pair_alloc a20 _) hb21
          have b21 := pair_below (pair_alloc b20 _) hb21
          have c21 := pair_below (pair_alloc c20 _) hb21
          have m21 := pair_below (pair_alloc m20 _) hb21
          have h21 := pair_below (pair_alloc h20 _) hb21
          have j21 := pair_below (pair_new _ j.1.1 j.1.2 _) hb21
          clear ca20 da20 sa20 a20 cb20 db20 sb20 b20 cc20 dc20 sc20 c20 cm20 dm20 sm20 m20 ch20 dh20 sh20 h20
          have ca21 := a21.1
          have da21 := a21.2.1
          have sa21 := a21.2.2.2.2
          have cb21 := b21.1
          have db21 := b21.2.1
          have sb21 := b21.2.2.2.2
          have cc21 := c21.1
          have dc21 := c21.2.1
          have sc21 := c21.2.2.2.2
          have cm21 := m21.1
          have dm21 := m21.2.1
          have sm21 := m21.2.2.2.2
          have ch21 := h21.1
          have dh21 := h21.2.1
          have sh21 := h21.2.2.2.2
          have cj21 := j21.1
          have dj21 := j21.2.1
          have sj21 := j21.2.2.2.2
          by_cases q0 : h.2 = 0
          case neg =>
            have y0 : (h.2 == 0) = false := beq_eq_false_iff_ne.2 q0
            clear q0
            go_wp2
            go_ret
            exact ⟨rfl, by (repeat' (first | exact B4 | exact Below.refl _ _ | refine bstep ?_ hb19 | refine bstep ?_ hb20 | refine bstep ?_ hb21 | refine Below.setCell ?_ (by simp <;> omega) _ | refine balloc ?_ _ | refine Below.drew ?_ | refine bdrewN ?_ _))⟩
          case pos =>
            by_cases q1 : j.2 = 0
            case neg =>
              have y0 : (h.2 == 0) = true := beq_iff_eq.2 q0
              have y1 : (j.2 == 0) = false := beq_eq_false_iff_ne.2 q1
              clear q0 q1
              go_wp2
              go_ret
              exact ⟨rfl, by (repeat' (first | exact B4 | exact Below.refl _ _ | refine bstep ?_ hb19 | refine bstep ?_ hb20 | refine bstep ?_ hb21 | refine Below.setCell ?_ (by simp <;> omega) _ | refine balloc ?_ _ | refine Below.drew ?_ | refine bdrewN ?_ _))⟩
            case pos =>
              by_cases q2 : l.2 = 0
              case neg =>
                have y0 : (h.2 == 0) = true := beq_iff_eq.2 q0
                have y1 : (j.2 == 0) = true := beq_iff_eq.2 q1
                have y2 : (l.2 == 0) = false := beq_eq_false_iff_ne.2 q2
                clear q0 q1 q2
                go_wp2
                go_ret
                exact ⟨rfl, by (repeat' (first | exact B4 | exact Below.refl _ _ | refine bstep ?_ hb19 | refine bstep ?_ hb20 | refine bstep ?_ hb21 | refine Below.setCell ?_ (by simp <;> omega) _ | refine balloc ?_ _ | refine Below.drew ?_ | refine bdrewN ?_ _))⟩
              case pos =>
                have y0 : (h.2 == 0) = true := beq_iff_eq.2 q0
                have y1 : (j.2 == 0) = true := beq_iff_eq.2 q1
                have y2 : (l.2 == 0) = true := beq_iff_eq.2 q2
                have CC := Lib.hid (k5.out q0 q1 q2)
                clear q0 q1 q2
                go_wp2_with fail
                refine (CC.out _).mono ?_
                rintro e v ⟨rfl, hv⟩
                go_wp2
                go_ret
                exact ⟨rfl, by (repeat' (first | exact B4 | exact Below.refl _ _ | refine bstep ?_ hv | refine bstep ?_ hb19 | refine bstep ?_ hb20 | refine bstep ?_ hb21 | refine Below.setCell ?_ (by simp <;> omega) _ | refine balloc ?_ _ | refine Below.drew ?_ | refine bdrewN ?_ _))⟩

end Go.Proofs.Ythpjjpfflpjpdab
