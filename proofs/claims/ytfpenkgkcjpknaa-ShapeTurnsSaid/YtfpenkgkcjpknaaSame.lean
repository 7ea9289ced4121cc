/-
  The contract of Same for two meshes that hold the same, and of told.
-/
import Derived.Test.YtfpenkgkcjpknaaRAny
import Derived.Test.YtfpenkgkcjpknaaBlock0
import Derived.ChangeKeysEq
namespace Go.Proofs.Ytfpenkgkcjpknaa
open Go.ChangeShapes Go.WideShapes Go.RowKit
open Sh
/-- what a function that makes a mesh leaves: so many points and faces, and a code -/
def MeshN (N NF : Nat) (P F : Nat → P3) (code : Int) (w : World) (e : Ending) (w' : World) : Prop :=
  ∃ a c a' c', e = .returned (.tuple #[msv a N c a' NF c', .int .i64 code]) ∧ Lst w' a N P ∧ Lst w' a' NF F ∧ Below w.heap.size w w'
set_option maxRecDepth 100000 in
theorem eqi3 (x y z : Int) (w : World) : (Op.equalIn 10000 51 (.agg #[.int .i64 x, .int .i64 y, .int .i64 z]) (.agg #[.int .i64 x, .int .i64 y, .int .i64 z])).run Try.prog w = .ok true w := by
  obtain ⟨i, hi⟩ : ∃ i, Try.prog.info? 3 = some i := by
    cases h : Try.prog.info? 3 with
    | none => exact absurd h (by decide +kernel)
    | some i => exact ⟨i, rfl⟩
  have h1 : Try.prog.cellsOf 3 = 1 := by kernel_rfl
  rw [show (10000 : Nat) = 9999 + 1 from rfl, run_equalIn_array w 9999 _ _ Try.underlying51 hi, h1]
  simp [Op.eqItems, List.range, List.range.loop]
  go_simp
theorem lst_zero (w : World) (a : Option Addr) (P : Nat → P3) : Lst w a 0 P := fun h => absurd h (Nat.not_lt_zero 0)
theorem meshN_of {np nf : Nat} {P F : Nat → P3} {w w' : World} {e : Ending} (h : Meshed np nf P F w e w') :
    MeshN (if vcode ⟨np, nf, P, F⟩ = 0 then np else 0) (if vcode ⟨np, nf, P, F⟩ = 0 then nf else 0) P F (vcode ⟨np, nf, P, F⟩) w e w' := by
  by_cases z : vcode ⟨np, nf, P, F⟩ = 0
  · obtain ⟨a, c, a', c', h1, h2, h3, h4⟩ := h.1 z
    rw [if_pos z, if_pos z, z]
    exact ⟨a, c, a', c', h1, h2, h3, h4⟩
  · obtain ⟨h1, h2⟩ := h.2 z
    rw [if_neg z, if_neg z]
    exact ⟨none, 0, none, 0, h1, lst_zero _ _ _, lst_zero _ _ _, h2⟩
set_option maxRecDepth 100000 in
set_option maxHeartbeats 2000000 in
theorem same_any (a : Option Addr) (n c : Nat) (a' : Option Addr) (m c' : Nat) (d : Option Addr) (f : Nat) (d' : Option Addr) (f' : Nat) (P F : Nat → P3) (w : World) (ra : Lst w a n P) (rb : Lst w d n P) (rc : Lst w a' m F) (rd : Lst w d' m F) (hn : n ≤ 1000000) (hm : m ≤ 1000000) :
    Calls Try.prog 12 #[msv a n c a' m c', msv d n f d' m f'] w fun e w' => e = .returned (.bool true) ∧ Below w.heap.size w w' := by
  have RA := Lib.hid ra
  have RB := Lib.hid rb
  have RC := Lib.hid rc
  have RD := Lib.hid rd
  have hn' : (n : Int) ≤ 1000000 := by omega
  have hm' : (m : Int) ≤ 1000000 := by omega
  have X0 := Lib.hid (mes_alloc (mes_new w a n c a' m c' 25) (msc d n f d' m f' 25))
  have Y0 := Lib.hid (mes_new (w.alloc (msc a n c a' m c' 25)) d n f d' m f' 25)
  simp only [World.size_alloc] at Y0
  have E3 := eqi3
  clear ra rb rc rd
  go_enter Try.func12, Try.ntmps12
  go_wp2
  go_loopw [5] (fun kv wr => ∃ k : Nat, k ≤ n ∧ kv = .int .i64 k ∧ Mes wr w.heap.size a n c a' m c' ∧ Mes wr (w.heap.size + 1) d n f d' m f' ∧ Below w.heap.size w wr) (fun kv _ => n - (intOf kv).toNat)
  case atStart => exact ⟨0, Nat.zero_le _, rfl, X0.out, Y0.out, by (repeat' (first | exact Below.refl _ _ | refine Below.setCell ?_ (by simp <;> omega) _ | refine balloc ?_ _ | refine Below.drew ?_ | refine bdrewN ?_ _))⟩
  case round =>
    obtain ⟨k, hk, rfl, h1, h2, BQ⟩ := hrel
    have X := Lib.hid h1
    have Y := Lib.hid h2
    have B0 := Lib.hid BQ
    clear h1 h2 BQ
    obtain ⟨m1, m2, m3⟩ := X.out
    obtain ⟨k1, k2, k3⟩ := Y.out
    by_cases hlt : k < n
    · have kk : (k : Int) < (n : Int) := by omega
      obtain ⟨b, off, rfl, r⟩ := RA.out (by omega)
      obtain ⟨b', off', rfl, r'⟩ := RB.out (by omega)
      have q := row3_in r B0.out r.1
      have q' := row3_in r' B0.out r'.1
      obtain ⟨c1, c2, c3⟩ := q.2 k hlt
      obtain ⟨d1, d2, d3⟩ := q'.2 k hlt
      have l1 := q.1
      have l2 := q'.1
      clear q q' r r'
      generalize P k = t at *
      go_wp2
      go_region
      go_wp2
      go_roundw
      case rel => exact ⟨k + 1, by omega, by go_num, mes_drew X.out, mes_drew Y.out, Below.drew B0.out⟩
      case measure => simp [intOf]; omega
    · obtain rfl : n = k := by omega
      go_wp2
      go_loopw [6] (fun kv wr => ∃ k : Nat, k ≤ m ∧ kv = .int .i64 k ∧ Mes wr w.heap.size a n c a' m c' ∧ Mes wr (w.heap.size + 1) d n f d' m f' ∧ Below w.heap.size w wr) (fun kv _ => m - (intOf kv).toNat)
      case atStart => exact ⟨0, Nat.zero_le _, rfl, X.out, Y.out, B0.out⟩
      case round =>
        clear X Y B0
        obtain ⟨i, hi, rfl, h1, h2, BQ⟩ := hrel
        have X := Lib.hid h1
        have Y := Lib.hid h2
        have B0 := Lib.hid BQ
        clear h1 h2 BQ
        obtain ⟨m1, m2, m3⟩ := X.out
        obtain ⟨k1, k2, k3⟩ := Y.out
        by_cases hlt : i < m
        · have kk : (i : Int) < (m : Int) := by omega
          obtain ⟨b, off, rfl, r⟩ := RC.out (by omega)
          obtain ⟨b', off', rfl, r'⟩ := RD.out (by omega)
          have q := row3_in r B0.out r.1
          have q' := row3_in r' B0.out r'.1
          obtain ⟨c1, c2, c3⟩ := q.2 i hlt
          obtain ⟨d1, d2, d3⟩ := q'.2 i hlt
          have l1 := q.1
          have l2 := q'.1
          clear q q' r r'
          generalize F i = t at *
          go_wp2
          go_region
          go_wp2
          go_roundw
          case rel => exact ⟨i + 1, by omega, by go_num, mes_drew X.out, mes_drew Y.out, Below.drew B0.out⟩
          case measure => simp [intOf]; omega
        · obtain rfl : m = i := by omega
          go_wp2
          go_ret
          exact ⟨rfl, B0.out⟩
theorem rtold_no (a : Option Addr) (np c : Nat) (a' : Option Addr) (nf c' : Nat) (v : Int) (w : World) (V : Hid (∀ W, Below w.heap.size w W → Calls Try.prog 28 #[msv a np c a' nf c'] W fun e w' => e = .returned (.int .i64 v) ∧ Below W.heap.size W w')) (ne : v ≠ 0) :
    Calls Try.prog 30 #[msv a np c a' nf c'] w fun e w' => e = .returned (.tuple #[msv none 0 0 none 0 0, .int .i64 v]) ∧ Below w.heap.size w w' := by
  have NE := int_ne ne
  clear ne
  go_enter Try.func30, Try.ntmps30
  go_wp2_with fail
  refine (V.out _ (by (repeat' (first | exact Below.refl _ _ | refine Below.setCell ?_ (by simp <;> omega) _ | refine balloc ?_ _ | refine Below.drew ?_ | refine bdrewN ?_ _)))).mono ?_
  rintro e w1 ⟨rfl, hb1⟩
  obtain ⟨m1, m2, m3⟩ := mes_below (mes_alloc (mes_new w a np c a' nf c' _) _) hb1
  obtain ⟨z1, z2, z3⟩ := mes_below (mes_new (w.alloc _) none 0 0 none 0 0 _) hb1
  have y1 := hb1.frozen (p := ⟨w.heap.size + 1, 0, none⟩) (by simp)
  have y2 := hb1.frozen (p := ⟨w.heap.size + 1, 1, none⟩) (by simp)
  simp only [World.size_alloc] at z1 z2 z3
  have x1 : w1.frozen? ⟨w.heap.size + 1, 0, none⟩ = false := by rw [y1]; go_simp
  have x2 : w1.frozen? ⟨w.heap.size + 1, 1, none⟩ = false := by rw [y2]; go_simp
  clear y1 y2
  go_wp2
  refine bodyPost_ret (v := .tuple #[msv none 0 0 none 0 0, .int .i64 v]) (by rw [results_cell_tmp rfl]; go_simp) rfl ⟨rfl, ?_⟩
  (repeat' (first | exact Below.refl _ _ | refine bstep ?_ hb1 | refine Below.setCell ?_ (by simp <;> omega) _ | refine balloc ?_ _ | refine Below.drew ?_ | refine bdrewN ?_ _))
theorem rtold_ok (a : Option Addr) (np c : Nat) (a' : Option Addr) (nf c' : Nat) (w : World) (V : Hid (∀ W, Below w.heap.size w W → Calls Try.prog 28 #[msv a np c a' nf c'] W fun e w' => e = .returned (.int .i64 0) ∧ Below W.heap.size W w')) :
    Calls Try.prog 30 #[msv a np c a' nf c'] w fun e w' => e = .returned (.tuple #[msv a np c a' nf c', .int .i64 0]) ∧ Below w.heap.size w w' := by
  go_enter Try.func30, Try.ntmps30
  go_wp2_with fail
  refine (V.out _ (by (repeat' (first | exact Below.refl _ _ | refine Below.setCell ?_ (by simp <;> omega) _ | refine balloc ?_ _ | refine Below.drew ?_ | refine bdrewN ?_ _)))).mono ?_
  rintro e w1 ⟨rfl, hb1⟩
  obtain ⟨m1, m2, m3⟩ := mes_below (mes_alloc (mes_new w a np c a' nf c' _) _) hb1
  obtain ⟨z1, z2, z3⟩ := mes_below (mes_new (w.alloc _) none 0 0 none 0 0 _) hb1
  have y1 := hb1.frozen (p := ⟨w.heap.size + 1, 0, none⟩) (by simp)
  have y2 := hb1.frozen (p := ⟨w.heap.size + 1, 1, none⟩) (by simp)
  simp only [World.size_alloc] at z1 z2 z3
  have x1 : w1.frozen? ⟨w.heap.size + 1, 0, none⟩ = false := by rw [y1]; go_simp
  have x2 : w1.frozen? ⟨w.heap.size + 1, 1, none⟩ = false := by rw [y2]; go_simp
  clear y1 y2
  go_wp2
  refine bodyPost_ret (v := .tuple #[msv a np c a' nf c', .int .i64 0]) (by rw [results_cell_tmp rfl]; go_simp) rfl ⟨rfl, ?_⟩
  (repeat' (first | exact Below.refl _ _ | refine bstep ?_ hb1 | refine Below.setCell ?_ (by simp <;> omega) _ | refine balloc ?_ _ | refine Below.drew ?_ | refine bdrewN ?_ _))
theorem rtold_any (a : Option Addr) (np c : Nat) (a' : Option Addr) (nf c' : Nat) (P F : Nat → P3) (w : World) (rp : Lst w a np P) (rf : Lst w a' nf F) (hn : np ≤ 1000000) (hm : nf ≤ 1000000) :
    Calls Try.prog 30 #[msv a np c a' nf c'] w (Meshed np nf P F w) := by
  have V := fun W (B : Below w.heap.size w W) => rval_any a np c a' nf c' P F W (lst_below rp B) (lst_below rf B) hn hm
  by_cases z : vcode ⟨np, nf, P, F⟩ = 0
  · rw [z] at V
    exact (rtold_ok a np c a' nf c' w (Lib.hid V)).mono fun e w' ⟨h1, h2⟩ => ⟨fun _ => ⟨a, c, a', c', h1, lst_below rp h2, lst_below rf h2, h2⟩, fun k => absurd z k⟩
  · exact (rtold_no a np c a' nf c' _ w (Lib.hid V) z).mono fun e w' ⟨h1, h2⟩ => ⟨fun k => absurd k z, fun _ => ⟨h1, h2⟩⟩
theorem rtold_yes (a : Option Addr) (np c : Nat) (a' : Option Addr) (nf c' : Nat) (P F : Nat → P3) (w : World) (rp : Lst w a np P) (rf : Lst w a' nf F) (hn : np ≤ 1000000) (hm : nf ≤ 1000000) (z : vcode ⟨np, nf, P, F⟩ = 0) :
    Calls Try.prog 30 #[msv a np c a' nf c'] w fun e w' => e = .returned (.tuple #[msv a np c a' nf c', .int .i64 0]) ∧ Below w.heap.size w w' := by
  have V := fun W (B : Below w.heap.size w W) => rval_any a np c a' nf c' P F W (lst_below rp B) (lst_below rf B) hn hm
  rw [z] at V
  exact rtold_ok a np c a' nf c' w (Lib.hid V)
theorem rtold_not (a : Option Addr) (np c : Nat) (a' : Option Addr) (nf c' : Nat) (P F : Nat → P3) (w : World) (rp : Lst w a np P) (rf : Lst w a' nf F) (hn : np ≤ 1000000) (hm : nf ≤ 1000000) (z : vcode ⟨np, nf, P, F⟩ ≠ 0) :
    Calls Try.prog 30 #[msv a np c a' nf c'] w fun e w' => e = .returned (.tuple #[msv none 0 0 none 0 0, .int .i64 (vcode ⟨np, nf, P, F⟩)]) ∧ Below w.heap.size w w' := by
  have V := fun W (B : Below w.heap.size w W) => rval_any a np c a' nf c' P F W (lst_below rp B) (lst_below rf B) hn hm
  exact rtold_no a np c a' nf c' _ w (Lib.hid V) z

end Go.Proofs.Ytfpenkgkcjpknaa
