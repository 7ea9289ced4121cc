/-
  The contract of the document's Winding.
-/
import Derived.Test.YtllonfaogbdbnaaWi6
import Derived.Test.YtllonfaogbdbnaaNet
namespace Go.Proofs.Ytllonfaogbdbnaa
open Go.ChangeShapes Go.WideShapes Go.RowKit
open Sh
theorem nrm_dot (a b c : P3) : dot (nrm a b c) a = det a b c := by unfold dot nrm det dot vec sub; grind
theorem nrm_sum (r a b c : P3) : dot r (nrm a b c) = dot r (vec a b) + dot r (vec b c) + dot r (vec c a) := by unfold dot nrm vec sub; grind
theorem sg3 {x y z s : Int} (h : sg x = s) (k : sg y = s) (l : sg z = s) : sg (x + y + z) = s := by
  unfold sg Lib.compareInt at *
  subst h
  split at k <;> split at l <;> split <;> (try split) <;> (try split at k) <;> (try split at l) <;> (try split) <;> omega
theorem cro_no {p x y z : P3} (h : sg (dot (nrm x y z) (sub x p)) ≠ sg (dot ray (nrm x y z))) : croP p (x, y, z) = 0 := by
  unfold croP croT crB
  dsimp only
  refine if_neg fun q => h ?_
  obtain ⟨q1, q2, q3⟩ := q
  have e := sg3 q1 q2 q3
  rw [← nrm_sum, nrm_seen] at e
  rw [e, ← nrm_dot, nrm_seen]
theorem cro_if {p x y z : P3} (h : sg (dot (nrm x y z) (sub x p)) = sg (dot ray (nrm x y z))) :
    croP p (x, y, z) = if sg (dot ray (vec (sub x p) (sub y p))) = sg (dot ray (nrm x y z)) ∧ sg (dot ray (vec (sub y p) (sub z p))) = sg (dot ray (nrm x y z)) ∧ sg (dot ray (vec (sub z p) (sub x p))) = sg (dot ray (nrm x y z)) then sg (dot ray (nrm x y z)) else 0 := by
  unfold croP croT crB
  dsimp only
  rw [← nrm_dot, nrm_seen, h]
/-- what the loop has -/
def WRS (w W : World) (pb rb : Nat) (a : Option Addr) (n c : Nat) (a' : Option Addr) (n' c' : Nat) (x y z p : P3) : Prop :=
  Pan W pb x y z ∧ Own W (w.heap.size + 1) p ∧ Own W rb ray ∧ Mes W w.heap.size a n c a' n' c' ∧ Below w.heap.size w W
theorem wrs_in {w W v : World} {pb rb : Nat} {a : Option Addr} {n c : Nat} {a' : Option Addr} {n' c' : Nat} {x y z p : P3} {B : Nat} (h : WRS w W pb rb a n c a' n' c' x y z p) (hb : Below B W v) (l1 : pb < B) (l2 : w.heap.size + 1 < B) (l3 : rb < B) : WRS w v pb rb a n c a' n' c' x y z p :=
  ⟨pan_in h.1 hb l1, own_in3 h.2.1 hb l2, own_in3 h.2.2.1 hb l3, mes_in h.2.2.2.1 hb (by omega), h.2.2.2.2.trans (hb.mono (by omega))⟩
theorem wrs_below {w W v : World} {pb rb : Nat} {a : Option Addr} {n c : Nat} {a' : Option Addr} {n' c' : Nat} {x y z p : P3} (h : WRS w W pb rb a n c a' n' c' x y z p) (hb : Below W.heap.size W v) : WRS w v pb rb a n c a' n' c' x y z p := ⟨pan_below h.1 hb, own_below h.2.1 hb, own_below h.2.2.1 hb, mes_below h.2.2.2.1 hb, bstep h.2.2.2.2 hb⟩
def A1 (W : World) (B : Nat) (q : Option Nat) (u : P3) : Prop := ∀ b, q = some b → Own W b u ∧ B ≤ b
/-- .. and the fresh variables that are there -/
def NST (w W : World) (pb rb : Nat) (a : Option Addr) (n c : Nat) (a' : Option Addr) (n' c' : Nat) (x y z p : P3) (B : Nat) (q1 q2 q3 : Option Nat) (u1 u2 u3 : P3) : Prop :=
  WRS w W pb rb a n c a' n' c' x y z p ∧ A1 W B q1 u1 ∧ A1 W B q2 u2 ∧ A1 W B q3 u3 ∧ (∀ b c, q1 = some b → q2 = some c → b ≠ c) ∧ (∀ b c, q1 = some b → q3 = some c → b ≠ c) ∧ (∀ b c, q2 = some b → q3 = some c → b ≠ c) ∧ B ≤ W.heap.size
theorem a1_below {W v : World} {B : Nat} {q : Option Nat} {u : P3} (h : A1 W B q u) (hb : Below W.heap.size W v) : A1 v B q u := fun b e => ⟨own_below (h b e).1 hb, (h b e).2⟩
theorem a1_lt {W : World} {B : Nat} {q : Option Nat} {u : P3} (h : A1 W B q u) {b : Nat} (e : q = some b) : b < W.heap.size := (h b e).1.2.2.2.2.2.2
theorem nst_below {w W v : World} {pb rb : Nat} {a : Option Addr} {n c : Nat} {a' : Option Addr} {n' c' : Nat} {x y z p : P3} {B : Nat} {q1 q2 q3 : Option Nat} {u1 u2 u3 : P3} (h : NST w W pb rb a n c a' n' c' x y z p B q1 q2 q3 u1 u2 u3) (hb : Below W.heap.size W v) : NST w v pb rb a n c a' n' c' x y z p B q1 q2 q3 u1 u2 u3 := by
  obtain ⟨h0, h1, h2, h3, h4, h5, h6, h7⟩ := h
  exact ⟨wrs_below h0 hb, a1_below h1 hb, a1_below h2 hb, a1_below h3 hb, h4, h5, h6, Nat.le_trans h7 hb.size⟩
theorem nst_a1 {w W : World} {pb rb : Nat} {a : Option Addr} {n c : Nat} {a' : Option Addr} {n' c' : Nat} {x y z p : P3} {B : Nat} {q2 q3 : Option Nat} {u1 u2 u3 : P3} (h : NST w W pb rb a n c a' n' c' x y z p B none q2 q3 u1 u2 u3) (hz : u1 = (0, 0, 0)) : NST w (W.alloc (ptc (0, 0, 0) 27)) pb rb a n c a' n' c' x y z p B (some W.heap.size) q2 q3 u1 u2 u3 := by
  subst hz
  obtain ⟨h0, h1, h2, h3, h4, h5, h6, h7⟩ := h
  have E := (Below.refl W.heap.size W).alloc (Nat.le_refl _) (ptc (0, 0, 0) 27)
  exact ⟨wrs_below h0 E, (fun b e => by cases e; exact ⟨own_new W (0, 0, 0) 27, h7⟩), (a1_below h2 E), (a1_below h3 E), (fun b c e f => by cases e; exact fun r => absurd (r ▸ a1_lt h2 f) (Nat.lt_irrefl _)), (fun b c e f => by cases e; exact fun r => absurd (r ▸ a1_lt h3 f) (Nat.lt_irrefl _)), h6, Nat.le_trans h7 E.size⟩
theorem nst_a2 {w W : World} {pb rb : Nat} {a : Option Addr} {n c : Nat} {a' : Option Addr} {n' c' : Nat} {x y z p : P3} {B : Nat} {q1 q3 : Option Nat} {u1 u2 u3 : P3} (h : NST w W pb rb a n c a' n' c' x y z p B q1 none q3 u1 u2 u3) (hz : u2 = (0, 0, 0)) : NST w (W.alloc (ptc (0, 0, 0) 27)) pb rb a n c a' n' c' x y z p B q1 (some W.heap.size) q3 u1 u2 u3 := by
  subst hz
  obtain ⟨h0, h1, h2, h3, h4, h5, h6, h7⟩ := h
  have E := (Below.refl W.heap.size W).alloc (Nat.le_refl _) (ptc (0, 0, 0) 27)
  exact ⟨wrs_below h0 E, (a1_below h1 E), (fun b e => by cases e; exact ⟨own_new W (0, 0, 0) 27, h7⟩), (a1_below h3 E), (fun b c e f => by cases f; exact fun r => absurd (r ▸ a1_lt h1 e) (Nat.lt_irrefl _)), h5, (fun b c e f => by cases e; exact fun r => absurd (r ▸ a1_lt h3 f) (Nat.lt_irrefl _)), Nat.le_trans h7 E.size⟩
theorem nst_a3 {w W : World} {pb rb : Nat} {a : Option Addr} {n c : Nat} {a' : Option Addr} {n' c' : Nat} {x y z p : P3} {B : Nat} {q1 q2 : Option Nat} {u1 u2 u3 : P3} (h : NST w W pb rb a n c a' n' c' x y z p B q1 q2 none u1 u2 u3) (hz : u3 = (0, 0, 0)) : NST w (W.alloc (ptc (0, 0, 0) 27)) pb rb a n c a' n' c' x y z p B q1 q2 (some W.heap.size) u1 u2 u3 := by
  subst hz
  obtain ⟨h0, h1, h2, h3, h4, h5, h6, h7⟩ := h
  have E := (Below.refl W.heap.size W).alloc (Nat.le_refl _) (ptc (0, 0, 0) 27)
  exact ⟨wrs_below h0 E, (a1_below h1 E), (a1_below h2 E), (fun b e => by cases e; exact ⟨own_new W (0, 0, 0) 27, h7⟩), h4, (fun b c e f => by cases f; exact fun r => absurd (r ▸ a1_lt h1 e) (Nat.lt_irrefl _)), (fun b c e f => by cases f; exact fun r => absurd (r ▸ a1_lt h2 e) (Nat.lt_irrefl _)), Nat.le_trans h7 E.size⟩
theorem nst_cells {w W : World} {pb rb : Nat} {a : Option Addr} {n c : Nat} {a' : Option Addr} {n' c' : Nat} {x y z p : P3} {B : Nat} {q1 q2 q3 : Option Nat} {u1 u2 u3 : P3} (h : NST w W pb rb a n c a' n' c' x y z p B q1 q2 q3 u1 u2 u3) : (W.cell? ⟨w.heap.size + 1, 0, none⟩ = some (.int .i64 p.1) ∧ W.cell? ⟨w.heap.size + 1, 1, none⟩ = some (.int .i64 p.2.1) ∧ W.cell? ⟨w.heap.size + 1, 2, none⟩ = some (.int .i64 p.2.2)) ∧ W.cell? ⟨pb, 0, none⟩ = some (.int .i64 x.1) ∧ W.cell? ⟨pb, 1, none⟩ = some (.int .i64 x.2.1) ∧ W.cell? ⟨pb, 2, none⟩ = some (.int .i64 x.2.2) ∧ W.cell? ⟨pb, 3, none⟩ = some (.int .i64 y.1) ∧ W.cell? ⟨pb, 4, none⟩ = some (.int .i64 y.2.1) ∧ W.cell? ⟨pb, 5, none⟩ = some (.int .i64 y.2.2) ∧ W.cell? ⟨pb, 6, none⟩ = some (.int .i64 z.1) ∧ W.cell? ⟨pb, 7, none⟩ = some (.int .i64 z.2.1) ∧ W.cell? ⟨pb, 8, none⟩ = some (.int .i64 z.2.2) := ⟨own_cells h.1.2.1, pan_cells h.1.1⟩
/-- .. and the corners as they are seen -/
def WR2 (w W : World) (pb rb : Nat) (a : Option Addr) (n c : Nat) (a' : Option Addr) (n' c' : Nat) (x y z p : P3) (b1 b2 b3 : Nat) (A D E : P3) : Prop := WRS w W pb rb a n c a' n' c' x y z p ∧ Own W b1 A ∧ Own W b2 D ∧ Own W b3 E
theorem wr2_below {w W v : World} {pb rb : Nat} {a : Option Addr} {n c : Nat} {a' : Option Addr} {n' c' : Nat} {x y z p : P3} {b1 b2 b3 : Nat} {A D E : P3} (h : WR2 w W pb rb a n c a' n' c' x y z p b1 b2 b3 A D E) (hb : Below W.heap.size W v) : WR2 w v pb rb a n c a' n' c' x y z p b1 b2 b3 A D E := ⟨wrs_below h.1 hb, own_below h.2.1 hb, own_below h.2.2.1 hb, own_below h.2.2.2 hb⟩
theorem wr2_drew {w W : World} {pb rb : Nat} {a : Option Addr} {n c : Nat} {a' : Option Addr} {n' c' : Nat} {x y z p : P3} {b1 b2 b3 : Nat} {A D E : P3} (h : WR2 w W pb rb a n c a' n' c' x y z p b1 b2 b3 A D E) : WR2 w W.drew pb rb a n c a' n' c' x y z p b1 b2 b3 A D E := wr2_below h (Below.drew (Below.refl _ _))
theorem nst_s1 {w W : World} {pb rb : Nat} {a : Option Addr} {n c : Nat} {a' : Option Addr} {n' c' : Nat} {x y z p : P3} {B b : Nat} {q2 q3 : Option Nat} {u1 u2 u3 : P3} (A : P3) (h : NST w W pb rb a n c a' n' c' x y z p B (some b) q2 q3 u1 u2 u3) (l1 : pb < B) (l2 : w.heap.size + 1 < B) (l3 : rb < B) : NST w (((W.setCell ⟨b, 0, none⟩ (.int .i64 A.1)).setCell ⟨b, 1, none⟩ (.int .i64 A.2.1)).setCell ⟨b, 2, none⟩ (.int .i64 A.2.2)) pb rb a n c a' n' c' x y z p B (some b) q2 q3 A u2 u3 := by
  obtain ⟨h0, h1, h2, h3, h4, h5, h6, h7⟩ := h
  have o1 := h1 b rfl
  have G : Below B W (((W.setCell ⟨b, 0, none⟩ (.int .i64 A.1)).setCell ⟨b, 1, none⟩ (.int .i64 A.2.1)).setCell ⟨b, 2, none⟩ (.int .i64 A.2.2)) := (((Below.refl B W).setCell o1.2 _).setCell o1.2 _).setCell o1.2 _
  exact ⟨wrs_in h0 G l1 l2 l3, (fun c e => by cases e; exact ⟨own_write o1.1 A, o1.2⟩), (fun c e => ⟨own_set3 (h2 c e).1 (fun r => h4 _ _ rfl e r.symm), (h2 c e).2⟩), (fun c e => ⟨own_set3 (h3 c e).1 (fun r => h5 _ _ rfl e r.symm), (h3 c e).2⟩), h4, h5, h6, Nat.le_trans h7 G.size⟩
theorem nst_s2 {w W : World} {pb rb : Nat} {a : Option Addr} {n c : Nat} {a' : Option Addr} {n' c' : Nat} {x y z p : P3} {B b : Nat} {q1 q3 : Option Nat} {u1 u2 u3 : P3} (A : P3) (h : NST w W pb rb a n c a' n' c' x y z p B q1 (some b) q3 u1 u2 u3) (l1 : pb < B) (l2 : w.heap.size + 1 < B) (l3 : rb < B) : NST w (((W.setCell ⟨b, 0, none⟩ (.int .i64 A.1)).setCell ⟨b, 1, none⟩ (.int .i64 A.2.1)).setCell ⟨b, 2, none⟩ (.int .i64 A.2.2)) pb rb a n c a' n' c' x y z p B q1 (some b) q3 u1 A u3 := by
  obtain ⟨h0, h1, h2, h3, h4, h5, h6, h7⟩ := h
  have o1 := h2 b rfl
  have G : Below B W (((W.setCell ⟨b, 0, none⟩ (.int .i64 A.1)).setCell ⟨b, 1, none⟩ (.int .i64 A.2.1)).setCell ⟨b, 2, none⟩ (.int .i64 A.2.2)) := (((Below.refl B W).setCell o1.2 _).setCell o1.2 _).setCell o1.2 _
  exact ⟨wrs_in h0 G l1 l2 l3, (fun c e => ⟨own_set3 (h1 c e).1 (fun r => h4 _ _ e rfl r), (h1 c e).2⟩), (fun c e => by cases e; exact ⟨own_write o1.1 A, o1.2⟩), (fun c e => ⟨own_set3 (h3 c e).1 (fun r => h6 _ _ rfl e r.symm), (h3 c e).2⟩), h4, h5, h6, Nat.le_trans h7 G.size⟩
theorem nst_s3 {w W : World} {pb rb : Nat} {a : Option Addr} {n c : Nat} {a' : Option Addr} {n' c' : Nat} {x y z p : P3} {B b : Nat} {q1 q2 : Option Nat} {u1 u2 u3 : P3} (A : P3) (h : NST w W pb rb a n c a' n' c' x y z p B q1 q2 (some b) u1 u2 u3) (l1 : pb < B) (l2 : w.heap.size + 1 < B) (l3 : rb < B) : NST w (((W.setCell ⟨b, 0, none⟩ (.int .i64 A.1)).setCell ⟨b, 1, none⟩ (.int .i64 A.2.1)).setCell ⟨b, 2, none⟩ (.int .i64 A.2.2)) pb rb a n c a' n' c' x y z p B q1 q2 (some b) u1 u2 A := by
  obtain ⟨h0, h1, h2, h3, h4, h5, h6, h7⟩ := h
  have o1 := h3 b rfl
  have G : Below B W (((W.setCell ⟨b, 0, none⟩ (.int .i64 A.1)).setCell ⟨b, 1, none⟩ (.int .i64 A.2.1)).setCell ⟨b, 2, none⟩ (.int .i64 A.2.2)) := (((Below.refl B W).setCell o1.2 _).setCell o1.2 _).setCell o1.2 _
  exact ⟨wrs_in h0 G l1 l2 l3, (fun c e => ⟨own_set3 (h1 c e).1 (fun r => h5 _ _ e rfl r), (h1 c e).2⟩), (fun c e => ⟨own_set3 (h2 c e).1 (fun r => h6 _ _ e rfl r), (h2 c e).2⟩), (fun c e => by cases e; exact ⟨own_write o1.1 A, o1.2⟩), h4, h5, h6, Nat.le_trans h7 G.size⟩
theorem nst_fin {w W : World} {pb rb : Nat} {a : Option Addr} {n c : Nat} {a' : Option Addr} {n' c' : Nat} {x y z p : P3} {B b1 b2 b3 : Nat} {A D E : P3} (h : NST w W pb rb a n c a' n' c' x y z p B (some b1) (some b2) (some b3) A D E) : WR2 w W pb rb a n c a' n' c' x y z p b1 b2 b3 A D E := by
  obtain ⟨h0, h1, h2, h3, _, _, _, _⟩ := h
  exact ⟨h0, (h1 b1 rfl).1, (h2 b2 rfl).1, (h3 b3 rfl).1⟩
theorem wr2_cells {w W : World} {pb rb : Nat} {a : Option Addr} {n c : Nat} {a' : Option Addr} {n' c' : Nat} {x y z p : P3} {b1 b2 b3 : Nat} {A D E : P3} (h : WR2 w W pb rb a n c a' n' c' x y z p b1 b2 b3 A D E) : (W.cell? ⟨rb, 0, none⟩ = some (.int .i64 1) ∧ W.cell? ⟨rb, 1, none⟩ = some (.int .i64 1048576) ∧ W.cell? ⟨rb, 2, none⟩ = some (.int .i64 1099511627776)) ∧ (W.cell? ⟨b1, 0, none⟩ = some (.int .i64 A.1) ∧ W.cell? ⟨b1, 1, none⟩ = some (.int .i64 A.2.1) ∧ W.cell? ⟨b1, 2, none⟩ = some (.int .i64 A.2.2)) ∧ (W.cell? ⟨b2, 0, none⟩ = some (.int .i64 D.1) ∧ W.cell? ⟨b2, 1, none⟩ = some (.int .i64 D.2.1) ∧ W.cell? ⟨b2, 2, none⟩ = some (.int .i64 D.2.2)) ∧ (W.cell? ⟨b3, 0, none⟩ = some (.int .i64 E.1) ∧ W.cell? ⟨b3, 1, none⟩ = some (.int .i64 E.2.1) ∧ W.cell? ⟨b3, 2, none⟩ = some (.int .i64 E.2.2)) ∧ W.cell? ⟨pb, 0, none⟩ = some (.int .i64 x.1) ∧ W.cell? ⟨pb, 1, none⟩ = some (.int .i64 x.2.1) ∧ W.cell? ⟨pb, 2, none⟩ = some (.int .i64 x.2.2) ∧ W.cell? ⟨pb, 3, none⟩ = some (.int .i64 y.1) ∧ W.cell? ⟨pb, 4, none⟩ = some (.int .i64 y.2.1) ∧ W.cell? ⟨pb, 5, none⟩ = some (.int .i64 y.2.2) ∧ W.cell? ⟨pb, 6, none⟩ = some (.int .i64 z.1) ∧ W.cell? ⟨pb, 7, none⟩ = some (.int .i64 z.2.1) ∧ W.cell? ⟨pb, 8, none⟩ = some (.int .i64 z.2.2) := ⟨own_cells h.1.2.2.1, own_cells h.2.1, own_cells h.2.2.1, own_cells h.2.2.2, pan_cells h.1.1⟩
theorem wr2_own {w W : World} {pb rb : Nat} {a : Option Addr} {n c : Nat} {a' : Option Addr} {n' c' : Nat} {x y z p : P3} {b1 b2 b3 : Nat} {A D E : P3} (h : WR2 w W pb rb a n c a' n' c' x y z p b1 b2 b3 A D E) : Own W (w.heap.size + 1) p ∧ Own W rb ray ∧ Mes W w.heap.size a n c a' n' c' ∧ Below w.heap.size w W := h.1.2

end Go.Proofs.Ytllonfaogbdbnaa
