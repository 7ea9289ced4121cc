/-
  Plain facts of the means over panels: groups of points,their far and near distances,sums rounded.
  The contracts of field.near and of the words that it calls: differences,scalar products,gaps;a group of points in memory.
  The contract of field.near.
  The contract of field.far: the greatest squared distance of two groups.
  The contract of field.groupOf: points with their box.
  The contract of field.corners: the corners of a panel,in a finer grid,as a group.
-/
import Derived.Test.YtgchcnpgjfoadaaGreatSoMc
import Derived.Test.YtgchcnpgjfoadaaGreatFiCo
namespace Go.Proofs.YtgchcnpgjfoadaaGreat
open Go.ChangeShapes Go.WideShapes Go.RowKit
open Sh
/-- the corners of a triangle, by number -/
def P3F (t:P9) (k:Nat):P3:=if k=0 then t.1 else if k=1 then t.2.1 else t.2.2
def mn3 (a b:P3):P3:=(Sp.mn a.1 b.1,Sp.mn a.2.1 b.2.1,Sp.mn a.2.2 b.2.2)
def mx3 (a b:P3):P3:=(Sp.mx a.1 b.1,Sp.mx a.2.1 b.2.1,Sp.mx a.2.2 b.2.2)
/-- the box of the first points -/
def loN (P:Nat→P3):Nat→P3
  | 0=>P 0
  | k + 1=>mn3 (loN P k) (P k)
def hiN (P:Nat→P3):Nat→P3
  | 0=>P 0
  | k + 1=>mx3 (hiN P k) (P k)
/-- the greatest squared distance of points -/
def fI (p:P3) (Q:Nat→P3):Nat→Int→Int
  | 0,a=>a
  | j + 1,a=>Sp.mx (fI p Q j a) (sq (sub p (Q j)))
def fG (P Q:Nat→P3) (m:Nat):Nat→Int
  | 0=>0
  | i + 1=>fI (P i) Q m (fG P Q m i)
/-- the gap of intervals, and the squared distance of boxes -/
def gp (al ah bl bh:Int):Int:=Sp.mx (Sp.mx 0 (bl - ah)) (al - bh)
def gp3 (al ah bl bh:P3):P3:=(gp al.1 ah.1 bl.1 bh.1,gp al.2.1 ah.2.1 bl.2.1 bh.2.1,gp al.2.2 ah.2.2 bl.2.2 bh.2.2)
def nG (al ah bl bh:P3):Int:=sq (gp3 al ah bl bh)
theorem sq_nn (a:P3):0≤sq a:=by
  have h1:=sq_pos' a.1
  have h2:=sq_pos' a.2.1
  have h3:=sq_pos' a.2.2
  show 0≤a.1 * a.1 + a.2.1 * a.2.1 + a.2.2 * a.2.2
  omega
theorem fG_one (t:P9) (y:P3):fG (P3F t) (fun _=>y) 1 3=farN t y:=by
  have a:=sq_nn (sub t.1 y)
  show Sp.mx (Sp.mx (Sp.mx 0 (sq (sub t.1 y))) (sq (sub t.2.1 y))) (sq (sub t.2.2 y))=Sp.mx (Sp.mx (sq (sub t.1 y)) (sq (sub t.2.1 y))) (sq (sub t.2.2 y))
  simp only [Sp.mx_eq]
  omega
theorem nG_one (t:P9) (y:P3):nG (loN (P3F t) 3) (hiN (P3F t) 3) y y=nearN t y:=by
  rw [← gapP_sq]
  unfold nG
  refine congrArg sq ?_
  have key:∀ a b c n:Int,gp (Sp.mn (Sp.mn (Sp.mn a a) b) c) (Sp.mx (Sp.mx (Sp.mx a a) b) c) n n=gapN n (lo3' a b c) (hi3' a b c):=fun a b c n=>by
    unfold gp gapN lo3' hi3'
    simp only [Sp.mn_eq,Sp.mx_eq]
    omega
  exact Prod.ext (key _ _ _ _) (Prod.ext (key _ _ _ _) (key _ _ _ _))
/-- what is asked of a distance -/
def kV (c:Bool) (n s:Int):Sp.R:=if c then cubeR n s else invR n s
theorem cubeT (T m:Nat) (h1:T≤288230376151711744):Rt.isq (QT T m 3)≤qUp T m 3∧qUp T m 3≤536870913:=by
  have h2:=QT_le T m 3
  have hq:qUp T m 3=Rt.isq (QT T m 3)∨qUp T m 3=Rt.isq (QT T m 3) + 1:=by
    unfold qUp Rt.csq
    split
    · split
      · exact Or.inl rfl
      · exact Or.inr rfl
    · exact Or.inr rfl
  have h3:Rt.isq (QT T m 3)≤536870912:=by
    have hs:=(Rt.isq_spec (QT T m 3)).1
    refine Classical.byContradiction fun c=>?_
    have:=Nat.mul_le_mul (show 536870913≤Rt.isq (QT T m 3) by omega) (show 536870913≤Rt.isq (QT T m 3) by omega)
    omega
  omega
theorem cubeK (k:Nat) (hk:k≤8):k * k * k * 1048576 * (k * k * k * 1048576)≤288230376151711744:=by
  have h0:k * k * k≤512:=Nat.mul_le_mul (Nat.mul_le_mul hk hk) hk
  have h2:k * k * k * 1048576≤536870912:=by omega
  exact Nat.mul_le_mul h2 h2
theorem cubeR_val {m k:Int} (m1:1≤m) (m2:m≤1099511627776) (k1:1≤k) (k2:k≤8):∃ r u:Nat,cubeR m k=(((r:Int),(u:Int)),0)∧r≤u∧u≤536870913∧r=Rt.isq (QT (k.toNat * k.toNat * k.toNat * 1048576 * (k.toNat * k.toNat * k.toNat * 1048576)) m.toNat 3):=by
  have z:=cubeT _ m.toNat (cubeK k.toNat (by omega))
  refine ⟨_,qUp (k.toNat * k.toNat * k.toNat * 1048576 * (k.toNat * k.toNat * k.toNat * 1048576)) m.toNat 3,?_,z.1,z.2,rfl⟩
  unfold cubeR
  rw [if_pos ⟨m1,m2,k1,k2⟩]
  unfold belowR
  revert z
  generalize Rt.isq (QT (k.toNat * k.toNat * k.toNat * 1048576 * (k.toNat * k.toNat * k.toNat * 1048576)) m.toNat 3)=r
  generalize qUp (k.toNat * k.toNat * k.toNat * 1048576 * (k.toNat * k.toNat * k.toNat * 1048576)) m.toNat 3=u
  intro z
  rw [Sp.told_yes (Sp.vld_iff.2 ⟨by omega,by omega,by omega⟩)]
theorem kV_val (c:Bool) {m k:Int} (m1:1≤m) (m2:m≤1099511627776) (k1:1≤k) (k2:k≤8):∃ r u:Nat,kV c m k=(((r:Int),(u:Int)),0)∧r≤u∧u≤536870913:=by
  cases c
  · obtain ⟨r,u,e,_,h1,h2⟩:=invR_val m1 m2 k1 k2
    exact ⟨r,u,e,h1,by omega⟩
  · obtain ⟨r,u,e,h1,h2,_⟩:=cubeR_val m1 m2 k1 k2
    exact ⟨r,u,e,h1,h2⟩
/-- is one of the first numbers 0? -/
def anyz (f:Nat→Int):Nat→Bool
  | 0=>false
  | k + 1=>anyz f k || f k == 0
theorem anyz_no {f:Nat→Int}:∀ {n:Nat},anyz f n=false→∀ k,k < n→f k ≠ 0
  | 0,_,k,h=>absurd h (Nat.not_lt_zero k)
  | n + 1,h,k,hk=>by
    have h:(anyz f n || f n == 0)=false:=h
    rw [Bool.or_eq_false_iff] at h
    by_cases e:k=n
    · subst e;exact beq_eq_false_iff_ne.1 h.2
    · exact anyz_no h.1 k (by omega)
theorem anyz_hit {f:Nat→Int} {k:Nat} (h:f k=0):∀ {n:Nat},k < n→anyz f n=true
  | 0,hk=>absurd hk (Nat.not_lt_zero k)
  | n + 1,hk=>by
    show (anyz f n || f n == 0)=true
    by_cases e:k=n
    · subst e;rw [h];simp
    · rw [anyz_hit h (n:=n) (by omega)];rfl
theorem anyz_next {f:Nat→Int} {k:Nat} (e:anyz f k=false) (h:f k ≠ 0):anyz f (k + 1)=false:=by
  show (anyz f k || f k == 0)=false
  rw [e,beq_eq_false_iff_ne.2 h];rfl
/-- the mean over a panel -/
def ptd (t:P9) (d:Int) (x:P3) (k:Nat):Int:=nearN (ptk t d k) (tim (scl d) x)
def ptf (t:P9) (d:Int) (x:P3) (k:Nat):Int:=farN (ptk t d k) (tim (scl d) x)
def mLo (c:Bool) (t:P9) (d:Int) (x:P3) (k:Nat):Int:=(kV c (ptf t d x k) (scl d)).1.1
def mHi (c:Bool) (t:P9) (d:Int) (x:P3) (k:Nat):Int:=(kV c (ptd t d x k) (scl d)).1.2
def mnF (c:Bool) (t:P9) (x:P3) (d:Int):Sp.R:=if anyz (ptd t d x) (ptn d)=true then ((0,0),10) else ((sm (mLo c t d x) (ptn d) / (ptn d:Int),(sm (mHi c t d x) (ptn d) + (ptn d:Int) - 1) / (ptn d:Int)),0)
/-- the errors of a point and a depth, and of a panel ahead of them -/
def akc (x:P3) (d:Int):Int:=if inP 256 x && rngB d 0 3 then 0 else 1
def snc (t:P9) (x:P3) (d:Int):Int:=if pcode t.1 t.2.1 t.2.2=0 then akc x d else pcode t.1 t.2.1 t.2.2
def meF (c:Bool) (t:P9) (x:P3) (d:Int):Sp.R:=if snc t x d=0 then mnF c t x d else ((0,0),snc t x d)
theorem akc_ok {x:P3} {d:Int} (h:akc x d=0):BdP 256 x∧0≤d∧d≤3:=by
  unfold akc at h
  cases e:(inP 256 x && rngB d 0 3) with
  | true=>rw [Bool.and_eq_true] at e;exact ⟨inP_iff.1 e.1,rngB_iff.1 e.2⟩
  | false=>rw [e] at h;simp at h
theorem pcode_64 {t:P9} (h:pcode t.1 t.2.1 t.2.2=0):BdT 64 t:=by
  unfold pcode at h
  cases e:(inP 64 t.1 && inP 64 t.2.1 && inP 64 t.2.2) with
  | true =>
    rw [Bool.and_eq_true,Bool.and_eq_true] at e
    exact ⟨inP_iff.1 e.1.1,inP_iff.1 e.1.2,inP_iff.1 e.2⟩
  | false=>rw [e] at h;simp at h
theorem snc_ok {t:P9} {x:P3} {d:Int} (h:snc t x d=0):BdT 64 t∧BdP 256 x∧0≤d∧d≤3:=by
  unfold snc at h
  by_cases z:pcode t.1 t.2.1 t.2.2=0
  · rw [if_pos z] at h
    exact ⟨pcode_64 z,akc_ok h⟩
  · rw [if_neg z] at h
    exact absurd h z
end Go.Proofs.YtgchcnpgjfoadaaGreat
namespace Go.Proofs.YtgchcnpgjfoadaaGreat
open Go.ChangeShapes Go.WideShapes Go.RowKit
open Sh
attribute [local go_sem 1000000] run_min_mn run_max_mx
attribute [local go_sem high] run_max3' run_min3'
theorem fminus_any (a b:P3) (w:World) (h:BdP 4611686018427387904 (sub a b)) :
    Calls Tryz.prog 144 #[ptv a,ptv b] w fun e w'=>e=.returned (ptv (sub a b))∧Below w.heap.size w w':=by
  simp only [BdP,sub] at h
  obtain ⟨h1,h2,h3,h4,h5,h6⟩:=h
  go_enter Tryz.func144,Tryz.ntmps144
  go_wp2
  refine bodyPost_ret (v:=ptv (sub a b)) (by rw [results_cell rfl];go_simp;exact ⟨rfl,rfl,rfl⟩) rfl ⟨rfl,?_⟩
  (repeat' (first | exact Below.refl _ _ | refine Below.setCell ?_ (by simp <;> omega) _ | refine balloc ?_ _ | refine Below.drew ?_ | refine bdrewN ?_ _))
theorem fscalar_any (a b:P3) (w:World) (h:BdP 1152921504606846976 (pw a b)) :
    Calls Tryz.prog 143 #[ptv a,ptv b] w fun e w'=>e=.returned (.int .i64 (dot a b))∧Below w.heap.size w w':=by
  simp only [BdP,pw] at h
  obtain ⟨h1,h2,h3,h4,h5,h6⟩:=h
  go_enter Tryz.func143,Tryz.ntmps143
  go_wp2
  go_ret
  exact ⟨rfl,by (repeat' (first | exact Below.refl _ _ | refine Below.setCell ?_ (by simp <;> omega) _ | refine balloc ?_ _ | refine Below.drew ?_ | refine bdrewN ?_ _))⟩
theorem fgap_any (al ah bl bh:Int) (w:World) (h1:-4611686018427387904≤bl - ah∧bl - ah≤4611686018427387904) (h2:-4611686018427387904≤al - bh∧al - bh≤4611686018427387904):Calls Tryz.prog 142 #[.int .i64 al,.int .i64 ah,.int .i64 bl,.int .i64 bh] w fun e w'=>e=.returned (.int .i64 (gp al ah bl bh))∧Below w.heap.size w w':=by
  obtain ⟨h1,h3⟩:=h1
  obtain ⟨h2,h4⟩:=h2
  unfold gp
  go_enter Tryz.func142,Tryz.ntmps142
  go_wp2
  go_ret
  exact ⟨rfl,by (repeat' (first | exact Below.refl _ _ | refine Below.setCell ?_ (by simp <;> omega) _ | refine balloc ?_ _ | refine Below.drew ?_ | refine bdrewN ?_ _))⟩
/-- a group of points as a value, as a block -/
abbrev grv (b n c:Nat) (lo hi:P3):Value:=.agg #[.slice (some ⟨b,0,none⟩) n c,.int .i64 lo.1,.int .i64 lo.2.1,.int .i64 lo.2.2,.int .i64 hi.1,.int .i64 hi.2.1,.int .i64 hi.2.2]
abbrev grb (b n c:Nat) (lo hi:P3) (t:TypeId):Obj:=.cells #[.slice (some ⟨b,0,none⟩) n c,.int .i64 lo.1,.int .i64 lo.2.1,.int .i64 lo.2.2,.int .i64 hi.1,.int .i64 hi.2.1,.int .i64 hi.2.2] t
def Grp (w:World) (q b n c:Nat) (lo hi:P3):Prop:=(w.cell? ⟨q,0,none⟩=some (.slice (some ⟨b,0,none⟩) n c)∧w.cell? ⟨q,1,none⟩=some (.int .i64 lo.1)∧w.cell? ⟨q,2,none⟩=some (.int .i64 lo.2.1)∧w.cell? ⟨q,3,none⟩=some (.int .i64 lo.2.2)∧w.cell? ⟨q,4,none⟩=some (.int .i64 hi.1)∧w.cell? ⟨q,5,none⟩=some (.int .i64 hi.2.1)∧w.cell? ⟨q,6,none⟩=some (.int .i64 hi.2.2))∧q < w.heap.size
theorem grp_new (w:World) (b n c:Nat) (lo hi:P3) (t:TypeId):Grp (w.alloc (grb b n c lo hi t)) w.heap.size b n c lo hi :=
  ⟨⟨by go_simp,by go_simp,by go_simp,by go_simp,by go_simp,by go_simp,by go_simp⟩,by simp⟩
theorem grp_in {w w1:World} {N q b n c:Nat} {lo hi:P3} (h:Grp w q b n c lo hi) (hb:Below N w w1) (hq:q < N):Grp w1 q b n c lo hi:=by
  obtain ⟨⟨h0,h1,h2,h3,h4,h5,h6⟩,h7⟩:=h
  exact ⟨⟨(hb.cell (p:=⟨q,0,none⟩) hq).trans h0,(hb.cell (p:=⟨q,1,none⟩) hq).trans h1,(hb.cell (p:=⟨q,2,none⟩) hq).trans h2,(hb.cell (p:=⟨q,3,none⟩) hq).trans h3,(hb.cell (p:=⟨q,4,none⟩) hq).trans h4,(hb.cell (p:=⟨q,5,none⟩) hq).trans h5,(hb.cell (p:=⟨q,6,none⟩) hq).trans h6⟩,Nat.lt_of_lt_of_le h7 hb.size⟩
theorem grp_below {w w1:World} {q b n c:Nat} {lo hi:P3} (h:Grp w q b n c lo hi) (hb:Below w.heap.size w w1):Grp w1 q b n c lo hi:=grp_in h hb h.2
theorem grp_alloc {w:World} {q b n c:Nat} {lo hi:P3} (h:Grp w q b n c lo hi) (o:Obj):Grp (w.alloc o) q b n c lo hi:=grp_below h ((Below.refl _ _).alloc (Nat.le_refl _) _)
theorem grp_drew {w:World} {q b n c:Nat} {lo hi:P3} (h:Grp w q b n c lo hi):Grp w.drew q b n c lo hi:=h
def fnrOps : Array Oper := #[{ dst := some 6, op := Op.fieldAddr 143 (Operand.tmp 2) 1, type := 0, pos := "group.go:48", after := #[], guard := none }, { dst := some 7, op := Op.fieldAddr 24 (Operand.tmp 6) 0, type := 0, pos := "group.go:48", after := #[{ on := 0, ground := Ground.data }], guard := none }, { dst := some 8, op := Op.load 3 (Operand.tmp 7), type := 3, pos := "group.go:48", after := #[{ on := 1, ground := Ground.data }], guard := none }, { dst := some 9, op := Op.fieldAddr 143 (Operand.tmp 2) 2, type := 0, pos := "group.go:48", after := #[], guard := none }, { dst := some 10, op := Op.fieldAddr 24 (Operand.tmp 9) 0, type := 0, pos := "group.go:48", after := #[{ on := 3, ground := Ground.data }], guard := none }, { dst := some 11, op := Op.load 3 (Operand.tmp 10), type := 3, pos := "group.go:48", after := #[{ on := 4, ground := Ground.data }], guard := none }, { dst := some 12, op := Op.fieldAddr 143 (Operand.tmp 3) 1, type := 0, pos := "group.go:48", after := #[], guard := none }, { dst := some 13, op := Op.fieldAddr 24 (Operand.tmp 12) 0, type := 0, pos := "group.go:48", after := #[{ on := 6, ground := Ground.data }], guard := none }, { dst := some 14, op := Op.load 3 (Operand.tmp 13), type := 3, pos := "group.go:48", after := #[{ on := 7, ground := Ground.data }], guard := none }, { dst := some 15, op := Op.fieldAddr 143 (Operand.tmp 3) 2, type := 0, pos := "group.go:48", after := #[], guard := none }, { dst := some 16, op := Op.fieldAddr 24 (Operand.tmp 15) 0, type := 0, pos := "group.go:48", after := #[{ on := 9, ground := Ground.data }], guard := none }, { dst := some 17, op := Op.load 3 (Operand.tmp 16), type := 3, pos := "group.go:48", after := #[{ on := 10, ground := Ground.data }], guard := none }, { dst := some 18, op := Op.call { callee := Callee.value (Operand.func 142), args := #[Operand.tmp 8, Operand.tmp 11, Operand.tmp 14, Operand.tmp 17], argTypes := #[3, 3, 3, 3] }, type := 3, pos := "group.go:49", after := #[{ on := 2, ground := Ground.data }, { on := 5, ground := Ground.data }, { on := 8, ground := Ground.data }, { on := 11, ground := Ground.data }], guard := none }, { dst := some 19, op := Op.fieldAddr 143 (Operand.tmp 2) 1, type := 0, pos := "group.go:48", after := #[], guard := none }, { dst := some 20, op := Op.fieldAddr 24 (Operand.tmp 19) 1, type := 0, pos := "group.go:48", after := #[{ on := 13, ground := Ground.data }], guard := none }, { dst := some 21, op := Op.load 3 (Operand.tmp 20), type := 3, pos := "group.go:48", after := #[{ on := 14, ground := Ground.data }], guard := none }, { dst := some 22, op := Op.fieldAddr 143 (Operand.tmp 2) 2, type := 0, pos := "group.go:48", after := #[], guard := none }, { dst := some 23, op := Op.fieldAddr 24 (Operand.tmp 22) 1, type := 0, pos := "group.go:48", after := #[{ on := 16, ground := Ground.data }], guard := none }, { dst := some 24, op := Op.load 3 (Operand.tmp 23), type := 3, pos := "group.go:48", after := #[{ on := 17, ground := Ground.data }], guard := none }, { dst := some 25, op := Op.fieldAddr 143 (Operand.tmp 3) 1, type := 0, pos := "group.go:48", after := #[], guard := none }, { dst := some 26, op := Op.fieldAddr 24 (Operand.tmp 25) 1, type := 0, pos := "group.go:48", after := #[{ on := 19, ground := Ground.data }], guard := none }, { dst := some 27, op := Op.load 3 (Operand.tmp 26), type := 3, pos := "group.go:48", after := #[{ on := 20, ground := Ground.data }], guard := none }, { dst := some 28, op := Op.fieldAddr 143 (Operand.tmp 3) 2, type := 0, pos := "group.go:48", after := #[], guard := none }, { dst := some 29, op := Op.fieldAddr 24 (Operand.tmp 28) 1, type := 0, pos := "group.go:48", after := #[{ on := 22, ground := Ground.data }], guard := none }, { dst := some 30, op := Op.load 3 (Operand.tmp 29), type := 3, pos := "group.go:48", after := #[{ on := 23, ground := Ground.data }], guard := none }, { dst := some 31, op := Op.call { callee := Callee.value (Operand.func 142), args := #[Operand.tmp 21, Operand.tmp 24, Operand.tmp 27, Operand.tmp 30], argTypes := #[3, 3, 3, 3] }, type := 3, pos := "group.go:50", after := #[{ on := 15, ground := Ground.data }, { on := 18, ground := Ground.data }, { on := 21, ground := Ground.data }, { on := 24, ground := Ground.data }, { on := 12, ground := Ground.chain }], guard := none }, { dst := some 32, op := Op.fieldAddr 143 (Operand.tmp 2) 1, type := 0, pos := "group.go:48", after := #[], guard := none }, { dst := some 33, op := Op.fieldAddr 24 (Operand.tmp 32) 2, type := 0, pos := "group.go:48", after := #[{ on := 26, ground := Ground.data }], guard := none }, { dst := some 34, op := Op.load 3 (Operand.tmp 33), type := 3, pos := "group.go:48", after := #[{ on := 27, ground := Ground.data }], guard := none }, { dst := some 35, op := Op.fieldAddr 143 (Operand.tmp 2) 2, type := 0, pos := "group.go:48", after := #[], guard := none }, { dst := some 36, op := Op.fieldAddr 24 (Operand.tmp 35) 2, type := 0, pos := "group.go:48", after := #[{ on := 29, ground := Ground.data }], guard := none }, { dst := some 37, op := Op.load 3 (Operand.tmp 36), type := 3, pos := "group.go:48", after := #[{ on := 30, ground := Ground.data }], guard := none }, { dst := some 38, op := Op.fieldAddr 143 (Operand.tmp 3) 1, type := 0, pos := "group.go:48", after := #[], guard := none }, { dst := some 39, op := Op.fieldAddr 24 (Operand.tmp 38) 2, type := 0, pos := "group.go:48", after := #[{ on := 32, ground := Ground.data }], guard := none }, { dst := some 40, op := Op.load 3 (Operand.tmp 39), type := 3, pos := "group.go:48", after := #[{ on := 33, ground := Ground.data }], guard := none }, { dst := some 41, op := Op.fieldAddr 143 (Operand.tmp 3) 2, type := 0, pos := "group.go:48", after := #[], guard := none }, { dst := some 42, op := Op.fieldAddr 24 (Operand.tmp 41) 2, type := 0, pos := "group.go:48", after := #[{ on := 35, ground := Ground.data }], guard := none }, { dst := some 43, op := Op.load 3 (Operand.tmp 42), type := 3, pos := "group.go:48", after := #[{ on := 36, ground := Ground.data }], guard := none }, { dst := some 44, op := Op.call { callee := Callee.value (Operand.func 142), args := #[Operand.tmp 34, Operand.tmp 37, Operand.tmp 40, Operand.tmp 43], argTypes := #[3, 3, 3, 3] }, type := 3, pos := "group.go:51", after := #[{ on := 28, ground := Ground.data }, { on := 31, ground := Ground.data }, { on := 34, ground := Ground.data }, { on := 37, ground := Ground.data }, { on := 25, ground := Ground.chain }], guard := none }, { dst := some 45, op := Op.build 24 #[(0, Operand.tmp 18), (1, Operand.tmp 31), (2, Operand.tmp 44)], type := 24, pos := "group.go:48", after := #[{ on := 12, ground := Ground.data }, { on := 25, ground := Ground.data }, { on := 38, ground := Ground.data }], guard := none }, { dst := some 5, op := Op.alloc 24, type := 0, pos := "group.go:48", after := #[], guard := none }, { dst := none, op := Op.store 24 (Operand.tmp 5) (Operand.tmp 45), type := 0, pos := "group.go:48", after := #[{ on := 40, ground := Ground.data }, { on := 39, ground := Ground.data }, { on := 38, ground := Ground.chain }, { on := 0, ground := Ground.phase }, { on := 1, ground := Ground.phase }, { on := 2, ground := Ground.phase }, { on := 3, ground := Ground.phase }, { on := 4, ground := Ground.phase }, { on := 5, ground := Ground.phase }, { on := 6, ground := Ground.phase }, { on := 7, ground := Ground.phase }, { on := 8, ground := Ground.phase }, { on := 9, ground := Ground.phase }, { on := 10, ground := Ground.phase }, { on := 11, ground := Ground.phase }, { on := 12, ground := Ground.phase }, { on := 13, ground := Ground.phase }, { on := 14, ground := Ground.phase }, { on := 15, ground := Ground.phase }, { on := 16, ground := Ground.phase }, { on := 17, ground := Ground.phase }, { on := 18, ground := Ground.phase }, { on := 19, ground := Ground.phase }, { on := 20, ground := Ground.phase }, { on := 21, ground := Ground.phase }, { on := 22, ground := Ground.phase }, { on := 23, ground := Ground.phase }, { on := 24, ground := Ground.phase }, { on := 25, ground := Ground.phase }, { on := 26, ground := Ground.phase }, { on := 27, ground := Ground.phase }, { on := 28, ground := Ground.phase }, { on := 29, ground := Ground.phase }, { on := 30, ground := Ground.phase }, { on := 31, ground := Ground.phase }, { on := 32, ground := Ground.phase }, { on := 33, ground := Ground.phase }, { on := 34, ground := Ground.phase }, { on := 35, ground := Ground.phase }, { on := 36, ground := Ground.phase }, { on := 37, ground := Ground.phase }, { on := 38, ground := Ground.phase }, { on := 39, ground := Ground.phase }, { on := 40, ground := Ground.phase }], guard := none }]
def fnrT (x:Nat) (y:Nat) (y0 y1 y46 y47 y48:Value) (X:Nat→Value):Array Value:=#[y0,y1,.pointer (some ⟨x,0,none⟩),.pointer (some ⟨y,0,none⟩),.int .i64 0,X 5,X 6,X 7,X 8,X 9,X 10,X 11,X 12,X 13,X 14,X 15,X 16,X 17,X 18,X 19,X 20,X 21,X 22,X 23,X 24,X 25,X 26,X 27,X 28,X 29,X 30,X 31,X 32,X 33,X 34,X 35,X 36,X 37,X 38,X 39,X 40,X 41,X 42,X 43,X 44,X 45,y46,y47,y48]
theorem fnrT_eq (x:Nat) (y:Nat) (y0 y1 y46 y47 y48:Value) (X:Nat→Value):fnrT x y y0 y1 y46 y47 y48 X=#[y0,y1,.pointer (some ⟨x,0,none⟩),.pointer (some ⟨y,0,none⟩),.int .i64 0,X 5,X 6,X 7,X 8,X 9,X 10,X 11,X 12,X 13,X 14,X 15,X 16,X 17,X 18,X 19,X 20,X 21,X 22,X 23,X 24,X 25,X 26,X 27,X 28,X 29,X 30,X 31,X 32,X 33,X 34,X 35,X 36,X 37,X 38,X 39,X 40,X 41,X 42,X 43,X 44,X 45,y46,y47,y48]:=rfl
def fnrI (G:World→Prop) (N:Nat) (x y:Nat) (al ah bl bh:P3) (y0 y1 y46 y47 y48:Value) (l:Array Bool) (A:Act) (W:World):Prop :=
  l.size=42∧∃ X:Nat→Value,A={ tmps:=fnrT x y y0 y1 y46 y47 y48 X,defers:=[] }∧N≤W.heap.size∧G W∧PV l 0 (X 6) (.pointer (some ⟨x,1,none⟩))∧PV l 1 (X 7) (.pointer (some ⟨x,1,none⟩))∧PV l 2 (X 8) (.int .i64 al.1)∧PV l 3 (X 9) (.pointer (some ⟨x,4,none⟩))∧PV l 4 (X 10) (.pointer (some ⟨x,4,none⟩))∧PV l 5 (X 11) (.int .i64 ah.1)∧PV l 6 (X 12) (.pointer (some ⟨y,1,none⟩))∧PV l 7 (X 13) (.pointer (some ⟨y,1,none⟩))∧PV l 8 (X 14) (.int .i64 bl.1)∧PV l 9 (X 15) (.pointer (some ⟨y,4,none⟩))∧PV l 10 (X 16) (.pointer (some ⟨y,4,none⟩))∧PV l 11 (X 17) (.int .i64 bh.1)∧PV l 12 (X 18) (.int .i64 (gp al.1 ah.1 bl.1 bh.1))∧PV l 13 (X 19) (.pointer (some ⟨x,1,none⟩))∧PV l 14 (X 20) (.pointer (some ⟨x,2,none⟩))∧PV l 15 (X 21) (.int .i64 al.2.1)∧PV l 16 (X 22) (.pointer (some ⟨x,4,none⟩))∧PV l 17 (X 23) (.pointer (some ⟨x,5,none⟩))∧PV l 18 (X 24) (.int .i64 ah.2.1)∧PV l 19 (X 25) (.pointer (some ⟨y,1,none⟩))∧PV l 20 (X 26) (.pointer (some ⟨y,2,none⟩))∧PV l 21 (X 27) (.int .i64 bl.2.1)∧PV l 22 (X 28) (.pointer (some ⟨y,4,none⟩))∧PV l 23 (X 29) (.pointer (some ⟨y,5,none⟩))∧PV l 24 (X 30) (.int .i64 bh.2.1)∧PV l 25 (X 31) (.int .i64 (gp al.2.1 ah.2.1 bl.2.1 bh.2.1))∧PV l 26 (X 32) (.pointer (some ⟨x,1,none⟩))∧PV l 27 (X 33) (.pointer (some ⟨x,3,none⟩))∧PV l 28 (X 34) (.int .i64 al.2.2)∧PV l 29 (X 35) (.pointer (some ⟨x,4,none⟩))∧PV l 30 (X 36) (.pointer (some ⟨x,6,none⟩))∧PV l 31 (X 37) (.int .i64 ah.2.2)∧PV l 32 (X 38) (.pointer (some ⟨y,1,none⟩))∧PV l 33 (X 39) (.pointer (some ⟨y,3,none⟩))∧PV l 34 (X 40) (.int .i64 bl.2.2)∧PV l 35 (X 41) (.pointer (some ⟨y,4,none⟩))∧PV l 36 (X 42) (.pointer (some ⟨y,6,none⟩))∧PV l 37 (X 43) (.int .i64 bh.2.2)∧PV l 38 (X 44) (.int .i64 (gp al.2.2 ah.2.2 bl.2.2 bh.2.2))∧PV l 39 (X 45) (ptv (gp3 al ah bl bh))∧QA l W (X 5) 40 41 N ((gp3 al ah bl bh))
set_option maxRecDepth 100000 in
set_option maxHeartbeats 4000000 in
theorem fnr_steps (G:World→Prop) (N:Nat) (x y:Nat) (al ah bl bh:P3) (y0 y1 y46 y47 y48:Value) (Q:Exit→Act→World→Prop) (G1:Hid ((-4611686018427387904≤bl.1 - ah.1∧bl.1 - ah.1≤4611686018427387904)∧(-4611686018427387904≤al.1 - bh.1∧al.1 - bh.1≤4611686018427387904))) (G2:Hid ((-4611686018427387904≤bl.2.1 - ah.2.1∧bl.2.1 - ah.2.1≤4611686018427387904)∧(-4611686018427387904≤al.2.1 - bh.2.1∧al.2.1 - bh.2.1≤4611686018427387904))) (G3:Hid ((-4611686018427387904≤bl.2.2 - ah.2.2∧bl.2.2 - ah.2.2≤4611686018427387904)∧(-4611686018427387904≤al.2.2 - bh.2.2∧al.2.2 - bh.2.2≤4611686018427387904))) (GC:Hid (∀ W:World,G W→W.cell? ⟨x,1,none⟩=some (.int .i64 al.1)∧W.cell? ⟨x,2,none⟩=some (.int .i64 al.2.1)∧W.cell? ⟨x,3,none⟩=some (.int .i64 al.2.2)∧W.cell? ⟨x,4,none⟩=some (.int .i64 ah.1)∧W.cell? ⟨x,5,none⟩=some (.int .i64 ah.2.1)∧W.cell? ⟨x,6,none⟩=some (.int .i64 ah.2.2)∧W.cell? ⟨y,1,none⟩=some (.int .i64 bl.1)∧W.cell? ⟨y,2,none⟩=some (.int .i64 bl.2.1)∧W.cell? ⟨y,3,none⟩=some (.int .i64 bl.2.2)∧W.cell? ⟨y,4,none⟩=some (.int .i64 bh.1)∧W.cell? ⟨y,5,none⟩=some (.int .i64 bh.2.1)∧W.cell? ⟨y,6,none⟩=some (.int .i64 bh.2.2))) (GI:Hid (∀ W W':World,Below N W W'→G W→G W')) :
    allOps (fun i o=>∀ (l:Array Bool) (A:Act) (W:World),fnrI G N x y al ah bl bh y0 y1 y46 y47 y48 l A W→l.getD i true=false→(∀ e ∈ o.after,Region.binds .any e=true→l.getD e.on false=true)→∀ K':Act→World→Prop,(∀ A' W',fnrI G N x y al ah bl bh y0 y1 y46 y47 y48 (l.setIfInBounds i true) A' W'→K' A' W')→if Region.wanted o (yielded fnrOps A.tmps)=true then Oper.wp Tryz.prog o A W K' Q else K' (A.put o.dst undef) W) 0 fnrOps.toList:=by
  simp only [fnrOps,allOps]
  refine ⟨?_,?_,?_,?_,?_,?_,?_,?_,?_,?_,?_,?_,?_,?_,?_,?_,?_,?_,?_,?_,?_,?_,?_,?_,?_,?_,?_,?_,?_,?_,?_,?_,?_,?_,?_,?_,?_,?_,?_,?_,?_,?_,trivial⟩
  · rintro l A W ⟨hl,X,rfl,hN,g,F⟩ h1 hp K hK
    rw [fnrT_eq]
    have g':=Lib.hid g
    have F':=Lib.hid F;clear F g
    have hN':=Lib.hid hN;clear hN;have hl':=Lib.hid hl;clear hl;have h1':=Lib.hid h1;clear h1;have hp':=Lib.hid hp;clear hp;have hK':=Lib.hid hK;clear hK
    go_simp
    have hK:=hK'.out;have hN:=hN'.out;have hl:=hl'.out;have h1:=h1'.out
    obtain ⟨p0,p1,p2,p3,p4,p5,p6,p7,p8,p9,p10,p11,p12,p13,p14,p15,p16,p17,p18,p19,p20,p21,p22,p23,p24,p25,p26,p27,p28,p29,p30,p31,p32,p33,p34,p35,p36,p37,p38,p39,qa0⟩:=F'.out
    have g:=g'.out
    refine hK _ _ ⟨by simpa using hl,(upd X 6 (.pointer (some ⟨x,1,none⟩))),rfl,hN,g,PV.made rfl,p1.k,p2.k,p3.k,p4.k,p5.k,p6.k,p7.k,p8.k,p9.k,p10.k,p11.k,p12.k,p13.k,p14.k,p15.k,p16.k,p17.k,p18.k,p19.k,p20.k,p21.k,p22.k,p23.k,p24.k,p25.k,p26.k,p27.k,p28.k,p29.k,p30.k,p31.k,p32.k,p33.k,p34.k,p35.k,p36.k,p37.k,p38.k,p39.k,qa0.keep (by decide) (by decide) (fun _ _ h=>h)⟩
  · rintro l A W ⟨hl,X,rfl,hN,g,F⟩ h1 hp K hK
    have e0:=F.1 (hp ⟨0,.data⟩ (by simp) rfl)
    rw [fnrT_eq]
    have g':=Lib.hid g
    have F':=Lib.hid F;clear F g
    have hN':=Lib.hid hN;clear hN;have hl':=Lib.hid hl;clear hl;have h1':=Lib.hid h1;clear h1;have hp':=Lib.hid hp;clear hp;have hK':=Lib.hid hK;clear hK
    go_simp
    have hK:=hK'.out;have hN:=hN'.out;have hl:=hl'.out;have h1:=h1'.out
    obtain ⟨p0,p1,p2,p3,p4,p5,p6,p7,p8,p9,p10,p11,p12,p13,p14,p15,p16,p17,p18,p19,p20,p21,p22,p23,p24,p25,p26,p27,p28,p29,p30,p31,p32,p33,p34,p35,p36,p37,p38,p39,qa0⟩:=F'.out
    have g:=g'.out
    refine hK _ _ ⟨by simpa using hl,(upd (upd X 6 (.pointer (some ⟨x,1,none⟩))) 7 (.pointer (some ⟨x,1,none⟩))),rfl,hN,g,PV.made rfl,PV.made rfl,p2.k,p3.k,p4.k,p5.k,p6.k,p7.k,p8.k,p9.k,p10.k,p11.k,p12.k,p13.k,p14.k,p15.k,p16.k,p17.k,p18.k,p19.k,p20.k,p21.k,p22.k,p23.k,p24.k,p25.k,p26.k,p27.k,p28.k,p29.k,p30.k,p31.k,p32.k,p33.k,p34.k,p35.k,p36.k,p37.k,p38.k,p39.k,qa0.keep (by decide) (by decide) (fun _ _ h=>h)⟩
  · rintro l A W ⟨hl,X,rfl,hN,g,F⟩ h1 hp K hK
    have e1:=F.2.1 (hp ⟨1,.data⟩ (by simp) rfl)
    obtain ⟨c1,c2,c3,c4,c5,c6,d1,d2,d3,d4,d5,d6⟩:=GC.out W g
    rw [fnrT_eq]
    have g':=Lib.hid g
    have F':=Lib.hid F;clear F g
    have hN':=Lib.hid hN;clear hN;have hl':=Lib.hid hl;clear hl;have h1':=Lib.hid h1;clear h1;have hp':=Lib.hid hp;clear hp;have hK':=Lib.hid hK;clear hK
    go_simp
    have hK:=hK'.out;have hN:=hN'.out;have hl:=hl'.out;have h1:=h1'.out
    obtain ⟨p0,p1,p2,p3,p4,p5,p6,p7,p8,p9,p10,p11,p12,p13,p14,p15,p16,p17,p18,p19,p20,p21,p22,p23,p24,p25,p26,p27,p28,p29,p30,p31,p32,p33,p34,p35,p36,p37,p38,p39,qa0⟩:=F'.out
    have g:=g'.out
    refine hK _ _ ⟨by simpa using hl,(upd (upd X 7 (.pointer (some ⟨x,1,none⟩))) 8 (.int .i64 al.1)),rfl,hN,g,p0.k,PV.made rfl,PV.made rfl,p3.k,p4.k,p5.k,p6.k,p7.k,p8.k,p9.k,p10.k,p11.k,p12.k,p13.k,p14.k,p15.k,p16.k,p17.k,p18.k,p19.k,p20.k,p21.k,p22.k,p23.k,p24.k,p25.k,p26.k,p27.k,p28.k,p29.k,p30.k,p31.k,p32.k,p33.k,p34.k,p35.k,p36.k,p37.k,p38.k,p39.k,qa0.keep (by decide) (by decide) (fun _ _ h=>h)⟩
  · rintro l A W ⟨hl,X,rfl,hN,g,F⟩ h1 hp K hK
    rw [fnrT_eq]
    have g':=Lib.hid g
    have F':=Lib.hid F;clear F g
    have hN':=Lib.hid hN;clear hN;have hl':=Lib.hid hl;clear hl;have h1':=Lib.hid h1;clear h1;have hp':=Lib.hid hp;clear hp;have hK':=Lib.hid hK;clear hK
    go_simp
    have hK:=hK'.out;have hN:=hN'.out;have hl:=hl'.out;have h1:=h1'.out
    obtain ⟨p0,p1,p2,p3,p4,p5,p6,p7,p8,p9,p10,p11,p12,p13,p14,p15,p16,p17,p18,p19,p20,p21,p22,p23,p24,p25,p26,p27,p28,p29,p30,p31,p32,p33,p34,p35,p36,p37,p38,p39,qa0⟩:=F'.out
    have g:=g'.out
    refine hK _ _ ⟨by simpa using hl,(upd X 9 (.pointer (some ⟨x,4,none⟩))),rfl,hN,g,p0.k,p1.k,p2.k,PV.made rfl,p4.k,p5.k,p6.k,p7.k,p8.k,p9.k,p10.k,p11.k,p12.k,p13.k,p14.k,p15.k,p16.k,p17.k,p18.k,p19.k,p20.k,p21.k,p22.k,p23.k,p24.k,p25.k,p26.k,p27.k,p28.k,p29.k,p30.k,p31.k,p32.k,p33.k,p34.k,p35.k,p36.k,p37.k,p38.k,p39.k,qa0.keep (by decide) (by decide) (fun _ _ h=>h)⟩
  · rintro l A W ⟨hl,X,rfl,hN,g,F⟩ h1 hp K hK
    have e3:=F.2.2.2.1 (hp ⟨3,.data⟩ (by simp) rfl)
    rw [fnrT_eq]
    have g':=Lib.hid g
    have F':=Lib.hid F;clear F g
    have hN':=Lib.hid hN;clear hN;have hl':=Lib.hid hl;clear hl;have h1':=Lib.hid h1;clear h1;have hp':=Lib.hid hp;clear hp;have hK':=Lib.hid hK;clear hK
    go_simp
    have hK:=hK'.out;have hN:=hN'.out;have hl:=hl'.out;have h1:=h1'.out
    obtain ⟨p0,p1,p2,p3,p4,p5,p6,p7,p8,p9,p10,p11,p12,p13,p14,p15,p16,p17,p18,p19,p20,p21,p22,p23,p24,p25,p26,p27,p28,p29,p30,p31,p32,p33,p34,p35,p36,p37,p38,p39,qa0⟩:=F'.out
    have g:=g'.out
    refine hK _ _ ⟨by simpa using hl,(upd (upd X 9 (.pointer (some ⟨x,4,none⟩))) 10 (.pointer (some ⟨x,4,none⟩))),rfl,hN,g,p0.k,p1.k,p2.k,PV.made rfl,PV.made rfl,p5.k,p6.k,p7.k,p8.k,p9.k,p10.k,p11.k,p12.k,p13.k,p14.k,p15.k,p16.k,p17.k,p18.k,p19.k,p20.k,p21.k,p22.k,p23.k,p24.k,p25.k,p26.k,p27.k,p28.k,p29.k,p30.k,p31.k,p32.k,p33.k,p34.k,p35.k,p36.k,p37.k,p38.k,p39.k,qa0.keep (by decide) (by decide) (fun _ _ h=>h)⟩
  · rintro l A W ⟨hl,X,rfl,hN,g,F⟩ h1 hp K hK
    have e4:=F.2.2.2.2.1 (hp ⟨4,.data⟩ (by simp) rfl)
    obtain ⟨c1,c2,c3,c4,c5,c6,d1,d2,d3,d4,d5,d6⟩:=GC.out W g
    rw [fnrT_eq]
    have g':=Lib.hid g
    have F':=Lib.hid F;clear F g
    have hN':=Lib.hid hN;clear hN;have hl':=Lib.hid hl;clear hl;have h1':=Lib.hid h1;clear h1;have hp':=Lib.hid hp;clear hp;have hK':=Lib.hid hK;clear hK
    go_simp
    have hK:=hK'.out;have hN:=hN'.out;have hl:=hl'.out;have h1:=h1'.out
    obtain ⟨p0,p1,p2,p3,p4,p5,p6,p7,p8,p9,p10,p11,p12,p13,p14,p15,p16,p17,p18,p19,p20,p21,p22,p23,p24,p25,p26,p27,p28,p29,p30,p31,p32,p33,p34,p35,p36,p37,p38,p39,qa0⟩:=F'.out
    have g:=g'.out
    refine hK _ _ ⟨by simpa using hl,(upd (upd X 10 (.pointer (some ⟨x,4,none⟩))) 11 (.int .i64 ah.1)),rfl,hN,g,p0.k,p1.k,p2.k,p3.k,PV.made rfl,PV.made rfl,p6.k,p7.k,p8.k,p9.k,p10.k,p11.k,p12.k,p13.k,p14.k,p15.k,p16.k,p17.k,p18.k,p19.k,p20.k,p21.k,p22.k,p23.k,p24.k,p25.k,p26.k,p27.k,p28.k,p29.k,p30.k,p31.k,p32.k,p33.k,p34.k,p35.k,p36.k,p37.k,p38.k,p39.k,qa0.keep (by decide) (by decide) (fun _ _ h=>h)⟩
  · rintro l A W ⟨hl,X,rfl,hN,g,F⟩ h1 hp K hK
    rw [fnrT_eq]
    have g':=Lib.hid g
    have F':=Lib.hid F;clear F g
    have hN':=Lib.hid hN;clear hN;have hl':=Lib.hid hl;clear hl;have h1':=Lib.hid h1;clear h1;have hp':=Lib.hid hp;clear hp;have hK':=Lib.hid hK;clear hK
    go_simp
    have hK:=hK'.out;have hN:=hN'.out;have hl:=hl'.out;have h1:=h1'.out
    obtain ⟨p0,p1,p2,p3,p4,p5,p6,p7,p8,p9,p10,p11,p12,p13,p14,p15,p16,p17,p18,p19,p20,p21,p22,p23,p24,p25,p26,p27,p28,p29,p30,p31,p32,p33,p34,p35,p36,p37,p38,p39,qa0⟩:=F'.out
    have g:=g'.out
    refine hK _ _ ⟨by simpa using hl,(upd X 12 (.pointer (some ⟨y,1,none⟩))),rfl,hN,g,p0.k,p1.k,p2.k,p3.k,p4.k,p5.k,PV.made rfl,p7.k,p8.k,p9.k,p10.k,p11.k,p12.k,p13.k,p14.k,p15.k,p16.k,p17.k,p18.k,p19.k,p20.k,p21.k,p22.k,p23.k,p24.k,p25.k,p26.k,p27.k,p28.k,p29.k,p30.k,p31.k,p32.k,p33.k,p34.k,p35.k,p36.k,p37.k,p38.k,p39.k,qa0.keep (by decide) (by decide) (fun _ _ h=>h)⟩
  · rintro l A W ⟨hl,X,rfl,hN,g,F⟩ h1 hp K hK
    have e6:=F.2.2.2.2.2.2.1 (hp ⟨6,.data⟩ (by simp) rfl)
    rw [fnrT_eq]
    have g':=Lib.hid g
    have F':=Lib.hid F;clear F g
    have hN':=Lib.hid hN;clear hN;have hl':=Lib.hid hl;clear hl;have h1':=Lib.hid h1;clear h1;have hp':=Lib.hid hp;clear hp;have hK':=Lib.hid hK;clear hK
    go_simp
    have hK:=hK'.out;have hN:=hN'.out;have hl:=hl'.out;have h1:=h1'.out
    obtain ⟨p0,p1,p2,p3,p4,p5,p6,p7,p8,p9,p10,p11,p12,p13,p14,p15,p16,p17,p18,p19,p20,p21,p22,p23,p24,p25,p26,p27,p28,p29,p30,p31,p32,p33,p34,p35,p36,p37,p38,p39,qa0⟩:=F'.out
    have g:=g'.out
    refine hK _ _ ⟨by simpa using hl,(upd (upd X 12 (.pointer (some ⟨y,1,none⟩))) 13 (.pointer (some ⟨y,1,none⟩))),rfl,hN,g,p0.k,p1.k,p2.k,p3.k,p4.k,p5.k,PV.made rfl,PV.made rfl,p8.k,p9.k,p10.k,p11.k,p12.k,p13.k,p14.k,p15.k,p16.k,p17.k,p18.k,p19.k,p20.k,p21.k,p22.k,p23.k,p24.k,p25.k,p26.k,p27.k,p28.k,p29.k,p30.k,p31.k,p32.k,p33.k,p34.k,p35.k,p36.k,p37.k,p38.k,p39.k,qa0.keep (by decide) (by decide) (fun _ _ h=>h)⟩
  · rintro l A W ⟨hl,X,rfl,hN,g,F⟩ h1 hp K hK
    have e7:=F.2.2.2.2.2.2.2.1 (hp ⟨7,.data⟩ (by simp) rfl)
    obtain ⟨c1,c2,c3,c4,c5,c6,d1,d2,d3,d4,d5,d6⟩:=GC.out W g
    rw [fnrT_eq]
    have g':=Lib.hid g
    have F':=Lib.hid F;clear F g
    have hN':=Lib.hid hN;clear hN;have hl':=Lib.hid hl;clear hl;have h1':=Lib.hid h1;clear h1;have hp':=Lib.hid hp;clear hp;have hK':=Lib.hid hK;clear hK
    go_simp
    have hK:=hK'.out;have hN:=hN'.out;have hl:=hl'.out;have h1:=h1'.out
    obtain ⟨p0,p1,p2,p3,p4,p5,p6,p7,p8,p9,p10,p11,p12,p13,p14,p15,p16,p17,p18,p19,p20,p21,p22,p23,p24,p25,p26,p27,p28,p29,p30,p31,p32,p33,p34,p35,p36,p37,p38,p39,qa0⟩:=F'.out
    have g:=g'.out
    refine hK _ _ ⟨by simpa using hl,(upd (upd X 13 (.pointer (some ⟨y,1,none⟩))) 14 (.int .i64 bl.1)),rfl,hN,g,p0.k,p1.k,p2.k,p3.k,p4.k,p5.k,p6.k,PV.made rfl,PV.made rfl,p9.k,p10.k,p11.k,p12.k,p13.k,p14.k,p15.k,p16.k,p17.k,p18.k,p19.k,p20.k,p21.k,p22.k,p23.k,p24.k,p25.k,p26.k,p27.k,p28.k,p29.k,p30.k,p31.k,p32.k,p33.k,p34.k,p35.k,p36.k,p37.k,p38.k,p39.k,qa0.keep (by decide) (by decide) (fun _ _ h=>h)⟩
  · rintro l A W ⟨hl,X,rfl,hN,g,F⟩ h1 hp K hK
    rw [fnrT_eq]
    have g':=Lib.hid g
    have F':=Lib.hid F;clear F g
    have hN':=Lib.hid hN;clear hN;have hl':=Lib.hid hl;clear hl;have h1':=Lib.hid h1;clear h1;have hp':=Lib.hid hp;clear hp;have hK':=Lib.hid hK;clear hK
    go_simp
    have hK:=hK'.out;have hN:=hN'.out;have hl:=hl'.out;have h1:=h1'.out
    obtain ⟨p0,p1,p2,p3,p4,p5,p6,p7,p8,p9,p10,p11,p12,p13,p14,p15,p16,p17,p18,p19,p20,p21,p22,p23,p24,p25,p26,p27,p28,p29,p30,p31,p32,p33,p34,p35,p36,p37,p38,p39,qa0⟩:=F'.out
    have g:=g'.out
    refine hK _ _ ⟨by simpa using hl,(upd X 15 (.pointer (some ⟨y,4,none⟩))),rfl,hN,g,p0.k,p1.k,p2.k,p3.k,p4.k,p5.k,p6.k,p7.k,p8.k,PV.made rfl,p10.k,p11.k,p12.k,p13.k,p14.k,p15.k,p16.k,p17.k,p18.k,p19.k,p20.k,p21.k,p22.k,p23.k,p24.k,p25.k,p26.k,p27.k,p28.k,p29.k,p30.k,p31.k,p32.k,p33.k,p34.k,p35.k,p36.k,p37.k,p38.k,p39.k,qa0.keep (by decide) (by decide) (fun _ _ h=>h)⟩
  · rintro l A W ⟨hl,X,rfl,hN,g,F⟩ h1 hp K hK
    have e9:=F.2.2.2.2.2.2.2.2.2.1 (hp ⟨9,.data⟩ (by simp) rfl)
    rw [fnrT_eq]
    have g':=Lib.hid g
    have F':=Lib.hid F;clear F g
    have hN':=Lib.hid hN;clear hN;have hl':=Lib.hid hl;clear hl;have h1':=Lib.hid h1;clear h1;have hp':=Lib.hid hp;clear hp;have hK':=Lib.hid hK;clear hK
    go_simp
    have hK:=hK'.out;have hN:=hN'.out;have hl:=hl'.out;have h1:=h1'.out
    obtain ⟨p0,p1,p2,p3,p4,p5,p6,p7,p8,p9,p10,p11,p12,p13,p14,p15,p16,p17,p18,p19,p20,p21,p22,p23,p24,p25,p26,p27,p28,p29,p30,p31,p32,p33,p34,p35,p36,p37,p38,p39,qa0⟩:=F'.out
    have g:=g'.out
    refine hK _ _ ⟨by simpa using hl,(upd (upd X 15 (.pointer (some ⟨y,4,none⟩))) 16 (.pointer (some ⟨y,4,none⟩))),rfl,hN,g,p0.k,p1.k,p2.k,p3.k,p4.k,p5.k,p6.k,p7.k,p8.k,PV.made rfl,PV.made rfl,p11.k,p12.k,p13.k,p14.k,p15.k,p16.k,p17.k,p18.k,p19.k,p20.k,p21.k,p22.k,p23.k,p24.k,p25.k,p26.k,p27.k,p28.k,p29.k,p30.k,p31.k,p32.k,p33.k,p34.k,p35.k,p36.k,p37.k,p38.k,p39.k,qa0.keep (by decide) (by decide) (fun _ _ h=>h)⟩
  · rintro l A W ⟨hl,X,rfl,hN,g,F⟩ h1 hp K hK
    have e10:=F.2.2.2.2.2.2.2.2.2.2.1 (hp ⟨10,.data⟩ (by simp) rfl)
    obtain ⟨c1,c2,c3,c4,c5,c6,d1,d2,d3,d4,d5,d6⟩:=GC.out W g
    rw [fnrT_eq]
    have g':=Lib.hid g
    have F':=Lib.hid F;clear F g
    have hN':=Lib.hid hN;clear hN;have hl':=Lib.hid hl;clear hl;have h1':=Lib.hid h1;clear h1;have hp':=Lib.hid hp;clear hp;have hK':=Lib.hid hK;clear hK
    go_simp
    have hK:=hK'.out;have hN:=hN'.out;have hl:=hl'.out;have h1:=h1'.out
    obtain ⟨p0,p1,p2,p3,p4,p5,p6,p7,p8,p9,p10,p11,p12,p13,p14,p15,p16,p17,p18,p19,p20,p21,p22,p23,p24,p25,p26,p27,p28,p29,p30,p31,p32,p33,p34,p35,p36,p37,p38,p39,qa0⟩:=F'.out
    have g:=g'.out
    refine hK _ _ ⟨by simpa using hl,(upd (upd X 16 (.pointer (some ⟨y,4,none⟩))) 17 (.int .i64 bh.1)),rfl,hN,g,p0.k,p1.k,p2.k,p3.k,p4.k,p5.k,p6.k,p7.k,p8.k,p9.k,PV.made rfl,PV.made rfl,p12.k,p13.k,p14.k,p15.k,p16.k,p17.k,p18.k,p19.k,p20.k,p21.k,p22.k,p23.k,p24.k,p25.k,p26.k,p27.k,p28.k,p29.k,p30.k,p31.k,p32.k,p33.k,p34.k,p35.k,p36.k,p37.k,p38.k,p39.k,qa0.keep (by decide) (by decide) (fun _ _ h=>h)⟩
  · rintro l A W ⟨hl,X,rfl,hN,g,F⟩ h1 hp K hK
    have e2:=F.2.2.1 (hp ⟨2,.data⟩ (by simp) rfl)
    have e5:=F.2.2.2.2.2.1 (hp ⟨5,.data⟩ (by simp) rfl)
    have e8:=F.2.2.2.2.2.2.2.2.1 (hp ⟨8,.data⟩ (by simp) rfl)
    have e11:=F.2.2.2.2.2.2.2.2.2.2.2.1 (hp ⟨11,.data⟩ (by simp) rfl)
    rw [fnrT_eq]
    have g':=Lib.hid g
    have F':=Lib.hid F;clear F g
    have hN':=Lib.hid hN;clear hN;have hl':=Lib.hid hl;clear hl;have h1':=Lib.hid h1;clear h1;have hp':=Lib.hid hp;clear hp;have hK':=Lib.hid hK;clear hK
    go_simp
    go_at_call 142
    refine (fgap_any al.1 ah.1 bl.1 bh.1 _ G1.out.1 G1.out.2).mono ?_
    rintro e W1 ⟨rfl,hb⟩
    (try dsimp only)
    have hK:=hK'.out;have hN:=hN'.out;have hl:=hl'.out;have h1:=h1'.out
    obtain ⟨p0,p1,p2,p3,p4,p5,p6,p7,p8,p9,p10,p11,p12,p13,p14,p15,p16,p17,p18,p19,p20,p21,p22,p23,p24,p25,p26,p27,p28,p29,p30,p31,p32,p33,p34,p35,p36,p37,p38,p39,qa0⟩:=F'.out
    have g:=g'.out
    refine hK _ _ ⟨by simpa using hl,(upd (upd (upd (upd (upd X 8 (.int .i64 al.1)) 11 (.int .i64 ah.1)) 14 (.int .i64 bl.1)) 17 (.int .i64 bh.1)) 18 (.int .i64 (gp al.1 ah.1 bl.1 bh.1))),rfl,Nat.le_trans hN hb.size,GI.out _ _ (hb.mono hN) g,p0.k,p1.k,PV.made rfl,p3.k,p4.k,PV.made rfl,p6.k,p7.k,PV.made rfl,p9.k,p10.k,PV.made rfl,PV.made rfl,p13.k,p14.k,p15.k,p16.k,p17.k,p18.k,p19.k,p20.k,p21.k,p22.k,p23.k,p24.k,p25.k,p26.k,p27.k,p28.k,p29.k,p30.k,p31.k,p32.k,p33.k,p34.k,p35.k,p36.k,p37.k,p38.k,p39.k,qa0.keep (by decide) (by decide) (fun _ _ h=>own_below h hb)⟩
  · rintro l A W ⟨hl,X,rfl,hN,g,F⟩ h1 hp K hK
    rw [fnrT_eq]
    have g':=Lib.hid g
    have F':=Lib.hid F;clear F g
    have hN':=Lib.hid hN;clear hN;have hl':=Lib.hid hl;clear hl;have h1':=Lib.hid h1;clear h1;have hp':=Lib.hid hp;clear hp;have hK':=Lib.hid hK;clear hK
    go_simp
    have hK:=hK'.out;have hN:=hN'.out;have hl:=hl'.out;have h1:=h1'.out
    obtain ⟨p0,p1,p2,p3,p4,p5,p6,p7,p8,p9,p10,p11,p12,p13,p14,p15,p16,p17,p18,p19,p20,p21,p22,p23,p24,p25,p26,p27,p28,p29,p30,p31,p32,p33,p34,p35,p36,p37,p38,p39,qa0⟩:=F'.out
    have g:=g'.out
    refine hK _ _ ⟨by simpa using hl,(upd X 19 (.pointer (some ⟨x,1,none⟩))),rfl,hN,g,p0.k,p1.k,p2.k,p3.k,p4.k,p5.k,p6.k,p7.k,p8.k,p9.k,p10.k,p11.k,p12.k,PV.made rfl,p14.k,p15.k,p16.k,p17.k,p18.k,p19.k,p20.k,p21.k,p22.k,p23.k,p24.k,p25.k,p26.k,p27.k,p28.k,p29.k,p30.k,p31.k,p32.k,p33.k,p34.k,p35.k,p36.k,p37.k,p38.k,p39.k,qa0.keep (by decide) (by decide) (fun _ _ h=>h)⟩
  · rintro l A W ⟨hl,X,rfl,hN,g,F⟩ h1 hp K hK
    have e13:=F.2.2.2.2.2.2.2.2.2.2.2.2.2.1 (hp ⟨13,.data⟩ (by simp) rfl)
    rw [fnrT_eq]
    have g':=Lib.hid g
    have F':=Lib.hid F;clear F g
    have hN':=Lib.hid hN;clear hN;have hl':=Lib.hid hl;clear hl;have h1':=Lib.hid h1;clear h1;have hp':=Lib.hid hp;clear hp;have hK':=Lib.hid hK;clear hK
    go_simp
    have hK:=hK'.out;have hN:=hN'.out;have hl:=hl'.out;have h1:=h1'.out
    obtain ⟨p0,p1,p2,p3,p4,p5,p6,p7,p8,p9,p10,p11,p12,p13,p14,p15,p16,p17,p18,p19,p20,p21,p22,p23,p24,p25,p26,p27,p28,p29,p30,p31,p32,p33,p34,p35,p36,p37,p38,p39,qa0⟩:=F'.out
    have g:=g'.out
    refine hK _ _ ⟨by simpa using hl,(upd (upd X 19 (.pointer (some ⟨x,1,none⟩))) 20 (.pointer (some ⟨x,2,none⟩))),rfl,hN,g,p0.k,p1.k,p2.k,p3.k,p4.k,p5.k,p6.k,p7.k,p8.k,p9.k,p10.k,p11.k,p12.k,PV.made rfl,PV.made rfl,p15.k,p16.k,p17.k,p18.k,p19.k,p20.k,p21.k,p22.k,p23.k,p24.k,p25.k,p26.k,p27.k,p28.k,p29.k,p30.k,p31.k,p32.k,p33.k,p34.k,p35.k,p36.k,p37.k,p38.k,p39.k,qa0.keep (by decide) (by decide) (fun _ _ h=>h)⟩
  · rintro l A W ⟨hl,X,rfl,hN,g,F⟩ h1 hp K hK
    have e14:=F.2.2.2.2.2.2.2.2.2.2.2.2.2.2.1 (hp ⟨14,.data⟩ (by simp) rfl)
    obtain ⟨c1,c2,c3,c4,c5,c6,d1,d2,d3,d4,d5,d6⟩:=GC.out W g
    rw [fnrT_eq]
    have g':=Lib.hid g
    have F':=Lib.hid F;clear F g
    have hN':=Lib.hid hN;clear hN;have hl':=Lib.hid hl;clear hl;have h1':=Lib.hid h1;clear h1;have hp':=Lib.hid hp;clear hp;have hK':=Lib.hid hK;clear hK
    go_simp
    have hK:=hK'.out;have hN:=hN'.out;have hl:=hl'.out;have h1:=h1'.out
    obtain ⟨p0,p1,p2,p3,p4,p5,p6,p7,p8,p9,p10,p11,p12,p13,p14,p15,p16,p17,p18,p19,p20,p21,p22,p23,p24,p25,p26,p27,p28,p29,p30,p31,p32,p33,p34,p35,p36,p37,p38,p39,qa0⟩:=F'.out
    have g:=g'.out
    refine hK _ _ ⟨by simpa using hl,(upd (upd X 20 (.pointer (some ⟨x,2,none⟩))) 21 (.int .i64 al.2.1)),rfl,hN,g,p0.k,p1.k,p2.k,p3.k,p4.k,p5.k,p6.k,p7.k,p8.k,p9.k,p10.k,p11.k,p12.k,p13.k,PV.made rfl,PV.made rfl,p16.k,p17.k,p18.k,p19.k,p20.k,p21.k,p22.k,p23.k,p24.k,p25.k,p26.k,p27.k,p28.k,p29.k,p30.k,p31.k,p32.k,p33.k,p34.k,p35.k,p36.k,p37.k,p38.k,p39.k,qa0.keep (by decide) (by decide) (fun _ _ h=>h)⟩
  · rintro l A W ⟨hl,X,rfl,hN,g,F⟩ h1 hp K hK
    rw [fnrT_eq]
    have g':=Lib.hid g
    have F':=Lib.hid F;clear F g
    have hN':=Lib.hid hN;clear hN;have hl':=Lib.hid hl;clear hl;have h1':=Lib.hid h1;clear h1;have hp':=Lib.hid hp;clear hp;have hK':=Lib.hid hK;clear hK
    go_simp
    have hK:=hK'.out;have hN:=hN'.out;have hl:=hl'.out;have h1:=h1'.out
    obtain ⟨p0,p1,p2,p3,p4,p5,p6,p7,p8,p9,p10,p11,p12,p13,p14,p15,p16,p17,p18,p19,p20,p21,p22,p23,p24,p25,p26,p27,p28,p29,p30,p31,p32,p33,p34,p35,p36,p37,p38,p39,qa0⟩:=F'.out
    have g:=g'.out
    refine hK _ _ ⟨by simpa using hl,(upd X 22 (.pointer (some ⟨x,4,none⟩))),rfl,hN,g,p0.k,p1.k,p2.k,p3.k,p4.k,p5.k,p6.k,p7.k,p8.k,p9.k,p10.k,p11.k,p12.k,p13.k,p14.k,p15.k,PV.made rfl,p17.k,p18.k,p19.k,p20.k,p21.k,p22.k,p23.k,p24.k,p25.k,p26.k,p27.k,p28.k,p29.k,p30.k,p31.k,p32.k,p33.k,p34.k,p35.k,p36.k,p37.k,p38.k,p39.k,qa0.keep (by decide) (by decide) (fun _ _ h=>h)⟩
  · rintro l A W ⟨hl,X,rfl,hN,g,F⟩ h1 hp K hK
    have e16:=F.2.2.2.2.2.2.2.2.2.2.2.2.2.2.2.2.1 (hp ⟨16,.data⟩ (by simp) rfl)
    rw [fnrT_eq]
    have g':=Lib.hid g
    have F':=Lib.hid F;clear F g
    have hN':=Lib.hid hN;clear hN;have hl':=Lib.hid hl;clear hl;have h1':=Lib.hid h1;clear h1;have hp':=Lib.hid hp;clear hp;have hK':=Lib.hid hK;clear hK
    go_simp
    have hK:=hK'.out;have hN:=hN'.out;have hl:=hl'.out;have h1:=h1'.out
    obtain ⟨p0,p1,p2,p3,p4,p5,p6,p7,p8,p9,p10,p11,p12,p13,p14,p15,p16,p17,p18,p19,p20,p21,p22,p23,p24,p25,p26,p27,p28,p29,p30,p31,p32,p33,p34,p35,p36,p37,p38,p39,qa0⟩:=F'.out
    have g:=g'.out
    refine hK _ _ ⟨by simpa using hl,(upd (upd X 22 (.pointer (some ⟨x,4,none⟩))) 23 (.pointer (some ⟨x,5,none⟩))),rfl,hN,g,p0.k,p1.k,p2.k,p3.k,p4.k,p5.k,p6.k,p7.k,p8.k,p9.k,p10.k,p11.k,p12.k,p13.k,p14.k,p15.k,PV.made rfl,PV.made rfl,p18.k,p19.k,p20.k,p21.k,p22.k,p23.k,p24.k,p25.k,p26.k,p27.k,p28.k,p29.k,p30.k,p31.k,p32.k,p33.k,p34.k,p35.k,p36.k,p37.k,p38.k,p39.k,qa0.keep (by decide) (by decide) (fun _ _ h=>h)⟩
  · rintro l A W ⟨hl,X,rfl,hN,g,F⟩ h1 hp K hK
    have e17:=F.2.2.2.2.2.2.2.2.2.2.2.2.2.2.2.2.2.1 (hp ⟨17,.data⟩ (by simp) rfl)
    obtain ⟨c1,c2,c3,c4,c5,c6,d1,d2,d3,d4,d5,d6⟩:=GC.out W g
    rw [fnrT_eq]
    have g':=Lib.hid g
    have F':=Lib.hid F;clear F g
    have hN':=Lib.hid hN;clear hN;have hl':=Lib.hid hl;clear hl;have h1':=Lib.hid h1;clear h1;have hp':=Lib.hid hp;clear hp;have hK':=Lib.hid hK;clear hK
    go_simp
    have hK:=hK'.out;have hN:=hN'.out;have hl:=hl'.out;have h1:=h1'.out
    obtain ⟨p0,p1,p2,p3,p4,p5,p6,p7,p8,p9,p10,p11,p12,p13,p14,p15,p16,p17,p18,p19,p20,p21,p22,p23,p24,p25,p26,p27,p28,p29,p30,p31,p32,p33,p34,p35,p36,p37,p38,p39,qa0⟩:=F'.out
    have g:=g'.out
    refine hK _ _ ⟨by simpa using hl,(upd (upd X 23 (.pointer (some ⟨x,5,none⟩))) 24 (.int .i64 ah.2.1)),rfl,hN,g,p0.k,p1.k,p2.k,p3.k,p4.k,p5.k,p6.k,p7.k,p8.k,p9.k,p10.k,p11.k,p12.k,p13.k,p14.k,p15.k,p16.k,PV.made rfl,PV.made rfl,p19.k,p20.k,p21.k,p22.k,p23.k,p24.k,p25.k,p26.k,p27.k,p28.k,p29.k,p30.k,p31.k,p32.k,p33.k,p34.k,p35.k,p36.k,p37.k,p38.k,p39.k,qa0.keep (by decide) (by decide) (fun _ _ h=>h)⟩
  · rintro l A W ⟨hl,X,rfl,hN,g,F⟩ h1 hp K hK
    rw [fnrT_eq]
    have g':=Lib.hid g
    have F':=Lib.hid F;clear F g
    have hN':=Lib.hid hN;clear hN;have hl':=Lib.hid hl;clear hl;have h1':=Lib.hid h1;clear h1;have hp':=Lib.hid hp;clear hp;have hK':=Lib.hid hK;clear hK
    go_simp
    have hK:=hK'.out;have hN:=hN'.out;have hl:=hl'.out;have h1:=h1'.out
    obtain ⟨p0,p1,p2,p3,p4,p5,p6,p7,p8,p9,p10,p11,p12,p13,p14,p15,p16,p17,p18,p19,p20,p21,p22,p23,p24,p25,p26,p27,p28,p29,p30,p31,p32,p33,p34,p35,p36,p37,p38,p39,qa0⟩:=F'.out
    have g:=g'.out
    refine hK _ _ ⟨by simpa using hl,(upd X 25 (.pointer (some ⟨y,1,none⟩))),rfl,hN,g,p0.k,p1.k,p2.k,p3.k,p4.k,p5.k,p6.k,p7.k,p8.k,p9.k,p10.k,p11.k,p12.k,p13.k,p14.k,p15.k,p16.k,p17.k,p18.k,PV.made rfl,p20.k,p21.k,p22.k,p23.k,p24.k,p25.k,p26.k,p27.k,p28.k,p29.k,p30.k,p31.k,p32.k,p33.k,p34.k,p35.k,p36.k,p37.k,p38.k,p39.k,qa0.keep (by decide) (by decide) (fun _ _ h=>h)⟩
  · rintro l A W ⟨hl,X,rfl,hN,g,F⟩ h1 hp K hK
    have e19:=F.2.2.2.2.2.2.2.2.2.2.2.2.2.2.2.2.2.2.2.1 (hp ⟨19,.data⟩ (by simp) rfl)
    rw [fnrT_eq]
    have g':=Lib.hid g
    have F':=Lib.hid F;clear F g
    have hN':=Lib.hid hN;clear hN;have hl':=Lib.hid hl;clear hl;have h1':=Lib.hid h1;clear h1;have hp':=Lib.hid hp;clear hp;have hK':=Lib.hid hK;clear hK
    go_simp
    have hK:=hK'.out;have hN:=hN'.out;have hl:=hl'.out;have h1:=h1'.out
    obtain ⟨p0,p1,p2,p3,p4,p5,p6,p7,p8,p9,p10,p11,p12,p13,p14,p15,p16,p17,p18,p19,p20,p21,p22,p23,p24,p25,p26,p27,p28,p29,p30,p31,p32,p33,p34,p35,p36,p37,p38,p39,qa0⟩:=F'.out
    have g:=g'.out
    refine hK _ _ ⟨by simpa using hl,(upd (upd X 25 (.pointer (some ⟨y,1,none⟩))) 26 (.pointer (some ⟨y,2,none⟩))),rfl,hN,g,p0.k,p1.k,p2.k,p3.k,p4.k,p5.k,p6.k,p7.k,p8.k,p9.k,p10.k,p11.k,p12.k,p13.k,p14.k,p15.k,p16.k,p17.k,p18.k,PV.made rfl,PV.made rfl,p21.k,p22.k,p23.k,p24.k,p25.k,p26.k,p27.k,p28.k,p29.k,p30.k,p31.k,p32.k,p33.k,p34.k,p35.k,p36.k,p37.k,p38.k,p39.k,qa0.keep (by decide) (by decide) (fun _ _ h=>h)⟩
  · rintro l A W ⟨hl,X,rfl,hN,g,F⟩ h1 hp K hK
    have e20:=F.2.2.2.2.2.2.2.2.2.2.2.2.2.2.2.2.2.2.2.2.1 (hp ⟨20,.data⟩ (by simp) rfl)
    obtain ⟨c1,c2,c3,c4,c5,c6,d1,d2,d3,d4,d5,d6⟩:=GC.out W g
    rw [fnrT_eq]
    have g':=Lib.hid g
    have F':=Lib.hid F;clear F g
    have hN':=Lib.hid hN;clear hN;have hl':=Lib.hid hl;clear hl;have h1':=Lib.hid h1;clear h1;have hp':=Lib.hid hp;clear hp;have hK':=Lib.hid hK;clear hK
    go_simp
    have hK:=hK'.out;have hN:=hN'.out;have hl:=hl'.out;have h1:=h1'.out
    obtain ⟨p0,p1,p2,p3,p4,p5,p6,p7,p8,p9,p10,p11,p12,p13,p14,p15,p16,p17,p18,p19,p20,p21,p22,p23,p24,p25,p26,p27,p28,p29,p30,p31,p32,p33,p34,p35,p36,p37,p38,p39,qa0⟩:=F'.out
    have g:=g'.out
    refine hK _ _ ⟨by simpa using hl,(upd (upd X 26 (.pointer (some ⟨y,2,none⟩))) 27 (.int .i64 bl.2.1)),rfl,hN,g,p0.k,p1.k,p2.k,p3.k,p4.k,p5.k,p6.k,p7.k,p8.k,p9.k,p10.k,p11.k,p12.k,p13.k,p14.k,p15.k,p16.k,p17.k,p18.k,p19.k,PV.made rfl,PV.made rfl,p22.k,p23.k,p24.k,p25.k,p26.k,p27.k,p28.k,p29.k,p30.k,p31.k,p32.k,p33.k,p34.k,p35.k,p36.k,p37.k,p38.k,p39.k,qa0.keep (by decide) (by decide) (fun _ _ h=>h)⟩
  · rintro l A W ⟨hl,X,rfl,hN,g,F⟩ h1 hp K hK
    rw [fnrT_eq]
    have g':=Lib.hid g
    have F':=Lib.hid F;clear F g
    have hN':=Lib.hid hN;clear hN;have hl':=Lib.hid hl;clear hl;have h1':=Lib.hid h1;clear h1;have hp':=Lib.hid hp;clear hp;have hK':=Lib.hid hK;clear hK
    go_simp
    have hK:=hK'.out;have hN:=hN'.out;have hl:=hl'.out;have h1:=h1'.out
    obtain ⟨p0,p1,p2,p3,p4,p5,p6,p7,p8,p9,p10,p11,p12,p13,p14,p15,p16,p17,p18,p19,p20,p21,p22,p23,p24,p25,p26,p27,p28,p29,p30,p31,p32,p33,p34,p35,p36,p37,p38,p39,qa0⟩:=F'.out
    have g:=g'.out
    refine hK _ _ ⟨by simpa using hl,(upd X 28 (.pointer (some ⟨y,4,none⟩))),rfl,hN,g,p0.k,p1.k,p2.k,p3.k,p4.k,p5.k,p6.k,p7.k,p8.k,p9.k,p10.k,p11.k,p12.k,p13.k,p14.k,p15.k,p16.k,p17.k,p18.k,p19.k,p20.k,p21.k,PV.made rfl,p23.k,p24.k,p25.k,p26.k,p27.k,p28.k,p29.k,p30.k,p31.k,p32.k,p33.k,p34.k,p35.k,p36.k,p37.k,p38.k,p39.k,qa0.keep (by decide) (by decide) (fun _ _ h=>h)⟩
  · rintro l A W ⟨hl,X,rfl,hN,g,F⟩ h1 hp K hK
    have e22:=F.2.2.2.2.2.2.2.2.2.2.2.2.2.2.2.2.2.2.2.2.2.2.1 (hp ⟨22,.data⟩ (by simp) rfl)
    rw [fnrT_eq]
    have g':=Lib.hid g
    have F':=Lib.hid F;clear F g
    have hN':=Lib.hid hN;clear hN;have hl':=Lib.hid hl;clear hl;have h1':=Lib.hid h1;clear h1;have hp':=Lib.hid hp;clear hp;have hK':=Lib.hid hK;clear hK
    go_simp
    have hK:=hK'.out;have hN:=hN'.out;have hl:=hl'.out;have h1:=h1'.out
    obtain ⟨p0,p1,p2,p3,p4,p5,p6,p7,p8,p9,p10,p11,p12,p13,p14,p15,p16,p17,p18,p19,p20,p21,p22,p23,p24,p25,p26,p27,p28,p29,p30,p31,p32,p33,p34,p35,p36,p37,p38,p39,qa0⟩:=F'.out
    have g:=g'.out
    refine hK _ _ ⟨by simpa using hl,(upd (upd X 28 (.pointer (some ⟨y,4,none⟩))) 29 (.pointer (some ⟨y,5,none⟩))),rfl,hN,g,p0.k,p1.k,p2.k,p3.k,p4.k,p5.k,p6.k,p7.k,p8.k,p9.k,p10.k,p11.k,p12.k,p13.k,p14.k,p15.k,p16.k,p17.k,p18.k,p19.k,p20.k,p21.k,PV.made rfl,PV.made rfl,p24.k,p25.k,p26.k,p27.k,p28.k,p29.k,p30.k,p31.k,p32.k,p33.k,p34.k,p35.k,p36.k,p37.k,p38.k,p39.k,qa0.keep (by decide) (by decide) (fun _ _ h=>h)⟩
  · rintro l A W ⟨hl,X,rfl,hN,g,F⟩ h1 hp K hK
    have e23:=F.2.2.2.2.2.2.2.2.2.2.2.2.2.2.2.2.2.2.2.2.2.2.2.1 (hp ⟨23,.data⟩ (by simp) rfl)
    obtain ⟨c1,c2,c3,c4,c5,c6,d1,d2,d3,d4,d5,d6⟩:=GC.out W g
    rw [fnrT_eq]
    have g':=Lib.hid g
    have F':=Lib.hid F;clear F g
    have hN':=Lib.hid hN;clear hN;have hl':=Lib.hid hl;clear hl;have h1':=Lib.hid h1;clear h1;have hp':=Lib.hid hp;clear hp;have hK':=Lib.hid hK;clear hK
    go_simp
    have hK:=hK'.out;have hN:=hN'.out;have hl:=hl'.out;have h1:=h1'.out
    obtain ⟨p0,p1,p2,p3,p4,p5,p6,p7,p8,p9,p10,p11,p12,p13,p14,p15,p16,p17,p18,p19,p20,p21,p22,p23,p24,p25,p26,p27,p28,p29,p30,p31,p32,p33,p34,p35,p36,p37,p38,p39,qa0⟩:=F'.out
    have g:=g'.out
    refine hK _ _ ⟨by simpa using hl,(upd (upd X 29 (.pointer (some ⟨y,5,none⟩))) 30 (.int .i64 bh.2.1)),rfl,hN,g,p0.k,p1.k,p2.k,p3.k,p4.k,p5.k,p6.k,p7.k,p8.k,p9.k,p10.k,p11.k,p12.k,p13.k,p14.k,p15.k,p16.k,p17.k,p18.k,p19.k,p20.k,p21.k,p22.k,PV.made rfl,PV.made rfl,p25.k,p26.k,p27.k,p28.k,p29.k,p30.k,p31.k,p32.k,p33.k,p34.k,p35.k,p36.k,p37.k,p38.k,p39.k,qa0.keep (by decide) (by decide) (fun _ _ h=>h)⟩
  · rintro l A W ⟨hl,X,rfl,hN,g,F⟩ h1 hp K hK
    have e15:=F.2.2.2.2.2.2.2.2.2.2.2.2.2.2.2.1 (hp ⟨15,.data⟩ (by simp) rfl)
    have e18:=F.2.2.2.2.2.2.2.2.2.2.2.2.2.2.2.2.2.2.1 (hp ⟨18,.data⟩ (by simp) rfl)
    have e21:=F.2.2.2.2.2.2.2.2.2.2.2.2.2.2.2.2.2.2.2.2.2.1 (hp ⟨21,.data⟩ (by simp) rfl)
    have e24:=F.2.2.2.2.2.2.2.2.2.2.2.2.2.2.2.2.2.2.2.2.2.2.2.2.1 (hp ⟨24,.data⟩ (by simp) rfl)
    rw [fnrT_eq]
    have g':=Lib.hid g
    have F':=Lib.hid F;clear F g
    have hN':=Lib.hid hN;clear hN;have hl':=Lib.hid hl;clear hl;have h1':=Lib.hid h1;clear h1;have hp':=Lib.hid hp;clear hp;have hK':=Lib.hid hK;clear hK
    go_simp
    go_at_call 142
    refine (fgap_any al.2.1 ah.2.1 bl.2.1 bh.2.1 _ G2.out.1 G2.out.2).mono ?_
    rintro e W1 ⟨rfl,hb⟩
    (try dsimp only)
    have hK:=hK'.out;have hN:=hN'.out;have hl:=hl'.out;have h1:=h1'.out
    obtain ⟨p0,p1,p2,p3,p4,p5,p6,p7,p8,p9,p10,p11,p12,p13,p14,p15,p16,p17,p18,p19,p20,p21,p22,p23,p24,p25,p26,p27,p28,p29,p30,p31,p32,p33,p34,p35,p36,p37,p38,p39,qa0⟩:=F'.out
    have g:=g'.out
    refine hK _ _ ⟨by simpa using hl,(upd (upd (upd (upd (upd X 21 (.int .i64 al.2.1)) 24 (.int .i64 ah.2.1)) 27 (.int .i64 bl.2.1)) 30 (.int .i64 bh.2.1)) 31 (.int .i64 (gp al.2.1 ah.2.1 bl.2.1 bh.2.1))),rfl,Nat.le_trans hN hb.size,GI.out _ _ (hb.mono hN) g,p0.k,p1.k,p2.k,p3.k,p4.k,p5.k,p6.k,p7.k,p8.k,p9.k,p10.k,p11.k,p12.k,p13.k,p14.k,PV.made rfl,p16.k,p17.k,PV.made rfl,p19.k,p20.k,PV.made rfl,p22.k,p23.k,PV.made rfl,PV.made rfl,p26.k,p27.k,p28.k,p29.k,p30.k,p31.k,p32.k,p33.k,p34.k,p35.k,p36.k,p37.k,p38.k,p39.k,qa0.keep (by decide) (by decide) (fun _ _ h=>own_below h hb)⟩
  · rintro l A W ⟨hl,X,rfl,hN,g,F⟩ h1 hp K hK
    rw [fnrT_eq]
    have g':=Lib.hid g
    have F':=Lib.hid F;clear F g
    have hN':=Lib.hid hN;clear hN;have hl':=Lib.hid hl;clear hl;have h1':=Lib.hid h1;clear h1;have hp':=Lib.hid hp;clear hp;have hK':=Lib.hid hK;clear hK
    go_simp
    have hK:=hK'.out;have hN:=hN'.out;have hl:=hl'.out;have h1:=h1'.out
    obtain ⟨p0,p1,p2,p3,p4,p5,p6,p7,p8,p9,p10,p11,p12,p13,p14,p15,p16,p17,p18,p19,p20,p21,p22,p23,p24,p25,p26,p27,p28,p29,p30,p31,p32,p33,p34,p35,p36,p37,p38,p39,qa0⟩:=F'.out
    have g:=g'.out
    refine hK _ _ ⟨by simpa using hl,(upd X 32 (.pointer (some ⟨x,1,none⟩))),rfl,hN,g,p0.k,p1.k,p2.k,p3.k,p4.k,p5.k,p6.k,p7.k,p8.k,p9.k,p10.k,p11.k,p12.k,p13.k,p14.k,p15.k,p16.k,p17.k,p18.k,p19.k,p20.k,p21.k,p22.k,p23.k,p24.k,p25.k,PV.made rfl,p27.k,p28.k,p29.k,p30.k,p31.k,p32.k,p33.k,p34.k,p35.k,p36.k,p37.k,p38.k,p39.k,qa0.keep (by decide) (by decide) (fun _ _ h=>h)⟩
  · rintro l A W ⟨hl,X,rfl,hN,g,F⟩ h1 hp K hK
    have e26:=F.2.2.2.2.2.2.2.2.2.2.2.2.2.2.2.2.2.2.2.2.2.2.2.2.2.2.1 (hp ⟨26,.data⟩ (by simp) rfl)
    rw [fnrT_eq]
    have g':=Lib.hid g
    have F':=Lib.hid F;clear F g
    have hN':=Lib.hid hN;clear hN;have hl':=Lib.hid hl;clear hl;have h1':=Lib.hid h1;clear h1;have hp':=Lib.hid hp;clear hp;have hK':=Lib.hid hK;clear hK
    go_simp
    have hK:=hK'.out;have hN:=hN'.out;have hl:=hl'.out;have h1:=h1'.out
    obtain ⟨p0,p1,p2,p3,p4,p5,p6,p7,p8,p9,p10,p11,p12,p13,p14,p15,p16,p17,p18,p19,p20,p21,p22,p23,p24,p25,p26,p27,p28,p29,p30,p31,p32,p33,p34,p35,p36,p37,p38,p39,qa0⟩:=F'.out
    have g:=g'.out
    refine hK _ _ ⟨by simpa using hl,(upd (upd X 32 (.pointer (some ⟨x,1,none⟩))) 33 (.pointer (some ⟨x,3,none⟩))),rfl,hN,g,p0.k,p1.k,p2.k,p3.k,p4.k,p5.k,p6.k,p7.k,p8.k,p9.k,p10.k,p11.k,p12.k,p13.k,p14.k,p15.k,p16.k,p17.k,p18.k,p19.k,p20.k,p21.k,p22.k,p23.k,p24.k,p25.k,PV.made rfl,PV.made rfl,p28.k,p29.k,p30.k,p31.k,p32.k,p33.k,p34.k,p35.k,p36.k,p37.k,p38.k,p39.k,qa0.keep (by decide) (by decide) (fun _ _ h=>h)⟩
  · rintro l A W ⟨hl,X,rfl,hN,g,F⟩ h1 hp K hK
    have e27:=F.2.2.2.2.2.2.2.2.2.2.2.2.2.2.2.2.2.2.2.2.2.2.2.2.2.2.2.1 (hp ⟨27,.data⟩ (by simp) rfl)
    obtain ⟨c1,c2,c3,c4,c5,c6,d1,d2,d3,d4,d5,d6⟩:=GC.out W g
    rw [fnrT_eq]
    have g':=Lib.hid g
    have F':=Lib.hid F;clear F g
    have hN':=Lib.hid hN;clear hN;have hl':=Lib.hid hl;clear hl;have h1':=Lib.hid h1;clear h1;have hp':=Lib.hid hp;clear hp;have hK':=Lib.hid hK;clear hK
    go_simp
    have hK:=hK'.out;have hN:=hN'.out;have hl:=hl'.out;have h1:=h1'.out
    obtain ⟨p0,p1,p2,p3,p4,p5,p6,p7,p8,p9,p10,p11,p12,p13,p14,p15,p16,p17,p18,p19,p20,p21,p22,p23,p24,p25,p26,p27,p28,p29,p30,p31,p32,p33,p34,p35,p36,p37,p38,p39,qa0⟩:=F'.out
    have g:=g'.out
    refine hK _ _ ⟨by simpa using hl,(upd (upd X 33 (.pointer (some ⟨x,3,none⟩))) 34 (.int .i64 al.2.2)),rfl,hN,g,p0.k,p1.k,p2.k,p3.k,p4.k,p5.k,p6.k,p7.k,p8.k,p9.k,p10.k,p11.k,p12.k,p13.k,p14.k,p15.k,p16.k,p17.k,p18.k,p19.k,p20.k,p21.k,p22.k,p23.k,p24.k,p25.k,p26.k,PV.made rfl,PV.made rfl,p29.k,p30.k,p31.k,p32.k,p33.k,p34.k,p35.k,p36.k,p37.k,p38.k,p39.k,qa0.keep (by decide) (by decide) (fun _ _ h=>h)⟩
  · rintro l A W ⟨hl,X,rfl,hN,g,F⟩ h1 hp K hK
    rw [fnrT_eq]
    have g':=Lib.hid g
    have F':=Lib.hid F;clear F g
    have hN':=Lib.hid hN;clear hN;have hl':=Lib.hid hl;clear hl;have h1':=Lib.hid h1;clear h1;have hp':=Lib.hid hp;clear hp;have hK':=Lib.hid hK;clear hK
    go_simp
    have hK:=hK'.out;have hN:=hN'.out;have hl:=hl'.out;have h1:=h1'.out
    obtain ⟨p0,p1,p2,p3,p4,p5,p6,p7,p8,p9,p10,p11,p12,p13,p14,p15,p16,p17,p18,p19,p20,p21,p22,p23,p24,p25,p26,p27,p28,p29,p30,p31,p32,p33,p34,p35,p36,p37,p38,p39,qa0⟩:=F'.out
    have g:=g'.out
    refine hK _ _ ⟨by simpa using hl,(upd X 35 (.pointer (some ⟨x,4,none⟩))),rfl,hN,g,p0.k,p1.k,p2.k,p3.k,p4.k,p5.k,p6.k,p7.k,p8.k,p9.k,p10.k,p11.k,p12.k,p13.k,p14.k,p15.k,p16.k,p17.k,p18.k,p19.k,p20.k,p21.k,p22.k,p23.k,p24.k,p25.k,p26.k,p27.k,p28.k,PV.made rfl,p30.k,p31.k,p32.k,p33.k,p34.k,p35.k,p36.k,p37.k,p38.k,p39.k,qa0.keep (by decide) (by decide) (fun _ _ h=>h)⟩
  · rintro l A W ⟨hl,X,rfl,hN,g,F⟩ h1 hp K hK
    have e29:=F.2.2.2.2.2.2.2.2.2.2.2.2.2.2.2.2.2.2.2.2.2.2.2.2.2.2.2.2.2.1 (hp ⟨29,.data⟩ (by simp) rfl)
    rw [fnrT_eq]
    have g':=Lib.hid g
    have F':=Lib.hid F;clear F g
    have hN':=Lib.hid hN;clear hN;have hl':=Lib.hid hl;clear hl;have h1':=Lib.hid h1;clear h1;have hp':=Lib.hid hp;clear hp;have hK':=Lib.hid hK;clear hK
    go_simp
    have hK:=hK'.out;have hN:=hN'.out;have hl:=hl'.out;have h1:=h1'.out
    obtain ⟨p0,p1,p2,p3,p4,p5,p6,p7,p8,p9,p10,p11,p12,p13,p14,p15,p16,p17,p18,p19,p20,p21,p22,p23,p24,p25,p26,p27,p28,p29,p30,p31,p32,p33,p34,p35,p36,p37,p38,p39,qa0⟩:=F'.out
    have g:=g'.out
    refine hK _ _ ⟨by simpa using hl,(upd (upd X 35 (.pointer (some ⟨x,4,none⟩))) 36 (.pointer (some ⟨x,6,none⟩))),rfl,hN,g,p0.k,p1.k,p2.k,p3.k,p4.k,p5.k,p6.k,p7.k,p8.k,p9.k,p10.k,p11.k,p12.k,p13.k,p14.k,p15.k,p16.k,p17.k,p18.k,p19.k,p20.k,p21.k,p22.k,p23.k,p24.k,p25.k,p26.k,p27.k,p28.k,PV.made rfl,PV.made rfl,p31.k,p32.k,p33.k,p34.k,p35.k,p36.k,p37.k,p38.k,p39.k,qa0.keep (by decide) (by decide) (fun _ _ h=>h)⟩
  · rintro l A W ⟨hl,X,rfl,hN,g,F⟩ h1 hp K hK
    have e30:=F.2.2.2.2.2.2.2.2.2.2.2.2.2.2.2.2.2.2.2.2.2.2.2.2.2.2.2.2.2.2.1 (hp ⟨30,.data⟩ (by simp) rfl)
    obtain ⟨c1,c2,c3,c4,c5,c6,d1,d2,d3,d4,d5,d6⟩:=GC.out W g
    rw [fnrT_eq]
    have g':=Lib.hid g
    have F':=Lib.hid F;clear F g
    have hN':=Lib.hid hN;clear hN;have hl':=Lib.hid hl;clear hl;have h1':=Lib.hid h1;clear h1;have hp':=Lib.hid hp;clear hp;have hK':=Lib.hid hK;clear hK
    go_simp
    have hK:=hK'.out;have hN:=hN'.out;have hl:=hl'.out;have h1:=h1'.out
    obtain ⟨p0,p1,p2,p3,p4,p5,p6,p7,p8,p9,p10,p11,p12,p13,p14,p15,p16,p17,p18,p19,p20,p21,p22,p23,p24,p25,p26,p27,p28,p29,p30,p31,p32,p33,p34,p35,p36,p37,p38,p39,qa0⟩:=F'.out
    have g:=g'.out
    refine hK _ _ ⟨by simpa using hl,(upd (upd X 36 (.pointer (some ⟨x,6,none⟩))) 37 (.int .i64 ah.2.2)),rfl,hN,g,p0.k,p1.k,p2.k,p3.k,p4.k,p5.k,p6.k,p7.k,p8.k,p9.k,p10.k,p11.k,p12.k,p13.k,p14.k,p15.k,p16.k,p17.k,p18.k,p19.k,p20.k,p21.k,p22.k,p23.k,p24.k,p25.k,p26.k,p27.k,p28.k,p29.k,PV.made rfl,PV.made rfl,p32.k,p33.k,p34.k,p35.k,p36.k,p37.k,p38.k,p39.k,qa0.keep (by decide) (by decide) (fun _ _ h=>h)⟩
  · rintro l A W ⟨hl,X,rfl,hN,g,F⟩ h1 hp K hK
    rw [fnrT_eq]
    have g':=Lib.hid g
    have F':=Lib.hid F;clear F g
    have hN':=Lib.hid hN;clear hN;have hl':=Lib.hid hl;clear hl;have h1':=Lib.hid h1;clear h1;have hp':=Lib.hid hp;clear hp;have hK':=Lib.hid hK;clear hK
    go_simp
    have hK:=hK'.out;have hN:=hN'.out;have hl:=hl'.out;have h1:=h1'.out
    obtain ⟨p0,p1,p2,p3,p4,p5,p6,p7,p8,p9,p10,p11,p12,p13,p14,p15,p16,p17,p18,p19,p20,p21,p22,p23,p24,p25,p26,p27,p28,p29,p30,p31,p32,p33,p34,p35,p36,p37,p38,p39,qa0⟩:=F'.out
    have g:=g'.out
    refine hK _ _ ⟨by simpa using hl,(upd X 38 (.pointer (some ⟨y,1,none⟩))),rfl,hN,g,p0.k,p1.k,p2.k,p3.k,p4.k,p5.k,p6.k,p7.k,p8.k,p9.k,p10.k,p11.k,p12.k,p13.k,p14.k,p15.k,p16.k,p17.k,p18.k,p19.k,p20.k,p21.k,p22.k,p23.k,p24.k,p25.k,p26.k,p27.k,p28.k,p29.k,p30.k,p31.k,PV.made rfl,p33.k,p34.k,p35.k,p36.k,p37.k,p38.k,p39.k,qa0.keep (by decide) (by decide) (fun _ _ h=>h)⟩
  · rintro l A W ⟨hl,X,rfl,hN,g,F⟩ h1 hp K hK
    have e32:=F.2.2.2.2.2.2.2.2.2.2.2.2.2.2.2.2.2.2.2.2.2.2.2.2.2.2.2.2.2.2.2.2.1 (hp ⟨32,.data⟩ (by simp) rfl)
    rw [fnrT_eq]
    have g':=Lib.hid g
    have F':=Lib.hid F;clear F g
    have hN':=Lib.hid hN;clear hN;have hl':=Lib.hid hl;clear hl;have h1':=Lib.hid h1;clear h1;have hp':=Lib.hid hp;clear hp;have hK':=Lib.hid hK;clear hK
    go_simp
    have hK:=hK'.out;have hN:=hN'.out;have hl:=hl'.out;have h1:=h1'.out
    obtain ⟨p0,p1,p2,p3,p4,p5,p6,p7,p8,p9,p10,p11,p12,p13,p14,p15,p16,p17,p18,p19,p20,p21,p22,p23,p24,p25,p26,p27,p28,p29,p30,p31,p32,p33,p34,p35,p36,p37,p38,p39,qa0⟩:=F'.out
    have g:=g'.out
    refine hK _ _ ⟨by simpa using hl,(upd (upd X 38 (.pointer (some ⟨y,1,none⟩))) 39 (.pointer (some ⟨y,3,none⟩))),rfl,hN,g,p0.k,p1.k,p2.k,p3.k,p4.k,p5.k,p6.k,p7.k,p8.k,p9.k,p10.k,p11.k,p12.k,p13.k,p14.k,p15.k,p16.k,p17.k,p18.k,p19.k,p20.k,p21.k,p22.k,p23.k,p24.k,p25.k,p26.k,p27.k,p28.k,p29.k,p30.k,p31.k,PV.made rfl,PV.made rfl,p34.k,p35.k,p36.k,p37.k,p38.k,p39.k,qa0.keep (by decide) (by decide) (fun _ _ h=>h)⟩
  · rintro l A W ⟨hl,X,rfl,hN,g,F⟩ h1 hp K hK
    have e33:=F.2.2.2.2.2.2.2.2.2.2.2.2.2.2.2.2.2.2.2.2.2.2.2.2.2.2.2.2.2.2.2.2.2.1 (hp ⟨33,.data⟩ (by simp) rfl)
    obtain ⟨c1,c2,c3,c4,c5,c6,d1,d2,d3,d4,d5,d6⟩:=GC.out W g
    rw [fnrT_eq]
    have g':=Lib.hid g
    have F':=Lib.hid F;clear F g
    have hN':=Lib.hid hN;clear hN;have hl':=Lib.hid hl;clear hl;have h1':=Lib.hid h1;clear h1;have hp':=Lib.hid hp;clear hp;have hK':=Lib.hid hK;clear hK
    go_simp
    have hK:=hK'.out;have hN:=hN'.out;have hl:=hl'.out;have h1:=h1'.out
    obtain ⟨p0,p1,p2,p3,p4,p5,p6,p7,p8,p9,p10,p11,p12,p13,p14,p15,p16,p17,p18,p19,p20,p21,p22,p23,p24,p25,p26,p27,p28,p29,p30,p31,p32,p33,p34,p35,p36,p37,p38,p39,qa0⟩:=F'.out
    have g:=g'.out
    refine hK _ _ ⟨by simpa using hl,(upd (upd X 39 (.pointer (some ⟨y,3,none⟩))) 40 (.int .i64 bl.2.2)),rfl,hN,g,p0.k,p1.k,p2.k,p3.k,p4.k,p5.k,p6.k,p7.k,p8.k,p9.k,p10.k,p11.k,p12.k,p13.k,p14.k,p15.k,p16.k,p17.k,p18.k,p19.k,p20.k,p21.k,p22.k,p23.k,p24.k,p25.k,p26.k,p27.k,p28.k,p29.k,p30.k,p31.k,p32.k,PV.made rfl,PV.made rfl,p35.k,p36.k,p37.k,p38.k,p39.k,qa0.keep (by decide) (by decide) (fun _ _ h=>h)⟩
  · rintro l A W ⟨hl,X,rfl,hN,g,F⟩ h1 hp K hK
    rw [fnrT_eq]
    have g':=Lib.hid g
    have F':=Lib.hid F;clear F g
    have hN':=Lib.hid hN;clear hN;have hl':=Lib.hid hl;clear hl;have h1':=Lib.hid h1;clear h1;have hp':=Lib.hid hp;clear hp;have hK':=Lib.hid hK;clear hK
    go_simp
    have hK:=hK'.out;have hN:=hN'.out;have hl:=hl'.out;have h1:=h1'.out
    obtain ⟨p0,p1,p2,p3,p4,p5,p6,p7,p8,p9,p10,p11,p12,p13,p14,p15,p16,p17,p18,p19,p20,p21,p22,p23,p24,p25,p26,p27,p28,p29,p30,p31,p32,p33,p34,p35,p36,p37,p38,p39,qa0⟩:=F'.out
    have g:=g'.out
    refine hK _ _ ⟨by simpa using hl,(upd X 41 (.pointer (some ⟨y,4,none⟩))),rfl,hN,g,p0.k,p1.k,p2.k,p3.k,p4.k,p5.k,p6.k,p7.k,p8.k,p9.k,p10.k,p11.k,p12.k,p13.k,p14.k,p15.k,p16.k,p17.k,p18.k,p19.k,p20.k,p21.k,p22.k,p23.k,p24.k,p25.k,p26.k,p27.k,p28.k,p29.k,p30.k,p31.k,p32.k,p33.k,p34.k,PV.made rfl,p36.k,p37.k,p38.k,p39.k,qa0.keep (by decide) (by decide) (fun _ _ h=>h)⟩
  · rintro l A W ⟨hl,X,rfl,hN,g,F⟩ h1 hp K hK
    have e35:=F.2.2.2.2.2.2.2.2.2.2.2.2.2.2.2.2.2.2.2.2.2.2.2.2.2.2.2.2.2.2.2.2.2.2.2.1 (hp ⟨35,.data⟩ (by simp) rfl)
    rw [fnrT_eq]
    have g':=Lib.hid g
    have F':=Lib.hid F;clear F g
    have hN':=Lib.hid hN;clear hN;have hl':=Lib.hid hl;clear hl;have h1':=Lib.hid h1;clear h1;have hp':=Lib.hid hp;clear hp;have hK':=Lib.hid hK;clear hK
    go_simp
    have hK:=hK'.out;have hN:=hN'.out;have hl:=hl'.out;have h1:=h1'.out
    obtain ⟨p0,p1,p2,p3,p4,p5,p6,p7,p8,p9,p10,p11,p12,p13,p14,p15,p16,p17,p18,p19,p20,p21,p22,p23,p24,p25,p26,p27,p28,p29,p30,p31,p32,p33,p34,p35,p36,p37,p38,p39,qa0⟩:=F'.out
    have g:=g'.out
    refine hK _ _ ⟨by simpa using hl,(upd (upd X 41 (.pointer (some ⟨y,4,none⟩))) 42 (.pointer (some ⟨y,6,none⟩))),rfl,hN,g,p0.k,p1.k,p2.k,p3.k,p4.k,p5.k,p6.k,p7.k,p8.k,p9.k,p10.k,p11.k,p12.k,p13.k,p14.k,p15.k,p16.k,p17.k,p18.k,p19.k,p20.k,p21.k,p22.k,p23.k,p24.k,p25.k,p26.k,p27.k,p28.k,p29.k,p30.k,p31.k,p32.k,p33.k,p34.k,PV.made rfl,PV.made rfl,p37.k,p38.k,p39.k,qa0.keep (by decide) (by decide) (fun _ _ h=>h)⟩
  · rintro l A W ⟨hl,X,rfl,hN,g,F⟩ h1 hp K hK
    have e36:=F.2.2.2.2.2.2.2.2.2.2.2.2.2.2.2.2.2.2.2.2.2.2.2.2.2.2.2.2.2.2.2.2.2.2.2.2.1 (hp ⟨36,.data⟩ (by simp) rfl)
    obtain ⟨c1,c2,c3,c4,c5,c6,d1,d2,d3,d4,d5,d6⟩:=GC.out W g
    rw [fnrT_eq]
    have g':=Lib.hid g
    have F':=Lib.hid F;clear F g
    have hN':=Lib.hid hN;clear hN;have hl':=Lib.hid hl;clear hl;have h1':=Lib.hid h1;clear h1;have hp':=Lib.hid hp;clear hp;have hK':=Lib.hid hK;clear hK
    go_simp
    have hK:=hK'.out;have hN:=hN'.out;have hl:=hl'.out;have h1:=h1'.out
    obtain ⟨p0,p1,p2,p3,p4,p5,p6,p7,p8,p9,p10,p11,p12,p13,p14,p15,p16,p17,p18,p19,p20,p21,p22,p23,p24,p25,p26,p27,p28,p29,p30,p31,p32,p33,p34,p35,p36,p37,p38,p39,qa0⟩:=F'.out
    have g:=g'.out
    refine hK _ _ ⟨by simpa using hl,(upd (upd X 42 (.pointer (some ⟨y,6,none⟩))) 43 (.int .i64 bh.2.2)),rfl,hN,g,p0.k,p1.k,p2.k,p3.k,p4.k,p5.k,p6.k,p7.k,p8.k,p9.k,p10.k,p11.k,p12.k,p13.k,p14.k,p15.k,p16.k,p17.k,p18.k,p19.k,p20.k,p21.k,p22.k,p23.k,p24.k,p25.k,p26.k,p27.k,p28.k,p29.k,p30.k,p31.k,p32.k,p33.k,p34.k,p35.k,PV.made rfl,PV.made rfl,p38.k,p39.k,qa0.keep (by decide) (by decide) (fun _ _ h=>h)⟩
  · rintro l A W ⟨hl,X,rfl,hN,g,F⟩ h1 hp K hK
    have e28:=F.2.2.2.2.2.2.2.2.2.2.2.2.2.2.2.2.2.2.2.2.2.2.2.2.2.2.2.2.1 (hp ⟨28,.data⟩ (by simp) rfl)
    have e31:=F.2.2.2.2.2.2.2.2.2.2.2.2.2.2.2.2.2.2.2.2.2.2.2.2.2.2.2.2.2.2.2.1 (hp ⟨31,.data⟩ (by simp) rfl)
    have e34:=F.2.2.2.2.2.2.2.2.2.2.2.2.2.2.2.2.2.2.2.2.2.2.2.2.2.2.2.2.2.2.2.2.2.2.1 (hp ⟨34,.data⟩ (by simp) rfl)
    have e37:=F.2.2.2.2.2.2.2.2.2.2.2.2.2.2.2.2.2.2.2.2.2.2.2.2.2.2.2.2.2.2.2.2.2.2.2.2.2.1 (hp ⟨37,.data⟩ (by simp) rfl)
    rw [fnrT_eq]
    have g':=Lib.hid g
    have F':=Lib.hid F;clear F g
    have hN':=Lib.hid hN;clear hN;have hl':=Lib.hid hl;clear hl;have h1':=Lib.hid h1;clear h1;have hp':=Lib.hid hp;clear hp;have hK':=Lib.hid hK;clear hK
    go_simp
    go_at_call 142
    refine (fgap_any al.2.2 ah.2.2 bl.2.2 bh.2.2 _ G3.out.1 G3.out.2).mono ?_
    rintro e W1 ⟨rfl,hb⟩
    (try dsimp only)
    have hK:=hK'.out;have hN:=hN'.out;have hl:=hl'.out;have h1:=h1'.out
    obtain ⟨p0,p1,p2,p3,p4,p5,p6,p7,p8,p9,p10,p11,p12,p13,p14,p15,p16,p17,p18,p19,p20,p21,p22,p23,p24,p25,p26,p27,p28,p29,p30,p31,p32,p33,p34,p35,p36,p37,p38,p39,qa0⟩:=F'.out
    have g:=g'.out
    refine hK _ _ ⟨by simpa using hl,(upd (upd (upd (upd (upd X 34 (.int .i64 al.2.2)) 37 (.int .i64 ah.2.2)) 40 (.int .i64 bl.2.2)) 43 (.int .i64 bh.2.2)) 44 (.int .i64 (gp al.2.2 ah.2.2 bl.2.2 bh.2.2))),rfl,Nat.le_trans hN hb.size,GI.out _ _ (hb.mono hN) g,p0.k,p1.k,p2.k,p3.k,p4.k,p5.k,p6.k,p7.k,p8.k,p9.k,p10.k,p11.k,p12.k,p13.k,p14.k,p15.k,p16.k,p17.k,p18.k,p19.k,p20.k,p21.k,p22.k,p23.k,p24.k,p25.k,p26.k,p27.k,PV.made rfl,p29.k,p30.k,PV.made rfl,p32.k,p33.k,PV.made rfl,p35.k,p36.k,PV.made rfl,PV.made rfl,p39.k,qa0.keep (by decide) (by decide) (fun _ _ h=>own_below h hb)⟩
  · rintro l A W ⟨hl,X,rfl,hN,g,F⟩ h1 hp K hK
    have e12:=F.2.2.2.2.2.2.2.2.2.2.2.2.1 (hp ⟨12,.data⟩ (by simp) rfl)
    have e25:=F.2.2.2.2.2.2.2.2.2.2.2.2.2.2.2.2.2.2.2.2.2.2.2.2.2.1 (hp ⟨25,.data⟩ (by simp) rfl)
    have e38:=F.2.2.2.2.2.2.2.2.2.2.2.2.2.2.2.2.2.2.2.2.2.2.2.2.2.2.2.2.2.2.2.2.2.2.2.2.2.2.1 (hp ⟨38,.data⟩ (by simp) rfl)
    rw [fnrT_eq]
    have g':=Lib.hid g
    have F':=Lib.hid F;clear F g
    have hN':=Lib.hid hN;clear hN;have hl':=Lib.hid hl;clear hl;have h1':=Lib.hid h1;clear h1;have hp':=Lib.hid hp;clear hp;have hK':=Lib.hid hK;clear hK
    go_simp
    have hK:=hK'.out;have hN:=hN'.out;have hl:=hl'.out;have h1:=h1'.out
    obtain ⟨p0,p1,p2,p3,p4,p5,p6,p7,p8,p9,p10,p11,p12,p13,p14,p15,p16,p17,p18,p19,p20,p21,p22,p23,p24,p25,p26,p27,p28,p29,p30,p31,p32,p33,p34,p35,p36,p37,p38,p39,qa0⟩:=F'.out
    have g:=g'.out
    refine hK _ _ ⟨by simpa using hl,(upd (upd (upd (upd X 18 (.int .i64 (gp al.1 ah.1 bl.1 bh.1))) 31 (.int .i64 (gp al.2.1 ah.2.1 bl.2.1 bh.2.1))) 44 (.int .i64 (gp al.2.2 ah.2.2 bl.2.2 bh.2.2))) 45 (ptv (gp3 al ah bl bh))),rfl,hN,g,p0.k,p1.k,p2.k,p3.k,p4.k,p5.k,p6.k,p7.k,p8.k,p9.k,p10.k,p11.k,PV.made rfl,p13.k,p14.k,p15.k,p16.k,p17.k,p18.k,p19.k,p20.k,p21.k,p22.k,p23.k,p24.k,PV.made rfl,p26.k,p27.k,p28.k,p29.k,p30.k,p31.k,p32.k,p33.k,p34.k,p35.k,p36.k,p37.k,PV.made rfl,PV.made rfl,qa0.keep (by decide) (by decide) (fun _ _ h=>h)⟩
  · rintro l A W ⟨hl,X,rfl,hN,g,F⟩ h1 hp K hK
    rw [fnrT_eq]
    have g':=Lib.hid g
    have F':=Lib.hid F;clear F g
    have hN':=Lib.hid hN;clear hN;have hl':=Lib.hid hl;clear hl;have h1':=Lib.hid h1;clear h1;have hp':=Lib.hid hp;clear hp;have hK':=Lib.hid hK;clear hK
    go_simp
    have hK:=hK'.out;have hN:=hN'.out;have hl:=hl'.out;have h1:=h1'.out
    obtain ⟨p0,p1,p2,p3,p4,p5,p6,p7,p8,p9,p10,p11,p12,p13,p14,p15,p16,p17,p18,p19,p20,p21,p22,p23,p24,p25,p26,p27,p28,p29,p30,p31,p32,p33,p34,p35,p36,p37,p38,p39,qa0⟩:=F'.out
    have g:=g'.out
    refine hK _ _ ⟨by simpa using hl,(upd X 5 (.pointer (some ⟨W.heap.size,0,none⟩))),rfl,(by simp;omega),GI.out _ _ (((Below.refl _ W).alloc (Nat.le_refl _) _).mono hN) g,p0.k,p1.k,p2.k,p3.k,p4.k,p5.k,p6.k,p7.k,p8.k,p9.k,p10.k,p11.k,p12.k,p13.k,p14.k,p15.k,p16.k,p17.k,p18.k,p19.k,p20.k,p21.k,p22.k,p23.k,p24.k,p25.k,p26.k,p27.k,p28.k,p29.k,p30.k,p31.k,p32.k,p33.k,p34.k,p35.k,p36.k,p37.k,p38.k,p39.k,qa0.made (by decide) (by rw [hl];decide) h1 hN (own_new W (0,0,0) _)⟩
  · rintro l A W ⟨hl,X,rfl,hN,g,F⟩ h1 hp K hK
    have la:=hp ⟨40,.data⟩ (by simp) rfl
    have e39:=F.2.2.2.2.2.2.2.2.2.2.2.2.2.2.2.2.2.2.2.2.2.2.2.2.2.2.2.2.2.2.2.2.2.2.2.2.2.2.2.1 (hp ⟨39,.data⟩ (by simp) rfl)
    obtain ⟨b',v',e2,hb',ow,_⟩:=F.2.2.2.2.2.2.2.2.2.2.2.2.2.2.2.2.2.2.2.2.2.2.2.2.2.2.2.2.2.2.2.2.2.2.2.2.2.2.2.2.2 la
    obtain ⟨o0,o1,o2,o3,o4,o5,o6⟩:=id ow
    rw [fnrT_eq]
    have g':=Lib.hid g
    have F':=Lib.hid F;clear F g
    have hN':=Lib.hid hN;clear hN;have hl':=Lib.hid hl;clear hl;have h1':=Lib.hid h1;clear h1;have hp':=Lib.hid hp;clear hp;have hK':=Lib.hid hK;clear hK
    have la':=Lib.hid la;clear la;have hb'':=Lib.hid hb';clear hb';have ow':=Lib.hid ow;clear ow
    go_simp
    have hK:=hK'.out;have hN:=hN'.out;have hl:=hl'.out;have h1:=h1'.out
    obtain ⟨p0,p1,p2,p3,p4,p5,p6,p7,p8,p9,p10,p11,p12,p13,p14,p15,p16,p17,p18,p19,p20,p21,p22,p23,p24,p25,p26,p27,p28,p29,p30,p31,p32,p33,p34,p35,p36,p37,p38,p39,qa0⟩:=F'.out
    have g:=g'.out
    have la:=la'.out;have hb':=hb''.out;have ow:=ow'.out
    refine hK _ _ ⟨by simpa using hl,(upd (upd X 45 (ptv (gp3 al ah bl bh))) 5 (.pointer (some ⟨b',0,none⟩))),rfl,(by simpa using hN),GI.out _ _ (below_set3 _ _ _ hb') g,p0.k,p1.k,p2.k,p3.k,p4.k,p5.k,p6.k,p7.k,p8.k,p9.k,p10.k,p11.k,p12.k,p13.k,p14.k,p15.k,p16.k,p17.k,p18.k,p19.k,p20.k,p21.k,p22.k,p23.k,p24.k,p25.k,p26.k,p27.k,p28.k,p29.k,p30.k,p31.k,p32.k,p33.k,p34.k,p35.k,p36.k,p37.k,p38.k,PV.made rfl,QA.put (by decide) la rfl hb' (own_put ow _)⟩
set_option maxRecDepth 100000 in
set_option maxHeartbeats 4000000 in
theorem fnr_reg (G:World→Prop) (N:Nat) (x y:Nat) (al ah bl bh:P3) {y0 y1 y46 y47 y48 x5 x6 x7 x8 x9 x10 x11 x12 x13 x14 x15 x16 x17 x18 x19 x20 x21 x22 x23 x24 x25 x26 x27 x28 x29 x30 x31 x32 x33 x34 x35 x36 x37 x38 x39 x40 x41 x42 x43 x44 x45:Value} {W:World} {Q:Exit→Act→World→Prop} (G1:Hid ((-4611686018427387904≤bl.1 - ah.1∧bl.1 - ah.1≤4611686018427387904)∧(-4611686018427387904≤al.1 - bh.1∧al.1 - bh.1≤4611686018427387904))) (G2:Hid ((-4611686018427387904≤bl.2.1 - ah.2.1∧bl.2.1 - ah.2.1≤4611686018427387904)∧(-4611686018427387904≤al.2.1 - bh.2.1∧al.2.1 - bh.2.1≤4611686018427387904))) (G3:Hid ((-4611686018427387904≤bl.2.2 - ah.2.2∧bl.2.2 - ah.2.2≤4611686018427387904)∧(-4611686018427387904≤al.2.2 - bh.2.2∧al.2.2 - bh.2.2≤4611686018427387904))) (GC:Hid (∀ W:World,G W→W.cell? ⟨x,1,none⟩=some (.int .i64 al.1)∧W.cell? ⟨x,2,none⟩=some (.int .i64 al.2.1)∧W.cell? ⟨x,3,none⟩=some (.int .i64 al.2.2)∧W.cell? ⟨x,4,none⟩=some (.int .i64 ah.1)∧W.cell? ⟨x,5,none⟩=some (.int .i64 ah.2.1)∧W.cell? ⟨x,6,none⟩=some (.int .i64 ah.2.2)∧W.cell? ⟨y,1,none⟩=some (.int .i64 bl.1)∧W.cell? ⟨y,2,none⟩=some (.int .i64 bl.2.1)∧W.cell? ⟨y,3,none⟩=some (.int .i64 bl.2.2)∧W.cell? ⟨y,4,none⟩=some (.int .i64 bh.1)∧W.cell? ⟨y,5,none⟩=some (.int .i64 bh.2.1)∧W.cell? ⟨y,6,none⟩=some (.int .i64 bh.2.2))) (GI:Hid (∀ W W':World,Below N W W'→G W→G W')) (hN:N≤W.heap.size) (g0:G W.drew)
    (hK:∀ (x6 x7 x8 x9 x10 x11 x12 x13 x14 x15 x16 x17 x18 x19 x20 x21 x22 x23 x24 x25 x26 x27 x28 x29 x30 x31 x32 x33 x34 x35 x36 x37 x38 x39 x40 x41 x42 x43 x44 x45:Value) (b0:Nat) (W':World),N≤W'.heap.size→G W'→N≤b0→Own W' b0 ((gp3 al ah bl bh))→Q .normal { tmps:=#[y0,y1,.pointer (some ⟨x,0,none⟩),.pointer (some ⟨y,0,none⟩),.int .i64 0,.pointer (some ⟨b0,0,none⟩),x6,x7,x8,x9,x10,x11,x12,x13,x14,x15,x16,x17,x18,x19,x20,x21,x22,x23,x24,x25,x26,x27,x28,x29,x30,x31,x32,x33,x34,x35,x36,x37,x38,x39,x40,x41,x42,x43,x44,x45,y46,y47,y48],defers:=[] } W') :
    Code.wp Tryz.prog (.region 1 fnrOps true) Q { tmps:=#[y0,y1,.pointer (some ⟨x,0,none⟩),.pointer (some ⟨y,0,none⟩),.int .i64 0,x5,x6,x7,x8,x9,x10,x11,x12,x13,x14,x15,x16,x17,x18,x19,x20,x21,x22,x23,x24,x25,x26,x27,x28,x29,x30,x31,x32,x33,x34,x35,x36,x37,x38,x39,x40,x41,x42,x43,x44,x45,y46,y47,y48],defers:=[] } W:=by
  refine wp_region_inv (fnrI G N x y al ah bl bh y0 y1 y46 y47 y48) (by kernel_rfl) ?_ (fnr_steps G N x y al ah bl bh y0 y1 y46 y47 y48 Q G1 G2 G3 GC GI) ?_
  · exact ⟨by simp [fnrOps],fun i=>(#[undef,undef,undef,undef,undef,x5,x6,x7,x8,x9,x10,x11,x12,x13,x14,x15,x16,x17,x18,x19,x20,x21,x22,x23,x24,x25,x26,x27,x28,x29,x30,x31,x32,x33,x34,x35,x36,x37,x38,x39,x40,x41,x42,x43,x44,x45,undef,undef,undef]:Array Value).getD i undef,rfl,hN,g0,PV.nought,PV.nought,PV.nought,PV.nought,PV.nought,PV.nought,PV.nought,PV.nought,PV.nought,PV.nought,PV.nought,PV.nought,PV.nought,PV.nought,PV.nought,PV.nought,PV.nought,PV.nought,PV.nought,PV.nought,PV.nought,PV.nought,PV.nought,PV.nought,PV.nought,PV.nought,PV.nought,PV.nought,PV.nought,PV.nought,PV.nought,PV.nought,PV.nought,PV.nought,PV.nought,PV.nought,PV.nought,PV.nought,PV.nought,PV.nought,QA.nought⟩
  · rintro l A W ⟨hl,X,rfl,hN,g,p0,p1,p2,p3,p4,p5,p6,p7,p8,p9,p10,p11,p12,p13,p14,p15,p16,p17,p18,p19,p20,p21,p22,p23,p24,p25,p26,p27,p28,p29,p30,p31,p32,p33,p34,p35,p36,p37,p38,p39,qa0⟩ hr
    unfold fnrOps at hr
    have l0:=ready_end hr 0 (by rw [hl];decide) rfl (fun e he hbn=>by
      simp at he
      (try (repeat (rcases he with rfl | he;· first | assumption | exact absurd hbn (by decide))))
      (try (first | exact he.elim | (subst he;first | assumption | exact absurd hbn (by decide)))))
    have l1:=ready_end hr 1 (by rw [hl];decide) rfl (fun e he hbn=>by
      simp at he
      (try (repeat (rcases he with rfl | he;· first | assumption | exact absurd hbn (by decide))))
      (try (first | exact he.elim | (subst he;first | assumption | exact absurd hbn (by decide)))))
    have l2:=ready_end hr 2 (by rw [hl];decide) rfl (fun e he hbn=>by
      simp at he
      (try (repeat (rcases he with rfl | he;· first | assumption | exact absurd hbn (by decide))))
      (try (first | exact he.elim | (subst he;first | assumption | exact absurd hbn (by decide)))))
    have l3:=ready_end hr 3 (by rw [hl];decide) rfl (fun e he hbn=>by
      simp at he
      (try (repeat (rcases he with rfl | he;· first | assumption | exact absurd hbn (by decide))))
      (try (first | exact he.elim | (subst he;first | assumption | exact absurd hbn (by decide)))))
    have l4:=ready_end hr 4 (by rw [hl];decide) rfl (fun e he hbn=>by
      simp at he
      (try (repeat (rcases he with rfl | he;· first | assumption | exact absurd hbn (by decide))))
      (try (first | exact he.elim | (subst he;first | assumption | exact absurd hbn (by decide)))))
    have l5:=ready_end hr 5 (by rw [hl];decide) rfl (fun e he hbn=>by
      simp at he
      (try (repeat (rcases he with rfl | he;· first | assumption | exact absurd hbn (by decide))))
      (try (first | exact he.elim | (subst he;first | assumption | exact absurd hbn (by decide)))))
    have l6:=ready_end hr 6 (by rw [hl];decide) rfl (fun e he hbn=>by
      simp at he
      (try (repeat (rcases he with rfl | he;· first | assumption | exact absurd hbn (by decide))))
      (try (first | exact he.elim | (subst he;first | assumption | exact absurd hbn (by decide)))))
    have l7:=ready_end hr 7 (by rw [hl];decide) rfl (fun e he hbn=>by
      simp at he
      (try (repeat (rcases he with rfl | he;· first | assumption | exact absurd hbn (by decide))))
      (try (first | exact he.elim | (subst he;first | assumption | exact absurd hbn (by decide)))))
    have l8:=ready_end hr 8 (by rw [hl];decide) rfl (fun e he hbn=>by
      simp at he
      (try (repeat (rcases he with rfl | he;· first | assumption | exact absurd hbn (by decide))))
      (try (first | exact he.elim | (subst he;first | assumption | exact absurd hbn (by decide)))))
    have l9:=ready_end hr 9 (by rw [hl];decide) rfl (fun e he hbn=>by
      simp at he
      (try (repeat (rcases he with rfl | he;· first | assumption | exact absurd hbn (by decide))))
      (try (first | exact he.elim | (subst he;first | assumption | exact absurd hbn (by decide)))))
    have l10:=ready_end hr 10 (by rw [hl];decide) rfl (fun e he hbn=>by
      simp at he
      (try (repeat (rcases he with rfl | he;· first | assumption | exact absurd hbn (by decide))))
      (try (first | exact he.elim | (subst he;first | assumption | exact absurd hbn (by decide)))))
    have l11:=ready_end hr 11 (by rw [hl];decide) rfl (fun e he hbn=>by
      simp at he
      (try (repeat (rcases he with rfl | he;· first | assumption | exact absurd hbn (by decide))))
      (try (first | exact he.elim | (subst he;first | assumption | exact absurd hbn (by decide)))))
    have l12:=ready_end hr 12 (by rw [hl];decide) rfl (fun e he hbn=>by
      simp at he
      (try (repeat (rcases he with rfl | he;· first | assumption | exact absurd hbn (by decide))))
      (try (first | exact he.elim | (subst he;first | assumption | exact absurd hbn (by decide)))))
    have l13:=ready_end hr 13 (by rw [hl];decide) rfl (fun e he hbn=>by
      simp at he
      (try (repeat (rcases he with rfl | he;· first | assumption | exact absurd hbn (by decide))))
      (try (first | exact he.elim | (subst he;first | assumption | exact absurd hbn (by decide)))))
    have l14:=ready_end hr 14 (by rw [hl];decide) rfl (fun e he hbn=>by
      simp at he
      (try (repeat (rcases he with rfl | he;· first | assumption | exact absurd hbn (by decide))))
      (try (first | exact he.elim | (subst he;first | assumption | exact absurd hbn (by decide)))))
    have l15:=ready_end hr 15 (by rw [hl];decide) rfl (fun e he hbn=>by
      simp at he
      (try (repeat (rcases he with rfl | he;· first | assumption | exact absurd hbn (by decide))))
      (try (first | exact he.elim | (subst he;first | assumption | exact absurd hbn (by decide)))))
    have l16:=ready_end hr 16 (by rw [hl];decide) rfl (fun e he hbn=>by
      simp at he
      (try (repeat (rcases he with rfl | he;· first | assumption | exact absurd hbn (by decide))))
      (try (first | exact he.elim | (subst he;first | assumption | exact absurd hbn (by decide)))))
    have l17:=ready_end hr 17 (by rw [hl];decide) rfl (fun e he hbn=>by
      simp at he
      (try (repeat (rcases he with rfl | he;· first | assumption | exact absurd hbn (by decide))))
      (try (first | exact he.elim | (subst he;first | assumption | exact absurd hbn (by decide)))))
    have l18:=ready_end hr 18 (by rw [hl];decide) rfl (fun e he hbn=>by
      simp at he
      (try (repeat (rcases he with rfl | he;· first | assumption | exact absurd hbn (by decide))))
      (try (first | exact he.elim | (subst he;first | assumption | exact absurd hbn (by decide)))))
    have l19:=ready_end hr 19 (by rw [hl];decide) rfl (fun e he hbn=>by
      simp at he
      (try (repeat (rcases he with rfl | he;· first | assumption | exact absurd hbn (by decide))))
      (try (first | exact he.elim | (subst he;first | assumption | exact absurd hbn (by decide)))))
    have l20:=ready_end hr 20 (by rw [hl];decide) rfl (fun e he hbn=>by
      simp at he
      (try (repeat (rcases he with rfl | he;· first | assumption | exact absurd hbn (by decide))))
      (try (first | exact he.elim | (subst he;first | assumption | exact absurd hbn (by decide)))))
    have l21:=ready_end hr 21 (by rw [hl];decide) rfl (fun e he hbn=>by
      simp at he
      (try (repeat (rcases he with rfl | he;· first | assumption | exact absurd hbn (by decide))))
      (try (first | exact he.elim | (subst he;first | assumption | exact absurd hbn (by decide)))))
    have l22:=ready_end hr 22 (by rw [hl];decide) rfl (fun e he hbn=>by
      simp at he
      (try (repeat (rcases he with rfl | he;· first | assumption | exact absurd hbn (by decide))))
      (try (first | exact he.elim | (subst he;first | assumption | exact absurd hbn (by decide)))))
    have l23:=ready_end hr 23 (by rw [hl];decide) rfl (fun e he hbn=>by
      simp at he
      (try (repeat (rcases he with rfl | he;· first | assumption | exact absurd hbn (by decide))))
      (try (first | exact he.elim | (subst he;first | assumption | exact absurd hbn (by decide)))))
    have l24:=ready_end hr 24 (by rw [hl];decide) rfl (fun e he hbn=>by
      simp at he
      (try (repeat (rcases he with rfl | he;· first | assumption | exact absurd hbn (by decide))))
      (try (first | exact he.elim | (subst he;first | assumption | exact absurd hbn (by decide)))))
    have l25:=ready_end hr 25 (by rw [hl];decide) rfl (fun e he hbn=>by
      simp at he
      (try (repeat (rcases he with rfl | he;· first | assumption | exact absurd hbn (by decide))))
      (try (first | exact he.elim | (subst he;first | assumption | exact absurd hbn (by decide)))))
    have l26:=ready_end hr 26 (by rw [hl];decide) rfl (fun e he hbn=>by
      simp at he
      (try (repeat (rcases he with rfl | he;· first | assumption | exact absurd hbn (by decide))))
      (try (first | exact he.elim | (subst he;first | assumption | exact absurd hbn (by decide)))))
    have l27:=ready_end hr 27 (by rw [hl];decide) rfl (fun e he hbn=>by
      simp at he
      (try (repeat (rcases he with rfl | he;· first | assumption | exact absurd hbn (by decide))))
      (try (first | exact he.elim | (subst he;first | assumption | exact absurd hbn (by decide)))))
    have l28:=ready_end hr 28 (by rw [hl];decide) rfl (fun e he hbn=>by
      simp at he
      (try (repeat (rcases he with rfl | he;· first | assumption | exact absurd hbn (by decide))))
      (try (first | exact he.elim | (subst he;first | assumption | exact absurd hbn (by decide)))))
    have l29:=ready_end hr 29 (by rw [hl];decide) rfl (fun e he hbn=>by
      simp at he
      (try (repeat (rcases he with rfl | he;· first | assumption | exact absurd hbn (by decide))))
      (try (first | exact he.elim | (subst he;first | assumption | exact absurd hbn (by decide)))))
    have l30:=ready_end hr 30 (by rw [hl];decide) rfl (fun e he hbn=>by
      simp at he
      (try (repeat (rcases he with rfl | he;· first | assumption | exact absurd hbn (by decide))))
      (try (first | exact he.elim | (subst he;first | assumption | exact absurd hbn (by decide)))))
    have l31:=ready_end hr 31 (by rw [hl];decide) rfl (fun e he hbn=>by
      simp at he
      (try (repeat (rcases he with rfl | he;· first | assumption | exact absurd hbn (by decide))))
      (try (first | exact he.elim | (subst he;first | assumption | exact absurd hbn (by decide)))))
    have l32:=ready_end hr 32 (by rw [hl];decide) rfl (fun e he hbn=>by
      simp at he
      (try (repeat (rcases he with rfl | he;· first | assumption | exact absurd hbn (by decide))))
      (try (first | exact he.elim | (subst he;first | assumption | exact absurd hbn (by decide)))))
    have l33:=ready_end hr 33 (by rw [hl];decide) rfl (fun e he hbn=>by
      simp at he
      (try (repeat (rcases he with rfl | he;· first | assumption | exact absurd hbn (by decide))))
      (try (first | exact he.elim | (subst he;first | assumption | exact absurd hbn (by decide)))))
    have l34:=ready_end hr 34 (by rw [hl];decide) rfl (fun e he hbn=>by
      simp at he
      (try (repeat (rcases he with rfl | he;· first | assumption | exact absurd hbn (by decide))))
      (try (first | exact he.elim | (subst he;first | assumption | exact absurd hbn (by decide)))))
    have l35:=ready_end hr 35 (by rw [hl];decide) rfl (fun e he hbn=>by
      simp at he
      (try (repeat (rcases he with rfl | he;· first | assumption | exact absurd hbn (by decide))))
      (try (first | exact he.elim | (subst he;first | assumption | exact absurd hbn (by decide)))))
    have l36:=ready_end hr 36 (by rw [hl];decide) rfl (fun e he hbn=>by
      simp at he
      (try (repeat (rcases he with rfl | he;· first | assumption | exact absurd hbn (by decide))))
      (try (first | exact he.elim | (subst he;first | assumption | exact absurd hbn (by decide)))))
    have l37:=ready_end hr 37 (by rw [hl];decide) rfl (fun e he hbn=>by
      simp at he
      (try (repeat (rcases he with rfl | he;· first | assumption | exact absurd hbn (by decide))))
      (try (first | exact he.elim | (subst he;first | assumption | exact absurd hbn (by decide)))))
    have l38:=ready_end hr 38 (by rw [hl];decide) rfl (fun e he hbn=>by
      simp at he
      (try (repeat (rcases he with rfl | he;· first | assumption | exact absurd hbn (by decide))))
      (try (first | exact he.elim | (subst he;first | assumption | exact absurd hbn (by decide)))))
    have l39:=ready_end hr 39 (by rw [hl];decide) rfl (fun e he hbn=>by
      simp at he
      (try (repeat (rcases he with rfl | he;· first | assumption | exact absurd hbn (by decide))))
      (try (first | exact he.elim | (subst he;first | assumption | exact absurd hbn (by decide)))))
    have l40:=ready_end hr 40 (by rw [hl];decide) rfl (fun e he hbn=>by
      simp at he
      (try (repeat (rcases he with rfl | he;· first | assumption | exact absurd hbn (by decide))))
      (try (first | exact he.elim | (subst he;first | assumption | exact absurd hbn (by decide)))))
    have l41:=ready_end hr 41 (by rw [hl];decide) rfl (fun e he hbn=>by
      simp at he
      (try (repeat (rcases he with rfl | he;· first | assumption | exact absurd hbn (by decide))))
      (try (first | exact he.elim | (subst he;first | assumption | exact absurd hbn (by decide)))))
    obtain ⟨b0,v0,e0x,n0,o0,t0⟩:=qa0.2 l40
    obtain rfl:=t0 l41
    have z:=hK (X 6) (X 7) (X 8) (X 9) (X 10) (X 11) (X 12) (X 13) (X 14) (X 15) (X 16) (X 17) (X 18) (X 19) (X 20) (X 21) (X 22) (X 23) (X 24) (X 25) (X 26) (X 27) (X 28) (X 29) (X 30) (X 31) (X 32) (X 33) (X 34) (X 35) (X 36) (X 37) (X 38) (X 39) (X 40) (X 41) (X 42) (X 43) (X 44) (X 45) b0 W hN g n0 o0
    rw [← e0x] at z
    exact z
end Go.Proofs.YtgchcnpgjfoadaaGreat
namespace Go.Proofs.YtgchcnpgjfoadaaGreat
open Go.ChangeShapes Go.WideShapes Go.RowKit
open Sh
theorem gp_bd {L al ah bl bh:Int} (h1:-L≤al∧al≤L) (h2:-L≤ah∧ah≤L) (h3:-L≤bl∧bl≤L) (h4:-L≤bh∧bh≤L):0≤gp al ah bl bh∧gp al ah bl bh≤2 * L:=by
  unfold gp
  simp only [Sp.mx_eq]
  omega
set_option maxHeartbeats 2000000 in
theorem fnear_any (b n c d m e:Nat) (al ah bl bh:P3) (w:World) (h1:BdP 1000000 al) (h2:BdP 1000000 ah) (h3:BdP 1000000 bl) (h4:BdP 1000000 bh) :
    Calls Tryz.prog 129 #[grv b n c al ah,grv d m e bl bh] w fun e w'=>e=.returned (.int .i64 (nG al ah bl bh))∧Below w.heap.size w w':=by
  obtain ⟨a1,a2,a3,a4,a5,a6⟩:=h1
  obtain ⟨b1,b2,b3,b4,b5,b6⟩:=h2
  obtain ⟨c1,c2,c3,c4,c5,c6⟩:=h3
  obtain ⟨d1,d2,d3,d4,d5,d6⟩:=h4
  have g1:=gp_bd ⟨a1,a2⟩ ⟨b1,b2⟩ ⟨c1,c2⟩ ⟨d1,d2⟩
  have g2:=gp_bd ⟨a3,a4⟩ ⟨b3,b4⟩ ⟨c3,c4⟩ ⟨d3,d4⟩
  have g3:=gp_bd ⟨a5,a6⟩ ⟨b5,b6⟩ ⟨c5,c6⟩ ⟨d5,d6⟩
  have P:Hid (BdP 1152921504606846976 (pw (gp3 al ah bl bh) (gp3 al ah bl bh))):=Lib.hid (by
    have q1:=mul_bd (A:=2000000) (B:=2000000) (by omega) g1.2 (by omega) g1.2
    have q2:=mul_bd (A:=2000000) (B:=2000000) (by omega) g2.2 (by omega) g2.2
    have q3:=mul_bd (A:=2000000) (B:=2000000) (by omega) g3.2 (by omega) g3.2
    simp only [pw,gp3,BdP]
    omega)
  have G1:=Lib.hid (show (-4611686018427387904≤bl.1 - ah.1∧bl.1 - ah.1≤4611686018427387904)∧(-4611686018427387904≤al.1 - bh.1∧al.1 - bh.1≤4611686018427387904) by omega)
  have G2:=Lib.hid (show (-4611686018427387904≤bl.2.1 - ah.2.1∧bl.2.1 - ah.2.1≤4611686018427387904)∧(-4611686018427387904≤al.2.1 - bh.2.1∧al.2.1 - bh.2.1≤4611686018427387904) by omega)
  have G3:=Lib.hid (show (-4611686018427387904≤bl.2.2 - ah.2.2∧bl.2.2 - ah.2.2≤4611686018427387904)∧(-4611686018427387904≤al.2.2 - bh.2.2∧al.2.2 - bh.2.2≤4611686018427387904) by omega)
  clear a1 a2 a3 a4 a5 a6 b1 b2 b3 b4 b5 b6 c1 c2 c3 c4 c5 c6 d1 d2 d3 d4 d5 d6 g1 g2 g3
  have X0:=Lib.hid (grp_alloc (grp_new w b n c al ah 143) (grb d m e bl bh 143))
  have Y0:=Lib.hid (grp_new (w.alloc (grb b n c al ah 143)) d m e bl bh 143)
  simp only [World.size_alloc] at Y0
  have B0:=Lib.hid (show Below w.heap.size w ((w.alloc (grb b n c al ah 143)).alloc (grb d m e bl bh 143)) by (repeat' (first | exact Below.refl _ _ | refine Below.setCell ?_ (by simp <;> omega) _ | refine balloc ?_ _ | refine Below.drew ?_ | refine bdrewN ?_ _)))
  go_enter Tryz.func129,Tryz.ntmps129
  go_wp2_with fail
  generalize hW:(w.alloc (grb b n c al ah 143)).alloc (grb d m e bl bh 143)=W0 at *
  have hS:W0.heap.size=w.heap.size + 1 + 1:=by rw [← hW];simp
  clear hW
  refine fnr_reg (fun W=>(Grp W w.heap.size b n c al ah∧Grp W (w.heap.size + 1) d m e bl bh)∧Below w.heap.size w W) (w.heap.size + 1 + 1) w.heap.size (w.heap.size + 1) al ah bl bh G1 G2 G3 (Lib.hid fun W h=>by obtain ⟨⟨h1,h2⟩,_⟩:=h;obtain ⟨⟨k0,k1,k2,k3,k4,k5,k6⟩,_⟩:=h1;obtain ⟨k',_⟩:=h2;exact ⟨k1,k2,k3,k4,k5,k6,k'.2⟩) (Lib.hid fun W W' hb h=>⟨⟨grp_in h.1.1 hb (by omega),grp_in h.1.2 hb (by omega)⟩,Below.trans h.2 (hb.mono (by omega))⟩) (by omega) ⟨⟨grp_drew X0.out,grp_drew Y0.out⟩,by have:=B0.out;(repeat' (first | exact Below.refl _ _ | refine bstep ?_ this | refine Below.setCell ?_ (by simp <;> omega) _ | refine balloc ?_ _ | refine Below.drew ?_ | refine bdrewN ?_ _))⟩ ?_
  intros
  rename_i k0 W1 kN kG kb kO
  obtain ⟨o0,o1,o2,o3,o4,o5,o6⟩:=id kO
  have kB:=kG.2
  clear kG X0 Y0 B0
  go_wp2_with fail
  with_reducible refine (fscalar_any (gp3 al ah bl bh) (gp3 al ah bl bh) _ P.out).mono ?_
  rintro e w2 ⟨rfl,hb⟩
  clear o0 o1 o2 o3 o4 o5 o6
  go_wp2
  go_ret
  exact ⟨rfl,by (repeat' (first | exact Below.refl _ _ | refine bstep ?_ hb | refine bstep ?_ kB | refine Below.setCell ?_ (by simp <;> omega) _ | refine balloc ?_ _ | refine Below.drew ?_ | refine bdrewN ?_ _))⟩
end Go.Proofs.YtgchcnpgjfoadaaGreat
namespace Go.Proofs.YtgchcnpgjfoadaaGreat
open Go.ChangeShapes Go.WideShapes Go.RowKit
open Sh
attribute [local go_sem 1000000] run_min_mn run_max_mx
attribute [local go_sem high] run_max3' run_min3'
/-- the points of a group, at a block's head -/
def RwG (w:World) (b n:Nat) (f:Nat→P3):Prop:=b < w.heap.size∧∀ k,k < n→w.cell? ⟨b,k * 3,none⟩=some (.int .i64 (f k).1)∧w.cell? ⟨b,k * 3 + 1,none⟩=some (.int .i64 (f k).2.1)∧w.cell? ⟨b,k * 3 + 1 + 1,none⟩=some (.int .i64 (f k).2.2)
theorem rwg_in {w w1:World} {N b n:Nat} {f:Nat→P3} (r:RwG w b n f) (hb:Below N w w1) (h:b < N):RwG w1 b n f :=
  ⟨Nat.lt_of_lt_of_le r.1 hb.size,fun k hk=>⟨(hb.cell (p:=⟨b,k * 3,none⟩) h).trans (r.2 k hk).1,(hb.cell (p:=⟨b,k * 3 + 1,none⟩) h).trans (r.2 k hk).2.1,(hb.cell (p:=⟨b,k * 3 + 1 + 1,none⟩) h).trans (r.2 k hk).2.2⟩⟩
theorem rwg_below {w w1:World} {b n:Nat} {f:Nat→P3} (r:RwG w b n f) (hb:Below w.heap.size w w1):RwG w1 b n f:=rwg_in r hb r.1
theorem pw_sq {v:P3} (h:BdP 1000000 v):BdP 1152921504606846976 (pw v v):=by
  obtain ⟨h1,h2,h3,h4,h5,h6⟩:=h
  have q1:=mul_bd h1 h2 h1 h2
  have q2:=mul_bd h3 h4 h3 h4
  have q3:=mul_bd h5 h6 h5 h6
  simp only [pw,BdP]
  omega
set_option maxRecDepth 100000 in
set_option maxHeartbeats 4000000 in
theorem ffar_any (b n c d m e:Nat) (al ah bl bh:P3) (P Q:Nat→P3) (w:World) (rp:RwG w b n P) (rq:RwG w d m Q) (hn:n≤1000) (hm:m≤1000) (hb:∀ i,i < n→∀ j,j < m→BdP 1000000 (sub (P i) (Q j))) :
    Calls Tryz.prog 131 #[grv b n c al ah,grv d m e bl bh] w fun e w'=>e=.returned (.int .i64 (fG P Q m n))∧Below w.heap.size w w':=by
  have RP:=Lib.hid rp
  have RQ:=Lib.hid rq
  have hbl:=rp.1
  have hdl:=rq.1
  have HB:=Lib.hid hb
  have X0:=Lib.hid (grp_alloc (grp_new w b n c al ah 143) (grb d m e bl bh 143))
  have Y0:=Lib.hid (grp_new (w.alloc (grb b n c al ah 143)) d m e bl bh 143)
  simp only [World.size_alloc] at Y0
  have B0:=Lib.hid (show Below w.heap.size w ((w.alloc (grb b n c al ah 143)).alloc (grb d m e bl bh 143)) by (repeat' (first | exact Below.refl _ _ | refine Below.setCell ?_ (by simp <;> omega) _ | refine balloc ?_ _ | refine Below.drew ?_ | refine bdrewN ?_ _)))
  clear rp rq hb
  go_enter Tryz.func131,Tryz.ntmps131
  go_wp2
  go_loopw [5,14] (fun mv kv wr=>∃ k:Nat,k≤n∧kv=.int .i64 k∧mv=.int .i64 (fG P Q m k)∧Grp wr (w.heap.size + 1) d m e bl bh∧Below w.heap.size w wr) (fun _ kv _=>n - (intOf kv).toNat)
  case atStart=>exact ⟨0,Nat.zero_le _,rfl,rfl,Y0.out,B0.out⟩
  case round =>
    obtain ⟨k,hk,rfl,rfl,g1,BB⟩:=hrel
    have G1:=Lib.hid g1
    have B1:=Lib.hid BB
    clear g1 BB X0 Y0 B0
    by_cases hlt:k < n
    · have hk1:(k:Int) < (n:Int):=by omega
      have r1:=rwg_in RP.out B1.out hbl
      obtain ⟨c0,c1,c2⟩:=r1.2 k hlt
      have hsz:=r1.1
      have NX:=Lib.hid (show fG P Q m (k + 1)=fI (P k) Q m (fG P Q m k) from rfl)
      have HBk:=Lib.hid (HB.out k hlt)
      clear r1
      obtain ⟨⟨x0,x1,x2,x3,x4,x5,x6⟩,xs⟩:=id G1.out
      generalize fG P Q m k=y at *
      generalize P k=p at *
      generalize wr=wo at *
      have ne0:¬ (wo.heap.size=w.heap.size + 1):=by omega
      have ne1:¬ (w.heap.size + 1=wo.heap.size):=by omega
      have O0:=Lib.hid (own_new wo p 24)
      go_wp2
      go_loopw [5,21] (fun mv jv ws=>∃ j:Nat,j≤m∧jv=.int .i64 j∧mv=.int .i64 (fI p Q j y)∧Grp ws (w.heap.size + 1) d m e bl bh∧Own ws wo.heap.size p∧Below w.heap.size w ws) (fun _ jv _=>m - (intOf jv).toNat)
      case atStart=>exact ⟨0,Nat.zero_le _,rfl,rfl,grp_alloc G1.out _,O0.out,balloc B1.out _⟩
      case round =>
        obtain ⟨j,hj,rfl,rfl,g2,o2,BB2⟩:=hrel
        have G2:=Lib.hid g2
        have O2:=Lib.hid o2
        have B2:=Lib.hid BB2
        clear g2 o2 BB2 O0 x0 x1 x2 x3 x4 x5 x6
        by_cases hjl:j < m
        · have hj1:(j:Int) < (m:Int):=by omega
          have r2:=rwg_in RQ.out B2.out hdl
          obtain ⟨d0,d1,d2⟩:=r2.2 j hjl
          have hdz:=r2.1
          have bdj:=HBk.out j hjl
          have NY:=Lib.hid (show fI p Q (j + 1) y=Sp.mx (fI p Q j y) (dot (sub p (Q j)) (sub p (Q j))) from rfl)
          have MC:=Lib.hid (fun W=>fminus_any p (Q j) W (bdj.mono (by decide)))
          have SCc:=Lib.hid (fun W=>fscalar_any (sub p (Q j)) (sub p (Q j)) W (pw_sq bdj))
          clear r2 bdj
          obtain ⟨o0,o1,o2,o3,o4,o5,o6⟩:=id O2.out
          have nz0:¬ (wr.heap.size=wo.heap.size):=by omega
          have nz1:¬ (wo.heap.size=wr.heap.size):=by omega
          generalize fI p Q j y=y1 at *
          generalize sub p (Q j)=v at *
          generalize Q j=q at *
          generalize dot v v=y2 at *
          go_wp2_with fail
          with_reducible refine (MC.out _).mono ?_
          rintro e w1 ⟨rfl,hb1⟩
          clear o0 o1 o2 o3 o4 o5 d0 d1 d2
          go_wp2_with fail
          with_reducible refine (SCc.out _).mono ?_
          rintro e w2 ⟨rfl,hb2⟩
          go_wp2_with fail
          have hB:Below wr.heap.size wr w2:=by (repeat' (first | exact Below.refl _ _ | refine bstep ?_ hb2 | refine bstep ?_ hb1 | refine Below.setCell ?_ (by simp <;> omega) _ | refine balloc ?_ _ | refine Below.drew ?_ | refine bdrewN ?_ _))
          go_roundw
          case rel=>exact ⟨j + 1,by omega,by go_num,by rw [NY.out],grp_below G2.out hB,own_below O2.out hB,bstep B2.out hB⟩
          case measure=>simp [intOf];omega
        · obtain rfl:j=m:=by omega
          go_wp2_with fail
          go_roundw
          case rel=>exact ⟨k + 1,by omega,by go_num,by rw [NX.out],G2.out,B2.out⟩
          case measure=>simp [intOf];omega
    · obtain rfl:k=n:=by omega
      go_wp2
      go_ret
      exact ⟨rfl,B1.out⟩
end Go.Proofs.YtgchcnpgjfoadaaGreat
namespace Go.Proofs.YtgchcnpgjfoadaaGreat
open Go.ChangeShapes Go.WideShapes Go.RowKit
open Sh
attribute [local go_sem 1000000] run_min_mn run_max_mx
attribute [local go_sem high] run_max3' run_min3'
/-- a block of the call's own that holds a group -/
def OwG (w:World) (q:Nat) (sv:Value) (lo hi:P3):Prop:=w.cell? ⟨q,0,none⟩=some sv∧w.cell? ⟨q,1,none⟩=some (.int .i64 lo.1)∧w.cell? ⟨q,2,none⟩=some (.int .i64 lo.2.1)∧w.cell? ⟨q,3,none⟩=some (.int .i64 lo.2.2)∧w.cell? ⟨q,4,none⟩=some (.int .i64 hi.1)∧w.cell? ⟨q,5,none⟩=some (.int .i64 hi.2.1)∧w.cell? ⟨q,6,none⟩=some (.int .i64 hi.2.2)∧w.frozen? ⟨q,0,none⟩=false∧w.frozen? ⟨q,1,none⟩=false∧w.frozen? ⟨q,2,none⟩=false∧w.frozen? ⟨q,3,none⟩=false∧w.frozen? ⟨q,4,none⟩=false∧w.frozen? ⟨q,5,none⟩=false∧w.frozen? ⟨q,6,none⟩=false∧q < w.heap.size
theorem owg_new (w:World) (sv:Value) (lo hi:P3) (t:TypeId):OwG (w.alloc (.cells #[sv,.int .i64 lo.1,.int .i64 lo.2.1,.int .i64 lo.2.2,.int .i64 hi.1,.int .i64 hi.2.1,.int .i64 hi.2.2] t)) w.heap.size sv lo hi :=
  ⟨by go_simp,by go_simp,by go_simp,by go_simp,by go_simp,by go_simp,by go_simp,by go_simp,by go_simp,by go_simp,by go_simp,by go_simp,by go_simp,by go_simp,by simp⟩
theorem owg_in {w w1:World} {N q:Nat} {sv:Value} {lo hi:P3} (h:OwG w q sv lo hi) (hb:Below N w w1) (hq:q < N):OwG w1 q sv lo hi:=by
  obtain ⟨h0,h1,h2,h3,h4,h5,h6,h7,h8,h9,h10,h11,h12,h13,h14⟩:=h
  exact ⟨(hb.cell (p:=⟨q,0,none⟩) hq).trans h0,(hb.cell (p:=⟨q,1,none⟩) hq).trans h1,(hb.cell (p:=⟨q,2,none⟩) hq).trans h2,(hb.cell (p:=⟨q,3,none⟩) hq).trans h3,(hb.cell (p:=⟨q,4,none⟩) hq).trans h4,(hb.cell (p:=⟨q,5,none⟩) hq).trans h5,(hb.cell (p:=⟨q,6,none⟩) hq).trans h6,(hb.frozen (p:=⟨q,0,none⟩) hq).trans h7,(hb.frozen (p:=⟨q,1,none⟩) hq).trans h8,(hb.frozen (p:=⟨q,2,none⟩) hq).trans h9,(hb.frozen (p:=⟨q,3,none⟩) hq).trans h10,(hb.frozen (p:=⟨q,4,none⟩) hq).trans h11,(hb.frozen (p:=⟨q,5,none⟩) hq).trans h12,(hb.frozen (p:=⟨q,6,none⟩) hq).trans h13,Nat.lt_of_lt_of_le h14 hb.size⟩
theorem owg_below {w w1:World} {q:Nat} {sv:Value} {lo hi:P3} (h:OwG w q sv lo hi) (hb:Below w.heap.size w w1):OwG w1 q sv lo hi:=owg_in h hb h.2.2.2.2.2.2.2.2.2.2.2.2.2.2
theorem owg_alloc {w:World} {q:Nat} {sv:Value} {lo hi:P3} (h:OwG w q sv lo hi) (o:Obj):OwG (w.alloc o) q sv lo hi:=owg_below h ((Below.refl _ _).alloc (Nat.le_refl _) _)
theorem owg_set {w:World} {q r o:Nat} {v sv:Value} {lo hi:P3} (h:OwG w q sv lo hi) (n:q ≠ r):OwG (w.setCell ⟨r,o,none⟩ v) q sv lo hi:=by
  obtain ⟨h0,h1,h2,h3,h4,h5,h6,h7,h8,h9,h10,h11,h12,h13,h14⟩:=h
  have n':¬ r=q:=fun e=>n e.symm
  exact ⟨by go_simp,by go_simp,by go_simp,by go_simp,by go_simp,by go_simp,by go_simp,by go_simp,by go_simp,by go_simp,by go_simp,by go_simp,by go_simp,by go_simp,by simpa using h14⟩
theorem owg_lo {w:World} {q:Nat} {sv:Value} {lo hi:P3} (h:OwG w q sv lo hi) (x y z:Int):OwG (((w.setCell ⟨q,1,none⟩ (.int .i64 x)).setCell ⟨q,2,none⟩ (.int .i64 y)).setCell ⟨q,3,none⟩ (.int .i64 z)) q sv (x,y,z) hi:=by
  obtain ⟨h0,h1,h2,h3,h4,h5,h6,h7,h8,h9,h10,h11,h12,h13,h14⟩:=h
  exact ⟨by go_simp,by go_simp,by go_simp,by go_simp,by go_simp,by go_simp,by go_simp,by go_simp,by go_simp,by go_simp,by go_simp,by go_simp,by go_simp,by go_simp,by simpa using h14⟩
theorem owg_hi {w:World} {q:Nat} {sv:Value} {lo hi:P3} (h:OwG w q sv lo hi) (x y z:Int):OwG (((w.setCell ⟨q,4,none⟩ (.int .i64 x)).setCell ⟨q,5,none⟩ (.int .i64 y)).setCell ⟨q,6,none⟩ (.int .i64 z)) q sv lo (x,y,z):=by
  obtain ⟨h0,h1,h2,h3,h4,h5,h6,h7,h8,h9,h10,h11,h12,h13,h14⟩:=h
  exact ⟨by go_simp,by go_simp,by go_simp,by go_simp,by go_simp,by go_simp,by go_simp,by go_simp,by go_simp,by go_simp,by go_simp,by go_simp,by go_simp,by go_simp,by simpa using h14⟩
theorem owg_drew {w:World} {q:Nat} {sv:Value} {lo hi:P3} (h:OwG w q sv lo hi):OwG w.drew q sv lo hi:=h
set_option maxRecDepth 100000 in
set_option maxHeartbeats 4000000 in
theorem groupof_any (b n c:Nat) (P:Nat→P3) (w:World) (r:RwG w b n P) (h0:0 < n) (hn:n≤1000) :
    Calls Tryz.prog 102 #[.slice (some ⟨b,0,none⟩) n c] w fun e w'=>e=.returned (grv b n c (loN P n) (hiN P n))∧Below w.heap.size w w':=by
  have R:=Lib.hid r
  have hbl:=r.1
  obtain ⟨c0,c1,c2⟩:=r.2 0 h0
  simp only [Nat.zero_mul,Nat.zero_add] at c0 c1 c2
  have hn0:(0:Int) < (n:Int):=by omega
  clear r
  go_enter Tryz.func102,Tryz.ntmps102
  go_wp2_with fail
  go_region
  all_goals
    have X0:=Lib.hid (owg_drew (owg_alloc (owg_new w (.slice none 0 0) (0,0,0) (0,0,0) 143) (.cells #[.slice (some ⟨b,0,none⟩) n c,.int .i64 (P 0).1,.int .i64 (P 0).2.1,.int .i64 (P 0).2.2,.int .i64 (P 0).1,.int .i64 (P 0).2.1,.int .i64 (P 0).2.2] 143)))
    have Y0:=Lib.hid (owg_drew (owg_new (w.alloc (.cells #[.slice none 0 0,.int .i64 0,.int .i64 0,.int .i64 0,.int .i64 0,.int .i64 0,.int .i64 0] 143)) (.slice (some ⟨b,0,none⟩) n c) (P 0) (P 0) 143))
    simp only [World.size_alloc] at Y0
    clear c0 c1 c2
    go_wp2
    go_loopw [16] (fun kv wr=>∃ k:Nat,k≤n∧kv=.int .i64 k∧OwG wr (w.heap.size + 1) (.slice (some ⟨b,0,none⟩) n c) (loN P k) (hiN P k)∧OwG wr w.heap.size (.slice none 0 0) (0,0,0) (0,0,0)∧Below w.heap.size w wr) (fun kv _=>n - (intOf kv).toNat)
    case atStart=>exact ⟨0,Nat.zero_le _,rfl,Y0.out,X0.out,by (repeat' (first | exact Below.refl _ _ | refine Below.setCell ?_ (by simp <;> omega) _ | refine balloc ?_ _ | refine Below.drew ?_ | refine bdrewN ?_ _))⟩
    case round =>
      obtain ⟨k,hk,rfl,g1,g0,BB⟩:=hrel
      have G1:=Lib.hid g1
      have G0:=Lib.hid g0
      have B1:=Lib.hid BB
      clear g1 g0 BB X0 Y0
      by_cases hlt:k < n
      · have hk1:(k:Int) < (n:Int):=by omega
        have r1:=rwg_in R.out B1.out hbl
        obtain ⟨d0,d1,d2⟩:=r1.2 k hlt
        have hdz:=r1.1
        clear r1
        have NL:=Lib.hid (show loN P (k + 1)=(Sp.mn (loN P k).1 (P k).1,Sp.mn (loN P k).2.1 (P k).2.1,Sp.mn (loN P k).2.2 (P k).2.2) from rfl)
        have NH:=Lib.hid (show hiN P (k + 1)=(Sp.mx (hiN P k).1 (P k).1,Sp.mx (hiN P k).2.1 (P k).2.1,Sp.mx (hiN P k).2.2 (P k).2.2) from rfl)
        generalize loN P k=lo at *
        generalize hiN P k=hi at *
        generalize P k=p at *
        obtain ⟨g0,g1,g2,g3,g4,g5,g6,f0,f1,f2,f3,f4,f5,f6,hz⟩:=id G1.out
        have ne0:¬ (wr.heap.size=w.heap.size + 1):=by omega
        have ne1:¬ (w.heap.size + 1=wr.heap.size):=by omega
        have ne2:w.heap.size ≠ w.heap.size + 1:=by omega
        go_wp2
        go_roundw
        case rel=>exact ⟨k + 1,by omega,by go_num,by rw [NL.out,NH.out];with_reducible exact owg_alloc (owg_hi (owg_lo G1.out _ _ _) _ _ _) _,by with_reducible refine owg_alloc ?_ _;with_reducible refine owg_set ?_ ne2;with_reducible refine owg_set ?_ ne2;with_reducible refine owg_set ?_ ne2;with_reducible refine owg_set ?_ ne2;with_reducible refine owg_set ?_ ne2;with_reducible refine owg_set ?_ ne2;exact G0.out,by have hB:=B1.out;(repeat' (first | with_reducible exact hB | (with_reducible refine Below.setCell ?_ (by simp <;> omega) _) | (with_reducible refine balloc ?_ _)))⟩
        case measure=>simp [intOf];omega
      · obtain rfl:k=n:=by omega
        obtain ⟨g0,g1,g2,g3,g4,g5,g6,f0,f1,f2,f3,f4,f5,f6,hz⟩:=id G1.out
        obtain ⟨e0,e1,e2,e3,e4,e5,e6,l0,l1,l2,l3,l4,l5,l6,hy⟩:=id G0.out
        go_wp2
        refine bodyPost_ret (v:=grv b k c (loN P k) (hiN P k)) (by rw [results_cell rfl];go_simp) rfl ⟨rfl,?_⟩
        have hB:=B1.out
        (repeat' (first | with_reducible exact hB | (with_reducible refine Below.setCell ?_ (by simp <;> omega) _) | (with_reducible refine balloc ?_ _)))
end Go.Proofs.YtgchcnpgjfoadaaGreat
namespace Go.Proofs.YtgchcnpgjfoadaaGreat
open Go.ChangeShapes Go.WideShapes Go.RowKit
open Sh
theorem rwg_new3 (w:World) (a b c:P3) (t:TypeId):RwG (w.alloc (.cells #[.int .i64 a.1,.int .i64 a.2.1,.int .i64 a.2.2,.int .i64 b.1,.int .i64 b.2.1,.int .i64 b.2.2,.int .i64 c.1,.int .i64 c.2.1,.int .i64 c.2.2] t)) w.heap.size 3 (P3F (a,b,c)):=by
  refine ⟨by simp,fun k hk=>?_⟩
  match k,hk with
  | 0,_=>exact ⟨by go_simp;rfl,by go_simp;rfl,by go_simp;rfl⟩
  | 1,_=>exact ⟨by go_simp;rfl,by go_simp;rfl,by go_simp;rfl⟩
  | 2,_=>exact ⟨by go_simp;rfl,by go_simp;rfl,by go_simp;rfl⟩
/-- block g holds the three corners of t -/
def PtB (W:World) (g:Nat) (t:P9):Prop:=W.heap[g]?=some (pnc t.1 t.2.1 t.2.2 24)
theorem ptb_lt {W:World} {g:Nat} {t:P9} (h:PtB W g t):g < W.heap.size:=(Array.getElem?_eq_some_iff.1 h).1
theorem ptb_row {W:World} {g:Nat} {t:P9} (h:PtB W g t):RwG W g 3 (P3F t):=by
  refine ⟨ptb_lt h,fun k hk=>?_⟩
  unfold PtB at h
  match k,hk with
  | 0,_=>exact ⟨by simp [World.cell?,h,P3F],by simp [World.cell?,h,P3F],by simp [World.cell?,h,P3F]⟩
  | 1,_=>exact ⟨by simp [World.cell?,h,P3F],by simp [World.cell?,h,P3F],by simp [World.cell?,h,P3F]⟩
  | 2,_=>exact ⟨by simp [World.cell?,h,P3F],by simp [World.cell?,h,P3F],by simp [World.cell?,h,P3F]⟩
theorem ptb_set {w:World} {g q o:Nat} {t:P9} {v:Value} (h:PtB w g t) (n:g ≠ q):PtB (w.setCell ⟨q,o,none⟩ v) g t:=(Below.heap_setCell _ _ _ _ n).trans h
theorem ptb_new (w:World) (a b c:P3):PtB (w.alloc (pnc a b c 24)) w.heap.size (a,b,c):=World.alloc_heap_new w _
theorem ptb_below {w w1:World} {g:Nat} {t:P9} (h:PtB w g t) (hb:Below w.heap.size w w1):PtB w1 g t:=(hb.block g (ptb_lt h)).trans h
set_option maxRecDepth 100000 in
set_option maxHeartbeats 4000000 in
theorem corners_any (a b c:P3) (k:Int) (w:World) (h1:BdP 4611686018427387904 (tim k a)) (h2:BdP 4611686018427387904 (tim k b)) (h3:BdP 4611686018427387904 (tim k c)) :
    Calls Tryz.prog 127 #[pnv a b c,.int .i64 k] w fun e w'=>∃ g,e=.returned (grv g 3 3 (loN (P3F (tim k a,tim k b,tim k c)) 3) (hiN (P3F (tim k a,tim k b,tim k c)) 3))∧w.heap.size≤g∧PtB w' g (tim k a,tim k b,tim k c)∧Below w.heap.size w w':=by
  have T1:=Lib.hid (fun W=>ftimes_any k a W h1)
  have T2:=Lib.hid (fun W=>ftimes_any k b W h2)
  have T3:=Lib.hid (fun W=>ftimes_any k c W h3)
  have P0:=Lib.hid (pan_alloc (pan_new w a b c 59) (.cells #[.slice none 0 0,.int .i64 0,.int .i64 0,.int .i64 0,.int .i64 0,.int .i64 0,.int .i64 0] 143))
  have Y0:=Lib.hid (owg_new (w.alloc (pnc a b c 59)) (.slice none 0 0) (0,0,0) (0,0,0) 143)
  simp only [World.size_alloc] at Y0
  have B0:=Lib.hid (show Below w.heap.size w ((w.alloc (pnc a b c 59)).alloc (.cells #[.slice none 0 0,.int .i64 0,.int .i64 0,.int .i64 0,.int .i64 0,.int .i64 0,.int .i64 0] 143)) by (repeat' (first | exact Below.refl _ _ | refine Below.setCell ?_ (by simp <;> omega) _ | refine balloc ?_ _ | refine Below.drew ?_ | refine bdrewN ?_ _)))
  clear h1 h2 h3
  go_enter Tryz.func127,Tryz.ntmps127
  go_wp2_with fail
  generalize hW:(w.alloc (pnc a b c 59)).alloc (.cells #[.slice none 0 0,.int .i64 0,.int .i64 0,.int .i64 0,.int .i64 0,.int .i64 0,.int .i64 0] 143)=W0 at *
  have hS:W0.heap.size=w.heap.size + 1 + 1:=by rw [← hW];simp
  clear hW
  have p0:=pan_drew P0.out
  have y0:=owg_drew Y0.out
  have b0:Below w.heap.size w W0.drew:=Below.drew B0.out
  have ne0:w.heap.size ≠ w.heap.size + 1:=by omega
  clear P0 Y0 B0
  go_region_held3 (fun w'=>w'.cell? ⟨w.heap.size,0,none⟩=some (.int .i64 a.1)∧w'.cell? ⟨w.heap.size,1,none⟩=some (.int .i64 a.2.1)∧w'.cell? ⟨w.heap.size,2,none⟩=some (.int .i64 a.2.2)∧w'.cell? ⟨w.heap.size,3,none⟩=some (.int .i64 b.1)∧w'.cell? ⟨w.heap.size,4,none⟩=some (.int .i64 b.2.1)∧w'.cell? ⟨w.heap.size,5,none⟩=some (.int .i64 b.2.2)∧w'.cell? ⟨w.heap.size,6,none⟩=some (.int .i64 c.1)∧w'.cell? ⟨w.heap.size,7,none⟩=some (.int .i64 c.2.1)∧w'.cell? ⟨w.heap.size,8,none⟩=some (.int .i64 c.2.2))
    (first | (with_reducible refine pan_cells ?_ <;> with_reducible assumption) | (with_reducible refine pan_cells ?_;with_reducible refine pan_alloc ?_ _;with_reducible assumption)
           | (with_reducible refine pan_cells ?_;(repeat' (with_reducible refine pan_set ?_ ne0));with_reducible assumption))
    (first | (go_at_call 103;(with_reducible refine (T1.out _).mono ?_);rintro e v0 ⟨rfl,hv0⟩;have p1:=pan_below p0 hv0;have y1:=owg_below y0 hv0;have b1:=bstep b0 hv0)
           | (go_at_call 103;(with_reducible refine (T2.out _).mono ?_);rintro e v1 ⟨rfl,hv1⟩;have p2:=pan_below p1 hv1;have y2:=owg_below y1 hv1;have b2:=bstep b1 hv1)
           | (go_at_call 103;(with_reducible refine (T3.out _).mono ?_);rintro e v2 ⟨rfl,hv2⟩;have p3:=pan_below p2 hv2;have y3:=owg_below y2 hv2;have b3:=bstep b2 hv2)
           | (go_at_call 102;(with_reducible refine (groupof_any v2.heap.size 3 3 (P3F (tim k a,tim k b,tim k c)) _ (rwg_new3 v2 (tim k a) (tim k b) (tim k c) _) (by decide) (by decide)).mono ?_);rintro e v3 ⟨rfl,hv3⟩;have p4:=pan_below (pan_alloc p3 _) hv3;have y4:=owg_below (owg_alloc y3 _) hv3;have r4:=ptb_below (ptb_new v2 (tim k a) (tim k b) (tim k c)) hv3;have b4:=bstep (balloc b3 _) hv3;obtain ⟨e0,e1,e2,e3,e4,e5,e6,l0,l1,l2,l3,l4,l5,l6,ly⟩:=id y4))
  all_goals
    have gl:=b3.size
    have nr:v2.heap.size ≠ w.heap.size + 1:=by have:=y3.2.2.2.2.2.2.2.2.2.2.2.2.2.2;omega
    go_wp2
    refine bodyPost_ret (v:=grv v2.heap.size 3 3 (loN (P3F (tim k a,tim k b,tim k c)) 3) (hiN (P3F (tim k a,tim k b,tim k c)) 3)) (by rw [results_cell rfl];go_simp) rfl ⟨v2.heap.size,rfl,by omega,?_,?_⟩
    · repeat' (with_reducible refine ptb_set ?_ nr)
      with_reducible exact r4
    · (repeat' (first | with_reducible exact b4 | (with_reducible refine Below.setCell ?_ (by simp <;> omega) _)))
end Go.Proofs.YtgchcnpgjfoadaaGreat
