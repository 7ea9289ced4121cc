namespace Go.Proofs.YtgchcnpgjfoadaaGreat
namespace Sh
abbrev P3:=Int × Int × Int
def BdP (B:Int) (a:P3):Prop:=-B≤a.1∧a.1≤B∧-B≤a.2.1∧a.2.1≤B∧-B≤a.2.2∧a.2.2≤B
theorem BdP.mono {A B:Int} {a:P3} (h:BdP A a) (k:A≤B):BdP B a:=by
  unfold BdP at *;omega
def add (a b:P3):P3:=(a.1 + b.1,a.2.1 + b.2.1,a.2.2 + b.2.2)
def tim (k:Int) (a:P3):P3:=(k * a.1,k * a.2.1,k * a.2.2)
def sub (a b:P3):P3:=(a.1 - b.1,a.2.1 - b.2.1,a.2.2 - b.2.2)
def vec (a b:P3):P3:=(a.2.1 * b.2.2 - a.2.2 * b.2.1,a.2.2 * b.1 - a.1 * b.2.2,a.1 * b.2.1 - a.2.1 * b.1)
def dot (a b:P3):Int:=a.1 * b.1 + a.2.1 * b.2.1 + a.2.2 * b.2.2
def nrm (a b c:P3):P3:=vec (sub b a) (sub c a)
theorem mul_bd {x y A B:Int} (h1:-A≤x) (h2:x≤A) (h3:-B≤y) (h4:y≤B):-(A * B)≤x * y∧x * y≤A * B:=by
  have e:=Int.natAbs_mul x y
  have a1:x.natAbs≤A.toNat:=by omega
  have b1:y.natAbs≤B.toNat:=by omega
  have k:=Nat.mul_le_mul a1 b1
  have eA:((A.toNat:Nat):Int)=A:=by omega
  have eB:((B.toNat:Nat):Int)=B:=by omega
  have k2:((x.natAbs * y.natAbs:Nat):Int)≤A * B:=by
    have:=Int.ofNat_le.2 k
    rw [Int.natCast_mul A.toNat B.toNat,eA,eB] at this
    exact this
  rw [← e] at k2
  omega
theorem add_bd {A B:Int} {a b:P3} (h:BdP A a) (k:BdP B b):BdP (A + B) (add a b):=by
  unfold BdP add at *;dsimp only;omega
theorem sub_bd {A B:Int} {a b:P3} (h:BdP A a) (k:BdP B b):BdP (A + B) (sub a b):=by
  unfold BdP sub at *;dsimp only;omega
theorem tim_bd {K A:Int} {k:Int} {a:P3} (h1:-K≤k) (h2:k≤K) (h:BdP A a):BdP (K * A) (tim k a):=by
  obtain ⟨a1,a2,a3,a4,a5,a6⟩:=h
  have x:=mul_bd h1 h2 a1 a2
  have y:=mul_bd h1 h2 a3 a4
  have z:=mul_bd h1 h2 a5 a6
  exact ⟨x.1,x.2,y.1,y.2,z.1,z.2⟩
theorem sub_neg (a b:P3):add a (tim (-1) b)=sub a b:=by
  unfold add tim sub
  ext <;> dsimp only <;> omega
def inP (L:Int) (a:P3):Bool:=decide (-L≤a.1∧a.1≤L∧-L≤a.2.1∧a.2.1≤L∧-L≤a.2.2∧a.2.2≤L)
theorem inP_iff {L:Int} {a:P3}:inP L a=true ↔ BdP L a:=by unfold inP BdP;simp
theorem inP_not {L:Int} {a:P3}:inP L a=false ↔ ¬ BdP L a:=by unfold inP BdP;simp
def pcode (a b c:P3):Int:=if inP 64 a && inP 64 b && inP 64 c then (if nrm a b c=(0,0,0) then 6 else 0) else 1
def fcode (np:Nat) (P:Nat→P3) (f:P3):Int :=
  if 0≤f.1∧f.1 < np∧0≤f.2.1∧f.2.1 < np∧0≤f.2.2∧f.2.2 < np then (if nrm (P f.1.toNat) (P f.2.1.toNat) (P f.2.2.toNat)=(0,0,0) then 6 else 0) else 5
end Sh
end Go.Proofs.YtgchcnpgjfoadaaGreat
namespace Go.Proofs.YtgchcnpgjfoadaaGreat
namespace Sh
structure Mo where
  c:Int
  t:Int
  d:P3
  s0:Int
  s1:Int
  s2:Int
  s3:Int
  s4:Int
  s5:Int
def rngB (n lo hi:Int):Bool:=decide (lo≤n∧n≤hi)
theorem rngB_iff {n lo hi:Int}:rngB n lo hi=true ↔ lo≤n∧n≤hi:=by unfold rngB;simp
theorem rngB_not {n lo hi:Int}:rngB n lo hi=false ↔ ¬ (lo≤n∧n≤hi):=by unfold rngB;simp
def mok (m:Mo):Prop :=
  (0≤m.t∧m.t≤1048576)∧(-m.t≤m.c∧m.c≤m.t)∧BdP 1073741824 m.d ∧
  (-17179869184≤m.s0∧m.s0≤17179869184)∧(-17179869184≤m.s1∧m.s1≤17179869184)∧(-17179869184≤m.s2∧m.s2≤17179869184) ∧
  (-17179869184≤m.s3∧m.s3≤17179869184)∧(-17179869184≤m.s4∧m.s4≤17179869184)∧(-17179869184≤m.s5∧m.s5≤17179869184)
instance (m:Mo):Decidable (mok m):=by unfold mok BdP;exact inferInstance
abbrev Ch:=(P3 × P3 × P3) × Int
def chcode (q:Ch):Int:=if pcode q.1.1 q.1.2.1 q.1.2.2=0 then (if rngB q.2 (-100) 100 then 0 else 1) else pcode q.1.1 q.1.2.1 q.1.2.2
def chcodes (Q:Nat→Ch):Nat→Int
  | 0=>0
  | n + 1=>if chcodes Q n=0 then chcode (Q n) else chcodes Q n
def ccode (n:Nat) (Q:Nat→Ch):Int:=if 96 < n then 4 else chcodes Q n
theorem chcodes_hit {Q:Nat→Ch} {n k:Nat} (hk:k < n) (h0:chcodes Q k=0) (h:chcode (Q k) ≠ 0):chcodes Q n=chcode (Q k):=by
  induction n with
  | zero=>omega
  | succ n ih =>
    show (if chcodes Q n=0 then chcode (Q n) else chcodes Q n)=_
    by_cases e:k=n
    · subst e;rw [if_pos h0]
    · have:=ih (by omega)
      rw [if_neg (by rw [this];exact h),this]
theorem chcodes_next {Q:Nat→Ch} {k:Nat} (h0:chcodes Q k=0) (h:chcode (Q k)=0):chcodes Q (k + 1)=0:=by
  show (if chcodes Q k=0 then chcode (Q k) else chcodes Q k)=0
  rw [if_pos h0,h]
theorem chcode_panel {q:Ch} (h:pcode q.1.1 q.1.2.1 q.1.2.2 ≠ 0):chcode q=pcode q.1.1 q.1.2.1 q.1.2.2:=by unfold chcode;rw [if_neg h]
theorem chcode_far {q:Ch} (h:pcode q.1.1 q.1.2.1 q.1.2.2=0) (k:rngB q.2 (-100) 100=false):chcode q=1:=by unfold chcode;rw [if_pos h,k];rfl
theorem chcode_ok {q:Ch} (h:pcode q.1.1 q.1.2.1 q.1.2.2=0) (k:rngB q.2 (-100) 100=true):chcode q=0:=by unfold chcode;rw [if_pos h,k];rfl
def sq (a:P3):Int:=dot a a
end Sh
end Go.Proofs.YtgchcnpgjfoadaaGreat
namespace Go.Proofs.YtgchcnpgjfoadaaGreat
namespace Sh
end Sh
end Go.Proofs.YtgchcnpgjfoadaaGreat
