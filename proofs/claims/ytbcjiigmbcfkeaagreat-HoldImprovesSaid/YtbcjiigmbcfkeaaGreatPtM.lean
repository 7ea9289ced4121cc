namespace Go.Proofs.YtbcjiigmbcfkeaaGreat
namespace Sh
abbrev P3:=Int × Int × Int
def BdP (B:Int) (a:P3):Prop:=-B≤a.1∧a.1≤B∧-B≤a.2.1∧a.2.1≤B∧-B≤a.2.2∧a.2.2≤B
theorem BdP.mono {A B:Int} {a:P3} (h:BdP A a) (k:A≤B):BdP B a:=by
  unfold BdP at *;omega
def add (a b:P3):P3:=(a.1+b.1,a.2.1+b.2.1,a.2.2+b.2.2)
def tim (k:Int) (a:P3):P3:=(k*a.1,k*a.2.1,k*a.2.2)
def sub (a b:P3):P3:=(a.1 - b.1,a.2.1 - b.2.1,a.2.2 - b.2.2)
def vec (a b:P3):P3:=(a.2.1*b.2.2 - a.2.2*b.2.1,a.2.2*b.1 - a.1*b.2.2,a.1*b.2.1 - a.2.1*b.1)
def dot (a b:P3):Int:=a.1*b.1+a.2.1*b.2.1+a.2.2*b.2.2
def nrm (a b c:P3):P3:=vec (sub b a) (sub c a)
def det (a b c:P3):Int:=dot a (vec b c)
theorem mul_bd {x y A B:Int} (h1:-A≤x) (h2:x≤A) (h3:-B≤y) (h4:y≤B):-(A*B)≤x*y∧x*y≤A*B:=by
  have e:=Int.natAbs_mul x y
  have a1:x.natAbs≤A.toNat:=by omega
  have b1:y.natAbs≤B.toNat:=by omega
  have k:=Nat.mul_le_mul a1 b1
  have eA:((A.toNat:Nat):Int)=A:=by omega
  have eB:((B.toNat:Nat):Int)=B:=by omega
  have k2:((x.natAbs*y.natAbs:Nat):Int)≤A*B:=by
    have:=Int.ofNat_le.2 k
    rw [Int.natCast_mul A.toNat B.toNat,eA,eB] at this
    exact this
  rw [← e] at k2
  omega
theorem add_bd {A B:Int} {a b:P3} (h:BdP A a) (k:BdP B b):BdP (A+B) (add a b):=by
  unfold BdP add at *;dsimp only;omega
theorem sub_bd {A B:Int} {a b:P3} (h:BdP A a) (k:BdP B b):BdP (A+B) (sub a b):=by
  unfold BdP sub at *;dsimp only;omega
theorem tim_bd {K A:Int} {k:Int} {a:P3} (h1:-K≤k) (h2:k≤K) (h:BdP A a):BdP (K*A) (tim k a):=by
  obtain ⟨a1,a2,a3,a4,a5,a6⟩:=h
  have x:=mul_bd h1 h2 a1 a2
  have y:=mul_bd h1 h2 a3 a4
  have z:=mul_bd h1 h2 a5 a6
  exact ⟨x.1,x.2,y.1,y.2,z.1,z.2⟩
theorem vec_bd {A B:Int} {a b:P3} (h:BdP A a) (k:BdP B b):BdP (2*(A*B)) (vec a b):=by
  obtain ⟨a1,a2,a3,a4,a5,a6⟩:=h
  obtain ⟨b1,b2,b3,b4,b5,b6⟩:=k
  have x1:=mul_bd a3 a4 b5 b6
  have x2:=mul_bd a5 a6 b3 b4
  have y1:=mul_bd a5 a6 b1 b2
  have y2:=mul_bd a1 a2 b5 b6
  have z1:=mul_bd a1 a2 b3 b4
  have z2:=mul_bd a3 a4 b1 b2
  unfold BdP vec
  dsimp only
  omega
theorem dot_bd {A B:Int} {a b:P3} (h:BdP A a) (k:BdP B b):-(3*(A*B))≤dot a b∧dot a b≤3*(A*B):=by
  obtain ⟨a1,a2,a3,a4,a5,a6⟩:=h
  obtain ⟨b1,b2,b3,b4,b5,b6⟩:=k
  have x1:=mul_bd a1 a2 b1 b2
  have x2:=mul_bd a3 a4 b3 b4
  have y1:=mul_bd a5 a6 b5 b6
  unfold dot
  omega
theorem nrm_bd {a b c:P3} (h:BdP 64 a) (k:BdP 64 b) (l:BdP 64 c):BdP 32768 (nrm a b c) :=
  (vec_bd (sub_bd k h) (sub_bd l h)).mono (by decide)
theorem det_bd {a b c:P3} (h:BdP 64 a) (k:BdP 64 b) (l:BdP 64 c):-1572864≤det a b c∧det a b c≤1572864 :=
  dot_bd h (vec_bd k l)
theorem sub_neg (a b:P3):add a (tim (-1) b)=sub a b:=by
  unfold add tim sub
  ext<;>dsimp only<;>omega
def inP (L:Int) (a:P3):Bool:=decide (-L≤a.1∧a.1≤L∧-L≤a.2.1∧a.2.1≤L∧-L≤a.2.2∧a.2.2≤L)
theorem inP_iff {L:Int} {a:P3}:inP L a=true ↔ BdP L a:=by unfold inP BdP;simp
theorem inP_not {L:Int} {a:P3}:inP L a=false ↔ ¬ BdP L a:=by unfold inP BdP;simp
def pcode (a b c:P3):Int:=if inP 64 a && inP 64 b && inP 64 c then (if nrm a b c=(0,0,0) then 6 else 0) else 1
structure Ms where
  np:Nat
  nf:Nat
  P:Nat→P3
  F:Nat→P3
def ptB (P:Nat→P3) (i:Nat):Bool:=inP 64 (P i) && (List.range i).all fun k=>decide (P k ≠ P i)
def ptsB (P:Nat→P3) (n:Nat):Bool:=(List.range n).all (ptB P)
def fcode (np:Nat) (P:Nat→P3) (f:P3):Int :=
  if 0≤f.1∧f.1<np∧0≤f.2.1∧f.2.1<np∧0≤f.2.2∧f.2.2<np then (if nrm (P f.1.toNat) (P f.2.1.toNat) (P f.2.2.toNat)=(0,0,0) then 6 else 0) else 5
def fcodes (np:Nat) (P:Nat→P3) (F:Nat→P3):Nat→Int
 |0=>0
 |n+1=>if fcodes np P F n=0 then fcode np P (F n) else fcodes np P F n
def cnt1 (f:P3) (p q:Int):Nat:=(if f.1=p∧f.2.1=q then 1 else 0)+(if f.2.1=p∧f.2.2=q then 1 else 0)+(if f.2.2=p∧f.1=q then 1 else 0)
def cnt (F:Nat→P3):Nat→Int→Int→Nat
 |0,_,_=>0
 |n+1,p,q=>cnt F n p q+cnt1 (F n) p q
def sideB (F:Nat→P3) (n:Nat) (p q:Int):Bool:=decide (cnt F n p q=1∧cnt F n q p=1)
def faceB (F:Nat→P3) (n:Nat) (f:P3):Bool:=sideB F n f.1 f.2.1 && sideB F n f.2.1 f.2.2 && sideB F n f.2.2 f.1
def closedB (F:Nat→P3) (n:Nat):Bool:=(List.range n).all fun i=>faceB F n (F i)
def usedB (F:Nat→P3) (n:Nat) (p:Nat):Bool:=(List.range n).any fun i=>decide ((F i).1=p∨(F i).2.1=p∨(F i).2.2=p)
def allB (F:Nat→P3) (n:Nat) (np:Nat):Bool:=(List.range np).all (usedB F n)
def vol (P:Nat→P3) (F:Nat→P3):Nat→Int
 |0=>0
 |n+1=>vol P F n+det (P (F n).1.toNat) (P (F n).2.1.toNat) (P (F n).2.2.toNat)
def vcode (M:Ms):Int :=
  if 64<M.np∨M.nf=0∨96<M.nf then 4
  else if ptsB M.P M.np=false then 1
  else if fcodes M.np M.P M.F M.nf ≠ 0 then fcodes M.np M.P M.F M.nf
  else if closedB M.F M.nf=false then 7
  else if allB M.F M.nf M.np=false then 5
  else if vol M.P M.F M.nf≤0 then 8 else 0
end Sh
namespace Sh
structure Mo where
  c:Int
  t:Int
  d:P3
  s0:Int
  s1:Int
  s2:Int
  s3:Int
  s4:Int
  s5:Int
def rngB (n lo hi:Int):Bool:=decide (lo≤n∧n≤hi)
theorem rngB_iff {n lo hi:Int}:rngB n lo hi=true ↔ lo≤n∧n≤hi:=by unfold rngB;simp
theorem rngB_not {n lo hi:Int}:rngB n lo hi=false ↔ ¬ (lo≤n∧n≤hi):=by unfold rngB;simp
def mok (m:Mo):Prop :=
  (0≤m.t∧m.t≤1048576)∧(-m.t≤m.c∧m.c≤m.t)∧BdP 1073741824 m.d ∧
  (-17179869184≤m.s0∧m.s0≤17179869184)∧(-17179869184≤m.s1∧m.s1≤17179869184)∧(-17179869184≤m.s2∧m.s2≤17179869184) ∧
  (-17179869184≤m.s3∧m.s3≤17179869184)∧(-17179869184≤m.s4∧m.s4≤17179869184)∧(-17179869184≤m.s5∧m.s5≤17179869184)
instance (m:Mo):Decidable (mok m):=by unfold mok BdP;exact inferInstance
def neg (t:P3):P3:=(-t.1,-t.2.1,-t.2.2)
def sum3 (a b c:P3):P3:=add (add a b) c
def pr2 (f g:P3→Int) (a b c:P3):Int:=f (sum3 a b c)*g (sum3 a b c)+f a*g a+f b*g b+f c*g c
def sq (a:P3):Int:=dot a a
end Sh
namespace Sh
end Sh
end Go.Proofs.YtbcjiigmbcfkeaaGreat
