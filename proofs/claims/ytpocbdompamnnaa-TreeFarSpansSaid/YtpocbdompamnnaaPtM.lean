namespace Go.Proofs.Ytpocbdompamnnaa
namespace Sh
abbrev P3:=Int × Int × Int
def BdP (B:Int) (a:P3):Prop:=-B≤a.1∧a.1≤B∧-B≤a.2.1∧a.2.1≤B∧-B≤a.2.2∧a.2.2≤B
theorem BdP.mono {A B:Int} {a:P3} (h:BdP A a) (k:A≤B):BdP B a:=by
  unfold BdP at *;omega
def add (a b:P3):P3:=(a.1 + b.1,a.2.1 + b.2.1,a.2.2 + b.2.2)
def tim (k:Int) (a:P3):P3:=(k * a.1,k * a.2.1,k * a.2.2)
def sub (a b:P3):P3:=(a.1 - b.1,a.2.1 - b.2.1,a.2.2 - b.2.2)
def vec (a b:P3):P3:=(a.2.1 * b.2.2 - a.2.2 * b.2.1,a.2.2 * b.1 - a.1 * b.2.2,a.1 * b.2.1 - a.2.1 * b.1)
def dot (a b:P3):Int:=a.1 * b.1 + a.2.1 * b.2.1 + a.2.2 * b.2.2
def nrm (a b c:P3):P3:=vec (sub b a) (sub c a)
def det (a b c:P3):Int:=dot a (vec b c)
theorem mul_bd {x y A B:Int} (h1:-A≤x) (h2:x≤A) (h3:-B≤y) (h4:y≤B):-(A * B)≤x * y∧x * y≤A * B:=by
  have e:=Int.natAbs_mul x y
  have a1:x.natAbs≤A.toNat:=by omega
  have b1:y.natAbs≤B.toNat:=by omega
  have k:=Nat.mul_le_mul a1 b1
  have eA:((A.toNat:Nat):Int)=A:=by omega
  have eB:((B.toNat:Nat):Int)=B:=by omega
  have k2:((x.natAbs * y.natAbs:Nat):Int)≤A * B:=by
    have:=Int.ofNat_le.2 k
    rw [Int.natCast_mul A.toNat B.toNat,eA,eB] at this
    exact this
  rw [← e] at k2
  omega
theorem add_bd {A B:Int} {a b:P3} (h:BdP A a) (k:BdP B b):BdP (A + B) (add a b):=by
  unfold BdP add at *;dsimp only;omega
theorem sub_bd {A B:Int} {a b:P3} (h:BdP A a) (k:BdP B b):BdP (A + B) (sub a b):=by
  unfold BdP sub at *;dsimp only;omega
theorem tim_bd {K A:Int} {k:Int} {a:P3} (h1:-K≤k) (h2:k≤K) (h:BdP A a):BdP (K * A) (tim k a):=by
  obtain ⟨a1,a2,a3,a4,a5,a6⟩:=h
  have x:=mul_bd h1 h2 a1 a2
  have y:=mul_bd h1 h2 a3 a4
  have z:=mul_bd h1 h2 a5 a6
  exact ⟨x.1,x.2,y.1,y.2,z.1,z.2⟩
theorem vec_bd {A B:Int} {a b:P3} (h:BdP A a) (k:BdP B b):BdP (2 * (A * B)) (vec a b):=by
  obtain ⟨a1,a2,a3,a4,a5,a6⟩:=h
  obtain ⟨b1,b2,b3,b4,b5,b6⟩:=k
  have x1:=mul_bd a3 a4 b5 b6
  have x2:=mul_bd a5 a6 b3 b4
  have y1:=mul_bd a5 a6 b1 b2
  have y2:=mul_bd a1 a2 b5 b6
  have z1:=mul_bd a1 a2 b3 b4
  have z2:=mul_bd a3 a4 b1 b2
  unfold BdP vec
  dsimp only
  omega
theorem dot_bd {A B:Int} {a b:P3} (h:BdP A a) (k:BdP B b):-(3 * (A * B))≤dot a b∧dot a b≤3 * (A * B):=by
  obtain ⟨a1,a2,a3,a4,a5,a6⟩:=h
  obtain ⟨b1,b2,b3,b4,b5,b6⟩:=k
  have x1:=mul_bd a1 a2 b1 b2
  have x2:=mul_bd a3 a4 b3 b4
  have y1:=mul_bd a5 a6 b5 b6
  unfold dot
  omega
theorem nrm_bd {a b c:P3} (h:BdP 64 a) (k:BdP 64 b) (l:BdP 64 c):BdP 32768 (nrm a b c) :=
  (vec_bd (sub_bd k h) (sub_bd l h)).mono (by decide)
theorem det_bd {a b c:P3} (h:BdP 64 a) (k:BdP 64 b) (l:BdP 64 c):-1572864≤det a b c∧det a b c≤1572864 :=
  dot_bd h (vec_bd k l)
theorem sub_neg (a b:P3):add a (tim (-1) b)=sub a b:=by
  unfold add tim sub
  ext <;> dsimp only <;> omega
def inP (L:Int) (a:P3):Bool:=decide (-L≤a.1∧a.1≤L∧-L≤a.2.1∧a.2.1≤L∧-L≤a.2.2∧a.2.2≤L)
theorem inP_iff {L:Int} {a:P3}:inP L a=true ↔ BdP L a:=by unfold inP BdP;simp
theorem inP_not {L:Int} {a:P3}:inP L a=false ↔ ¬ BdP L a:=by unfold inP BdP;simp
def pcode (a b c:P3):Int:=if inP 64 a && inP 64 b && inP 64 c then (if nrm a b c=(0,0,0) then 6 else 0) else 1
structure Ms where
  np:Nat
  nf:Nat
  P:Nat→P3
  F:Nat→P3
def ptB (P:Nat→P3) (i:Nat):Bool:=inP 64 (P i) && (List.range i).all fun k=>decide (P k ≠ P i)
def ptsB (P:Nat→P3) (n:Nat):Bool:=(List.range n).all (ptB P)
def fcode (np:Nat) (P:Nat→P3) (f:P3):Int :=
  if 0≤f.1∧f.1 < np∧0≤f.2.1∧f.2.1 < np∧0≤f.2.2∧f.2.2 < np then (if nrm (P f.1.toNat) (P f.2.1.toNat) (P f.2.2.toNat)=(0,0,0) then 6 else 0) else 5
def fcodes (np:Nat) (P:Nat→P3) (F:Nat→P3):Nat→Int
  | 0=>0
  | n + 1=>if fcodes np P F n=0 then fcode np P (F n) else fcodes np P F n
def cnt1 (f:P3) (p q:Int):Nat:=(if f.1=p∧f.2.1=q then 1 else 0) + (if f.2.1=p∧f.2.2=q then 1 else 0) + (if f.2.2=p∧f.1=q then 1 else 0)
def cnt (F:Nat→P3):Nat→Int→Int→Nat
  | 0,_,_=>0
  | n + 1,p,q=>cnt F n p q + cnt1 (F n) p q
def sideB (F:Nat→P3) (n:Nat) (p q:Int):Bool:=decide (cnt F n p q=1∧cnt F n q p=1)
def faceB (F:Nat→P3) (n:Nat) (f:P3):Bool:=sideB F n f.1 f.2.1 && sideB F n f.2.1 f.2.2 && sideB F n f.2.2 f.1
def closedB (F:Nat→P3) (n:Nat):Bool:=(List.range n).all fun i=>faceB F n (F i)
def usedB (F:Nat→P3) (n:Nat) (p:Nat):Bool:=(List.range n).any fun i=>decide ((F i).1=p∨(F i).2.1=p∨(F i).2.2=p)
def allB (F:Nat→P3) (n:Nat) (np:Nat):Bool:=(List.range np).all (usedB F n)
def tri (P:Nat→P3) (f:P3):P3 × P3 × P3:=(P f.1.toNat,P f.2.1.toNat,P f.2.2.toNat)
def vol (P:Nat→P3) (F:Nat→P3):Nat→Int
  | 0=>0
  | n + 1=>vol P F n + det (P (F n).1.toNat) (P (F n).2.1.toNat) (P (F n).2.2.toNat)
def vcode (M:Ms):Int :=
  if 64 < M.np∨M.nf=0∨96 < M.nf then 4
  else if ptsB M.P M.np=false then 1
  else if fcodes M.np M.P M.F M.nf ≠ 0 then fcodes M.np M.P M.F M.nf
  else if closedB M.F M.nf=false then 7
  else if allB M.F M.nf M.np=false then 5
  else if vol M.P M.F M.nf≤0 then 8 else 0
end Sh
end Go.Proofs.Ytpocbdompamnnaa
namespace Go.Proofs.Ytpocbdompamnnaa
namespace Sh
structure Mo where
  c:Int
  t:Int
  d:P3
  s0:Int
  s1:Int
  s2:Int
  s3:Int
  s4:Int
  s5:Int
def rngB (n lo hi:Int):Bool:=decide (lo≤n∧n≤hi)
theorem rngB_iff {n lo hi:Int}:rngB n lo hi=true ↔ lo≤n∧n≤hi:=by unfold rngB;simp
theorem rngB_not {n lo hi:Int}:rngB n lo hi=false ↔ ¬ (lo≤n∧n≤hi):=by unfold rngB;simp
def mok (m:Mo):Prop :=
  (0≤m.t∧m.t≤1048576)∧(-m.t≤m.c∧m.c≤m.t)∧BdP 1073741824 m.d ∧
  (-17179869184≤m.s0∧m.s0≤17179869184)∧(-17179869184≤m.s1∧m.s1≤17179869184)∧(-17179869184≤m.s2∧m.s2≤17179869184) ∧
  (-17179869184≤m.s3∧m.s3≤17179869184)∧(-17179869184≤m.s4∧m.s4≤17179869184)∧(-17179869184≤m.s5∧m.s5≤17179869184)
instance (m:Mo):Decidable (mok m):=by unfold mok BdP;exact inferInstance
def mokB (m:Mo):Bool:=decide (mok m)
theorem mokB_iff {m:Mo}:mokB m=true ↔ mok m:=by unfold mokB;simp
theorem mokB_not {m:Mo}:mokB m=false ↔ ¬ mok m:=by unfold mokB;simp
def mcode (m:Mo):Int:=if mokB m then 0 else 1
theorem mcode_ok {m:Mo} (h:mokB m=true):mcode m=0:=by unfold mcode;rw [if_pos h]
theorem mcode_no {m:Mo} (h:mokB m=false):mcode m=1:=by unfold mcode;rw [h];rfl
theorem mcode_not {m:Mo} (h:¬ mok m):mcode m=1:=mcode_no (mokB_not.2 h)
theorem mcode_mok {m:Mo} (h:mok m):mcode m=0:=mcode_ok (mokB_iff.2 h)
def mzero:Mo:=⟨0,0,(0,0,0),0,0,0,0,0,0⟩
def mtold (m:Mo):Mo:=if mokB m then m else mzero
def mlarge (m:Mo):Int:=if mokB m then 0 else 4
def madd (a b:Mo):Mo:=⟨a.c + b.c,a.t + b.t,add a.d b.d,a.s0 + b.s0,a.s1 + b.s1,a.s2 + b.s2,a.s3 + b.s3,a.s4 + b.s4,a.s5 + b.s5⟩
theorem madd_comm (a b:Mo):madd a b=madd b a:=by
  unfold madd add
  simp only [Int.add_comm]
def mscale (k:Int) (m:Mo):Mo:=⟨m.c,m.t,tim k m.d,m.s0 * (k * k),m.s1 * (k * k),m.s2 * (k * k),m.s3 * (k * k),m.s4 * (k * k),m.s5 * (k * k)⟩
def sh2 (c s di dj ti tj:Int):Int:=s + (12 * c * ti * tj - 4 * (di * tj + ti * dj))
def mshift (m:Mo) (t:P3):Mo :=
  ⟨m.c,m.t,(m.d.1 - 3 * m.c * t.1,m.d.2.1 - 3 * m.c * t.2.1,m.d.2.2 - 3 * m.c * t.2.2),
   sh2 m.c m.s0 m.d.1 m.d.1 t.1 t.1,sh2 m.c m.s1 m.d.1 m.d.2.1 t.1 t.2.1,sh2 m.c m.s2 m.d.1 m.d.2.2 t.1 t.2.2,
   sh2 m.c m.s3 m.d.2.1 m.d.2.1 t.2.1 t.2.1,sh2 m.c m.s4 m.d.2.1 m.d.2.2 t.2.1 t.2.2,sh2 m.c m.s5 m.d.2.2 m.d.2.2 t.2.2 t.2.2⟩
def neg (t:P3):P3:=(-t.1,-t.2.1,-t.2.2)
theorem sh2_back (c s di dj ti tj:Int):sh2 c (sh2 c s di dj ti tj) (di - 3 * c * ti) (dj - 3 * c * tj) (-ti) (-tj)=s:=by
  unfold sh2
  have e1:12 * c * -ti * -tj=12 * (c * ti * tj):=by
    rw [Int.mul_neg,Int.mul_neg (12 * c) ti,Int.neg_mul,Int.neg_neg,Int.mul_assoc 12 c ti,Int.mul_assoc 12 (c * ti) tj]
  have e2:12 * c * ti * tj=12 * (c * ti * tj):=by
    rw [Int.mul_assoc 12 c ti,Int.mul_assoc 12 (c * ti) tj]
  have e3:(di - 3 * c * ti) * -tj=3 * (c * ti * tj) - di * tj:=by
    rw [Int.mul_neg,Int.sub_mul,Int.mul_assoc 3 c ti,Int.mul_assoc 3 (c * ti) tj];omega
  have e4:-ti * (dj - 3 * c * tj)=3 * (c * ti * tj) - ti * dj:=by
    rw [Int.neg_mul,Int.mul_sub,Int.mul_assoc 3 c tj,Int.mul_left_comm ti 3,← Int.mul_assoc ti c tj,Int.mul_comm ti c];omega
  rw [e1,e2,e3,e4]
  omega
theorem mshift_back (m:Mo) (t:P3):mshift (mshift m t) (neg t)=m:=by
  obtain ⟨c,tt,⟨x,y,z⟩,s0,s1,s2,s3,s4,s5⟩:=m
  obtain ⟨t1,t2,t3⟩:=t
  have k:∀ d u:Int,d - 3 * c * u - 3 * c * -u=d:=fun d u=>by rw [Int.mul_neg];omega
  unfold mshift neg
  simp only [sh2_back,k]
def mtrace (m:Mo):Int:=m.s0 + m.s3 + m.s5
def mneut (m:Mo):Int :=
  if m.c ≠ 0 then 0 else if m.d ≠ (0,0,0) then 1 else if m.s0 ≠ 0∨m.s1 ≠ 0∨m.s2 ≠ 0∨m.s3 ≠ 0∨m.s4 ≠ 0∨m.s5 ≠ 0 then 2 else 3
abbrev Ch:=(P3 × P3 × P3) × Int
def chcode (q:Ch):Int:=if pcode q.1.1 q.1.2.1 q.1.2.2=0 then (if rngB q.2 (-100) 100 then 0 else 1) else pcode q.1.1 q.1.2.1 q.1.2.2
def chcodes (Q:Nat→Ch):Nat→Int
  | 0=>0
  | n + 1=>if chcodes Q n=0 then chcode (Q n) else chcodes Q n
def ccode (n:Nat) (Q:Nat→Ch):Int:=if 96 < n then 4 else chcodes Q n
def ocode (n:Nat) (Q:Nat→Ch) (p:P3):Int:=if ccode n Q=0 then (if inP 64 p then 0 else 1) else ccode n Q
theorem chcodes_hit {Q:Nat→Ch} {n k:Nat} (hk:k < n) (h0:chcodes Q k=0) (h:chcode (Q k) ≠ 0):chcodes Q n=chcode (Q k):=by
  induction n with
  | zero=>omega
  | succ n ih =>
    show (if chcodes Q n=0 then chcode (Q n) else chcodes Q n)=_
    by_cases e:k=n
    · subst e;rw [if_pos h0]
    · have:=ih (by omega)
      rw [if_neg (by rw [this];exact h),this]
theorem chcodes_next {Q:Nat→Ch} {k:Nat} (h0:chcodes Q k=0) (h:chcode (Q k)=0):chcodes Q (k + 1)=0:=by
  show (if chcodes Q k=0 then chcode (Q k) else chcodes Q k)=0
  rw [if_pos h0,h]
theorem chcodes_all {Q:Nat→Ch} {n:Nat} (h:chcodes Q n=0):∀ k,k < n→chcode (Q k)=0:=by
  induction n with
  | zero=>intro k hk;omega
  | succ n ih =>
    have e:(if chcodes Q n=0 then chcode (Q n) else chcodes Q n)=0:=h
    by_cases z:chcodes Q n=0
    · rw [if_pos z] at e
      intro k hk
      by_cases q:k=n
      · subst q;exact e
      · exact ih z k (by omega)
    · rw [if_neg z] at e;exact absurd e z
theorem chcode_panel {q:Ch} (h:pcode q.1.1 q.1.2.1 q.1.2.2 ≠ 0):chcode q=pcode q.1.1 q.1.2.1 q.1.2.2:=by unfold chcode;rw [if_neg h]
theorem chcode_far {q:Ch} (h:pcode q.1.1 q.1.2.1 q.1.2.2=0) (k:rngB q.2 (-100) 100=false):chcode q=1:=by unfold chcode;rw [if_pos h,k];rfl
theorem chcode_ok {q:Ch} (h:pcode q.1.1 q.1.2.1 q.1.2.2=0) (k:rngB q.2 (-100) 100=true):chcode q=0:=by unfold chcode;rw [if_pos h,k];rfl
theorem chcode_ok' {q:Ch} (h:chcode q=0):(BdP 64 q.1.1∧BdP 64 q.1.2.1∧BdP 64 q.1.2.2)∧-100≤q.2∧q.2≤100:=by
  unfold chcode at h
  by_cases z:pcode q.1.1 q.1.2.1 q.1.2.2=0
  · rw [if_pos z] at h
    cases k:rngB q.2 (-100) 100 with
    | false=>rw [k] at h;cases h
    | true =>
      refine ⟨?_,rngB_iff.1 k⟩
      unfold pcode at z
      cases e:inP 64 q.1.1 && inP 64 q.1.2.1 && inP 64 q.1.2.2 with
      | false=>rw [e] at z;cases z
      | true =>
        simp only [Bool.and_eq_true] at e
        exact ⟨inP_iff.1 e.1.1,inP_iff.1 e.1.2,inP_iff.1 e.2⟩
  · rw [if_neg z] at h;exact absurd h z
def absI (n:Int):Int:=if n < 0 then -n else n
def sum3 (a b c:P3):P3:=add (add a b) c
def pr2 (f g:P3→Int) (a b c:P3):Int:=f (sum3 a b c) * g (sum3 a b c) + f a * g a + f b * g b + f c * g c
def gat (p:P3) (q:Ch):Mo :=
  let a:=sub q.1.1 p;let b:=sub q.1.2.1 p;let c:=sub q.1.2.2 p
  ⟨q.2,absI q.2,tim q.2 (sum3 a b c),q.2 * pr2 (·.1) (·.1) a b c,q.2 * pr2 (·.1) (·.2.1) a b c,q.2 * pr2 (·.1) (·.2.2) a b c,q.2 * pr2 (·.2.1) (·.2.1) a b c,q.2 * pr2 (·.2.1) (·.2.2) a b c,q.2 * pr2 (·.2.2) (·.2.2) a b c⟩
def mof (p:P3) (Q:Nat→Ch):Nat→Mo
  | 0=>mzero
  | n + 1=>madd (mof p Q n) (gat p (Q n))
def sq (a:P3):Int:=dot a a
def mxI (a b:Int):Int:=if a < b then b else a
def far2 (p:P3) (Q:Nat→Ch):Nat→Int
  | 0=>0
  | n + 1=>mxI (mxI (mxI (far2 p Q n) (sq (sub (Q n).1.1 p))) (sq (sub (Q n).1.2.1 p))) (sq (sub (Q n).1.2.2 p))
end Sh
end Go.Proofs.Ytpocbdompamnnaa
namespace Go.Proofs.Ytpocbdompamnnaa
namespace Sh
theorem cor1 {L:Int} {a:P3} (h:BdP L a):-L≤a.1∧a.1≤L:=⟨h.1,h.2.1⟩
theorem cor2 {L:Int} {a:P3} (h:BdP L a):-L≤a.2.1∧a.2.1≤L:=⟨h.2.2.1,h.2.2.2.1⟩
theorem cor3 {L:Int} {a:P3} (h:BdP L a):-L≤a.2.2∧a.2.2≤L:=⟨h.2.2.2.2.1,h.2.2.2.2.2⟩
theorem sum3_bd {L:Int} {a b c:P3} (h:BdP L a) (k:BdP L b) (l:BdP L c):BdP (3 * L) (sum3 a b c):=(add_bd (add_bd h k) l).mono (by omega)
theorem pr2_bd {f g:P3→Int} (hf:∀ {L:Int} {a:P3},BdP L a→-L≤f a∧f a≤L) (hg:∀ {L:Int} {a:P3},BdP L a→-L≤g a∧g a≤L) {a b c:P3} (h:BdP 128 a) (k:BdP 128 b) (l:BdP 128 c) :
    -196608≤pr2 f g a b c∧pr2 f g a b c≤196608:=by
  have s:=sum3_bd h k l
  have x0:=mul_bd (hf s).1 (hf s).2 (hg s).1 (hg s).2
  have x1:=mul_bd (hf h).1 (hf h).2 (hg h).1 (hg h).2
  have x2:=mul_bd (hf k).1 (hf k).2 (hg k).1 (hg k).2
  have x3:=mul_bd (hf l).1 (hf l).2 (hg l).1 (hg l).2
  unfold pr2
  omega
def mbd (k:Int) (m:Mo):Prop :=
  (-(100 * k)≤m.c∧m.c≤100 * k)∧(0≤m.t∧m.t≤100 * k∧-m.t≤m.c∧m.c≤m.t)∧BdP (38400 * k) m.d ∧
  (-(19660800 * k)≤m.s0∧m.s0≤19660800 * k)∧(-(19660800 * k)≤m.s1∧m.s1≤19660800 * k)∧(-(19660800 * k)≤m.s2∧m.s2≤19660800 * k) ∧
  (-(19660800 * k)≤m.s3∧m.s3≤19660800 * k)∧(-(19660800 * k)≤m.s4∧m.s4≤19660800 * k)∧(-(19660800 * k)≤m.s5∧m.s5≤19660800 * k)
theorem mbd_zero:mbd 0 mzero:=by unfold mbd mzero BdP;dsimp only;omega
theorem mbd_add {j k:Int} {a b:Mo} (h:mbd j a) (l:mbd k b):mbd (j + k) (madd a b):=by
  unfold mbd BdP at *
  unfold madd add
  dsimp only
  omega
theorem mbd_mok {k:Int} {m:Mo} (h:mbd k m) (hk:k≤200):mok m:=by
  unfold mbd BdP at h
  unfold mok BdP
  omega
theorem absI_bd {n:Int} (h:-100≤n∧n≤100):0≤absI n∧absI n≤100∧-absI n≤n∧n≤absI n:=by
  unfold absI;split <;> omega
theorem gat_bd {p:P3} {q:Ch} (hp:BdP 64 p) (h:chcode q=0):mbd 1 (gat p q):=by
  obtain ⟨⟨h1,h2,h3⟩,hq⟩:=chcode_ok' h
  have a:=sub_bd h1 hp
  have b:=sub_bd h2 hp
  have c:=sub_bd h3 hp
  have s:=tim_bd hq.1 hq.2 (sum3_bd a b c)
  have z:=absI_bd hq
  have T:∀ {y:Int},(-196608≤y∧y≤196608)→-19660800≤q.2 * y∧q.2 * y≤19660800:=fun hy=>mul_bd (A:=100) (B:=196608) hq.1 hq.2 hy.1 hy.2
  have y0:=T (pr2_bd (f:=(·.1)) (g:=(·.1)) cor1 cor1 a b c)
  have y1:=T (pr2_bd (f:=(·.1)) (g:=(·.2.1)) cor1 cor2 a b c)
  have y2:=T (pr2_bd (f:=(·.1)) (g:=(·.2.2)) cor1 cor3 a b c)
  have y3:=T (pr2_bd (f:=(·.2.1)) (g:=(·.2.1)) cor2 cor2 a b c)
  have y4:=T (pr2_bd (f:=(·.2.1)) (g:=(·.2.2)) cor2 cor3 a b c)
  have y5:=T (pr2_bd (f:=(·.2.2)) (g:=(·.2.2)) cor3 cor3 a b c)
  unfold gat
  dsimp only
  refine ⟨by dsimp only;omega,by dsimp only;omega,s.mono (by decide),?_,?_,?_,?_,?_,?_⟩ <;> (dsimp only;omega)
theorem mof_bd {p:P3} {Q:Nat→Ch} {n:Nat} (hp:BdP 64 p) (h:chcodes Q n=0):∀ k,k≤n→mbd k (mof p Q k):=by
  intro k hk
  induction k with
  | zero=>exact mbd_zero
  | succ k ih =>
    have:=mbd_add (ih (by omega)) (gat_bd (q:=Q k) hp (chcodes_all h k (by omega)))
    have e:((k:Int) + 1)=((k + 1:Nat):Int):=by omega
    rw [← e]
    exact this
theorem mof_mok {p:P3} {Q:Nat→Ch} {n:Nat} (hp:BdP 64 p) (h:chcodes Q n=0) (hn:n≤200):mok (mof p Q n) :=
  mbd_mok (mof_bd hp h n (Nat.le_refl n)) (by omega)
theorem madd_zero (m:Mo):madd m mzero=m:=by
  unfold madd mzero add
  simp only [Int.add_zero]
theorem madd_assoc (a b c:Mo):madd (madd a b) c=madd a (madd b c):=by
  unfold madd add
  simp only [Int.add_assoc]
def joinQ (Q:Nat→Ch) (n:Nat) (R:Nat→Ch):Nat→Ch:=fun k=>if k < n then Q k else R (k - n)
theorem mof_eq {p:P3} {Q R:Nat→Ch} {n:Nat} (h:∀ k,k < n→Q k=R k):mof p Q n=mof p R n:=by
  induction n with
  | zero=>rfl
  | succ n ih =>
    show madd (mof p Q n) (gat p (Q n))=madd (mof p R n) (gat p (R n))
    rw [ih (fun k hk=>h k (by omega)),h n (by omega)]
theorem mof_join (p:P3) (Q R:Nat→Ch) (n m:Nat):mof p (joinQ Q n R) (n + m)=madd (mof p Q n) (mof p R m):=by
  induction m with
  | zero =>
    show _=madd _ mzero
    rw [madd_zero]
    exact mof_eq (n:=n) (fun k hk=>if_pos hk)
  | succ m ih =>
    show madd (mof p (joinQ Q n R) (n + m)) (gat p (joinQ Q n R (n + m)))=madd _ (madd (mof p R m) (gat p (R m)))
    rw [ih,madd_assoc]
    have e:joinQ Q n R (n + m)=R m:=by
      unfold joinQ
      rw [if_neg (by omega),Nat.add_sub_cancel_left]
    rw [e]
theorem chcodes_join {Q R:Nat→Ch} {n m:Nat} (h:chcodes Q n=0) (k:chcodes R m=0):chcodes (joinQ Q n R) (n + m)=0:=by
  have key:∀ j,j≤n + m→chcodes (joinQ Q n R) j=0:=by
    intro j
    induction j with
    | zero=>exact fun _=>rfl
    | succ j ih =>
      intro hj
      refine chcodes_next (ih (by omega)) ?_
      unfold joinQ
      by_cases l:j < n
      · rw [if_pos l];exact chcodes_all h j l
      · rw [if_neg l];exact chcodes_all k (j - n) (by omega)
  exact key _ (Nat.le_refl _)
end Sh
end Go.Proofs.Ytpocbdompamnnaa
