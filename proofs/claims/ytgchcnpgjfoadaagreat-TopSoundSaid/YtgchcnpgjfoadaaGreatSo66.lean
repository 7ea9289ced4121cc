import Derived.Test.YtgchcnpgjfoadaaGreatSo64
namespace Go.Proofs.YtgchcnpgjfoadaaGreat
open Go.ChangeShapes Go.WideShapes Go.RowKit
open Sh
theorem sm_cat (f:Nat→Int) (n:Nat):∀ m,sm f (n + m)=sm f n + sm (fun k=>f (n + k)) m
  | 0=>(Int.add_zero _).symm
  | m + 1=>by
    show sm f (n + m) + f (n + m)=sm f n + (sm (fun k=>f (n + k)) m + f (n + m))
    rw [sm_cat f n m]
    omega
theorem trace_meet {n m F:Nat} {Q:Nat→Pu} {x:P3} {s d:Int} (tot:(totR n Q x d).2=0) (tke:tkE n Q x s=0) (d1:0≤d) (d2:d≤3) (f1:tk1 n Q x s=(F:Int)) (hm:tk2 n Q x s + 1=((F + m:Nat):Int)) (le:tk2 n Q x s≤2000) (sc:∀ k:Nat,k < m→(scnR n Q x s ((F + k:Nat):Int) d).2=0) :
    sm (fun k=>(scnR n Q x s ((F + k:Nat):Int) d).1.1) m≤(totR n Q x d).1.2∧(totR n Q x d).1.1≤sm (fun k=>(scnR n Q x s ((F + k:Nat):Int) d).1.2) m:=by
  have fm:F≤2000∨m=0∨2000 < F:=by omega
  have quiet:∀ t:Nat,t < F→t≤2000→scnR n Q x s (t:Int) d=((0,0),0):=fun t ht h2=>scn_quiet tke (by omega) (by omega) d1 d2 (Or.inl (by omega))
  by_cases big:F≤2001
  · obtain ⟨c1,c2⟩:=sums_meet (T:=F + m) tot tke (by omega) fun t ht=>by
      by_cases y:t < F
      · rw [quiet t y (by omega)]
      · have:=sc (t - F) (by omega)
        rw [show F + (t - F)=t by omega] at this
        exact this
    rw [sm_cat] at c1 c2
    have z1:sm (fun t=>(scnR n Q x s (t:Nat) d).1.1) F=0:=sm_zero fun t ht=>by
      show (scnR n Q x s (t:Nat) d).1.1=0
      rw [quiet t ht (by omega)]
    have z2:sm (fun t=>(scnR n Q x s (t:Nat) d).1.2) F=0:=sm_zero fun t ht=>by
      show (scnR n Q x s (t:Nat) d).1.2=0
      rw [quiet t ht (by omega)]
    rw [z1,Int.zero_add] at c1
    rw [z2,Int.zero_add] at c2
    exact ⟨c1,c2⟩
  · exfalso
    omega
end Go.Proofs.YtgchcnpgjfoadaaGreat
