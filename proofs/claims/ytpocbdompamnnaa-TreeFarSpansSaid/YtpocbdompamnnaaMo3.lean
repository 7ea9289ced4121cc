import Derived.Test.YtpocbdompamnnaaPtM
namespace Go.Proofs.Ytpocbdompamnnaa
namespace Sh
theorem sh2_add (c c' s s' di di' dj dj' ti tj:Int):sh2 (c + c') (s + s') (di + di') (dj + dj') ti tj=sh2 c s di dj ti tj + sh2 c' s' di' dj' ti tj:=by
  unfold sh2;grind
theorem dip_add (d d' c c' t:Int):d + d' - 3 * (c + c') * t=d - 3 * c * t + (d' - 3 * c' * t):=by grind
theorem mshift_add (a b:Mo) (t:P3):mshift (madd a b) t=madd (mshift a t) (mshift b t):=by
  unfold mshift madd add
  dsimp only
  simp only [sh2_add,dip_add]
theorem mshift_zero (t:P3):mshift mzero t=mzero:=by
  unfold mshift mzero sh2
  simp
theorem pr2_shift (q a b c t x y z u:Int) :
    q * ((a - t + (b - t) + (c - t)) * (x - u + (y - u) + (z - u)) + (a - t) * (x - u) + (b - t) * (y - u) + (c - t) * (z - u)) =
      q * ((a + b + c) * (x + y + z) + a * x + b * y + c * z) + (12 * q * t * u - 4 * ((q * (a + b + c)) * u + t * (q * (x + y + z)))):=by grind
theorem dip_shift (q a b c t:Int):q * (a - t + (b - t) + (c - t))=q * (a + b + c) - 3 * q * t:=by grind
theorem sub_addp (a p t:Int):a - (p + t)=a - p - t:=by omega
theorem gat_shift (p t:P3) (q:Ch):gat (add p t) q=mshift (gat p q) t:=by
  obtain ⟨⟨⟨a1,a2,a3⟩,⟨b1,b2,b3⟩,⟨c1,c2,c3⟩⟩,n⟩:=q
  obtain ⟨p1,p2,p3⟩:=p
  obtain ⟨t1,t2,t3⟩:=t
  unfold gat mshift sh2
  simp only [pr2,sum3,sub,add,tim,sub_addp]
  simp only [Mo.mk.injEq,Prod.mk.injEq]
  exact ⟨trivial,trivial,⟨dip_shift ..,dip_shift ..,dip_shift ..⟩,pr2_shift ..,pr2_shift ..,pr2_shift ..,pr2_shift ..,pr2_shift ..,pr2_shift ..⟩
theorem mof_shift (p t:P3) (Q:Nat→Ch) (n:Nat):mof (add p t) Q n=mshift (mof p Q n) t:=by
  induction n with
  | zero=>exact (mshift_zero t).symm
  | succ n ih =>
    show madd (mof (add p t) Q n) (gat (add p t) (Q n))=mshift (madd (mof p Q n) (gat p (Q n))) t
    rw [ih,gat_shift,mshift_add]
def timQ (k:Int) (q:Ch):Ch:=((tim k q.1.1,tim k q.1.2.1,tim k q.1.2.2),q.2)
theorem pr2_times (k q a b c p x y z r:Int) :
    q * ((k * a - k * p + (k * b - k * p) + (k * c - k * p)) * (k * x - k * r + (k * y - k * r) + (k * z - k * r)) + (k * a - k * p) * (k * x - k * r) + (k * b - k * p) * (k * y - k * r) + (k * c - k * p) * (k * z - k * r)) =
      q * ((a - p + (b - p) + (c - p)) * (x - r + (y - r) + (z - r)) + (a - p) * (x - r) + (b - p) * (y - r) + (c - p) * (z - r)) * (k * k):=by grind
theorem dip_times (k q a b c p:Int):q * (k * a - k * p + (k * b - k * p) + (k * c - k * p))=k * (q * (a - p + (b - p) + (c - p))):=by grind
theorem gat_times (k:Int) (p:P3) (q:Ch):gat (tim k p) (timQ k q)=mscale k (gat p q):=by
  obtain ⟨⟨⟨a1,a2,a3⟩,⟨b1,b2,b3⟩,⟨c1,c2,c3⟩⟩,n⟩:=q
  obtain ⟨p1,p2,p3⟩:=p
  unfold gat mscale timQ
  simp only [pr2,sum3,sub,add,tim]
  simp only [Mo.mk.injEq,Prod.mk.injEq]
  exact ⟨trivial,trivial,⟨dip_times ..,dip_times ..,dip_times ..⟩,pr2_times ..,pr2_times ..,pr2_times ..,pr2_times ..,pr2_times ..,pr2_times ..⟩
theorem mscale_add (k:Int) (a b:Mo):mscale k (madd a b)=madd (mscale k a) (mscale k b):=by
  unfold mscale madd add tim
  dsimp only
  simp only [Int.add_mul,Int.mul_add]
theorem mof_times (k:Int) (p:P3) (Q:Nat→Ch) (n:Nat):mof (tim k p) (fun i=>timQ k (Q i)) n=mscale k (mof p Q n):=by
  induction n with
  | zero =>
    show mzero=mscale k mzero
    unfold mscale mzero tim
    simp
  | succ n ih =>
    show madd (mof (tim k p) (fun i=>timQ k (Q i)) n) (gat (tim k p) (timQ k (Q n)))=mscale k (madd (mof p Q n) (gat p (Q n)))
    rw [ih,gat_times,mscale_add]
end Sh
end Go.Proofs.Ytpocbdompamnnaa
