import Derived.Test.YtgchcnpgjfoadaaGreatPtM
namespace Go.Proofs.YtgchcnpgjfoadaaGreat
namespace Sh
abbrev P9:=P3 × P3 × P3
def BdT (B:Int) (t:P9):Prop:=BdP B t.1∧BdP B t.2.1∧BdP B t.2.2
theorem BdT.mono {A B:Int} {t:P9} (h:BdT A t) (k:A≤B):BdT B t:=⟨h.1.mono k,h.2.1.mono k,h.2.2.mono k⟩
def qr0 (t:P9):P9:=(tim 2 t.1,add t.1 t.2.1,add t.2.2 t.1)
def qr1 (t:P9):P9:=(add t.1 t.2.1,tim 2 t.2.1,add t.2.1 t.2.2)
def qr2 (t:P9):P9:=(add t.2.2 t.1,add t.2.1 t.2.2,tim 2 t.2.2)
def qr3 (t:P9):P9:=(add t.1 t.2.1,add t.2.1 t.2.2,add t.2.2 t.1)
def qrs (t:P9):List P9:=[qr0 t,qr1 t,qr2 t,qr3 t]
theorem tim2_bd {B:Int} {a:P3} (h:BdP B a):BdP (2 * B) (tim 2 a):=tim_bd (by decide) (by decide) h
theorem add2_bd {B:Int} {a b:P3} (h:BdP B a) (k:BdP B b):BdP (2 * B) (add a b):=(add_bd h k).mono (by omega)
theorem qr0_bd {B:Int} {t:P9} (h:BdT B t):BdT (2 * B) (qr0 t):=⟨tim2_bd h.1,add2_bd h.1 h.2.1,add2_bd h.2.2 h.1⟩
theorem qr1_bd {B:Int} {t:P9} (h:BdT B t):BdT (2 * B) (qr1 t):=⟨add2_bd h.1 h.2.1,tim2_bd h.2.1,add2_bd h.2.1 h.2.2⟩
theorem qr2_bd {B:Int} {t:P9} (h:BdT B t):BdT (2 * B) (qr2 t):=⟨add2_bd h.2.2 h.1,add2_bd h.2.1 h.2.2,tim2_bd h.2.2⟩
theorem qr3_bd {B:Int} {t:P9} (h:BdT B t):BdT (2 * B) (qr3 t):=⟨add2_bd h.1 h.2.1,add2_bd h.2.1 h.2.2,add2_bd h.2.2 h.1⟩
def cutP:Nat→P9→List P9
  | 0,t=>[t]
  | d + 1,t=>cutP d (qr0 t) ++ (cutP d (qr1 t) ++ (cutP d (qr2 t) ++ cutP d (qr3 t)))
theorem cutP_flat (d:Nat) (t:P9):cutP (d + 1) t=(qrs t).flatMap (cutP d):=by
  show cutP d (qr0 t) ++ (cutP d (qr1 t) ++ (cutP d (qr2 t) ++ cutP d (qr3 t)))=_
  simp [qrs]
theorem cutP_len:∀ (d:Nat) (t:P9),(cutP d t).length=4 ^ d
  | 0,_=>rfl
  | d + 1,t=>by
    show (cutP d (qr0 t) ++ (cutP d (qr1 t) ++ (cutP d (qr2 t) ++ cutP d (qr3 t)))).length=_
    simp only [List.length_append,cutP_len d]
    rw [Nat.pow_succ];omega
theorem cutP_bd:∀ (d:Nat) {B:Int} {t:P9},BdT B t→∀ q ∈ cutP d t,BdT (2 ^ d * B) q
  | 0,B,t,h,q,hq=>by
    rw [List.mem_singleton.1 hq,show (2:Int) ^ 0 * B=B by simp];exact h
  | d + 1,B,t,h,q,hq=>by
    have e:(2:Int) ^ (d + 1) * B=2 ^ d * (2 * B):=by rw [Int.pow_succ,Int.mul_assoc]
    rw [e]
    have hq:q ∈ cutP d (qr0 t) ++ (cutP d (qr1 t) ++ (cutP d (qr2 t) ++ cutP d (qr3 t))):=hq
    simp only [List.mem_append] at hq
    rcases hq with hq | hq | hq | hq
    · exact cutP_bd d (qr0_bd h) q hq
    · exact cutP_bd d (qr1_bd h) q hq
    · exact cutP_bd d (qr2_bd h) q hq
    · exact cutP_bd d (qr3_bd h) q hq
end Sh
end Go.Proofs.YtgchcnpgjfoadaaGreat
