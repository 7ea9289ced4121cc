import Derived.Test.YtgchcnpgjfoadaaGreatSo61
namespace Go.Proofs.YtgchcnpgjfoadaaGreat
open Go.ChangeShapes Go.WideShapes Go.RowKit
open Sh
theorem ite4 {a b c:Prop} [Decidable a] [Decidable b] [Decidable c] {α:Type} {x y z u:α} {P:α→Prop} (h1:a→P x) (h2:¬ a→b→P y) (h3:¬ a→¬ b→c→P z) (h4:¬ a→¬ b→¬ c→P u):P (if a then x else if b then y else if c then z else u):=by
  by_cases k1:a
  · rw [if_pos k1];exact h1 k1
  rw [if_neg k1]
  by_cases k2:b
  · rw [if_pos k2];exact h2 k1 k2
  rw [if_neg k2]
  by_cases k3:c
  · rw [if_pos k3];exact h3 k1 k2 k3
  rw [if_neg k3]
  exact h4 k1 k2 k3
theorem gi_ind {P:Sp.R→Prop} (c:P3) (i o k:Int) (t:P9) (A B:Int × Int × Int→Sp.R) (hA:invR (farN t c) k=A (0,0,0)) (hB:invR (Sp.mx (nearN t c) i) k=B (0,0,0)) (h1:farN t c≤i∨o < nearN t c→P ((0,0),0)) (h2:¬ (farN t c≤i∨o < nearN t c)→Sp.mx (nearN t c) i=0→P ((0,0),10))
    (h3:¬ (farN t c≤i∨o < nearN t c)→¬ Sp.mx (nearN t c) i=0→nearN t c≤i∨o < farN t c→P ((0,(B (0,0,0)).1.2),0)) (h4:¬ (farN t c≤i∨o < nearN t c)→¬ Sp.mx (nearN t c) i=0→¬ (nearN t c≤i∨o < farN t c)→P (((A (0,0,0)).1.1,(B (0,0,0)).1.2),0)):P (giR c i o k t):=by
  unfold giR
  rw [hA,hB]
  exact ite4 h1 h2 h3 h4
theorem gi_ind8 {P:Sp.R→Prop} (c:P3) (i o k:Int) (t:P9) (a b:Sp.R) (hA:invR (farN t c) k=a) (hB:invR (Sp.mx (nearN t c) i) k=b) (h1:farN t c≤i∨o < nearN t c→P ((0,0),0)) (h2:¬ (farN t c≤i∨o < nearN t c)→Sp.mx (nearN t c) i=0→P ((0,0),10))
    (h3:¬ (farN t c≤i∨o < nearN t c)→¬ Sp.mx (nearN t c) i=0→nearN t c≤i∨o < farN t c→P ((0,b.1.2),0)) (h4:¬ (farN t c≤i∨o < nearN t c)→¬ Sp.mx (nearN t c) i=0→¬ (nearN t c≤i∨o < farN t c)→P ((a.1.1,b.1.2),0)):P (giR c i o k t) :=
  gi_ind c i o k t (fun _=>a) (fun _=>b) hA hB h1 h2 h3 h4
theorem gi_lo (c:P3) (i o k:Int) (t:P9):(giR c i o k t).1.1=0∨((giR c i o k t).1.1=(invR (farN t c) k).1.1∧i < nearN t c∧farN t c≤o):=by
  obtain ⟨a,hA⟩:∃ a,invR (farN t c) k=a:=⟨_,rfl⟩
  rw [hA]
  exact gi_ind8 (P:=fun r=>r.1.1=0∨(r.1.1=a.1.1∧i < nearN t c∧farN t c≤o)) c i o k t a _ hA rfl (fun _=>Or.inl rfl) (fun _ _=>Or.inl rfl) (fun _ _ _=>Or.inl rfl) (fun _ _ h=>Or.inr ⟨rfl,by omega,by omega⟩)
theorem inv_nn (m k:Int):0≤(invR m k).1.1∧0≤(invR m k).1.2:=by
  unfold invR belowR Sp.told
  generalize Rt.isq (QT ((k.toNat * 1048576) * (k.toNat * 1048576)) m.toNat 1)=u
  generalize qUp ((k.toNat * 1048576) * (k.toNat * 1048576)) m.toNat 1=v
  by_cases c:1≤m∧m≤1099511627776∧1≤k∧k≤8
  · rw [if_pos c]
    by_cases y:Sp.vldB (u:Int) (v:Int)=true
    · rw [if_pos y];exact ⟨Int.natCast_nonneg _,Int.natCast_nonneg _⟩
    · rw [if_neg y];exact ⟨Int.le_refl _,Int.le_refl _⟩
  · rw [if_neg c];exact ⟨Int.le_refl _,Int.le_refl _⟩
theorem gi_nn (c:P3) (i o k:Int) (t:P9):0≤(giR c i o k t).1.2:=by
  obtain ⟨b,hB⟩:∃ b,invR (Sp.mx (nearN t c) i) k=b:=⟨_,rfl⟩
  have q:=(inv_nn (Sp.mx (nearN t c) i) k).2
  rw [hB] at q
  exact gi_ind8 (P:=fun r=>0≤r.1.2) c i o k t _ b rfl hB (fun _=>Int.le_refl _) (fun _ _=>Int.le_refl _) (fun _ _ _=>q) (fun _ _ _=>q)
theorem gi_hi {c:P3} {i o k:Int} {t:P9} (n1:1≤nearN t c) (h1:i < farN t c) (h2:nearN t c≤o) (h3:farN t c≤1099511627776) (k1:1≤k) (k2:k≤8):(invR (farN t c) k).1.1≤(giR c i o k t).1.2:=by
  have nf:=near_far t c
  have e:1≤Sp.mx (nearN t c) i∧Sp.mx (nearN t c) i≤farN t c:=by rw [Sp.mx_eq];omega
  have m:=invR_mono (m:=Sp.mx (nearN t c) i) (f:=farN t c) (k:=k) e.1 e.2 h3 k1 k2
  obtain ⟨a,hA⟩:∃ a,invR (farN t c) k=a:=⟨_,rfl⟩
  obtain ⟨b,hB⟩:∃ b,invR (Sp.mx (nearN t c) i) k=b:=⟨_,rfl⟩
  rw [hA,hB] at m
  rw [hA]
  exact gi_ind8 (P:=fun r=>a.1.1≤r.1.2) c i o k t a b hA hB (fun h=>by omega) (fun _ h=>by omega) (fun _ _ _=>m) (fun _ _ _=>m)
end Go.Proofs.YtgchcnpgjfoadaaGreat
