import Derived.Test.YtpocbdompamnnaaMo5
namespace Go.Proofs.Ytpocbdompamnnaa
open Go.ChangeShapes Go.WideShapes Go.RowKit
open Sh
def z6 (m:Mo):Prop:=m.s0=0∧m.s1=0∧m.s2=0∧m.s3=0∧m.s4=0∧m.s5=0
theorem mneut0 {m:Mo} (h:m.c ≠ 0):mneut m=0:=by unfold mneut;rw [if_pos h]
theorem mneut1 {m:Mo} (h:m.c=0) (k:m.d ≠ (0,0,0)):mneut m=1:=by unfold mneut;rw [if_neg (by simp [h]),if_pos k]
theorem mneut2 {m:Mo} (h:m.c=0) (k:m.d=(0,0,0)) (l:¬ z6 m):mneut m=2:=by
  unfold mneut
  rw [if_neg (by simp [h]),if_neg (by simp [k]),if_pos]
  unfold z6 at l
  omega
theorem mneut3 {m:Mo} (h:m.c=0) (k:m.d=(0,0,0)) (l:z6 m):mneut m=3:=by
  obtain ⟨h0,h1,h2,h3,h4,h5⟩:=l
  unfold mneut
  rw [if_neg (by simp [h]),if_neg (by simp [k]),if_neg (by simp [h0,h1,h2,h3,h4,h5])]
end Go.Proofs.Ytpocbdompamnnaa
