import Derived.Shelf.SlSortCmp.Insertion
import Derived.Lib.OwnBridge
import Derived.Test.YtpocbdompamnnaaTr0
namespace Go.Proofs.Ytpocbdompamnnaa
open Go.ChangeShapes Go.WideShapes Go.RowKit
open Sh
def cfN (f:Nat→Int) (a b:Nat):Int:=if Lib.compareInt (f a) (f b)=0 then Lib.compareInt (a:Int) (b:Int) else Lib.compareInt (f a) (f b)
theorem cfN_lt (f:Nat→Int) (a b:Nat):cfN f a b < 0 ↔ ltK f a b:=by
  unfold cfN ltK Lib.compareInt
  by_cases h1:f a < f b
  · simp [h1]
  by_cases h2:f b < f a
  · simp [h1,h2,show f a ≠ f b by omega]
  have e:f a=f b:=by omega
  simp [e]
  by_cases h3:a < b
  · simp [h3]
  · by_cases h4:b < a <;> simp [h3,h4]
def Grw (w w':World):Prop:=Below w.heap.size w w'∧w.drawn≤w'.drawn
theorem grw_is {w w':World} (h:Grw w w'):∃ q os',w'=Go.Sort.grow (w.drewN q) os':=by
  obtain ⟨⟨a,b,c,d,e⟩,g⟩:=h
  refine ⟨w'.drawn - w.drawn,w'.heap.extract w.heap.size w'.heap.size,?_⟩
  unfold Go.Sort.grow World.drewN
  obtain ⟨heap,tape,drawn,os,output⟩:=w
  obtain ⟨heap',tape',drawn',os',output'⟩:=w'
  dsimp only at *
  subst a b c
  have e1:drawn + (drawn' - drawn)=drawn':=by omega
  rw [e1]
  congr 1
  refine Array.ext_getElem? fun i=>?_
  rw [Array.getElem?_append]
  by_cases hi:i < heap.size
  · rw [if_pos hi]
    exact e i hi
  · rw [if_neg hi,Array.getElem?_extract]
    split
    · congr 1
      omega
    · rw [Array.getElem?_eq_none]
      omega
end Go.Proofs.Ytpocbdompamnnaa
