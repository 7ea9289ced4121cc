import Derived.Test.YtbcjiigmbcfkeaaGreatFgMe
import Derived.Deep.RegionHeld3
namespace Go.Proofs.YtbcjiigmbcfkeaaGreat
open Go.Lib (hid)
open Go.ChangeShapes Go.WideShapes Go.RowKit
open Sh
theorem bd320 {a x:P3} (h:BdP 64 a) (k:BdP 256 x):BdP 320 (sub a x):=by
  obtain ⟨a1,a2,a3,a4,a5,a6⟩:=h
  obtain ⟨b1,b2,b3,b4,b5,b6⟩:=k
  simp only [BdP,sub]
  omega
theorem vec_bd320 {a b:P3} (h:BdP 320 a) (k:BdP 320 b):BdP 204800 (vec a b):=by
  obtain ⟨a1,a2,a3,a4,a5,a6⟩:=h
  obtain ⟨b1,b2,b3,b4,b5,b6⟩:=k
  have x1:=mul_bd a3 a4 b5 b6
  have x2:=mul_bd a5 a6 b3 b4
  have y1:=mul_bd a5 a6 b1 b2
  have y2:=mul_bd a1 a2 b5 b6
  have z1:=mul_bd a1 a2 b3 b4
  have z2:=mul_bd a3 a4 b1 b2
  simp only [BdP,vec]
  omega
theorem nrm_bd {a b c:P3} (h:BdP 64 a) (k:BdP 64 b) (l:BdP 64 c):BdP 204800 (nrm a b c):=vec_bd320 (bd320 k (h.mono (by decide))) (bd320 l (h.mono (by decide)))
end Go.Proofs.YtbcjiigmbcfkeaaGreat
