import Derived.Test.YtpocbdompamnnaaMoAd
import Derived.StillTailTactics
import Derived.Deep.DeepCutAuto
namespace Go.Proofs.Ytpocbdompamnnaa
open Go.ChangeShapes Go.WideShapes Go.RowKit
open Sh
def OwnL (w:World) (b:Nat) (xs:List Int):Prop:=b < w.heap.size∧∀ i x,xs[i]?=some x→w.cell? ⟨b,i,none⟩=some (.int .i64 x)∧w.frozen? ⟨b,i,none⟩=false
theorem ownL_below {w w1:World} {b:Nat} {xs:List Int} (h:OwnL w b xs) (hb:Below w.heap.size w w1):OwnL w1 b xs :=
  ⟨Nat.lt_of_lt_of_le h.1 hb.size,fun i x e=>⟨(hb.cell (p:=⟨b,i,none⟩) h.1).trans (h.2 i x e).1,(hb.frozen (p:=⟨b,i,none⟩) h.1).trans (h.2 i x e).2⟩⟩
theorem ownL_in {w w1:World} {b B:Nat} {xs:List Int} (h:OwnL w b xs) (hb:Below B w w1) (l:b < B):OwnL w1 b xs :=
  ⟨Nat.lt_of_lt_of_le h.1 hb.size,fun i x e=>⟨(hb.cell (p:=⟨b,i,none⟩) l).trans (h.2 i x e).1,(hb.frozen (p:=⟨b,i,none⟩) l).trans (h.2 i x e).2⟩⟩
theorem ownL_alloc {w:World} {b:Nat} {xs:List Int} (h:OwnL w b xs) (o:Obj):OwnL (w.alloc o) b xs:=ownL_below h ((Below.refl _ _).alloc (Nat.le_refl _) _)
theorem ownL_drew {w:World} {b:Nat} {xs:List Int} (h:OwnL w b xs):OwnL w.drew b xs:=h
theorem ownL_set {w:World} {b r o:Nat} {v:Value} {xs:List Int} (h:OwnL w b xs) (n:b ≠ r):OwnL (w.setCell ⟨r,o,none⟩ v) b xs:=by
  obtain ⟨l,h⟩:=h
  have n':¬ r=b:=fun e=>n e.symm
  refine ⟨by simpa using l,fun i x e=>?_⟩
  obtain ⟨h1,h2⟩:=h i x e
  exact ⟨by go_simp,by go_simp⟩
theorem ownL_put {w:World} {b j:Nat} {xs:List Int} (h:OwnL w b xs) (y:Int) (hj:j < xs.length):OwnL (w.setCell ⟨b,j,none⟩ (.int .i64 y)) b (xs.set j y):=by
  obtain ⟨l,h⟩:=h
  refine ⟨by simpa using l,fun i x e=>?_⟩
  rw [List.getElem?_set] at e
  by_cases hij:j=i
  · subst hij
    rw [if_pos rfl,if_pos hj] at e
    cases e
    obtain ⟨h1,h2⟩:=h j xs[j] (by simp [hj])
    exact ⟨by go_simp,by go_simp⟩
  · rw [if_neg hij] at e
    obtain ⟨h1,h2⟩:=h i x e
    have n':¬ i=j:=fun q=>hij q.symm
    exact ⟨by go_simp,by go_simp⟩
theorem ownL_new3 (w:World) (x0 x1 x2:Int) (t:TypeId):OwnL (w.alloc (.cells #[.int .i64 x0,.int .i64 x1,.int .i64 x2] t)) w.heap.size [x0,x1,x2]:=by
  refine ⟨by simp,fun i x e=>?_⟩
  match i,e with
  | 0,e=>(simp only [List.getElem?_cons_zero] at e;cases e;exact ⟨by go_simp,by go_simp⟩)
  | 1,e=>(simp only [List.getElem?_cons_zero,List.getElem?_cons_succ] at e;cases e;exact ⟨by go_simp,by go_simp⟩)
  | 2,e=>(simp only [List.getElem?_cons_zero,List.getElem?_cons_succ] at e;cases e;exact ⟨by go_simp,by go_simp⟩)
  | i + 3,e=>simp at e
theorem ownL_cells3 {w:World} {b:Nat} {x0 x1 x2:Int} (h:OwnL w b [x0,x1,x2]):w.cell? ⟨b,0,none⟩=some (.int .i64 x0)∧w.cell? ⟨b,1,none⟩=some (.int .i64 x1)∧w.cell? ⟨b,2,none⟩=some (.int .i64 x2) :=
  ⟨(h.2 0 _ rfl).1,(h.2 1 _ rfl).1,(h.2 2 _ rfl).1⟩
theorem ownL_free3 {w:World} {b:Nat} {x0 x1 x2:Int} (h:OwnL w b [x0,x1,x2]):w.frozen? ⟨b,0,none⟩=false∧w.frozen? ⟨b,1,none⟩=false∧w.frozen? ⟨b,2,none⟩=false :=
  ⟨(h.2 0 _ rfl).2,(h.2 1 _ rfl).2,(h.2 2 _ rfl).2⟩
theorem ownL_new6 (w:World) (x0 x1 x2 x3 x4 x5:Int) (t:TypeId):OwnL (w.alloc (.cells #[.int .i64 x0,.int .i64 x1,.int .i64 x2,.int .i64 x3,.int .i64 x4,.int .i64 x5] t)) w.heap.size [x0,x1,x2,x3,x4,x5]:=by
  refine ⟨by simp,fun i x e=>?_⟩
  match i,e with
  | 0,e=>(simp only [List.getElem?_cons_zero] at e;cases e;exact ⟨by go_simp,by go_simp⟩)
  | 1,e=>(simp only [List.getElem?_cons_zero,List.getElem?_cons_succ] at e;cases e;exact ⟨by go_simp,by go_simp⟩)
  | 2,e=>(simp only [List.getElem?_cons_zero,List.getElem?_cons_succ] at e;cases e;exact ⟨by go_simp,by go_simp⟩)
  | 3,e=>(simp only [List.getElem?_cons_zero,List.getElem?_cons_succ] at e;cases e;exact ⟨by go_simp,by go_simp⟩)
  | 4,e=>(simp only [List.getElem?_cons_zero,List.getElem?_cons_succ] at e;cases e;exact ⟨by go_simp,by go_simp⟩)
  | 5,e=>(simp only [List.getElem?_cons_zero,List.getElem?_cons_succ] at e;cases e;exact ⟨by go_simp,by go_simp⟩)
  | i + 6,e=>simp at e
theorem ownL_cells6 {w:World} {b:Nat} {x0 x1 x2 x3 x4 x5:Int} (h:OwnL w b [x0,x1,x2,x3,x4,x5]):w.cell? ⟨b,0,none⟩=some (.int .i64 x0)∧w.cell? ⟨b,1,none⟩=some (.int .i64 x1)∧w.cell? ⟨b,2,none⟩=some (.int .i64 x2)∧w.cell? ⟨b,3,none⟩=some (.int .i64 x3)∧w.cell? ⟨b,4,none⟩=some (.int .i64 x4)∧w.cell? ⟨b,5,none⟩=some (.int .i64 x5) :=
  ⟨(h.2 0 _ rfl).1,(h.2 1 _ rfl).1,(h.2 2 _ rfl).1,(h.2 3 _ rfl).1,(h.2 4 _ rfl).1,(h.2 5 _ rfl).1⟩
theorem ownL_free6 {w:World} {b:Nat} {x0 x1 x2 x3 x4 x5:Int} (h:OwnL w b [x0,x1,x2,x3,x4,x5]):w.frozen? ⟨b,0,none⟩=false∧w.frozen? ⟨b,1,none⟩=false∧w.frozen? ⟨b,2,none⟩=false∧w.frozen? ⟨b,3,none⟩=false∧w.frozen? ⟨b,4,none⟩=false∧w.frozen? ⟨b,5,none⟩=false :=
  ⟨(h.2 0 _ rfl).2,(h.2 1 _ rfl).2,(h.2 2 _ rfl).2,(h.2 3 _ rfl).2,(h.2 4 _ rfl).2,(h.2 5 _ rfl).2⟩
theorem ownL_new9 (w:World) (x0 x1 x2 x3 x4 x5 x6 x7 x8:Int) (t:TypeId):OwnL (w.alloc (.cells #[.int .i64 x0,.int .i64 x1,.int .i64 x2,.int .i64 x3,.int .i64 x4,.int .i64 x5,.int .i64 x6,.int .i64 x7,.int .i64 x8] t)) w.heap.size [x0,x1,x2,x3,x4,x5,x6,x7,x8]:=by
  refine ⟨by simp,fun i x e=>?_⟩
  match i,e with
  | 0,e=>(simp only [List.getElem?_cons_zero] at e;cases e;exact ⟨by go_simp,by go_simp⟩)
  | 1,e=>(simp only [List.getElem?_cons_zero,List.getElem?_cons_succ] at e;cases e;exact ⟨by go_simp,by go_simp⟩)
  | 2,e=>(simp only [List.getElem?_cons_zero,List.getElem?_cons_succ] at e;cases e;exact ⟨by go_simp,by go_simp⟩)
  | 3,e=>(simp only [List.getElem?_cons_zero,List.getElem?_cons_succ] at e;cases e;exact ⟨by go_simp,by go_simp⟩)
  | 4,e=>(simp only [List.getElem?_cons_zero,List.getElem?_cons_succ] at e;cases e;exact ⟨by go_simp,by go_simp⟩)
  | 5,e=>(simp only [List.getElem?_cons_zero,List.getElem?_cons_succ] at e;cases e;exact ⟨by go_simp,by go_simp⟩)
  | 6,e=>(simp only [List.getElem?_cons_zero,List.getElem?_cons_succ] at e;cases e;exact ⟨by go_simp,by go_simp⟩)
  | 7,e=>(simp only [List.getElem?_cons_zero,List.getElem?_cons_succ] at e;cases e;exact ⟨by go_simp,by go_simp⟩)
  | 8,e=>(simp only [List.getElem?_cons_zero,List.getElem?_cons_succ] at e;cases e;exact ⟨by go_simp,by go_simp⟩)
  | i + 9,e=>simp at e
theorem ownL_cells9 {w:World} {b:Nat} {x0 x1 x2 x3 x4 x5 x6 x7 x8:Int} (h:OwnL w b [x0,x1,x2,x3,x4,x5,x6,x7,x8]):w.cell? ⟨b,0,none⟩=some (.int .i64 x0)∧w.cell? ⟨b,1,none⟩=some (.int .i64 x1)∧w.cell? ⟨b,2,none⟩=some (.int .i64 x2)∧w.cell? ⟨b,3,none⟩=some (.int .i64 x3)∧w.cell? ⟨b,4,none⟩=some (.int .i64 x4)∧w.cell? ⟨b,5,none⟩=some (.int .i64 x5)∧w.cell? ⟨b,6,none⟩=some (.int .i64 x6)∧w.cell? ⟨b,7,none⟩=some (.int .i64 x7)∧w.cell? ⟨b,8,none⟩=some (.int .i64 x8) :=
  ⟨(h.2 0 _ rfl).1,(h.2 1 _ rfl).1,(h.2 2 _ rfl).1,(h.2 3 _ rfl).1,(h.2 4 _ rfl).1,(h.2 5 _ rfl).1,(h.2 6 _ rfl).1,(h.2 7 _ rfl).1,(h.2 8 _ rfl).1⟩
theorem ownL_free9 {w:World} {b:Nat} {x0 x1 x2 x3 x4 x5 x6 x7 x8:Int} (h:OwnL w b [x0,x1,x2,x3,x4,x5,x6,x7,x8]):w.frozen? ⟨b,0,none⟩=false∧w.frozen? ⟨b,1,none⟩=false∧w.frozen? ⟨b,2,none⟩=false∧w.frozen? ⟨b,3,none⟩=false∧w.frozen? ⟨b,4,none⟩=false∧w.frozen? ⟨b,5,none⟩=false∧w.frozen? ⟨b,6,none⟩=false∧w.frozen? ⟨b,7,none⟩=false∧w.frozen? ⟨b,8,none⟩=false :=
  ⟨(h.2 0 _ rfl).2,(h.2 1 _ rfl).2,(h.2 2 _ rfl).2,(h.2 3 _ rfl).2,(h.2 4 _ rfl).2,(h.2 5 _ rfl).2,(h.2 6 _ rfl).2,(h.2 7 _ rfl).2,(h.2 8 _ rfl).2⟩
theorem ownL_new14 (w:World) (x0 x1 x2 x3 x4 x5 x6 x7 x8 x9 x10 x11 x12 x13:Int) (t:TypeId):OwnL (w.alloc (.cells #[.int .i64 x0,.int .i64 x1,.int .i64 x2,.int .i64 x3,.int .i64 x4,.int .i64 x5,.int .i64 x6,.int .i64 x7,.int .i64 x8,.int .i64 x9,.int .i64 x10,.int .i64 x11,.int .i64 x12,.int .i64 x13] t)) w.heap.size [x0,x1,x2,x3,x4,x5,x6,x7,x8,x9,x10,x11,x12,x13]:=by
  refine ⟨by simp,fun i x e=>?_⟩
  match i,e with
  | 0,e=>(simp only [List.getElem?_cons_zero] at e;cases e;exact ⟨by go_simp,by go_simp⟩)
  | 1,e=>(simp only [List.getElem?_cons_zero,List.getElem?_cons_succ] at e;cases e;exact ⟨by go_simp,by go_simp⟩)
  | 2,e=>(simp only [List.getElem?_cons_zero,List.getElem?_cons_succ] at e;cases e;exact ⟨by go_simp,by go_simp⟩)
  | 3,e=>(simp only [List.getElem?_cons_zero,List.getElem?_cons_succ] at e;cases e;exact ⟨by go_simp,by go_simp⟩)
  | 4,e=>(simp only [List.getElem?_cons_zero,List.getElem?_cons_succ] at e;cases e;exact ⟨by go_simp,by go_simp⟩)
  | 5,e=>(simp only [List.getElem?_cons_zero,List.getElem?_cons_succ] at e;cases e;exact ⟨by go_simp,by go_simp⟩)
  | 6,e=>(simp only [List.getElem?_cons_zero,List.getElem?_cons_succ] at e;cases e;exact ⟨by go_simp,by go_simp⟩)
  | 7,e=>(simp only [List.getElem?_cons_zero,List.getElem?_cons_succ] at e;cases e;exact ⟨by go_simp,by go_simp⟩)
  | 8,e=>(simp only [List.getElem?_cons_zero,List.getElem?_cons_succ] at e;cases e;exact ⟨by go_simp,by go_simp⟩)
  | 9,e=>(simp only [List.getElem?_cons_zero,List.getElem?_cons_succ] at e;cases e;exact ⟨by go_simp,by go_simp⟩)
  | 10,e=>(simp only [List.getElem?_cons_zero,List.getElem?_cons_succ] at e;cases e;exact ⟨by go_simp,by go_simp⟩)
  | 11,e=>(simp only [List.getElem?_cons_zero,List.getElem?_cons_succ] at e;cases e;exact ⟨by go_simp,by go_simp⟩)
  | 12,e=>(simp only [List.getElem?_cons_zero,List.getElem?_cons_succ] at e;cases e;exact ⟨by go_simp,by go_simp⟩)
  | 13,e=>(simp only [List.getElem?_cons_zero,List.getElem?_cons_succ] at e;cases e;exact ⟨by go_simp,by go_simp⟩)
  | i + 14,e=>simp at e
theorem ownL_cells14 {w:World} {b:Nat} {x0 x1 x2 x3 x4 x5 x6 x7 x8 x9 x10 x11 x12 x13:Int} (h:OwnL w b [x0,x1,x2,x3,x4,x5,x6,x7,x8,x9,x10,x11,x12,x13]):w.cell? ⟨b,0,none⟩=some (.int .i64 x0)∧w.cell? ⟨b,1,none⟩=some (.int .i64 x1)∧w.cell? ⟨b,2,none⟩=some (.int .i64 x2)∧w.cell? ⟨b,3,none⟩=some (.int .i64 x3)∧w.cell? ⟨b,4,none⟩=some (.int .i64 x4)∧w.cell? ⟨b,5,none⟩=some (.int .i64 x5)∧w.cell? ⟨b,6,none⟩=some (.int .i64 x6)∧w.cell? ⟨b,7,none⟩=some (.int .i64 x7)∧w.cell? ⟨b,8,none⟩=some (.int .i64 x8)∧w.cell? ⟨b,9,none⟩=some (.int .i64 x9)∧w.cell? ⟨b,10,none⟩=some (.int .i64 x10)∧w.cell? ⟨b,11,none⟩=some (.int .i64 x11)∧w.cell? ⟨b,12,none⟩=some (.int .i64 x12)∧w.cell? ⟨b,13,none⟩=some (.int .i64 x13) :=
  ⟨(h.2 0 _ rfl).1,(h.2 1 _ rfl).1,(h.2 2 _ rfl).1,(h.2 3 _ rfl).1,(h.2 4 _ rfl).1,(h.2 5 _ rfl).1,(h.2 6 _ rfl).1,(h.2 7 _ rfl).1,(h.2 8 _ rfl).1,(h.2 9 _ rfl).1,(h.2 10 _ rfl).1,(h.2 11 _ rfl).1,(h.2 12 _ rfl).1,(h.2 13 _ rfl).1⟩
theorem ownL_free14 {w:World} {b:Nat} {x0 x1 x2 x3 x4 x5 x6 x7 x8 x9 x10 x11 x12 x13:Int} (h:OwnL w b [x0,x1,x2,x3,x4,x5,x6,x7,x8,x9,x10,x11,x12,x13]):w.frozen? ⟨b,0,none⟩=false∧w.frozen? ⟨b,1,none⟩=false∧w.frozen? ⟨b,2,none⟩=false∧w.frozen? ⟨b,3,none⟩=false∧w.frozen? ⟨b,4,none⟩=false∧w.frozen? ⟨b,5,none⟩=false∧w.frozen? ⟨b,6,none⟩=false∧w.frozen? ⟨b,7,none⟩=false∧w.frozen? ⟨b,8,none⟩=false∧w.frozen? ⟨b,9,none⟩=false∧w.frozen? ⟨b,10,none⟩=false∧w.frozen? ⟨b,11,none⟩=false∧w.frozen? ⟨b,12,none⟩=false∧w.frozen? ⟨b,13,none⟩=false :=
  ⟨(h.2 0 _ rfl).2,(h.2 1 _ rfl).2,(h.2 2 _ rfl).2,(h.2 3 _ rfl).2,(h.2 4 _ rfl).2,(h.2 5 _ rfl).2,(h.2 6 _ rfl).2,(h.2 7 _ rfl).2,(h.2 8 _ rfl).2,(h.2 9 _ rfl).2,(h.2 10 _ rfl).2,(h.2 11 _ rfl).2,(h.2 12 _ rfl).2,(h.2 13 _ rfl).2⟩
theorem chk_any (a:Option Addr) (n cap:Nat) (Q:Nat→Ch) (p:P3) (w:World) (r:LstC w a n Q) (hn:n≤140737488355328) :
    Calls Try.prog 80 #[.slice a n cap,ptv p] w fun e w'=>e=.returned (.int .i64 (ocode n Q p))∧Below w.heap.size w w':=by
  have V:Hid (∀ W,Below w.heap.size w W→Calls Try.prog 22 #[.slice a n cap] W fun e w'=>e=.returned (.int .i64 (ccode n Q))∧Below W.heap.size W w'):=Lib.hid (fun W B=>fvc_any a n cap Q W (lstC_below r B) hn)
  clear r hn
  unfold ocode
  generalize ccode n Q=c at *
  by_cases z:c=0
  · subst z
    rw [if_pos rfl]
    cases hk:inP 64 p with
    | false =>
      have I:Hid (∀ W,Calls Try.prog 101 #[ptv p,.int .i64 64] W fun e w'=>e=.returned (.bool false)∧Below W.heap.size W w'):=Lib.hid (fun W=>by have z:=vwi_any p 64 W (by decide) (by decide);rw [hk] at z;exact z)
      rw [if_neg (by decide)]
      clear hk
      go_enter Try.func80,Try.ntmps80
      go_wp2_with fail
      refine (V.out _ (by (repeat' (first | exact Below.refl _ _ | refine Below.setCell ?_ (by simp <;> omega) _ | refine balloc ?_ _ | refine Below.drew ?_ | refine bdrewN ?_ _)))).mono ?_
      rintro e w1 ⟨rfl,hb1⟩
      obtain ⟨t1,t2,t3,t4,t5,t6,t7⟩:=own_below (own_new w p 38) hb1
      go_wp2_with fail
      refine (vof_any p _).mono ?_
      rintro e w2 ⟨rfl,hb2⟩
      clear t1 t2 t3 t4 t5 t6 t7
      go_wp2_with fail
      refine (I.out _).mono ?_
      rintro e w3 ⟨rfl,hb3⟩
      go_wp2
      go_ret
      exact ⟨rfl,by (repeat' (first | exact Below.refl _ _ | refine bstep ?_ hb3 | refine bstep ?_ hb2 | refine bstep ?_ hb1 | refine Below.setCell ?_ (by simp <;> omega) _ | refine balloc ?_ _ | refine Below.drew ?_ | refine bdrewN ?_ _))⟩
    | true =>
      have I:Hid (∀ W,Calls Try.prog 101 #[ptv p,.int .i64 64] W fun e w'=>e=.returned (.bool true)∧Below W.heap.size W w'):=Lib.hid (fun W=>by have z:=vwi_any p 64 W (by decide) (by decide);rw [hk] at z;exact z)
      rw [if_pos rfl]
      clear hk
      go_enter Try.func80,Try.ntmps80
      go_wp2_with fail
      refine (V.out _ (by (repeat' (first | exact Below.refl _ _ | refine Below.setCell ?_ (by simp <;> omega) _ | refine balloc ?_ _ | refine Below.drew ?_ | refine bdrewN ?_ _)))).mono ?_
      rintro e w1 ⟨rfl,hb1⟩
      obtain ⟨t1,t2,t3,t4,t5,t6,t7⟩:=own_below (own_new w p 38) hb1
      go_wp2_with fail
      refine (vof_any p _).mono ?_
      rintro e w2 ⟨rfl,hb2⟩
      clear t1 t2 t3 t4 t5 t6 t7
      go_wp2_with fail
      refine (I.out _).mono ?_
      rintro e w3 ⟨rfl,hb3⟩
      go_wp2
      go_ret
      exact ⟨rfl,by (repeat' (first | exact Below.refl _ _ | refine bstep ?_ hb3 | refine bstep ?_ hb2 | refine bstep ?_ hb1 | refine Below.setCell ?_ (by simp <;> omega) _ | refine balloc ?_ _ | refine Below.drew ?_ | refine bdrewN ?_ _))⟩
  · rw [if_neg z]
    have z1:=int_ne0 z
    clear z
    go_enter Try.func80,Try.ntmps80
    go_wp2_with fail
    refine (V.out _ (by (repeat' (first | exact Below.refl _ _ | refine Below.setCell ?_ (by simp <;> omega) _ | refine balloc ?_ _ | refine Below.drew ?_ | refine bdrewN ?_ _)))).mono ?_
    rintro e w1 ⟨rfl,hb1⟩
    go_wp2
    go_ret
    exact ⟨rfl,by (repeat' (first | exact Below.refl _ _ | refine bstep ?_ hb1 | refine Below.setCell ?_ (by simp <;> omega) _ | refine balloc ?_ _ | refine Below.drew ?_ | refine bdrewN ?_ _))⟩
theorem giv_any (a:Option Addr) (n cap:Nat) (Q:Nat→Ch) (p:P3) (w:World) (r:LstC w a n Q) (hn:n≤140737488355328) :
    Calls Try.prog 108 #[.slice a n cap,ptv p] w fun e w'=>e=.returned (.int .i64 (ocode n Q p))∧Below w.heap.size w w':=by
  have V:Hid (∀ W,Below w.heap.size w W→Calls Try.prog 26 #[.slice a n cap] W fun e w'=>e=.returned (.int .i64 (ccode n Q))∧Below W.heap.size W w'):=Lib.hid (fun W B=>rfvc_any a n cap Q W (lstC_below r B) hn)
  clear r hn
  unfold ocode
  generalize ccode n Q=c at *
  by_cases z:c=0
  · subst z
    rw [if_pos rfl]
    cases hk:inP 64 p with
    | false =>
      have I:Hid (∀ W,Calls Try.prog 41 #[ptv p,.int .i64 64] W fun e w'=>e=.returned (.bool false)∧Below W.heap.size W w'):=Lib.hid (fun W=>by have z:=small_any p 64 W (by decide) (by decide);rw [hk] at z;exact z)
      rw [if_neg (by decide)]
      clear hk
      go_enter Try.func108,Try.ntmps108
      go_wp2_with fail
      refine (V.out _ (by (repeat' (first | exact Below.refl _ _ | refine Below.setCell ?_ (by simp <;> omega) _ | refine balloc ?_ _ | refine Below.drew ?_ | refine bdrewN ?_ _)))).mono ?_
      rintro e w1 ⟨rfl,hb1⟩
      obtain ⟨t1,t2,t3,t4,t5,t6,t7⟩:=own_below (own_new w p 38) hb1
      go_wp2_with fail
      refine (I.out _).mono ?_
      rintro e w3 ⟨rfl,hb3⟩
      go_wp2
      go_ret
      exact ⟨rfl,by (repeat' (first | exact Below.refl _ _ | refine bstep ?_ hb3 | refine bstep ?_ hb1 | refine Below.setCell ?_ (by simp <;> omega) _ | refine balloc ?_ _ | refine Below.drew ?_ | refine bdrewN ?_ _))⟩
    | true =>
      have I:Hid (∀ W,Calls Try.prog 41 #[ptv p,.int .i64 64] W fun e w'=>e=.returned (.bool true)∧Below W.heap.size W w'):=Lib.hid (fun W=>by have z:=small_any p 64 W (by decide) (by decide);rw [hk] at z;exact z)
      rw [if_pos rfl]
      clear hk
      go_enter Try.func108,Try.ntmps108
      go_wp2_with fail
      refine (V.out _ (by (repeat' (first | exact Below.refl _ _ | refine Below.setCell ?_ (by simp <;> omega) _ | refine balloc ?_ _ | refine Below.drew ?_ | refine bdrewN ?_ _)))).mono ?_
      rintro e w1 ⟨rfl,hb1⟩
      obtain ⟨t1,t2,t3,t4,t5,t6,t7⟩:=own_below (own_new w p 38) hb1
      go_wp2_with fail
      refine (I.out _).mono ?_
      rintro e w3 ⟨rfl,hb3⟩
      go_wp2
      go_ret
      exact ⟨rfl,by (repeat' (first | exact Below.refl _ _ | refine bstep ?_ hb3 | refine bstep ?_ hb1 | refine Below.setCell ?_ (by simp <;> omega) _ | refine balloc ?_ _ | refine Below.drew ?_ | refine bdrewN ?_ _))⟩
  · rw [if_neg z]
    have z1:=int_ne0 z
    clear z
    go_enter Try.func108,Try.ntmps108
    go_wp2_with fail
    refine (V.out _ (by (repeat' (first | exact Below.refl _ _ | refine Below.setCell ?_ (by simp <;> omega) _ | refine balloc ?_ _ | refine Below.drew ?_ | refine bdrewN ?_ _)))).mono ?_
    rintro e w1 ⟨rfl,hb1⟩
    go_wp2
    go_ret
    exact ⟨rfl,by (repeat' (first | exact Below.refl _ _ | refine bstep ?_ hb1 | refine Below.setCell ?_ (by simp <;> omega) _ | refine balloc ?_ _ | refine Below.drew ?_ | refine bdrewN ?_ _))⟩
end Go.Proofs.Ytpocbdompamnnaa
