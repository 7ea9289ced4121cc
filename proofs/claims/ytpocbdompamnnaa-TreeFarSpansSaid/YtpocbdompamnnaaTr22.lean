import Derived.Test.YtpocbdompamnnaaTr21
namespace Go.Proofs.Ytpocbdompamnnaa
open Go.ChangeShapes Go.WideShapes Go.RowKit
open Sh
set_option maxRecDepth 100000 in
set_option maxHeartbeats 4000000 in
theorem tsane_any (w:World):Calls Try.prog 7 #[] w fun e w'=>e=.returned (.bool true)∧Below w.heap.size w w':=by
  have HC:=Lib.hid (fun (A B:Option Addr) (n cO K cN:Nat) (T:Nat→Ni) (W:World) (r:LstD W B K T) (hK:K≤1000)=>height_any A B n cO K cN T W r hK)
  have LC:=Lib.hid (fun (A B:Option Addr) (n cO K cN:Nat) (T:Nat→Ni) (W:World) (r:LstD W B K T) (hK:K≤1000)=>leaves_any A B n cO K cN T W r hK)
  go_enter Try.func7,Try.ntmps7
  go_wp2_with fail
  refine (row_any _).mono ?_
  rintro e w1 ⟨v,rfl,ow,hb1⟩
  obtain ⟨g,cap,rfl,hg,rc⟩:=rowC_of ow (by decide)
  have L:LstC w1 (some ⟨g,0,none⟩) 4 rowQ:=fun _=>⟨g,0,rfl,rc⟩
  clear ow rc hg
  go_wp2_with fail
  refine (build_any (spn_of sofC_12) _ 4 cap 1 rowQ _ L (by decide) (fun _=>by decide)).mono ?_
  rintro e w2 ⟨u,v,rfl,tr,hb2⟩
  have B2:=Lib.hid (bstep hb1 hb2)
  rw [row_ok] at tr
  unfold TrR at tr
  rw [if_pos rfl] at tr
  obtain ⟨A,cO,rfl⟩:=tr_own_slice tr.1
  obtain ⟨B,cN,rfl,ld⟩:=lstD_own tr.2
  simp only [row_ok,row_len]
  rw [row_len] at ld
  obtain ⟨T,eT⟩:∃ T,niL (treT rowQ (1:Int).toNat 4).1=T:=⟨_,rfl⟩
  have q1:=row_hgt
  have q2:=row_lvs
  have q3:=row_kids
  rw [eT] at q1 q2 q3 ld
  have T2:=Lib.hid ld
  have Q1:=Lib.hid q1
  have Q2:=Lib.hid q2
  have Q3:=Lib.hid q3
  clear tr ld eT q1 q2 q3 hb1 hb2 L
  go_wp2_with fail
  have c0:(w2.alloc (.cells #[.slice A 4 cO,.slice B 7 cN] 27)).cell? ⟨w2.heap.size,0,none⟩=some (.slice A 4 cO):=by go_simp
  have c1:(w2.alloc (.cells #[.slice A 4 cO,.slice B 7 cN] 27)).cell? ⟨w2.heap.size,1,none⟩=some (.slice B 7 cN):=by go_simp
  have hl:w2.heap.size < (w2.alloc (.cells #[.slice A 4 cO,.slice B 7 cN] 27)).heap.size:=by simp
  have b3:Below w2.heap.size w2 (w2.alloc (.cells #[.slice A 4 cO,.slice B 7 cN] 27)):=(Below.refl _ w2).alloc (Nat.le_refl _) _
  generalize w2.alloc (.cells #[.slice A 4 cO,.slice B 7 cN] 27)=w3 at *
  have t3:=lstD_below T2.out b3
  refine (HC.out A B 4 cO 7 cN T w3 t3 (by decide)).mono ?_
  rintro e w4 ⟨rfl,hb4⟩
  rw [Q1.out]
  have t4:=lstD_below t3 hb4
  have d0:=(hb4.cell (p:=⟨w2.heap.size,0,none⟩) hl).trans c0
  have d1:=(hb4.cell (p:=⟨w2.heap.size,1,none⟩) hl).trans c1
  have hl4:=Nat.lt_of_lt_of_le hl hb4.size
  have B4:=Lib.hid (bstep (bstep B2.out b3) hb4)
  have T4:=Lib.hid t4
  clear T2 t3 t4 c0 c1 b3 hb4 hl B2
  go_wp2_with fail
  refine (LC.out A B 4 cO 7 cN T w4 T4.out (by decide)).mono ?_
  rintro e w5 ⟨rfl,hb5⟩
  rw [Q2.out]
  have t5:=lstD_below T4.out hb5
  have c0:=(hb5.cell (p:=⟨w2.heap.size,0,none⟩) hl4).trans d0
  have c1:=(hb5.cell (p:=⟨w2.heap.size,1,none⟩) hl4).trans d1
  have B5:=Lib.hid (bstep B4.out hb5)
  obtain ⟨b,off,rfl,rd⟩:=t5 (by decide)
  obtain ⟨_,_,e2,e3,_⟩:=rd.2 0 (by decide)
  rw [Q3.out.1] at e2
  rw [Q3.out.2] at e3
  rw [show off + 0 * 8 + 2=off + 2 by omega] at e2
  rw [show off + 0 * 8 + 3=off + 3 by omega] at e3
  clear T4 d0 d1 hb5 rd B4
  go_wp2
  go_ret
  exact ⟨rfl,B5.out⟩
end Go.Proofs.Ytpocbdompamnnaa
