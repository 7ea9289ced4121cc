/-
  The document's half of two points whose sum is even.
  The document's Cut: the parts of a panel,level by level.
  The contract of the document's Cut.
  The document's place and asked.
  The walk of the document's mean: behind its callees' contracts.
  The contracts of the document's Mean and MeanCube,and the chapter's example.
-/
import Derived.Test.YtciimaojoococaaGreatFgMd
import Derived.Test.YtciimaojoococaaGreatSo32
import Derived.Test.YtciimaojoococaaGreatSoMc
namespace Go.Proofs.YtciimaojoococaaGreat
open Go.ChangeShapes Go.WideShapes Go.RowKit
open Sh
theorem half_num (x y:Int):(2 * x + 2 * y).tdiv 2=x + y:=by
  rw [← Int.mul_add,Int.mul_tdiv_cancel_left _ (by decide)]
theorem rhalf_any (u v:P3) (w:World) (h:BdP 1000000 u) (k:BdP 1000000 v):Calls Tryz.prog 138 #[ptv (tim 2 u),ptv (tim 2 v)] w fun e w'=>e=.returned (ptv (add u v))∧Below w.heap.size w w':=by
  have e1:=half_num u.1 v.1
  have e2:=half_num u.2.1 v.2.1
  have e3:=half_num u.2.2 v.2.2
  simp only [BdP] at h k
  obtain ⟨h1,h2,h3,h4,h5,h6⟩:=h
  obtain ⟨k1,k2,k3,k4,k5,k6⟩:=k
  simp only [tim,add]
  go_enter Tryz.func138,Tryz.ntmps138
  go_wp2
  refine bodyPost_ret (v:=.agg #[.int .i64 (u.1 + v.1),.int .i64 (u.2.1 + v.2.1),.int .i64 (u.2.2 + v.2.2)]) (by rw [results_cell rfl];go_simp) rfl ⟨rfl,?_⟩
  (repeat' (first | exact Below.refl _ _ | refine Below.setCell ?_ (by simp <;> omega) _ | refine balloc ?_ _ | refine Below.drew ?_ | refine bdrewN ?_ _))
end Go.Proofs.YtciimaojoococaaGreat
namespace Go.Proofs.YtciimaojoococaaGreat
open Go.ChangeShapes Go.WideShapes Go.RowKit
open Sh
def rcaOps : Array Oper := #[{ dst := some 28, op := Op.move (Operand.tmp 5), type := 97, pos := "ref.go:24", after := #[], guard := none }, { dst := some 29, op := Op.move (Operand.tmp 8), type := 3, pos := "ref.go:24", after := #[], guard := none }, { dst := some 30, op := Op.indexAddr 97 (Operand.tmp 28) (Operand.tmp 29), type := 0, pos := "ref.go:24", after := #[{ on := 0, ground := Ground.data }, { on := 1, ground := Ground.data }], guard := none }, { dst := some 31, op := Op.fieldAddr 42 (Operand.tmp 30) 0, type := 0, pos := "ref.go:24", after := #[{ on := 2, ground := Ground.data }], guard := none }, { dst := some 32, op := Op.load 24 (Operand.tmp 31), type := 24, pos := "ref.go:24", after := #[{ on := 3, ground := Ground.data }], guard := none }, { dst := some 33, op := Op.call { callee := Callee.value (Operand.func 91), args := #[Operand.tmp 32, Operand.const (Value.int IntKind.i64 2)], argTypes := #[24, 3] }, type := 24, pos := "ref.go:24", after := #[{ on := 4, ground := Ground.data }], guard := none }, { dst := some 34, op := Op.move (Operand.tmp 5), type := 97, pos := "ref.go:24", after := #[], guard := none }, { dst := some 35, op := Op.move (Operand.tmp 8), type := 3, pos := "ref.go:24", after := #[], guard := none }, { dst := some 36, op := Op.indexAddr 97 (Operand.tmp 34) (Operand.tmp 35), type := 0, pos := "ref.go:24", after := #[{ on := 6, ground := Ground.data }, { on := 7, ground := Ground.data }], guard := none }, { dst := some 37, op := Op.fieldAddr 42 (Operand.tmp 36) 1, type := 0, pos := "ref.go:24", after := #[{ on := 8, ground := Ground.data }], guard := none }, { dst := some 38, op := Op.load 24 (Operand.tmp 37), type := 24, pos := "ref.go:24", after := #[{ on := 9, ground := Ground.data }], guard := none }, { dst := some 39, op := Op.call { callee := Callee.value (Operand.func 91), args := #[Operand.tmp 38, Operand.const (Value.int IntKind.i64 2)], argTypes := #[24, 3] }, type := 24, pos := "ref.go:24", after := #[{ on := 10, ground := Ground.data }, { on := 5, ground := Ground.chain }], guard := none }, { dst := some 40, op := Op.move (Operand.tmp 5), type := 97, pos := "ref.go:24", after := #[], guard := none }, { dst := some 41, op := Op.move (Operand.tmp 8), type := 3, pos := "ref.go:24", after := #[], guard := none }, { dst := some 42, op := Op.indexAddr 97 (Operand.tmp 40) (Operand.tmp 41), type := 0, pos := "ref.go:24", after := #[{ on := 12, ground := Ground.data }, { on := 13, ground := Ground.data }], guard := none }, { dst := some 43, op := Op.fieldAddr 42 (Operand.tmp 42) 2, type := 0, pos := "ref.go:24", after := #[{ on := 14, ground := Ground.data }], guard := none }, { dst := some 44, op := Op.load 24 (Operand.tmp 43), type := 24, pos := "ref.go:24", after := #[{ on := 15, ground := Ground.data }], guard := none }, { dst := some 45, op := Op.call { callee := Callee.value (Operand.func 91), args := #[Operand.tmp 44, Operand.const (Value.int IntKind.i64 2)], argTypes := #[24, 3] }, type := 24, pos := "ref.go:24", after := #[{ on := 16, ground := Ground.data }, { on := 11, ground := Ground.chain }], guard := none }, { dst := some 9, op := Op.alloc 24, type := 0, pos := "ref.go:24", after := #[], guard := none }, { dst := some 10, op := Op.alloc 24, type := 0, pos := "ref.go:24", after := #[], guard := none }, { dst := some 11, op := Op.alloc 24, type := 0, pos := "ref.go:24", after := #[], guard := none }, { dst := none, op := Op.store 24 (Operand.tmp 9) (Operand.tmp 33), type := 0, pos := "ref.go:24", after := #[{ on := 18, ground := Ground.data }, { on := 5, ground := Ground.data }, { on := 17, ground := Ground.chain }, { on := 0, ground := Ground.phase }, { on := 1, ground := Ground.phase }, { on := 2, ground := Ground.phase }, { on := 3, ground := Ground.phase }, { on := 4, ground := Ground.phase }, { on := 5, ground := Ground.phase }, { on := 6, ground := Ground.textOnly Departure.lateStores }, { on := 7, ground := Ground.textOnly Departure.lateStores }, { on := 8, ground := Ground.textOnly Departure.lateStores }, { on := 9, ground := Ground.textOnly Departure.lateStores }, { on := 10, ground := Ground.textOnly Departure.lateStores }, { on := 11, ground := Ground.textOnly Departure.lateStoresUnsure }, { on := 12, ground := Ground.textOnly Departure.lateStores }, { on := 13, ground := Ground.textOnly Departure.lateStores }, { on := 14, ground := Ground.textOnly Departure.lateStores }, { on := 15, ground := Ground.textOnly Departure.lateStores }, { on := 16, ground := Ground.textOnly Departure.lateStores }, { on := 17, ground := Ground.textOnly Departure.lateStoresUnsure }, { on := 18, ground := Ground.phase }, { on := 19, ground := Ground.phase }, { on := 20, ground := Ground.phase }], guard := none }, { dst := none, op := Op.store 24 (Operand.tmp 10) (Operand.tmp 39), type := 0, pos := "ref.go:24", after := #[{ on := 19, ground := Ground.data }, { on := 11, ground := Ground.data }, { on := 21, ground := Ground.chain }, { on := 0, ground := Ground.phase }, { on := 1, ground := Ground.phase }, { on := 2, ground := Ground.phase }, { on := 3, ground := Ground.phase }, { on := 4, ground := Ground.phase }, { on := 5, ground := Ground.phase }, { on := 6, ground := Ground.phase }, { on := 7, ground := Ground.phase }, { on := 8, ground := Ground.phase }, { on := 9, ground := Ground.phase }, { on := 10, ground := Ground.phase }, { on := 11, ground := Ground.phase }, { on := 12, ground := Ground.textOnly Departure.lateStores }, { on := 13, ground := Ground.textOnly Departure.lateStores }, { on := 14, ground := Ground.textOnly Departure.lateStores }, { on := 15, ground := Ground.textOnly Departure.lateStores }, { on := 16, ground := Ground.textOnly Departure.lateStores }, { on := 17, ground := Ground.textOnly Departure.lateStoresUnsure }, { on := 18, ground := Ground.phase }, { on := 19, ground := Ground.phase }, { on := 20, ground := Ground.phase }, { on := 21, ground := Ground.phase }], guard := none }, { dst := none, op := Op.store 24 (Operand.tmp 11) (Operand.tmp 45), type := 0, pos := "ref.go:24", after := #[{ on := 20, ground := Ground.data }, { on := 17, ground := Ground.data }, { on := 22, ground := Ground.chain }, { on := 0, ground := Ground.phase }, { on := 1, ground := Ground.phase }, { on := 2, ground := Ground.phase }, { on := 3, ground := Ground.phase }, { on := 4, ground := Ground.phase }, { on := 5, ground := Ground.phase }, { on := 6, ground := Ground.phase }, { on := 7, ground := Ground.phase }, { on := 8, ground := Ground.phase }, { on := 9, ground := Ground.phase }, { on := 10, ground := Ground.phase }, { on := 11, ground := Ground.phase }, { on := 12, ground := Ground.phase }, { on := 13, ground := Ground.phase }, { on := 14, ground := Ground.phase }, { on := 15, ground := Ground.phase }, { on := 16, ground := Ground.phase }, { on := 17, ground := Ground.phase }, { on := 18, ground := Ground.phase }, { on := 19, ground := Ground.phase }, { on := 20, ground := Ground.phase }, { on := 21, ground := Ground.phase }, { on := 22, ground := Ground.phase }], guard := none }]
def rcaT (b:Nat) (off:Nat) (m:Nat) (cap:Nat) (k:Nat) (y0 y1 y2 y3 y4 y6 y7 y12 y13 y14 y15 y16 y17 y18 y19 y20 y21 y22 y23 y24 y25 y26 y27 y46 y47 y48 y49 y50 y51 y52 y53 y54 y55 y56 y57 y58 y59 y60 y61 y62 y63 y64 y65 y66 y67 y68 y69 y70 y71 y72 y73 y74 y75:Value) (X:Nat→Value):Array Value:=#[y0,y1,y2,y3,y4,.slice (some ⟨b,off,none⟩) m cap,y6,y7,.int .i64 k,X 9,X 10,X 11,y12,y13,y14,y15,y16,y17,y18,y19,y20,y21,y22,y23,y24,y25,y26,y27,X 28,X 29,X 30,X 31,X 32,X 33,X 34,X 35,X 36,X 37,X 38,X 39,X 40,X 41,X 42,X 43,X 44,X 45,y46,y47,y48,y49,y50,y51,y52,y53,y54,y55,y56,y57,y58,y59,y60,y61,y62,y63,y64,y65,y66,y67,y68,y69,y70,y71,y72,y73,y74,y75]
theorem rcaT_eq (b:Nat) (off:Nat) (m:Nat) (cap:Nat) (k:Nat) (y0 y1 y2 y3 y4 y6 y7 y12 y13 y14 y15 y16 y17 y18 y19 y20 y21 y22 y23 y24 y25 y26 y27 y46 y47 y48 y49 y50 y51 y52 y53 y54 y55 y56 y57 y58 y59 y60 y61 y62 y63 y64 y65 y66 y67 y68 y69 y70 y71 y72 y73 y74 y75:Value) (X:Nat→Value):rcaT b off m cap k y0 y1 y2 y3 y4 y6 y7 y12 y13 y14 y15 y16 y17 y18 y19 y20 y21 y22 y23 y24 y25 y26 y27 y46 y47 y48 y49 y50 y51 y52 y53 y54 y55 y56 y57 y58 y59 y60 y61 y62 y63 y64 y65 y66 y67 y68 y69 y70 y71 y72 y73 y74 y75 X=#[y0,y1,y2,y3,y4,.slice (some ⟨b,off,none⟩) m cap,y6,y7,.int .i64 k,X 9,X 10,X 11,y12,y13,y14,y15,y16,y17,y18,y19,y20,y21,y22,y23,y24,y25,y26,y27,X 28,X 29,X 30,X 31,X 32,X 33,X 34,X 35,X 36,X 37,X 38,X 39,X 40,X 41,X 42,X 43,X 44,X 45,y46,y47,y48,y49,y50,y51,y52,y53,y54,y55,y56,y57,y58,y59,y60,y61,y62,y63,y64,y65,y66,y67,y68,y69,y70,y71,y72,y73,y74,y75]:=rfl
def rcaI (G:World→Prop) (N:Nat) (b off m cap k:Nat) (t:P9) (y0 y1 y2 y3 y4 y6 y7 y12 y13 y14 y15 y16 y17 y18 y19 y20 y21 y22 y23 y24 y25 y26 y27 y46 y47 y48 y49 y50 y51 y52 y53 y54 y55 y56 y57 y58 y59 y60 y61 y62 y63 y64 y65 y66 y67 y68 y69 y70 y71 y72 y73 y74 y75:Value) (l:Array Bool) (A:Act) (W:World):Prop :=
  l.size=24∧∃ X:Nat→Value,A={ tmps:=rcaT b off m cap k y0 y1 y2 y3 y4 y6 y7 y12 y13 y14 y15 y16 y17 y18 y19 y20 y21 y22 y23 y24 y25 y26 y27 y46 y47 y48 y49 y50 y51 y52 y53 y54 y55 y56 y57 y58 y59 y60 y61 y62 y63 y64 y65 y66 y67 y68 y69 y70 y71 y72 y73 y74 y75 X,defers:=[] }∧N≤W.heap.size∧G W∧PV l 0 (X 28) (.slice (some ⟨b,off,none⟩) m cap)∧PV l 1 (X 29) (.int .i64 k)∧PV l 2 (X 30) (.pointer (some ⟨b,off + k * 9,none⟩))∧PV l 3 (X 31) (.pointer (some ⟨b,off + k * 9,none⟩))∧PV l 4 (X 32) (ptv t.1)∧PV l 5 (X 33) (ptv (tim 2 t.1))∧PV l 6 (X 34) (.slice (some ⟨b,off,none⟩) m cap)∧PV l 7 (X 35) (.int .i64 k)∧PV l 8 (X 36) (.pointer (some ⟨b,off + k * 9,none⟩))∧PV l 9 (X 37) (.pointer (some ⟨b,off + k * 9 + 3,none⟩))∧PV l 10 (X 38) (ptv t.2.1)∧PV l 11 (X 39) (ptv (tim 2 t.2.1))∧PV l 12 (X 40) (.slice (some ⟨b,off,none⟩) m cap)∧PV l 13 (X 41) (.int .i64 k)∧PV l 14 (X 42) (.pointer (some ⟨b,off + k * 9,none⟩))∧PV l 15 (X 43) (.pointer (some ⟨b,off + k * 9 + 6,none⟩))∧PV l 16 (X 44) (ptv t.2.2)∧PV l 17 (X 45) (ptv (tim 2 t.2.2))∧QA l W (X 9) 18 21 N ((tim 2 t.1))∧QA l W (X 10) 19 22 N ((tim 2 t.2.1))∧QA l W (X 11) 20 23 N ((tim 2 t.2.2))∧DD l (X 9) (X 10) 18 19∧DD l (X 9) (X 11) 18 20∧DD l (X 10) (X 11) 19 20
set_option maxRecDepth 100000 in
set_option maxHeartbeats 4000000 in
theorem rca_steps (G:World→Prop) (N:Nat) (b off m cap k:Nat) (t:P9) (y0 y1 y2 y3 y4 y6 y7 y12 y13 y14 y15 y16 y17 y18 y19 y20 y21 y22 y23 y24 y25 y26 y27 y46 y47 y48 y49 y50 y51 y52 y53 y54 y55 y56 y57 y58 y59 y60 y61 y62 y63 y64 y65 y66 y67 y68 y69 y70 y71 y72 y73 y74 y75:Value) (Q:Exit→Act→World→Prop) (T0:Hid (BdP 4611686018427387904 (tim 2 t.1))) (T1:Hid (BdP 4611686018427387904 (tim 2 t.2.1))) (T2:Hid (BdP 4611686018427387904 (tim 2 t.2.2))) (HK:Hid ((k:Int) < (m:Int)∧0≤(k:Int))) (GC:Hid (∀ W:World,G W→W.cell? ⟨b,off + k * 9,none⟩=some (.int .i64 t.1.1)∧W.cell? ⟨b,off + k * 9 + 1,none⟩=some (.int .i64 t.1.2.1)∧W.cell? ⟨b,off + k * 9 + 1 + 1,none⟩=some (.int .i64 t.1.2.2)∧W.cell? ⟨b,off + k * 9 + 3,none⟩=some (.int .i64 t.2.1.1)∧W.cell? ⟨b,off + k * 9 + 3 + 1,none⟩=some (.int .i64 t.2.1.2.1)∧W.cell? ⟨b,off + k * 9 + 3 + 1 + 1,none⟩=some (.int .i64 t.2.1.2.2)∧W.cell? ⟨b,off + k * 9 + 6,none⟩=some (.int .i64 t.2.2.1)∧W.cell? ⟨b,off + k * 9 + 6 + 1,none⟩=some (.int .i64 t.2.2.2.1)∧W.cell? ⟨b,off + k * 9 + 6 + 1 + 1,none⟩=some (.int .i64 t.2.2.2.2))) (GI:Hid (∀ W W':World,Below N W W'→G W→G W')) :
    allOps (fun i o=>∀ (l:Array Bool) (A:Act) (W:World),rcaI G N b off m cap k t y0 y1 y2 y3 y4 y6 y7 y12 y13 y14 y15 y16 y17 y18 y19 y20 y21 y22 y23 y24 y25 y26 y27 y46 y47 y48 y49 y50 y51 y52 y53 y54 y55 y56 y57 y58 y59 y60 y61 y62 y63 y64 y65 y66 y67 y68 y69 y70 y71 y72 y73 y74 y75 l A W→l.getD i true=false→(∀ e ∈ o.after,Region.binds .any e=true→l.getD e.on false=true)→∀ K':Act→World→Prop,(∀ A' W',rcaI G N b off m cap k t y0 y1 y2 y3 y4 y6 y7 y12 y13 y14 y15 y16 y17 y18 y19 y20 y21 y22 y23 y24 y25 y26 y27 y46 y47 y48 y49 y50 y51 y52 y53 y54 y55 y56 y57 y58 y59 y60 y61 y62 y63 y64 y65 y66 y67 y68 y69 y70 y71 y72 y73 y74 y75 (l.setIfInBounds i true) A' W'→K' A' W')→if Region.wanted o (yielded rcaOps A.tmps)=true then Oper.wp Tryz.prog o A W K' Q else K' (A.put o.dst undef) W) 0 rcaOps.toList:=by
  simp only [rcaOps,allOps]
  refine ⟨?_,?_,?_,?_,?_,?_,?_,?_,?_,?_,?_,?_,?_,?_,?_,?_,?_,?_,?_,?_,?_,?_,?_,?_,trivial⟩
  · rintro l A W ⟨hl,X,rfl,hN,g,F⟩ h1 hp K hK
    rw [rcaT_eq]
    have g':=Lib.hid g
    have F':=Lib.hid F;clear F g
    have hN':=Lib.hid hN;clear hN;have hl':=Lib.hid hl;clear hl;have h1':=Lib.hid h1;clear h1;have hp':=Lib.hid hp;clear hp;have hK':=Lib.hid hK;clear hK
    go_simp
    have hK:=hK'.out;have hN:=hN'.out;have hl:=hl'.out;have h1:=h1'.out
    obtain ⟨p0,p1,p2,p3,p4,p5,p6,p7,p8,p9,p10,p11,p12,p13,p14,p15,p16,p17,qa0,qa1,qa2,d0_1,d0_2,d1_2⟩:=F'.out
    have g:=g'.out
    refine hK _ _ ⟨by simpa using hl,(upd X 28 (.slice (some ⟨b,off,none⟩) m cap)),rfl,hN,g,PV.made rfl,p1.k,p2.k,p3.k,p4.k,p5.k,p6.k,p7.k,p8.k,p9.k,p10.k,p11.k,p12.k,p13.k,p14.k,p15.k,p16.k,p17.k,qa0.keep (by decide) (by decide) (fun _ _ h=>h),qa1.keep (by decide) (by decide) (fun _ _ h=>h),qa2.keep (by decide) (by decide) (fun _ _ h=>h),d0_1.k,d0_2.k,d1_2.k⟩
  · rintro l A W ⟨hl,X,rfl,hN,g,F⟩ h1 hp K hK
    rw [rcaT_eq]
    have g':=Lib.hid g
    have F':=Lib.hid F;clear F g
    have hN':=Lib.hid hN;clear hN;have hl':=Lib.hid hl;clear hl;have h1':=Lib.hid h1;clear h1;have hp':=Lib.hid hp;clear hp;have hK':=Lib.hid hK;clear hK
    go_simp
    have hK:=hK'.out;have hN:=hN'.out;have hl:=hl'.out;have h1:=h1'.out
    obtain ⟨p0,p1,p2,p3,p4,p5,p6,p7,p8,p9,p10,p11,p12,p13,p14,p15,p16,p17,qa0,qa1,qa2,d0_1,d0_2,d1_2⟩:=F'.out
    have g:=g'.out
    refine hK _ _ ⟨by simpa using hl,(upd X 29 (.int .i64 k)),rfl,hN,g,p0.k,PV.made rfl,p2.k,p3.k,p4.k,p5.k,p6.k,p7.k,p8.k,p9.k,p10.k,p11.k,p12.k,p13.k,p14.k,p15.k,p16.k,p17.k,qa0.keep (by decide) (by decide) (fun _ _ h=>h),qa1.keep (by decide) (by decide) (fun _ _ h=>h),qa2.keep (by decide) (by decide) (fun _ _ h=>h),d0_1.k,d0_2.k,d1_2.k⟩
  · rintro l A W ⟨hl,X,rfl,hN,g,F⟩ h1 hp K hK
    have e0:=F.1 (hp ⟨0,.data⟩ (by simp) rfl)
    have e1:=F.2.1 (hp ⟨1,.data⟩ (by simp) rfl)
    obtain ⟨hk1,hk2⟩:=HK.out
    rw [rcaT_eq]
    have g':=Lib.hid g
    have F':=Lib.hid F;clear F g
    have hN':=Lib.hid hN;clear hN;have hl':=Lib.hid hl;clear hl;have h1':=Lib.hid h1;clear h1;have hp':=Lib.hid hp;clear hp;have hK':=Lib.hid hK;clear hK
    go_simp
    have hK:=hK'.out;have hN:=hN'.out;have hl:=hl'.out;have h1:=h1'.out
    obtain ⟨p0,p1,p2,p3,p4,p5,p6,p7,p8,p9,p10,p11,p12,p13,p14,p15,p16,p17,qa0,qa1,qa2,d0_1,d0_2,d1_2⟩:=F'.out
    have g:=g'.out
    refine hK _ _ ⟨by simpa using hl,(upd (upd (upd X 28 (.slice (some ⟨b,off,none⟩) m cap)) 29 (.int .i64 k)) 30 (.pointer (some ⟨b,off + k * 9,none⟩))),rfl,hN,g,PV.made rfl,PV.made rfl,PV.made rfl,p3.k,p4.k,p5.k,p6.k,p7.k,p8.k,p9.k,p10.k,p11.k,p12.k,p13.k,p14.k,p15.k,p16.k,p17.k,qa0.keep (by decide) (by decide) (fun _ _ h=>h),qa1.keep (by decide) (by decide) (fun _ _ h=>h),qa2.keep (by decide) (by decide) (fun _ _ h=>h),d0_1.k,d0_2.k,d1_2.k⟩
  · rintro l A W ⟨hl,X,rfl,hN,g,F⟩ h1 hp K hK
    have e2:=F.2.2.1 (hp ⟨2,.data⟩ (by simp) rfl)
    rw [rcaT_eq]
    have g':=Lib.hid g
    have F':=Lib.hid F;clear F g
    have hN':=Lib.hid hN;clear hN;have hl':=Lib.hid hl;clear hl;have h1':=Lib.hid h1;clear h1;have hp':=Lib.hid hp;clear hp;have hK':=Lib.hid hK;clear hK
    go_simp
    have hK:=hK'.out;have hN:=hN'.out;have hl:=hl'.out;have h1:=h1'.out
    obtain ⟨p0,p1,p2,p3,p4,p5,p6,p7,p8,p9,p10,p11,p12,p13,p14,p15,p16,p17,qa0,qa1,qa2,d0_1,d0_2,d1_2⟩:=F'.out
    have g:=g'.out
    refine hK _ _ ⟨by simpa using hl,(upd (upd X 30 (.pointer (some ⟨b,off + k * 9,none⟩))) 31 (.pointer (some ⟨b,off + k * 9,none⟩))),rfl,hN,g,p0.k,p1.k,PV.made rfl,PV.made rfl,p4.k,p5.k,p6.k,p7.k,p8.k,p9.k,p10.k,p11.k,p12.k,p13.k,p14.k,p15.k,p16.k,p17.k,qa0.keep (by decide) (by decide) (fun _ _ h=>h),qa1.keep (by decide) (by decide) (fun _ _ h=>h),qa2.keep (by decide) (by decide) (fun _ _ h=>h),d0_1.k,d0_2.k,d1_2.k⟩
  · rintro l A W ⟨hl,X,rfl,hN,g,F⟩ h1 hp K hK
    have e3:=F.2.2.2.1 (hp ⟨3,.data⟩ (by simp) rfl)
    obtain ⟨c0,c1,c2,c3,c4,c5,c6,c7,c8⟩:=GC.out W g
    rw [rcaT_eq]
    have g':=Lib.hid g
    have F':=Lib.hid F;clear F g
    have hN':=Lib.hid hN;clear hN;have hl':=Lib.hid hl;clear hl;have h1':=Lib.hid h1;clear h1;have hp':=Lib.hid hp;clear hp;have hK':=Lib.hid hK;clear hK
    go_simp
    have hK:=hK'.out;have hN:=hN'.out;have hl:=hl'.out;have h1:=h1'.out
    obtain ⟨p0,p1,p2,p3,p4,p5,p6,p7,p8,p9,p10,p11,p12,p13,p14,p15,p16,p17,qa0,qa1,qa2,d0_1,d0_2,d1_2⟩:=F'.out
    have g:=g'.out
    refine hK _ _ ⟨by simpa using hl,(upd (upd X 31 (.pointer (some ⟨b,off + k * 9,none⟩))) 32 (ptv t.1)),rfl,hN,g,p0.k,p1.k,p2.k,PV.made rfl,PV.made rfl,p5.k,p6.k,p7.k,p8.k,p9.k,p10.k,p11.k,p12.k,p13.k,p14.k,p15.k,p16.k,p17.k,qa0.keep (by decide) (by decide) (fun _ _ h=>h),qa1.keep (by decide) (by decide) (fun _ _ h=>h),qa2.keep (by decide) (by decide) (fun _ _ h=>h),d0_1.k,d0_2.k,d1_2.k⟩
  · rintro l A W ⟨hl,X,rfl,hN,g,F⟩ h1 hp K hK
    have e4:=F.2.2.2.2.1 (hp ⟨4,.data⟩ (by simp) rfl)
    rw [rcaT_eq]
    have g':=Lib.hid g
    have F':=Lib.hid F;clear F g
    have hN':=Lib.hid hN;clear hN;have hl':=Lib.hid hl;clear hl;have h1':=Lib.hid h1;clear h1;have hp':=Lib.hid hp;clear hp;have hK':=Lib.hid hK;clear hK
    go_simp
    go_at_call 91
    refine (rtimes_any 2 t.1 _ T0.out).mono ?_
    rintro e W1 ⟨rfl,hb⟩
    (try dsimp only)
    have hK:=hK'.out;have hN:=hN'.out;have hl:=hl'.out;have h1:=h1'.out
    obtain ⟨p0,p1,p2,p3,p4,p5,p6,p7,p8,p9,p10,p11,p12,p13,p14,p15,p16,p17,qa0,qa1,qa2,d0_1,d0_2,d1_2⟩:=F'.out
    have g:=g'.out
    refine hK _ _ ⟨by simpa using hl,(upd (upd X 32 (ptv t.1)) 33 (ptv (tim 2 t.1))),rfl,Nat.le_trans hN hb.size,GI.out _ _ (hb.mono hN) g,p0.k,p1.k,p2.k,p3.k,PV.made rfl,PV.made rfl,p6.k,p7.k,p8.k,p9.k,p10.k,p11.k,p12.k,p13.k,p14.k,p15.k,p16.k,p17.k,qa0.keep (by decide) (by decide) (fun _ _ h=>own_below h hb),qa1.keep (by decide) (by decide) (fun _ _ h=>own_below h hb),qa2.keep (by decide) (by decide) (fun _ _ h=>own_below h hb),d0_1.k,d0_2.k,d1_2.k⟩
  · rintro l A W ⟨hl,X,rfl,hN,g,F⟩ h1 hp K hK
    rw [rcaT_eq]
    have g':=Lib.hid g
    have F':=Lib.hid F;clear F g
    have hN':=Lib.hid hN;clear hN;have hl':=Lib.hid hl;clear hl;have h1':=Lib.hid h1;clear h1;have hp':=Lib.hid hp;clear hp;have hK':=Lib.hid hK;clear hK
    go_simp
    have hK:=hK'.out;have hN:=hN'.out;have hl:=hl'.out;have h1:=h1'.out
    obtain ⟨p0,p1,p2,p3,p4,p5,p6,p7,p8,p9,p10,p11,p12,p13,p14,p15,p16,p17,qa0,qa1,qa2,d0_1,d0_2,d1_2⟩:=F'.out
    have g:=g'.out
    refine hK _ _ ⟨by simpa using hl,(upd X 34 (.slice (some ⟨b,off,none⟩) m cap)),rfl,hN,g,p0.k,p1.k,p2.k,p3.k,p4.k,p5.k,PV.made rfl,p7.k,p8.k,p9.k,p10.k,p11.k,p12.k,p13.k,p14.k,p15.k,p16.k,p17.k,qa0.keep (by decide) (by decide) (fun _ _ h=>h),qa1.keep (by decide) (by decide) (fun _ _ h=>h),qa2.keep (by decide) (by decide) (fun _ _ h=>h),d0_1.k,d0_2.k,d1_2.k⟩
  · rintro l A W ⟨hl,X,rfl,hN,g,F⟩ h1 hp K hK
    rw [rcaT_eq]
    have g':=Lib.hid g
    have F':=Lib.hid F;clear F g
    have hN':=Lib.hid hN;clear hN;have hl':=Lib.hid hl;clear hl;have h1':=Lib.hid h1;clear h1;have hp':=Lib.hid hp;clear hp;have hK':=Lib.hid hK;clear hK
    go_simp
    have hK:=hK'.out;have hN:=hN'.out;have hl:=hl'.out;have h1:=h1'.out
    obtain ⟨p0,p1,p2,p3,p4,p5,p6,p7,p8,p9,p10,p11,p12,p13,p14,p15,p16,p17,qa0,qa1,qa2,d0_1,d0_2,d1_2⟩:=F'.out
    have g:=g'.out
    refine hK _ _ ⟨by simpa using hl,(upd X 35 (.int .i64 k)),rfl,hN,g,p0.k,p1.k,p2.k,p3.k,p4.k,p5.k,p6.k,PV.made rfl,p8.k,p9.k,p10.k,p11.k,p12.k,p13.k,p14.k,p15.k,p16.k,p17.k,qa0.keep (by decide) (by decide) (fun _ _ h=>h),qa1.keep (by decide) (by decide) (fun _ _ h=>h),qa2.keep (by decide) (by decide) (fun _ _ h=>h),d0_1.k,d0_2.k,d1_2.k⟩
  · rintro l A W ⟨hl,X,rfl,hN,g,F⟩ h1 hp K hK
    have e6:=F.2.2.2.2.2.2.1 (hp ⟨6,.data⟩ (by simp) rfl)
    have e7:=F.2.2.2.2.2.2.2.1 (hp ⟨7,.data⟩ (by simp) rfl)
    obtain ⟨hk1,hk2⟩:=HK.out
    rw [rcaT_eq]
    have g':=Lib.hid g
    have F':=Lib.hid F;clear F g
    have hN':=Lib.hid hN;clear hN;have hl':=Lib.hid hl;clear hl;have h1':=Lib.hid h1;clear h1;have hp':=Lib.hid hp;clear hp;have hK':=Lib.hid hK;clear hK
    go_simp
    have hK:=hK'.out;have hN:=hN'.out;have hl:=hl'.out;have h1:=h1'.out
    obtain ⟨p0,p1,p2,p3,p4,p5,p6,p7,p8,p9,p10,p11,p12,p13,p14,p15,p16,p17,qa0,qa1,qa2,d0_1,d0_2,d1_2⟩:=F'.out
    have g:=g'.out
    refine hK _ _ ⟨by simpa using hl,(upd (upd (upd X 34 (.slice (some ⟨b,off,none⟩) m cap)) 35 (.int .i64 k)) 36 (.pointer (some ⟨b,off + k * 9,none⟩))),rfl,hN,g,p0.k,p1.k,p2.k,p3.k,p4.k,p5.k,PV.made rfl,PV.made rfl,PV.made rfl,p9.k,p10.k,p11.k,p12.k,p13.k,p14.k,p15.k,p16.k,p17.k,qa0.keep (by decide) (by decide) (fun _ _ h=>h),qa1.keep (by decide) (by decide) (fun _ _ h=>h),qa2.keep (by decide) (by decide) (fun _ _ h=>h),d0_1.k,d0_2.k,d1_2.k⟩
  · rintro l A W ⟨hl,X,rfl,hN,g,F⟩ h1 hp K hK
    have e8:=F.2.2.2.2.2.2.2.2.1 (hp ⟨8,.data⟩ (by simp) rfl)
    rw [rcaT_eq]
    have g':=Lib.hid g
    have F':=Lib.hid F;clear F g
    have hN':=Lib.hid hN;clear hN;have hl':=Lib.hid hl;clear hl;have h1':=Lib.hid h1;clear h1;have hp':=Lib.hid hp;clear hp;have hK':=Lib.hid hK;clear hK
    go_simp
    have hK:=hK'.out;have hN:=hN'.out;have hl:=hl'.out;have h1:=h1'.out
    obtain ⟨p0,p1,p2,p3,p4,p5,p6,p7,p8,p9,p10,p11,p12,p13,p14,p15,p16,p17,qa0,qa1,qa2,d0_1,d0_2,d1_2⟩:=F'.out
    have g:=g'.out
    refine hK _ _ ⟨by simpa using hl,(upd (upd X 36 (.pointer (some ⟨b,off + k * 9,none⟩))) 37 (.pointer (some ⟨b,off + k * 9 + 3,none⟩))),rfl,hN,g,p0.k,p1.k,p2.k,p3.k,p4.k,p5.k,p6.k,p7.k,PV.made rfl,PV.made rfl,p10.k,p11.k,p12.k,p13.k,p14.k,p15.k,p16.k,p17.k,qa0.keep (by decide) (by decide) (fun _ _ h=>h),qa1.keep (by decide) (by decide) (fun _ _ h=>h),qa2.keep (by decide) (by decide) (fun _ _ h=>h),d0_1.k,d0_2.k,d1_2.k⟩
  · rintro l A W ⟨hl,X,rfl,hN,g,F⟩ h1 hp K hK
    have e9:=F.2.2.2.2.2.2.2.2.2.1 (hp ⟨9,.data⟩ (by simp) rfl)
    obtain ⟨c0,c1,c2,c3,c4,c5,c6,c7,c8⟩:=GC.out W g
    rw [rcaT_eq]
    have g':=Lib.hid g
    have F':=Lib.hid F;clear F g
    have hN':=Lib.hid hN;clear hN;have hl':=Lib.hid hl;clear hl;have h1':=Lib.hid h1;clear h1;have hp':=Lib.hid hp;clear hp;have hK':=Lib.hid hK;clear hK
    go_simp
    have hK:=hK'.out;have hN:=hN'.out;have hl:=hl'.out;have h1:=h1'.out
    obtain ⟨p0,p1,p2,p3,p4,p5,p6,p7,p8,p9,p10,p11,p12,p13,p14,p15,p16,p17,qa0,qa1,qa2,d0_1,d0_2,d1_2⟩:=F'.out
    have g:=g'.out
    refine hK _ _ ⟨by simpa using hl,(upd (upd X 37 (.pointer (some ⟨b,off + k * 9 + 3,none⟩))) 38 (ptv t.2.1)),rfl,hN,g,p0.k,p1.k,p2.k,p3.k,p4.k,p5.k,p6.k,p7.k,p8.k,PV.made rfl,PV.made rfl,p11.k,p12.k,p13.k,p14.k,p15.k,p16.k,p17.k,qa0.keep (by decide) (by decide) (fun _ _ h=>h),qa1.keep (by decide) (by decide) (fun _ _ h=>h),qa2.keep (by decide) (by decide) (fun _ _ h=>h),d0_1.k,d0_2.k,d1_2.k⟩
  · rintro l A W ⟨hl,X,rfl,hN,g,F⟩ h1 hp K hK
    have e10:=F.2.2.2.2.2.2.2.2.2.2.1 (hp ⟨10,.data⟩ (by simp) rfl)
    rw [rcaT_eq]
    have g':=Lib.hid g
    have F':=Lib.hid F;clear F g
    have hN':=Lib.hid hN;clear hN;have hl':=Lib.hid hl;clear hl;have h1':=Lib.hid h1;clear h1;have hp':=Lib.hid hp;clear hp;have hK':=Lib.hid hK;clear hK
    go_simp
    go_at_call 91
    refine (rtimes_any 2 t.2.1 _ T1.out).mono ?_
    rintro e W1 ⟨rfl,hb⟩
    (try dsimp only)
    have hK:=hK'.out;have hN:=hN'.out;have hl:=hl'.out;have h1:=h1'.out
    obtain ⟨p0,p1,p2,p3,p4,p5,p6,p7,p8,p9,p10,p11,p12,p13,p14,p15,p16,p17,qa0,qa1,qa2,d0_1,d0_2,d1_2⟩:=F'.out
    have g:=g'.out
    refine hK _ _ ⟨by simpa using hl,(upd (upd X 38 (ptv t.2.1)) 39 (ptv (tim 2 t.2.1))),rfl,Nat.le_trans hN hb.size,GI.out _ _ (hb.mono hN) g,p0.k,p1.k,p2.k,p3.k,p4.k,p5.k,p6.k,p7.k,p8.k,p9.k,PV.made rfl,PV.made rfl,p12.k,p13.k,p14.k,p15.k,p16.k,p17.k,qa0.keep (by decide) (by decide) (fun _ _ h=>own_below h hb),qa1.keep (by decide) (by decide) (fun _ _ h=>own_below h hb),qa2.keep (by decide) (by decide) (fun _ _ h=>own_below h hb),d0_1.k,d0_2.k,d1_2.k⟩
  · rintro l A W ⟨hl,X,rfl,hN,g,F⟩ h1 hp K hK
    rw [rcaT_eq]
    have g':=Lib.hid g
    have F':=Lib.hid F;clear F g
    have hN':=Lib.hid hN;clear hN;have hl':=Lib.hid hl;clear hl;have h1':=Lib.hid h1;clear h1;have hp':=Lib.hid hp;clear hp;have hK':=Lib.hid hK;clear hK
    go_simp
    have hK:=hK'.out;have hN:=hN'.out;have hl:=hl'.out;have h1:=h1'.out
    obtain ⟨p0,p1,p2,p3,p4,p5,p6,p7,p8,p9,p10,p11,p12,p13,p14,p15,p16,p17,qa0,qa1,qa2,d0_1,d0_2,d1_2⟩:=F'.out
    have g:=g'.out
    refine hK _ _ ⟨by simpa using hl,(upd X 40 (.slice (some ⟨b,off,none⟩) m cap)),rfl,hN,g,p0.k,p1.k,p2.k,p3.k,p4.k,p5.k,p6.k,p7.k,p8.k,p9.k,p10.k,p11.k,PV.made rfl,p13.k,p14.k,p15.k,p16.k,p17.k,qa0.keep (by decide) (by decide) (fun _ _ h=>h),qa1.keep (by decide) (by decide) (fun _ _ h=>h),qa2.keep (by decide) (by decide) (fun _ _ h=>h),d0_1.k,d0_2.k,d1_2.k⟩
  · rintro l A W ⟨hl,X,rfl,hN,g,F⟩ h1 hp K hK
    rw [rcaT_eq]
    have g':=Lib.hid g
    have F':=Lib.hid F;clear F g
    have hN':=Lib.hid hN;clear hN;have hl':=Lib.hid hl;clear hl;have h1':=Lib.hid h1;clear h1;have hp':=Lib.hid hp;clear hp;have hK':=Lib.hid hK;clear hK
    go_simp
    have hK:=hK'.out;have hN:=hN'.out;have hl:=hl'.out;have h1:=h1'.out
    obtain ⟨p0,p1,p2,p3,p4,p5,p6,p7,p8,p9,p10,p11,p12,p13,p14,p15,p16,p17,qa0,qa1,qa2,d0_1,d0_2,d1_2⟩:=F'.out
    have g:=g'.out
    refine hK _ _ ⟨by simpa using hl,(upd X 41 (.int .i64 k)),rfl,hN,g,p0.k,p1.k,p2.k,p3.k,p4.k,p5.k,p6.k,p7.k,p8.k,p9.k,p10.k,p11.k,p12.k,PV.made rfl,p14.k,p15.k,p16.k,p17.k,qa0.keep (by decide) (by decide) (fun _ _ h=>h),qa1.keep (by decide) (by decide) (fun _ _ h=>h),qa2.keep (by decide) (by decide) (fun _ _ h=>h),d0_1.k,d0_2.k,d1_2.k⟩
  · rintro l A W ⟨hl,X,rfl,hN,g,F⟩ h1 hp K hK
    have e12:=F.2.2.2.2.2.2.2.2.2.2.2.2.1 (hp ⟨12,.data⟩ (by simp) rfl)
    have e13:=F.2.2.2.2.2.2.2.2.2.2.2.2.2.1 (hp ⟨13,.data⟩ (by simp) rfl)
    obtain ⟨hk1,hk2⟩:=HK.out
    rw [rcaT_eq]
    have g':=Lib.hid g
    have F':=Lib.hid F;clear F g
    have hN':=Lib.hid hN;clear hN;have hl':=Lib.hid hl;clear hl;have h1':=Lib.hid h1;clear h1;have hp':=Lib.hid hp;clear hp;have hK':=Lib.hid hK;clear hK
    go_simp
    have hK:=hK'.out;have hN:=hN'.out;have hl:=hl'.out;have h1:=h1'.out
    obtain ⟨p0,p1,p2,p3,p4,p5,p6,p7,p8,p9,p10,p11,p12,p13,p14,p15,p16,p17,qa0,qa1,qa2,d0_1,d0_2,d1_2⟩:=F'.out
    have g:=g'.out
    refine hK _ _ ⟨by simpa using hl,(upd (upd (upd X 40 (.slice (some ⟨b,off,none⟩) m cap)) 41 (.int .i64 k)) 42 (.pointer (some ⟨b,off + k * 9,none⟩))),rfl,hN,g,p0.k,p1.k,p2.k,p3.k,p4.k,p5.k,p6.k,p7.k,p8.k,p9.k,p10.k,p11.k,PV.made rfl,PV.made rfl,PV.made rfl,p15.k,p16.k,p17.k,qa0.keep (by decide) (by decide) (fun _ _ h=>h),qa1.keep (by decide) (by decide) (fun _ _ h=>h),qa2.keep (by decide) (by decide) (fun _ _ h=>h),d0_1.k,d0_2.k,d1_2.k⟩
  · rintro l A W ⟨hl,X,rfl,hN,g,F⟩ h1 hp K hK
    have e14:=F.2.2.2.2.2.2.2.2.2.2.2.2.2.2.1 (hp ⟨14,.data⟩ (by simp) rfl)
    rw [rcaT_eq]
    have g':=Lib.hid g
    have F':=Lib.hid F;clear F g
    have hN':=Lib.hid hN;clear hN;have hl':=Lib.hid hl;clear hl;have h1':=Lib.hid h1;clear h1;have hp':=Lib.hid hp;clear hp;have hK':=Lib.hid hK;clear hK
    go_simp
    have hK:=hK'.out;have hN:=hN'.out;have hl:=hl'.out;have h1:=h1'.out
    obtain ⟨p0,p1,p2,p3,p4,p5,p6,p7,p8,p9,p10,p11,p12,p13,p14,p15,p16,p17,qa0,qa1,qa2,d0_1,d0_2,d1_2⟩:=F'.out
    have g:=g'.out
    refine hK _ _ ⟨by simpa using hl,(upd (upd X 42 (.pointer (some ⟨b,off + k * 9,none⟩))) 43 (.pointer (some ⟨b,off + k * 9 + 6,none⟩))),rfl,hN,g,p0.k,p1.k,p2.k,p3.k,p4.k,p5.k,p6.k,p7.k,p8.k,p9.k,p10.k,p11.k,p12.k,p13.k,PV.made rfl,PV.made rfl,p16.k,p17.k,qa0.keep (by decide) (by decide) (fun _ _ h=>h),qa1.keep (by decide) (by decide) (fun _ _ h=>h),qa2.keep (by decide) (by decide) (fun _ _ h=>h),d0_1.k,d0_2.k,d1_2.k⟩
  · rintro l A W ⟨hl,X,rfl,hN,g,F⟩ h1 hp K hK
    have e15:=F.2.2.2.2.2.2.2.2.2.2.2.2.2.2.2.1 (hp ⟨15,.data⟩ (by simp) rfl)
    obtain ⟨c0,c1,c2,c3,c4,c5,c6,c7,c8⟩:=GC.out W g
    rw [rcaT_eq]
    have g':=Lib.hid g
    have F':=Lib.hid F;clear F g
    have hN':=Lib.hid hN;clear hN;have hl':=Lib.hid hl;clear hl;have h1':=Lib.hid h1;clear h1;have hp':=Lib.hid hp;clear hp;have hK':=Lib.hid hK;clear hK
    go_simp
    have hK:=hK'.out;have hN:=hN'.out;have hl:=hl'.out;have h1:=h1'.out
    obtain ⟨p0,p1,p2,p3,p4,p5,p6,p7,p8,p9,p10,p11,p12,p13,p14,p15,p16,p17,qa0,qa1,qa2,d0_1,d0_2,d1_2⟩:=F'.out
    have g:=g'.out
    refine hK _ _ ⟨by simpa using hl,(upd (upd X 43 (.pointer (some ⟨b,off + k * 9 + 6,none⟩))) 44 (ptv t.2.2)),rfl,hN,g,p0.k,p1.k,p2.k,p3.k,p4.k,p5.k,p6.k,p7.k,p8.k,p9.k,p10.k,p11.k,p12.k,p13.k,p14.k,PV.made rfl,PV.made rfl,p17.k,qa0.keep (by decide) (by decide) (fun _ _ h=>h),qa1.keep (by decide) (by decide) (fun _ _ h=>h),qa2.keep (by decide) (by decide) (fun _ _ h=>h),d0_1.k,d0_2.k,d1_2.k⟩
  · rintro l A W ⟨hl,X,rfl,hN,g,F⟩ h1 hp K hK
    have e16:=F.2.2.2.2.2.2.2.2.2.2.2.2.2.2.2.2.1 (hp ⟨16,.data⟩ (by simp) rfl)
    rw [rcaT_eq]
    have g':=Lib.hid g
    have F':=Lib.hid F;clear F g
    have hN':=Lib.hid hN;clear hN;have hl':=Lib.hid hl;clear hl;have h1':=Lib.hid h1;clear h1;have hp':=Lib.hid hp;clear hp;have hK':=Lib.hid hK;clear hK
    go_simp
    go_at_call 91
    refine (rtimes_any 2 t.2.2 _ T2.out).mono ?_
    rintro e W1 ⟨rfl,hb⟩
    (try dsimp only)
    have hK:=hK'.out;have hN:=hN'.out;have hl:=hl'.out;have h1:=h1'.out
    obtain ⟨p0,p1,p2,p3,p4,p5,p6,p7,p8,p9,p10,p11,p12,p13,p14,p15,p16,p17,qa0,qa1,qa2,d0_1,d0_2,d1_2⟩:=F'.out
    have g:=g'.out
    refine hK _ _ ⟨by simpa using hl,(upd (upd X 44 (ptv t.2.2)) 45 (ptv (tim 2 t.2.2))),rfl,Nat.le_trans hN hb.size,GI.out _ _ (hb.mono hN) g,p0.k,p1.k,p2.k,p3.k,p4.k,p5.k,p6.k,p7.k,p8.k,p9.k,p10.k,p11.k,p12.k,p13.k,p14.k,p15.k,PV.made rfl,PV.made rfl,qa0.keep (by decide) (by decide) (fun _ _ h=>own_below h hb),qa1.keep (by decide) (by decide) (fun _ _ h=>own_below h hb),qa2.keep (by decide) (by decide) (fun _ _ h=>own_below h hb),d0_1.k,d0_2.k,d1_2.k⟩
  · rintro l A W ⟨hl,X,rfl,hN,g,F⟩ h1 hp K hK
    rw [rcaT_eq]
    have g':=Lib.hid g
    have F':=Lib.hid F;clear F g
    have hN':=Lib.hid hN;clear hN;have hl':=Lib.hid hl;clear hl;have h1':=Lib.hid h1;clear h1;have hp':=Lib.hid hp;clear hp;have hK':=Lib.hid hK;clear hK
    go_simp
    have hK:=hK'.out;have hN:=hN'.out;have hl:=hl'.out;have h1:=h1'.out
    obtain ⟨p0,p1,p2,p3,p4,p5,p6,p7,p8,p9,p10,p11,p12,p13,p14,p15,p16,p17,qa0,qa1,qa2,d0_1,d0_2,d1_2⟩:=F'.out
    have g:=g'.out
    refine hK _ _ ⟨by simpa using hl,(upd X 9 (.pointer (some ⟨W.heap.size,0,none⟩))),rfl,(by simp;omega),GI.out _ _ (((Below.refl _ W).alloc (Nat.le_refl _) _).mono hN) g,p0.k,p1.k,p2.k,p3.k,p4.k,p5.k,p6.k,p7.k,p8.k,p9.k,p10.k,p11.k,p12.k,p13.k,p14.k,p15.k,p16.k,p17.k,qa0.made (by decide) (by rw [hl];decide) h1 hN (own_new W (0,0,0) _),qa1.keep (by decide) (by decide) (fun _ _ h=>own_alloc h _),qa2.keep (by decide) (by decide) (fun _ _ h=>own_alloc h _),DD.mk1 qa1 (by decide),DD.mk1 qa2 (by decide),d1_2.k⟩
  · rintro l A W ⟨hl,X,rfl,hN,g,F⟩ h1 hp K hK
    rw [rcaT_eq]
    have g':=Lib.hid g
    have F':=Lib.hid F;clear F g
    have hN':=Lib.hid hN;clear hN;have hl':=Lib.hid hl;clear hl;have h1':=Lib.hid h1;clear h1;have hp':=Lib.hid hp;clear hp;have hK':=Lib.hid hK;clear hK
    go_simp
    have hK:=hK'.out;have hN:=hN'.out;have hl:=hl'.out;have h1:=h1'.out
    obtain ⟨p0,p1,p2,p3,p4,p5,p6,p7,p8,p9,p10,p11,p12,p13,p14,p15,p16,p17,qa0,qa1,qa2,d0_1,d0_2,d1_2⟩:=F'.out
    have g:=g'.out
    refine hK _ _ ⟨by simpa using hl,(upd X 10 (.pointer (some ⟨W.heap.size,0,none⟩))),rfl,(by simp;omega),GI.out _ _ (((Below.refl _ W).alloc (Nat.le_refl _) _).mono hN) g,p0.k,p1.k,p2.k,p3.k,p4.k,p5.k,p6.k,p7.k,p8.k,p9.k,p10.k,p11.k,p12.k,p13.k,p14.k,p15.k,p16.k,p17.k,qa0.keep (by decide) (by decide) (fun _ _ h=>own_alloc h _),qa1.made (by decide) (by rw [hl];decide) h1 hN (own_new W (0,0,0) _),qa2.keep (by decide) (by decide) (fun _ _ h=>own_alloc h _),DD.mk2 qa0 (by decide),d0_2.k,DD.mk1 qa2 (by decide)⟩
  · rintro l A W ⟨hl,X,rfl,hN,g,F⟩ h1 hp K hK
    rw [rcaT_eq]
    have g':=Lib.hid g
    have F':=Lib.hid F;clear F g
    have hN':=Lib.hid hN;clear hN;have hl':=Lib.hid hl;clear hl;have h1':=Lib.hid h1;clear h1;have hp':=Lib.hid hp;clear hp;have hK':=Lib.hid hK;clear hK
    go_simp
    have hK:=hK'.out;have hN:=hN'.out;have hl:=hl'.out;have h1:=h1'.out
    obtain ⟨p0,p1,p2,p3,p4,p5,p6,p7,p8,p9,p10,p11,p12,p13,p14,p15,p16,p17,qa0,qa1,qa2,d0_1,d0_2,d1_2⟩:=F'.out
    have g:=g'.out
    refine hK _ _ ⟨by simpa using hl,(upd X 11 (.pointer (some ⟨W.heap.size,0,none⟩))),rfl,(by simp;omega),GI.out _ _ (((Below.refl _ W).alloc (Nat.le_refl _) _).mono hN) g,p0.k,p1.k,p2.k,p3.k,p4.k,p5.k,p6.k,p7.k,p8.k,p9.k,p10.k,p11.k,p12.k,p13.k,p14.k,p15.k,p16.k,p17.k,qa0.keep (by decide) (by decide) (fun _ _ h=>own_alloc h _),qa1.keep (by decide) (by decide) (fun _ _ h=>own_alloc h _),qa2.made (by decide) (by rw [hl];decide) h1 hN (own_new W (0,0,0) _),d0_1.k,DD.mk2 qa0 (by decide),DD.mk2 qa1 (by decide)⟩
  · rintro l A W ⟨hl,X,rfl,hN,g,F⟩ h1 hp K hK
    have la:=hp ⟨18,.data⟩ (by simp) rfl
    have e5:=F.2.2.2.2.2.1 (hp ⟨5,.data⟩ (by simp) rfl)
    obtain ⟨b',v',e2,hb',ow,_⟩:=F.2.2.2.2.2.2.2.2.2.2.2.2.2.2.2.2.2.2.1.2 la
    obtain ⟨o0,o1,o2,o3,o4,o5,o6⟩:=id ow
    rw [rcaT_eq]
    have g':=Lib.hid g
    have F':=Lib.hid F;clear F g
    have hN':=Lib.hid hN;clear hN;have hl':=Lib.hid hl;clear hl;have h1':=Lib.hid h1;clear h1;have hp':=Lib.hid hp;clear hp;have hK':=Lib.hid hK;clear hK
    have la':=Lib.hid la;clear la;have hb'':=Lib.hid hb';clear hb';have ow':=Lib.hid ow;clear ow
    go_simp
    have hK:=hK'.out;have hN:=hN'.out;have hl:=hl'.out;have h1:=h1'.out
    obtain ⟨p0,p1,p2,p3,p4,p5,p6,p7,p8,p9,p10,p11,p12,p13,p14,p15,p16,p17,qa0,qa1,qa2,d0_1,d0_2,d1_2⟩:=F'.out
    have g:=g'.out
    have la:=la'.out;have hb':=hb''.out;have ow:=ow'.out
    refine hK _ _ ⟨by simpa using hl,(upd (upd X 33 (ptv (tim 2 t.1))) 9 (.pointer (some ⟨b',0,none⟩))),rfl,(by simpa using hN),GI.out _ _ (below_set3 _ _ _ hb') g,p0.k,p1.k,p2.k,p3.k,p4.k,PV.made rfl,p6.k,p7.k,p8.k,p9.k,p10.k,p11.k,p12.k,p13.k,p14.k,p15.k,p16.k,p17.k,QA.put (by decide) la rfl hb' (own_put ow _),qa1.other (by decide) (by decide) (fun z=>by have dd:=d0_1 la z;rw [e2] at dd;exact dd.symm) (fun _ _ n h=>own_set3 _ _ _ n h),qa2.other (by decide) (by decide) (fun z=>by have dd:=d0_2 la z;rw [e2] at dd;exact dd.symm) (fun _ _ n h=>own_set3 _ _ _ n h),(by have z:=d0_1.keep (i:=21) (by decide) (by decide);rw [e2] at z;exact z),(by have z:=d0_2.keep (i:=21) (by decide) (by decide);rw [e2] at z;exact z),d1_2.k⟩
  · rintro l A W ⟨hl,X,rfl,hN,g,F⟩ h1 hp K hK
    have la:=hp ⟨19,.data⟩ (by simp) rfl
    have e11:=F.2.2.2.2.2.2.2.2.2.2.2.1 (hp ⟨11,.data⟩ (by simp) rfl)
    obtain ⟨b',v',e2,hb',ow,_⟩:=F.2.2.2.2.2.2.2.2.2.2.2.2.2.2.2.2.2.2.2.1.2 la
    obtain ⟨o0,o1,o2,o3,o4,o5,o6⟩:=id ow
    rw [rcaT_eq]
    have g':=Lib.hid g
    have F':=Lib.hid F;clear F g
    have hN':=Lib.hid hN;clear hN;have hl':=Lib.hid hl;clear hl;have h1':=Lib.hid h1;clear h1;have hp':=Lib.hid hp;clear hp;have hK':=Lib.hid hK;clear hK
    have la':=Lib.hid la;clear la;have hb'':=Lib.hid hb';clear hb';have ow':=Lib.hid ow;clear ow
    go_simp
    have hK:=hK'.out;have hN:=hN'.out;have hl:=hl'.out;have h1:=h1'.out
    obtain ⟨p0,p1,p2,p3,p4,p5,p6,p7,p8,p9,p10,p11,p12,p13,p14,p15,p16,p17,qa0,qa1,qa2,d0_1,d0_2,d1_2⟩:=F'.out
    have g:=g'.out
    have la:=la'.out;have hb':=hb''.out;have ow:=ow'.out
    refine hK _ _ ⟨by simpa using hl,(upd (upd X 39 (ptv (tim 2 t.2.1))) 10 (.pointer (some ⟨b',0,none⟩))),rfl,(by simpa using hN),GI.out _ _ (below_set3 _ _ _ hb') g,p0.k,p1.k,p2.k,p3.k,p4.k,p5.k,p6.k,p7.k,p8.k,p9.k,p10.k,PV.made rfl,p12.k,p13.k,p14.k,p15.k,p16.k,p17.k,qa0.other (by decide) (by decide) (fun z=>by have dd:=d0_1 z la;rw [e2] at dd;exact dd) (fun _ _ n h=>own_set3 _ _ _ n h),QA.put (by decide) la rfl hb' (own_put ow _),qa2.other (by decide) (by decide) (fun z=>by have dd:=d1_2 la z;rw [e2] at dd;exact dd.symm) (fun _ _ n h=>own_set3 _ _ _ n h),(by have z:=d0_1.keep (i:=22) (by decide) (by decide);rw [e2] at z;exact z),d0_2.k,(by have z:=d1_2.keep (i:=22) (by decide) (by decide);rw [e2] at z;exact z)⟩
  · rintro l A W ⟨hl,X,rfl,hN,g,F⟩ h1 hp K hK
    have la:=hp ⟨20,.data⟩ (by simp) rfl
    have e17:=F.2.2.2.2.2.2.2.2.2.2.2.2.2.2.2.2.2.1 (hp ⟨17,.data⟩ (by simp) rfl)
    obtain ⟨b',v',e2,hb',ow,_⟩:=F.2.2.2.2.2.2.2.2.2.2.2.2.2.2.2.2.2.2.2.2.1.2 la
    obtain ⟨o0,o1,o2,o3,o4,o5,o6⟩:=id ow
    rw [rcaT_eq]
    have g':=Lib.hid g
    have F':=Lib.hid F;clear F g
    have hN':=Lib.hid hN;clear hN;have hl':=Lib.hid hl;clear hl;have h1':=Lib.hid h1;clear h1;have hp':=Lib.hid hp;clear hp;have hK':=Lib.hid hK;clear hK
    have la':=Lib.hid la;clear la;have hb'':=Lib.hid hb';clear hb';have ow':=Lib.hid ow;clear ow
    go_simp
    have hK:=hK'.out;have hN:=hN'.out;have hl:=hl'.out;have h1:=h1'.out
    obtain ⟨p0,p1,p2,p3,p4,p5,p6,p7,p8,p9,p10,p11,p12,p13,p14,p15,p16,p17,qa0,qa1,qa2,d0_1,d0_2,d1_2⟩:=F'.out
    have g:=g'.out
    have la:=la'.out;have hb':=hb''.out;have ow:=ow'.out
    refine hK _ _ ⟨by simpa using hl,(upd (upd X 45 (ptv (tim 2 t.2.2))) 11 (.pointer (some ⟨b',0,none⟩))),rfl,(by simpa using hN),GI.out _ _ (below_set3 _ _ _ hb') g,p0.k,p1.k,p2.k,p3.k,p4.k,p5.k,p6.k,p7.k,p8.k,p9.k,p10.k,p11.k,p12.k,p13.k,p14.k,p15.k,p16.k,PV.made rfl,qa0.other (by decide) (by decide) (fun z=>by have dd:=d0_2 z la;rw [e2] at dd;exact dd) (fun _ _ n h=>own_set3 _ _ _ n h),qa1.other (by decide) (by decide) (fun z=>by have dd:=d1_2 z la;rw [e2] at dd;exact dd) (fun _ _ n h=>own_set3 _ _ _ n h),QA.put (by decide) la rfl hb' (own_put ow _),d0_1.k,(by have z:=d0_2.keep (i:=23) (by decide) (by decide);rw [e2] at z;exact z),(by have z:=d1_2.keep (i:=23) (by decide) (by decide);rw [e2] at z;exact z)⟩
set_option maxRecDepth 100000 in
set_option maxHeartbeats 4000000 in
theorem rca_reg (G:World→Prop) (N:Nat) (b off m cap k:Nat) (t:P9) {y0 y1 y2 y3 y4 y6 y7 y12 y13 y14 y15 y16 y17 y18 y19 y20 y21 y22 y23 y24 y25 y26 y27 y46 y47 y48 y49 y50 y51 y52 y53 y54 y55 y56 y57 y58 y59 y60 y61 y62 y63 y64 y65 y66 y67 y68 y69 y70 y71 y72 y73 y74 y75 x9 x10 x11 x28 x29 x30 x31 x32 x33 x34 x35 x36 x37 x38 x39 x40 x41 x42 x43 x44 x45:Value} {W:World} {Q:Exit→Act→World→Prop} (T0:Hid (BdP 4611686018427387904 (tim 2 t.1))) (T1:Hid (BdP 4611686018427387904 (tim 2 t.2.1))) (T2:Hid (BdP 4611686018427387904 (tim 2 t.2.2))) (HK:Hid ((k:Int) < (m:Int)∧0≤(k:Int))) (GC:Hid (∀ W:World,G W→W.cell? ⟨b,off + k * 9,none⟩=some (.int .i64 t.1.1)∧W.cell? ⟨b,off + k * 9 + 1,none⟩=some (.int .i64 t.1.2.1)∧W.cell? ⟨b,off + k * 9 + 1 + 1,none⟩=some (.int .i64 t.1.2.2)∧W.cell? ⟨b,off + k * 9 + 3,none⟩=some (.int .i64 t.2.1.1)∧W.cell? ⟨b,off + k * 9 + 3 + 1,none⟩=some (.int .i64 t.2.1.2.1)∧W.cell? ⟨b,off + k * 9 + 3 + 1 + 1,none⟩=some (.int .i64 t.2.1.2.2)∧W.cell? ⟨b,off + k * 9 + 6,none⟩=some (.int .i64 t.2.2.1)∧W.cell? ⟨b,off + k * 9 + 6 + 1,none⟩=some (.int .i64 t.2.2.2.1)∧W.cell? ⟨b,off + k * 9 + 6 + 1 + 1,none⟩=some (.int .i64 t.2.2.2.2))) (GI:Hid (∀ W W':World,Below N W W'→G W→G W')) (hN:N≤W.heap.size) (g0:G W.drew)
    (hK:∀ (x28 x29 x30 x31 x32 x33 x34 x35 x36 x37 x38 x39 x40 x41 x42 x43 x44 x45:Value) (b0 b1 b2:Nat) (W':World),N≤W'.heap.size→G W'→N≤b0→Own W' b0 ((tim 2 t.1))→N≤b1→Own W' b1 ((tim 2 t.2.1))→N≤b2→Own W' b2 ((tim 2 t.2.2))→Q .normal { tmps:=#[y0,y1,y2,y3,y4,.slice (some ⟨b,off,none⟩) m cap,y6,y7,.int .i64 k,.pointer (some ⟨b0,0,none⟩),.pointer (some ⟨b1,0,none⟩),.pointer (some ⟨b2,0,none⟩),y12,y13,y14,y15,y16,y17,y18,y19,y20,y21,y22,y23,y24,y25,y26,y27,x28,x29,x30,x31,x32,x33,x34,x35,x36,x37,x38,x39,x40,x41,x42,x43,x44,x45,y46,y47,y48,y49,y50,y51,y52,y53,y54,y55,y56,y57,y58,y59,y60,y61,y62,y63,y64,y65,y66,y67,y68,y69,y70,y71,y72,y73,y74,y75],defers:=[] } W') :
    Code.wp Tryz.prog (.region 9 rcaOps true) Q { tmps:=#[y0,y1,y2,y3,y4,.slice (some ⟨b,off,none⟩) m cap,y6,y7,.int .i64 k,x9,x10,x11,y12,y13,y14,y15,y16,y17,y18,y19,y20,y21,y22,y23,y24,y25,y26,y27,x28,x29,x30,x31,x32,x33,x34,x35,x36,x37,x38,x39,x40,x41,x42,x43,x44,x45,y46,y47,y48,y49,y50,y51,y52,y53,y54,y55,y56,y57,y58,y59,y60,y61,y62,y63,y64,y65,y66,y67,y68,y69,y70,y71,y72,y73,y74,y75],defers:=[] } W:=by
  refine wp_region_inv (rcaI G N b off m cap k t y0 y1 y2 y3 y4 y6 y7 y12 y13 y14 y15 y16 y17 y18 y19 y20 y21 y22 y23 y24 y25 y26 y27 y46 y47 y48 y49 y50 y51 y52 y53 y54 y55 y56 y57 y58 y59 y60 y61 y62 y63 y64 y65 y66 y67 y68 y69 y70 y71 y72 y73 y74 y75) (by kernel_rfl) ?_ (rca_steps G N b off m cap k t y0 y1 y2 y3 y4 y6 y7 y12 y13 y14 y15 y16 y17 y18 y19 y20 y21 y22 y23 y24 y25 y26 y27 y46 y47 y48 y49 y50 y51 y52 y53 y54 y55 y56 y57 y58 y59 y60 y61 y62 y63 y64 y65 y66 y67 y68 y69 y70 y71 y72 y73 y74 y75 Q T0 T1 T2 HK GC GI) ?_
  · exact ⟨by simp [rcaOps],fun i=>(#[undef,undef,undef,undef,undef,undef,undef,undef,undef,x9,x10,x11,undef,undef,undef,undef,undef,undef,undef,undef,undef,undef,undef,undef,undef,undef,undef,undef,x28,x29,x30,x31,x32,x33,x34,x35,x36,x37,x38,x39,x40,x41,x42,x43,x44,x45,undef,undef,undef,undef,undef,undef,undef,undef,undef,undef,undef,undef,undef,undef,undef,undef,undef,undef,undef,undef,undef,undef,undef,undef,undef,undef,undef,undef,undef,undef]:Array Value).getD i undef,rfl,hN,g0,PV.nought,PV.nought,PV.nought,PV.nought,PV.nought,PV.nought,PV.nought,PV.nought,PV.nought,PV.nought,PV.nought,PV.nought,PV.nought,PV.nought,PV.nought,PV.nought,PV.nought,PV.nought,QA.nought,QA.nought,QA.nought,DD.nought,DD.nought,DD.nought⟩
  · rintro l A W ⟨hl,X,rfl,hN,g,p0,p1,p2,p3,p4,p5,p6,p7,p8,p9,p10,p11,p12,p13,p14,p15,p16,p17,qa0,qa1,qa2,d0_1,d0_2,d1_2⟩ hr
    unfold rcaOps at hr
    have l0:=ready_end hr 0 (by rw [hl];decide) rfl (fun e he hbn=>by
      simp at he
      (try (repeat (rcases he with rfl | he;· first | assumption | exact absurd hbn (by decide))))
      (try (first | exact he.elim | (subst he;first | assumption | exact absurd hbn (by decide)))))
    have l1:=ready_end hr 1 (by rw [hl];decide) rfl (fun e he hbn=>by
      simp at he
      (try (repeat (rcases he with rfl | he;· first | assumption | exact absurd hbn (by decide))))
      (try (first | exact he.elim | (subst he;first | assumption | exact absurd hbn (by decide)))))
    have l2:=ready_end hr 2 (by rw [hl];decide) rfl (fun e he hbn=>by
      simp at he
      (try (repeat (rcases he with rfl | he;· first | assumption | exact absurd hbn (by decide))))
      (try (first | exact he.elim | (subst he;first | assumption | exact absurd hbn (by decide)))))
    have l3:=ready_end hr 3 (by rw [hl];decide) rfl (fun e he hbn=>by
      simp at he
      (try (repeat (rcases he with rfl | he;· first | assumption | exact absurd hbn (by decide))))
      (try (first | exact he.elim | (subst he;first | assumption | exact absurd hbn (by decide)))))
    have l4:=ready_end hr 4 (by rw [hl];decide) rfl (fun e he hbn=>by
      simp at he
      (try (repeat (rcases he with rfl | he;· first | assumption | exact absurd hbn (by decide))))
      (try (first | exact he.elim | (subst he;first | assumption | exact absurd hbn (by decide)))))
    have l5:=ready_end hr 5 (by rw [hl];decide) rfl (fun e he hbn=>by
      simp at he
      (try (repeat (rcases he with rfl | he;· first | assumption | exact absurd hbn (by decide))))
      (try (first | exact he.elim | (subst he;first | assumption | exact absurd hbn (by decide)))))
    have l6:=ready_end hr 6 (by rw [hl];decide) rfl (fun e he hbn=>by
      simp at he
      (try (repeat (rcases he with rfl | he;· first | assumption | exact absurd hbn (by decide))))
      (try (first | exact he.elim | (subst he;first | assumption | exact absurd hbn (by decide)))))
    have l7:=ready_end hr 7 (by rw [hl];decide) rfl (fun e he hbn=>by
      simp at he
      (try (repeat (rcases he with rfl | he;· first | assumption | exact absurd hbn (by decide))))
      (try (first | exact he.elim | (subst he;first | assumption | exact absurd hbn (by decide)))))
    have l8:=ready_end hr 8 (by rw [hl];decide) rfl (fun e he hbn=>by
      simp at he
      (try (repeat (rcases he with rfl | he;· first | assumption | exact absurd hbn (by decide))))
      (try (first | exact he.elim | (subst he;first | assumption | exact absurd hbn (by decide)))))
    have l9:=ready_end hr 9 (by rw [hl];decide) rfl (fun e he hbn=>by
      simp at he
      (try (repeat (rcases he with rfl | he;· first | assumption | exact absurd hbn (by decide))))
      (try (first | exact he.elim | (subst he;first | assumption | exact absurd hbn (by decide)))))
    have l10:=ready_end hr 10 (by rw [hl];decide) rfl (fun e he hbn=>by
      simp at he
      (try (repeat (rcases he with rfl | he;· first | assumption | exact absurd hbn (by decide))))
      (try (first | exact he.elim | (subst he;first | assumption | exact absurd hbn (by decide)))))
    have l11:=ready_end hr 11 (by rw [hl];decide) rfl (fun e he hbn=>by
      simp at he
      (try (repeat (rcases he with rfl | he;· first | assumption | exact absurd hbn (by decide))))
      (try (first | exact he.elim | (subst he;first | assumption | exact absurd hbn (by decide)))))
    have l12:=ready_end hr 12 (by rw [hl];decide) rfl (fun e he hbn=>by
      simp at he
      (try (repeat (rcases he with rfl | he;· first | assumption | exact absurd hbn (by decide))))
      (try (first | exact he.elim | (subst he;first | assumption | exact absurd hbn (by decide)))))
    have l13:=ready_end hr 13 (by rw [hl];decide) rfl (fun e he hbn=>by
      simp at he
      (try (repeat (rcases he with rfl | he;· first | assumption | exact absurd hbn (by decide))))
      (try (first | exact he.elim | (subst he;first | assumption | exact absurd hbn (by decide)))))
    have l14:=ready_end hr 14 (by rw [hl];decide) rfl (fun e he hbn=>by
      simp at he
      (try (repeat (rcases he with rfl | he;· first | assumption | exact absurd hbn (by decide))))
      (try (first | exact he.elim | (subst he;first | assumption | exact absurd hbn (by decide)))))
    have l15:=ready_end hr 15 (by rw [hl];decide) rfl (fun e he hbn=>by
      simp at he
      (try (repeat (rcases he with rfl | he;· first | assumption | exact absurd hbn (by decide))))
      (try (first | exact he.elim | (subst he;first | assumption | exact absurd hbn (by decide)))))
    have l16:=ready_end hr 16 (by rw [hl];decide) rfl (fun e he hbn=>by
      simp at he
      (try (repeat (rcases he with rfl | he;· first | assumption | exact absurd hbn (by decide))))
      (try (first | exact he.elim | (subst he;first | assumption | exact absurd hbn (by decide)))))
    have l17:=ready_end hr 17 (by rw [hl];decide) rfl (fun e he hbn=>by
      simp at he
      (try (repeat (rcases he with rfl | he;· first | assumption | exact absurd hbn (by decide))))
      (try (first | exact he.elim | (subst he;first | assumption | exact absurd hbn (by decide)))))
    have l18:=ready_end hr 18 (by rw [hl];decide) rfl (fun e he hbn=>by
      simp at he
      (try (repeat (rcases he with rfl | he;· first | assumption | exact absurd hbn (by decide))))
      (try (first | exact he.elim | (subst he;first | assumption | exact absurd hbn (by decide)))))
    have l19:=ready_end hr 19 (by rw [hl];decide) rfl (fun e he hbn=>by
      simp at he
      (try (repeat (rcases he with rfl | he;· first | assumption | exact absurd hbn (by decide))))
      (try (first | exact he.elim | (subst he;first | assumption | exact absurd hbn (by decide)))))
    have l20:=ready_end hr 20 (by rw [hl];decide) rfl (fun e he hbn=>by
      simp at he
      (try (repeat (rcases he with rfl | he;· first | assumption | exact absurd hbn (by decide))))
      (try (first | exact he.elim | (subst he;first | assumption | exact absurd hbn (by decide)))))
    have l21:=ready_end hr 21 (by rw [hl];decide) rfl (fun e he hbn=>by
      simp at he
      (try (repeat (rcases he with rfl | he;· first | assumption | exact absurd hbn (by decide))))
      (try (first | exact he.elim | (subst he;first | assumption | exact absurd hbn (by decide)))))
    have l22:=ready_end hr 22 (by rw [hl];decide) rfl (fun e he hbn=>by
      simp at he
      (try (repeat (rcases he with rfl | he;· first | assumption | exact absurd hbn (by decide))))
      (try (first | exact he.elim | (subst he;first | assumption | exact absurd hbn (by decide)))))
    have l23:=ready_end hr 23 (by rw [hl];decide) rfl (fun e he hbn=>by
      simp at he
      (try (repeat (rcases he with rfl | he;· first | assumption | exact absurd hbn (by decide))))
      (try (first | exact he.elim | (subst he;first | assumption | exact absurd hbn (by decide)))))
    obtain ⟨b0,v0,e0x,n0,o0,t0⟩:=qa0.2 l18
    obtain rfl:=t0 l21
    obtain ⟨b1,v1,e1x,n1,o1,t1⟩:=qa1.2 l19
    obtain rfl:=t1 l22
    obtain ⟨b2,v2,e2x,n2,o2,t2⟩:=qa2.2 l20
    obtain rfl:=t2 l23
    have z:=hK (X 28) (X 29) (X 30) (X 31) (X 32) (X 33) (X 34) (X 35) (X 36) (X 37) (X 38) (X 39) (X 40) (X 41) (X 42) (X 43) (X 44) (X 45) b0 b1 b2 W hN g n0 o0 n1 o1 n2 o2
    rw [← e0x,← e1x,← e2x] at z
    exact z
def rcbOps : Array Oper := #[{ dst := some 46, op := Op.load 24 (Operand.tmp 9), type := 24, pos := "ref.go:25", after := #[], guard := none }, { dst := some 47, op := Op.load 24 (Operand.tmp 10), type := 24, pos := "ref.go:25", after := #[], guard := none }, { dst := some 48, op := Op.call { callee := Callee.value (Operand.func 138), args := #[Operand.tmp 46, Operand.tmp 47], argTypes := #[24, 24] }, type := 24, pos := "ref.go:25", after := #[{ on := 0, ground := Ground.data }, { on := 1, ground := Ground.data }], guard := none }, { dst := some 49, op := Op.load 24 (Operand.tmp 10), type := 24, pos := "ref.go:25", after := #[], guard := none }, { dst := some 50, op := Op.load 24 (Operand.tmp 11), type := 24, pos := "ref.go:25", after := #[], guard := none }, { dst := some 51, op := Op.call { callee := Callee.value (Operand.func 138), args := #[Operand.tmp 49, Operand.tmp 50], argTypes := #[24, 24] }, type := 24, pos := "ref.go:25", after := #[{ on := 3, ground := Ground.data }, { on := 4, ground := Ground.data }, { on := 2, ground := Ground.chain }], guard := none }, { dst := some 52, op := Op.load 24 (Operand.tmp 11), type := 24, pos := "ref.go:25", after := #[], guard := none }, { dst := some 53, op := Op.load 24 (Operand.tmp 9), type := 24, pos := "ref.go:25", after := #[], guard := none }, { dst := some 54, op := Op.call { callee := Callee.value (Operand.func 138), args := #[Operand.tmp 52, Operand.tmp 53], argTypes := #[24, 24] }, type := 24, pos := "ref.go:25", after := #[{ on := 6, ground := Ground.data }, { on := 7, ground := Ground.data }, { on := 5, ground := Ground.chain }], guard := none }, { dst := some 12, op := Op.alloc 24, type := 0, pos := "ref.go:25", after := #[], guard := none }, { dst := some 13, op := Op.alloc 24, type := 0, pos := "ref.go:25", after := #[], guard := none }, { dst := some 14, op := Op.alloc 24, type := 0, pos := "ref.go:25", after := #[], guard := none }, { dst := none, op := Op.store 24 (Operand.tmp 12) (Operand.tmp 48), type := 0, pos := "ref.go:25", after := #[{ on := 9, ground := Ground.data }, { on := 2, ground := Ground.data }, { on := 8, ground := Ground.chain }, { on := 0, ground := Ground.phase }, { on := 1, ground := Ground.phase }, { on := 2, ground := Ground.phase }, { on := 3, ground := Ground.textOnly Departure.lateStores }, { on := 4, ground := Ground.textOnly Departure.lateStores }, { on := 5, ground := Ground.textOnly Departure.lateStoresUnsure }, { on := 6, ground := Ground.textOnly Departure.lateStores }, { on := 7, ground := Ground.textOnly Departure.lateStores }, { on := 8, ground := Ground.textOnly Departure.lateStoresUnsure }, { on := 9, ground := Ground.phase }, { on := 10, ground := Ground.phase }, { on := 11, ground := Ground.phase }], guard := none }, { dst := none, op := Op.store 24 (Operand.tmp 13) (Operand.tmp 51), type := 0, pos := "ref.go:25", after := #[{ on := 10, ground := Ground.data }, { on := 5, ground := Ground.data }, { on := 12, ground := Ground.chain }, { on := 0, ground := Ground.phase }, { on := 1, ground := Ground.phase }, { on := 2, ground := Ground.phase }, { on := 3, ground := Ground.phase }, { on := 4, ground := Ground.phase }, { on := 5, ground := Ground.phase }, { on := 6, ground := Ground.textOnly Departure.lateStores }, { on := 7, ground := Ground.textOnly Departure.lateStores }, { on := 8, ground := Ground.textOnly Departure.lateStoresUnsure }, { on := 9, ground := Ground.phase }, { on := 10, ground := Ground.phase }, { on := 11, ground := Ground.phase }, { on := 12, ground := Ground.phase }], guard := none }, { dst := none, op := Op.store 24 (Operand.tmp 14) (Operand.tmp 54), type := 0, pos := "ref.go:25", after := #[{ on := 11, ground := Ground.data }, { on := 8, ground := Ground.data }, { on := 13, ground := Ground.chain }, { on := 0, ground := Ground.phase }, { on := 1, ground := Ground.phase }, { on := 2, ground := Ground.phase }, { on := 3, ground := Ground.phase }, { on := 4, ground := Ground.phase }, { on := 5, ground := Ground.phase }, { on := 6, ground := Ground.phase }, { on := 7, ground := Ground.phase }, { on := 8, ground := Ground.phase }, { on := 9, ground := Ground.phase }, { on := 10, ground := Ground.phase }, { on := 11, ground := Ground.phase }, { on := 12, ground := Ground.phase }, { on := 13, ground := Ground.phase }], guard := none }]
def rcbT (x:Nat) (y:Nat) (z:Nat) (y0 y1 y2 y3 y4 y5 y6 y7 y8 y15 y16 y17 y18 y19 y20 y21 y22 y23 y24 y25 y26 y27 y28 y29 y30 y31 y32 y33 y34 y35 y36 y37 y38 y39 y40 y41 y42 y43 y44 y45 y55 y56 y57 y58 y59 y60 y61 y62 y63 y64 y65 y66 y67 y68 y69 y70 y71 y72 y73 y74 y75:Value) (X:Nat→Value):Array Value:=#[y0,y1,y2,y3,y4,y5,y6,y7,y8,.pointer (some ⟨x,0,none⟩),.pointer (some ⟨y,0,none⟩),.pointer (some ⟨z,0,none⟩),X 12,X 13,X 14,y15,y16,y17,y18,y19,y20,y21,y22,y23,y24,y25,y26,y27,y28,y29,y30,y31,y32,y33,y34,y35,y36,y37,y38,y39,y40,y41,y42,y43,y44,y45,X 46,X 47,X 48,X 49,X 50,X 51,X 52,X 53,X 54,y55,y56,y57,y58,y59,y60,y61,y62,y63,y64,y65,y66,y67,y68,y69,y70,y71,y72,y73,y74,y75]
theorem rcbT_eq (x:Nat) (y:Nat) (z:Nat) (y0 y1 y2 y3 y4 y5 y6 y7 y8 y15 y16 y17 y18 y19 y20 y21 y22 y23 y24 y25 y26 y27 y28 y29 y30 y31 y32 y33 y34 y35 y36 y37 y38 y39 y40 y41 y42 y43 y44 y45 y55 y56 y57 y58 y59 y60 y61 y62 y63 y64 y65 y66 y67 y68 y69 y70 y71 y72 y73 y74 y75:Value) (X:Nat→Value):rcbT x y z y0 y1 y2 y3 y4 y5 y6 y7 y8 y15 y16 y17 y18 y19 y20 y21 y22 y23 y24 y25 y26 y27 y28 y29 y30 y31 y32 y33 y34 y35 y36 y37 y38 y39 y40 y41 y42 y43 y44 y45 y55 y56 y57 y58 y59 y60 y61 y62 y63 y64 y65 y66 y67 y68 y69 y70 y71 y72 y73 y74 y75 X=#[y0,y1,y2,y3,y4,y5,y6,y7,y8,.pointer (some ⟨x,0,none⟩),.pointer (some ⟨y,0,none⟩),.pointer (some ⟨z,0,none⟩),X 12,X 13,X 14,y15,y16,y17,y18,y19,y20,y21,y22,y23,y24,y25,y26,y27,y28,y29,y30,y31,y32,y33,y34,y35,y36,y37,y38,y39,y40,y41,y42,y43,y44,y45,X 46,X 47,X 48,X 49,X 50,X 51,X 52,X 53,X 54,y55,y56,y57,y58,y59,y60,y61,y62,y63,y64,y65,y66,y67,y68,y69,y70,y71,y72,y73,y74,y75]:=rfl
def rcbI (G:World→Prop) (N:Nat) (x y z:Nat) (a b c:P3) (y0 y1 y2 y3 y4 y5 y6 y7 y8 y15 y16 y17 y18 y19 y20 y21 y22 y23 y24 y25 y26 y27 y28 y29 y30 y31 y32 y33 y34 y35 y36 y37 y38 y39 y40 y41 y42 y43 y44 y45 y55 y56 y57 y58 y59 y60 y61 y62 y63 y64 y65 y66 y67 y68 y69 y70 y71 y72 y73 y74 y75:Value) (l:Array Bool) (A:Act) (W:World):Prop :=
  l.size=15∧∃ X:Nat→Value,A={ tmps:=rcbT x y z y0 y1 y2 y3 y4 y5 y6 y7 y8 y15 y16 y17 y18 y19 y20 y21 y22 y23 y24 y25 y26 y27 y28 y29 y30 y31 y32 y33 y34 y35 y36 y37 y38 y39 y40 y41 y42 y43 y44 y45 y55 y56 y57 y58 y59 y60 y61 y62 y63 y64 y65 y66 y67 y68 y69 y70 y71 y72 y73 y74 y75 X,defers:=[] }∧N≤W.heap.size∧G W∧PV l 0 (X 46) (ptv (tim 2 a))∧PV l 1 (X 47) (ptv (tim 2 b))∧PV l 2 (X 48) (ptv (add a b))∧PV l 3 (X 49) (ptv (tim 2 b))∧PV l 4 (X 50) (ptv (tim 2 c))∧PV l 5 (X 51) (ptv (add b c))∧PV l 6 (X 52) (ptv (tim 2 c))∧PV l 7 (X 53) (ptv (tim 2 a))∧PV l 8 (X 54) (ptv (add c a))∧QA l W (X 12) 9 12 N ((add a b))∧QA l W (X 13) 10 13 N ((add b c))∧QA l W (X 14) 11 14 N ((add c a))∧DD l (X 12) (X 13) 9 10∧DD l (X 12) (X 14) 9 11∧DD l (X 13) (X 14) 10 11
set_option maxRecDepth 100000 in
set_option maxHeartbeats 4000000 in
theorem rcb_steps (G:World→Prop) (N:Nat) (x y z:Nat) (a b c:P3) (y0 y1 y2 y3 y4 y5 y6 y7 y8 y15 y16 y17 y18 y19 y20 y21 y22 y23 y24 y25 y26 y27 y28 y29 y30 y31 y32 y33 y34 y35 y36 y37 y38 y39 y40 y41 y42 y43 y44 y45 y55 y56 y57 y58 y59 y60 y61 y62 y63 y64 y65 y66 y67 y68 y69 y70 y71 y72 y73 y74 y75:Value) (Q:Exit→Act→World→Prop) (HA:Hid (BdP 1000000 a)) (HB:Hid (BdP 1000000 b)) (HC:Hid (BdP 1000000 c)) (GC:Hid (∀ W:World,G W→W.cell? ⟨x,0,none⟩=some (.int .i64 (tim 2 a).1)∧W.cell? ⟨x,1,none⟩=some (.int .i64 (tim 2 a).2.1)∧W.cell? ⟨x,2,none⟩=some (.int .i64 (tim 2 a).2.2)∧W.cell? ⟨y,0,none⟩=some (.int .i64 (tim 2 b).1)∧W.cell? ⟨y,1,none⟩=some (.int .i64 (tim 2 b).2.1)∧W.cell? ⟨y,2,none⟩=some (.int .i64 (tim 2 b).2.2)∧W.cell? ⟨z,0,none⟩=some (.int .i64 (tim 2 c).1)∧W.cell? ⟨z,1,none⟩=some (.int .i64 (tim 2 c).2.1)∧W.cell? ⟨z,2,none⟩=some (.int .i64 (tim 2 c).2.2))) (GI:Hid (∀ W W':World,Below N W W'→G W→G W')) :
    allOps (fun i o=>∀ (l:Array Bool) (A:Act) (W:World),rcbI G N x y z a b c y0 y1 y2 y3 y4 y5 y6 y7 y8 y15 y16 y17 y18 y19 y20 y21 y22 y23 y24 y25 y26 y27 y28 y29 y30 y31 y32 y33 y34 y35 y36 y37 y38 y39 y40 y41 y42 y43 y44 y45 y55 y56 y57 y58 y59 y60 y61 y62 y63 y64 y65 y66 y67 y68 y69 y70 y71 y72 y73 y74 y75 l A W→l.getD i true=false→(∀ e ∈ o.after,Region.binds .any e=true→l.getD e.on false=true)→∀ K':Act→World→Prop,(∀ A' W',rcbI G N x y z a b c y0 y1 y2 y3 y4 y5 y6 y7 y8 y15 y16 y17 y18 y19 y20 y21 y22 y23 y24 y25 y26 y27 y28 y29 y30 y31 y32 y33 y34 y35 y36 y37 y38 y39 y40 y41 y42 y43 y44 y45 y55 y56 y57 y58 y59 y60 y61 y62 y63 y64 y65 y66 y67 y68 y69 y70 y71 y72 y73 y74 y75 (l.setIfInBounds i true) A' W'→K' A' W')→if Region.wanted o (yielded rcbOps A.tmps)=true then Oper.wp Tryz.prog o A W K' Q else K' (A.put o.dst undef) W) 0 rcbOps.toList:=by
  simp only [rcbOps,allOps]
  refine ⟨?_,?_,?_,?_,?_,?_,?_,?_,?_,?_,?_,?_,?_,?_,?_,trivial⟩
  · rintro l A W ⟨hl,X,rfl,hN,g,F⟩ h1 hp K hK
    obtain ⟨c0,c1,c2,c3,c4,c5,c6,c7,c8⟩:=GC.out W g
    rw [rcbT_eq]
    have g':=Lib.hid g
    have F':=Lib.hid F;clear F g
    have hN':=Lib.hid hN;clear hN;have hl':=Lib.hid hl;clear hl;have h1':=Lib.hid h1;clear h1;have hp':=Lib.hid hp;clear hp;have hK':=Lib.hid hK;clear hK
    go_simp
    have hK:=hK'.out;have hN:=hN'.out;have hl:=hl'.out;have h1:=h1'.out
    obtain ⟨p0,p1,p2,p3,p4,p5,p6,p7,p8,qa0,qa1,qa2,d0_1,d0_2,d1_2⟩:=F'.out
    have g:=g'.out
    refine hK _ _ ⟨by simpa using hl,(upd X 46 (ptv (tim 2 a))),rfl,hN,g,PV.made rfl,p1.k,p2.k,p3.k,p4.k,p5.k,p6.k,p7.k,p8.k,qa0.keep (by decide) (by decide) (fun _ _ h=>h),qa1.keep (by decide) (by decide) (fun _ _ h=>h),qa2.keep (by decide) (by decide) (fun _ _ h=>h),d0_1.k,d0_2.k,d1_2.k⟩
  · rintro l A W ⟨hl,X,rfl,hN,g,F⟩ h1 hp K hK
    obtain ⟨c0,c1,c2,c3,c4,c5,c6,c7,c8⟩:=GC.out W g
    rw [rcbT_eq]
    have g':=Lib.hid g
    have F':=Lib.hid F;clear F g
    have hN':=Lib.hid hN;clear hN;have hl':=Lib.hid hl;clear hl;have h1':=Lib.hid h1;clear h1;have hp':=Lib.hid hp;clear hp;have hK':=Lib.hid hK;clear hK
    go_simp
    have hK:=hK'.out;have hN:=hN'.out;have hl:=hl'.out;have h1:=h1'.out
    obtain ⟨p0,p1,p2,p3,p4,p5,p6,p7,p8,qa0,qa1,qa2,d0_1,d0_2,d1_2⟩:=F'.out
    have g:=g'.out
    refine hK _ _ ⟨by simpa using hl,(upd X 47 (ptv (tim 2 b))),rfl,hN,g,p0.k,PV.made rfl,p2.k,p3.k,p4.k,p5.k,p6.k,p7.k,p8.k,qa0.keep (by decide) (by decide) (fun _ _ h=>h),qa1.keep (by decide) (by decide) (fun _ _ h=>h),qa2.keep (by decide) (by decide) (fun _ _ h=>h),d0_1.k,d0_2.k,d1_2.k⟩
  · rintro l A W ⟨hl,X,rfl,hN,g,F⟩ h1 hp K hK
    have e0:=F.1 (hp ⟨0,.data⟩ (by simp) rfl)
    have e1:=F.2.1 (hp ⟨1,.data⟩ (by simp) rfl)
    rw [rcbT_eq]
    have g':=Lib.hid g
    have F':=Lib.hid F;clear F g
    have hN':=Lib.hid hN;clear hN;have hl':=Lib.hid hl;clear hl;have h1':=Lib.hid h1;clear h1;have hp':=Lib.hid hp;clear hp;have hK':=Lib.hid hK;clear hK
    go_simp
    go_at_call 138
    refine (rhalf_any a b _ HA.out HB.out).mono ?_
    rintro e W1 ⟨rfl,hb⟩
    (try dsimp only)
    have hK:=hK'.out;have hN:=hN'.out;have hl:=hl'.out;have h1:=h1'.out
    obtain ⟨p0,p1,p2,p3,p4,p5,p6,p7,p8,qa0,qa1,qa2,d0_1,d0_2,d1_2⟩:=F'.out
    have g:=g'.out
    refine hK _ _ ⟨by simpa using hl,(upd (upd (upd X 46 (ptv (tim 2 a))) 47 (ptv (tim 2 b))) 48 (ptv (add a b))),rfl,Nat.le_trans hN hb.size,GI.out _ _ (hb.mono hN) g,PV.made rfl,PV.made rfl,PV.made rfl,p3.k,p4.k,p5.k,p6.k,p7.k,p8.k,qa0.keep (by decide) (by decide) (fun _ _ h=>own_below h hb),qa1.keep (by decide) (by decide) (fun _ _ h=>own_below h hb),qa2.keep (by decide) (by decide) (fun _ _ h=>own_below h hb),d0_1.k,d0_2.k,d1_2.k⟩
  · rintro l A W ⟨hl,X,rfl,hN,g,F⟩ h1 hp K hK
    obtain ⟨c0,c1,c2,c3,c4,c5,c6,c7,c8⟩:=GC.out W g
    rw [rcbT_eq]
    have g':=Lib.hid g
    have F':=Lib.hid F;clear F g
    have hN':=Lib.hid hN;clear hN;have hl':=Lib.hid hl;clear hl;have h1':=Lib.hid h1;clear h1;have hp':=Lib.hid hp;clear hp;have hK':=Lib.hid hK;clear hK
    go_simp
    have hK:=hK'.out;have hN:=hN'.out;have hl:=hl'.out;have h1:=h1'.out
    obtain ⟨p0,p1,p2,p3,p4,p5,p6,p7,p8,qa0,qa1,qa2,d0_1,d0_2,d1_2⟩:=F'.out
    have g:=g'.out
    refine hK _ _ ⟨by simpa using hl,(upd X 49 (ptv (tim 2 b))),rfl,hN,g,p0.k,p1.k,p2.k,PV.made rfl,p4.k,p5.k,p6.k,p7.k,p8.k,qa0.keep (by decide) (by decide) (fun _ _ h=>h),qa1.keep (by decide) (by decide) (fun _ _ h=>h),qa2.keep (by decide) (by decide) (fun _ _ h=>h),d0_1.k,d0_2.k,d1_2.k⟩
  · rintro l A W ⟨hl,X,rfl,hN,g,F⟩ h1 hp K hK
    obtain ⟨c0,c1,c2,c3,c4,c5,c6,c7,c8⟩:=GC.out W g
    rw [rcbT_eq]
    have g':=Lib.hid g
    have F':=Lib.hid F;clear F g
    have hN':=Lib.hid hN;clear hN;have hl':=Lib.hid hl;clear hl;have h1':=Lib.hid h1;clear h1;have hp':=Lib.hid hp;clear hp;have hK':=Lib.hid hK;clear hK
    go_simp
    have hK:=hK'.out;have hN:=hN'.out;have hl:=hl'.out;have h1:=h1'.out
    obtain ⟨p0,p1,p2,p3,p4,p5,p6,p7,p8,qa0,qa1,qa2,d0_1,d0_2,d1_2⟩:=F'.out
    have g:=g'.out
    refine hK _ _ ⟨by simpa using hl,(upd X 50 (ptv (tim 2 c))),rfl,hN,g,p0.k,p1.k,p2.k,p3.k,PV.made rfl,p5.k,p6.k,p7.k,p8.k,qa0.keep (by decide) (by decide) (fun _ _ h=>h),qa1.keep (by decide) (by decide) (fun _ _ h=>h),qa2.keep (by decide) (by decide) (fun _ _ h=>h),d0_1.k,d0_2.k,d1_2.k⟩
  · rintro l A W ⟨hl,X,rfl,hN,g,F⟩ h1 hp K hK
    have e3:=F.2.2.2.1 (hp ⟨3,.data⟩ (by simp) rfl)
    have e4:=F.2.2.2.2.1 (hp ⟨4,.data⟩ (by simp) rfl)
    rw [rcbT_eq]
    have g':=Lib.hid g
    have F':=Lib.hid F;clear F g
    have hN':=Lib.hid hN;clear hN;have hl':=Lib.hid hl;clear hl;have h1':=Lib.hid h1;clear h1;have hp':=Lib.hid hp;clear hp;have hK':=Lib.hid hK;clear hK
    go_simp
    go_at_call 138
    refine (rhalf_any b c _ HB.out HC.out).mono ?_
    rintro e W1 ⟨rfl,hb⟩
    (try dsimp only)
    have hK:=hK'.out;have hN:=hN'.out;have hl:=hl'.out;have h1:=h1'.out
    obtain ⟨p0,p1,p2,p3,p4,p5,p6,p7,p8,qa0,qa1,qa2,d0_1,d0_2,d1_2⟩:=F'.out
    have g:=g'.out
    refine hK _ _ ⟨by simpa using hl,(upd (upd (upd X 49 (ptv (tim 2 b))) 50 (ptv (tim 2 c))) 51 (ptv (add b c))),rfl,Nat.le_trans hN hb.size,GI.out _ _ (hb.mono hN) g,p0.k,p1.k,p2.k,PV.made rfl,PV.made rfl,PV.made rfl,p6.k,p7.k,p8.k,qa0.keep (by decide) (by decide) (fun _ _ h=>own_below h hb),qa1.keep (by decide) (by decide) (fun _ _ h=>own_below h hb),qa2.keep (by decide) (by decide) (fun _ _ h=>own_below h hb),d0_1.k,d0_2.k,d1_2.k⟩
  · rintro l A W ⟨hl,X,rfl,hN,g,F⟩ h1 hp K hK
    obtain ⟨c0,c1,c2,c3,c4,c5,c6,c7,c8⟩:=GC.out W g
    rw [rcbT_eq]
    have g':=Lib.hid g
    have F':=Lib.hid F;clear F g
    have hN':=Lib.hid hN;clear hN;have hl':=Lib.hid hl;clear hl;have h1':=Lib.hid h1;clear h1;have hp':=Lib.hid hp;clear hp;have hK':=Lib.hid hK;clear hK
    go_simp
    have hK:=hK'.out;have hN:=hN'.out;have hl:=hl'.out;have h1:=h1'.out
    obtain ⟨p0,p1,p2,p3,p4,p5,p6,p7,p8,qa0,qa1,qa2,d0_1,d0_2,d1_2⟩:=F'.out
    have g:=g'.out
    refine hK _ _ ⟨by simpa using hl,(upd X 52 (ptv (tim 2 c))),rfl,hN,g,p0.k,p1.k,p2.k,p3.k,p4.k,p5.k,PV.made rfl,p7.k,p8.k,qa0.keep (by decide) (by decide) (fun _ _ h=>h),qa1.keep (by decide) (by decide) (fun _ _ h=>h),qa2.keep (by decide) (by decide) (fun _ _ h=>h),d0_1.k,d0_2.k,d1_2.k⟩
  · rintro l A W ⟨hl,X,rfl,hN,g,F⟩ h1 hp K hK
    obtain ⟨c0,c1,c2,c3,c4,c5,c6,c7,c8⟩:=GC.out W g
    rw [rcbT_eq]
    have g':=Lib.hid g
    have F':=Lib.hid F;clear F g
    have hN':=Lib.hid hN;clear hN;have hl':=Lib.hid hl;clear hl;have h1':=Lib.hid h1;clear h1;have hp':=Lib.hid hp;clear hp;have hK':=Lib.hid hK;clear hK
    go_simp
    have hK:=hK'.out;have hN:=hN'.out;have hl:=hl'.out;have h1:=h1'.out
    obtain ⟨p0,p1,p2,p3,p4,p5,p6,p7,p8,qa0,qa1,qa2,d0_1,d0_2,d1_2⟩:=F'.out
    have g:=g'.out
    refine hK _ _ ⟨by simpa using hl,(upd X 53 (ptv (tim 2 a))),rfl,hN,g,p0.k,p1.k,p2.k,p3.k,p4.k,p5.k,p6.k,PV.made rfl,p8.k,qa0.keep (by decide) (by decide) (fun _ _ h=>h),qa1.keep (by decide) (by decide) (fun _ _ h=>h),qa2.keep (by decide) (by decide) (fun _ _ h=>h),d0_1.k,d0_2.k,d1_2.k⟩
  · rintro l A W ⟨hl,X,rfl,hN,g,F⟩ h1 hp K hK
    have e6:=F.2.2.2.2.2.2.1 (hp ⟨6,.data⟩ (by simp) rfl)
    have e7:=F.2.2.2.2.2.2.2.1 (hp ⟨7,.data⟩ (by simp) rfl)
    rw [rcbT_eq]
    have g':=Lib.hid g
    have F':=Lib.hid F;clear F g
    have hN':=Lib.hid hN;clear hN;have hl':=Lib.hid hl;clear hl;have h1':=Lib.hid h1;clear h1;have hp':=Lib.hid hp;clear hp;have hK':=Lib.hid hK;clear hK
    go_simp
    go_at_call 138
    refine (rhalf_any c a _ HC.out HA.out).mono ?_
    rintro e W1 ⟨rfl,hb⟩
    (try dsimp only)
    have hK:=hK'.out;have hN:=hN'.out;have hl:=hl'.out;have h1:=h1'.out
    obtain ⟨p0,p1,p2,p3,p4,p5,p6,p7,p8,qa0,qa1,qa2,d0_1,d0_2,d1_2⟩:=F'.out
    have g:=g'.out
    refine hK _ _ ⟨by simpa using hl,(upd (upd (upd X 52 (ptv (tim 2 c))) 53 (ptv (tim 2 a))) 54 (ptv (add c a))),rfl,Nat.le_trans hN hb.size,GI.out _ _ (hb.mono hN) g,p0.k,p1.k,p2.k,p3.k,p4.k,p5.k,PV.made rfl,PV.made rfl,PV.made rfl,qa0.keep (by decide) (by decide) (fun _ _ h=>own_below h hb),qa1.keep (by decide) (by decide) (fun _ _ h=>own_below h hb),qa2.keep (by decide) (by decide) (fun _ _ h=>own_below h hb),d0_1.k,d0_2.k,d1_2.k⟩
  · rintro l A W ⟨hl,X,rfl,hN,g,F⟩ h1 hp K hK
    rw [rcbT_eq]
    have g':=Lib.hid g
    have F':=Lib.hid F;clear F g
    have hN':=Lib.hid hN;clear hN;have hl':=Lib.hid hl;clear hl;have h1':=Lib.hid h1;clear h1;have hp':=Lib.hid hp;clear hp;have hK':=Lib.hid hK;clear hK
    go_simp
    have hK:=hK'.out;have hN:=hN'.out;have hl:=hl'.out;have h1:=h1'.out
    obtain ⟨p0,p1,p2,p3,p4,p5,p6,p7,p8,qa0,qa1,qa2,d0_1,d0_2,d1_2⟩:=F'.out
    have g:=g'.out
    refine hK _ _ ⟨by simpa using hl,(upd X 12 (.pointer (some ⟨W.heap.size,0,none⟩))),rfl,(by simp;omega),GI.out _ _ (((Below.refl _ W).alloc (Nat.le_refl _) _).mono hN) g,p0.k,p1.k,p2.k,p3.k,p4.k,p5.k,p6.k,p7.k,p8.k,qa0.made (by decide) (by rw [hl];decide) h1 hN (own_new W (0,0,0) _),qa1.keep (by decide) (by decide) (fun _ _ h=>own_alloc h _),qa2.keep (by decide) (by decide) (fun _ _ h=>own_alloc h _),DD.mk1 qa1 (by decide),DD.mk1 qa2 (by decide),d1_2.k⟩
  · rintro l A W ⟨hl,X,rfl,hN,g,F⟩ h1 hp K hK
    rw [rcbT_eq]
    have g':=Lib.hid g
    have F':=Lib.hid F;clear F g
    have hN':=Lib.hid hN;clear hN;have hl':=Lib.hid hl;clear hl;have h1':=Lib.hid h1;clear h1;have hp':=Lib.hid hp;clear hp;have hK':=Lib.hid hK;clear hK
    go_simp
    have hK:=hK'.out;have hN:=hN'.out;have hl:=hl'.out;have h1:=h1'.out
    obtain ⟨p0,p1,p2,p3,p4,p5,p6,p7,p8,qa0,qa1,qa2,d0_1,d0_2,d1_2⟩:=F'.out
    have g:=g'.out
    refine hK _ _ ⟨by simpa using hl,(upd X 13 (.pointer (some ⟨W.heap.size,0,none⟩))),rfl,(by simp;omega),GI.out _ _ (((Below.refl _ W).alloc (Nat.le_refl _) _).mono hN) g,p0.k,p1.k,p2.k,p3.k,p4.k,p5.k,p6.k,p7.k,p8.k,qa0.keep (by decide) (by decide) (fun _ _ h=>own_alloc h _),qa1.made (by decide) (by rw [hl];decide) h1 hN (own_new W (0,0,0) _),qa2.keep (by decide) (by decide) (fun _ _ h=>own_alloc h _),DD.mk2 qa0 (by decide),d0_2.k,DD.mk1 qa2 (by decide)⟩
  · rintro l A W ⟨hl,X,rfl,hN,g,F⟩ h1 hp K hK
    rw [rcbT_eq]
    have g':=Lib.hid g
    have F':=Lib.hid F;clear F g
    have hN':=Lib.hid hN;clear hN;have hl':=Lib.hid hl;clear hl;have h1':=Lib.hid h1;clear h1;have hp':=Lib.hid hp;clear hp;have hK':=Lib.hid hK;clear hK
    go_simp
    have hK:=hK'.out;have hN:=hN'.out;have hl:=hl'.out;have h1:=h1'.out
    obtain ⟨p0,p1,p2,p3,p4,p5,p6,p7,p8,qa0,qa1,qa2,d0_1,d0_2,d1_2⟩:=F'.out
    have g:=g'.out
    refine hK _ _ ⟨by simpa using hl,(upd X 14 (.pointer (some ⟨W.heap.size,0,none⟩))),rfl,(by simp;omega),GI.out _ _ (((Below.refl _ W).alloc (Nat.le_refl _) _).mono hN) g,p0.k,p1.k,p2.k,p3.k,p4.k,p5.k,p6.k,p7.k,p8.k,qa0.keep (by decide) (by decide) (fun _ _ h=>own_alloc h _),qa1.keep (by decide) (by decide) (fun _ _ h=>own_alloc h _),qa2.made (by decide) (by rw [hl];decide) h1 hN (own_new W (0,0,0) _),d0_1.k,DD.mk2 qa0 (by decide),DD.mk2 qa1 (by decide)⟩
  · rintro l A W ⟨hl,X,rfl,hN,g,F⟩ h1 hp K hK
    have la:=hp ⟨9,.data⟩ (by simp) rfl
    have e2:=F.2.2.1 (hp ⟨2,.data⟩ (by simp) rfl)
    obtain ⟨b',v',e2,hb',ow,_⟩:=F.2.2.2.2.2.2.2.2.2.1.2 la
    obtain ⟨o0,o1,o2,o3,o4,o5,o6⟩:=id ow
    rw [rcbT_eq]
    have g':=Lib.hid g
    have F':=Lib.hid F;clear F g
    have hN':=Lib.hid hN;clear hN;have hl':=Lib.hid hl;clear hl;have h1':=Lib.hid h1;clear h1;have hp':=Lib.hid hp;clear hp;have hK':=Lib.hid hK;clear hK
    have la':=Lib.hid la;clear la;have hb'':=Lib.hid hb';clear hb';have ow':=Lib.hid ow;clear ow
    go_simp
    have hK:=hK'.out;have hN:=hN'.out;have hl:=hl'.out;have h1:=h1'.out
    obtain ⟨p0,p1,p2,p3,p4,p5,p6,p7,p8,qa0,qa1,qa2,d0_1,d0_2,d1_2⟩:=F'.out
    have g:=g'.out
    have la:=la'.out;have hb':=hb''.out;have ow:=ow'.out
    refine hK _ _ ⟨by simpa using hl,(upd (upd X 48 (ptv (add a b))) 12 (.pointer (some ⟨b',0,none⟩))),rfl,(by simpa using hN),GI.out _ _ (below_set3 _ _ _ hb') g,p0.k,p1.k,PV.made rfl,p3.k,p4.k,p5.k,p6.k,p7.k,p8.k,QA.put (by decide) la rfl hb' (own_put ow _),qa1.other (by decide) (by decide) (fun z=>by have dd:=d0_1 la z;rw [e2] at dd;exact dd.symm) (fun _ _ n h=>own_set3 _ _ _ n h),qa2.other (by decide) (by decide) (fun z=>by have dd:=d0_2 la z;rw [e2] at dd;exact dd.symm) (fun _ _ n h=>own_set3 _ _ _ n h),(by have z:=d0_1.keep (i:=12) (by decide) (by decide);rw [e2] at z;exact z),(by have z:=d0_2.keep (i:=12) (by decide) (by decide);rw [e2] at z;exact z),d1_2.k⟩
  · rintro l A W ⟨hl,X,rfl,hN,g,F⟩ h1 hp K hK
    have la:=hp ⟨10,.data⟩ (by simp) rfl
    have e5:=F.2.2.2.2.2.1 (hp ⟨5,.data⟩ (by simp) rfl)
    obtain ⟨b',v',e2,hb',ow,_⟩:=F.2.2.2.2.2.2.2.2.2.2.1.2 la
    obtain ⟨o0,o1,o2,o3,o4,o5,o6⟩:=id ow
    rw [rcbT_eq]
    have g':=Lib.hid g
    have F':=Lib.hid F;clear F g
    have hN':=Lib.hid hN;clear hN;have hl':=Lib.hid hl;clear hl;have h1':=Lib.hid h1;clear h1;have hp':=Lib.hid hp;clear hp;have hK':=Lib.hid hK;clear hK
    have la':=Lib.hid la;clear la;have hb'':=Lib.hid hb';clear hb';have ow':=Lib.hid ow;clear ow
    go_simp
    have hK:=hK'.out;have hN:=hN'.out;have hl:=hl'.out;have h1:=h1'.out
    obtain ⟨p0,p1,p2,p3,p4,p5,p6,p7,p8,qa0,qa1,qa2,d0_1,d0_2,d1_2⟩:=F'.out
    have g:=g'.out
    have la:=la'.out;have hb':=hb''.out;have ow:=ow'.out
    refine hK _ _ ⟨by simpa using hl,(upd (upd X 51 (ptv (add b c))) 13 (.pointer (some ⟨b',0,none⟩))),rfl,(by simpa using hN),GI.out _ _ (below_set3 _ _ _ hb') g,p0.k,p1.k,p2.k,p3.k,p4.k,PV.made rfl,p6.k,p7.k,p8.k,qa0.other (by decide) (by decide) (fun z=>by have dd:=d0_1 z la;rw [e2] at dd;exact dd) (fun _ _ n h=>own_set3 _ _ _ n h),QA.put (by decide) la rfl hb' (own_put ow _),qa2.other (by decide) (by decide) (fun z=>by have dd:=d1_2 la z;rw [e2] at dd;exact dd.symm) (fun _ _ n h=>own_set3 _ _ _ n h),(by have z:=d0_1.keep (i:=13) (by decide) (by decide);rw [e2] at z;exact z),d0_2.k,(by have z:=d1_2.keep (i:=13) (by decide) (by decide);rw [e2] at z;exact z)⟩
  · rintro l A W ⟨hl,X,rfl,hN,g,F⟩ h1 hp K hK
    have la:=hp ⟨11,.data⟩ (by simp) rfl
    have e8:=F.2.2.2.2.2.2.2.2.1 (hp ⟨8,.data⟩ (by simp) rfl)
    obtain ⟨b',v',e2,hb',ow,_⟩:=F.2.2.2.2.2.2.2.2.2.2.2.1.2 la
    obtain ⟨o0,o1,o2,o3,o4,o5,o6⟩:=id ow
    rw [rcbT_eq]
    have g':=Lib.hid g
    have F':=Lib.hid F;clear F g
    have hN':=Lib.hid hN;clear hN;have hl':=Lib.hid hl;clear hl;have h1':=Lib.hid h1;clear h1;have hp':=Lib.hid hp;clear hp;have hK':=Lib.hid hK;clear hK
    have la':=Lib.hid la;clear la;have hb'':=Lib.hid hb';clear hb';have ow':=Lib.hid ow;clear ow
    go_simp
    have hK:=hK'.out;have hN:=hN'.out;have hl:=hl'.out;have h1:=h1'.out
    obtain ⟨p0,p1,p2,p3,p4,p5,p6,p7,p8,qa0,qa1,qa2,d0_1,d0_2,d1_2⟩:=F'.out
    have g:=g'.out
    have la:=la'.out;have hb':=hb''.out;have ow:=ow'.out
    refine hK _ _ ⟨by simpa using hl,(upd (upd X 54 (ptv (add c a))) 14 (.pointer (some ⟨b',0,none⟩))),rfl,(by simpa using hN),GI.out _ _ (below_set3 _ _ _ hb') g,p0.k,p1.k,p2.k,p3.k,p4.k,p5.k,p6.k,p7.k,PV.made rfl,qa0.other (by decide) (by decide) (fun z=>by have dd:=d0_2 z la;rw [e2] at dd;exact dd) (fun _ _ n h=>own_set3 _ _ _ n h),qa1.other (by decide) (by decide) (fun z=>by have dd:=d1_2 z la;rw [e2] at dd;exact dd) (fun _ _ n h=>own_set3 _ _ _ n h),QA.put (by decide) la rfl hb' (own_put ow _),d0_1.k,(by have z:=d0_2.keep (i:=14) (by decide) (by decide);rw [e2] at z;exact z),(by have z:=d1_2.keep (i:=14) (by decide) (by decide);rw [e2] at z;exact z)⟩
set_option maxRecDepth 100000 in
set_option maxHeartbeats 4000000 in
theorem rcb_reg (G:World→Prop) (N:Nat) (x y z:Nat) (a b c:P3) {y0 y1 y2 y3 y4 y5 y6 y7 y8 y15 y16 y17 y18 y19 y20 y21 y22 y23 y24 y25 y26 y27 y28 y29 y30 y31 y32 y33 y34 y35 y36 y37 y38 y39 y40 y41 y42 y43 y44 y45 y55 y56 y57 y58 y59 y60 y61 y62 y63 y64 y65 y66 y67 y68 y69 y70 y71 y72 y73 y74 y75 x12 x13 x14 x46 x47 x48 x49 x50 x51 x52 x53 x54:Value} {W:World} {Q:Exit→Act→World→Prop} (HA:Hid (BdP 1000000 a)) (HB:Hid (BdP 1000000 b)) (HC:Hid (BdP 1000000 c)) (GC:Hid (∀ W:World,G W→W.cell? ⟨x,0,none⟩=some (.int .i64 (tim 2 a).1)∧W.cell? ⟨x,1,none⟩=some (.int .i64 (tim 2 a).2.1)∧W.cell? ⟨x,2,none⟩=some (.int .i64 (tim 2 a).2.2)∧W.cell? ⟨y,0,none⟩=some (.int .i64 (tim 2 b).1)∧W.cell? ⟨y,1,none⟩=some (.int .i64 (tim 2 b).2.1)∧W.cell? ⟨y,2,none⟩=some (.int .i64 (tim 2 b).2.2)∧W.cell? ⟨z,0,none⟩=some (.int .i64 (tim 2 c).1)∧W.cell? ⟨z,1,none⟩=some (.int .i64 (tim 2 c).2.1)∧W.cell? ⟨z,2,none⟩=some (.int .i64 (tim 2 c).2.2))) (GI:Hid (∀ W W':World,Below N W W'→G W→G W')) (hN:N≤W.heap.size) (g0:G W.drew)
    (hK:∀ (x46 x47 x48 x49 x50 x51 x52 x53 x54:Value) (b0 b1 b2:Nat) (W':World),N≤W'.heap.size→G W'→N≤b0→Own W' b0 ((add a b))→N≤b1→Own W' b1 ((add b c))→N≤b2→Own W' b2 ((add c a))→Q .normal { tmps:=#[y0,y1,y2,y3,y4,y5,y6,y7,y8,.pointer (some ⟨x,0,none⟩),.pointer (some ⟨y,0,none⟩),.pointer (some ⟨z,0,none⟩),.pointer (some ⟨b0,0,none⟩),.pointer (some ⟨b1,0,none⟩),.pointer (some ⟨b2,0,none⟩),y15,y16,y17,y18,y19,y20,y21,y22,y23,y24,y25,y26,y27,y28,y29,y30,y31,y32,y33,y34,y35,y36,y37,y38,y39,y40,y41,y42,y43,y44,y45,x46,x47,x48,x49,x50,x51,x52,x53,x54,y55,y56,y57,y58,y59,y60,y61,y62,y63,y64,y65,y66,y67,y68,y69,y70,y71,y72,y73,y74,y75],defers:=[] } W') :
    Code.wp Tryz.prog (.region 10 rcbOps true) Q { tmps:=#[y0,y1,y2,y3,y4,y5,y6,y7,y8,.pointer (some ⟨x,0,none⟩),.pointer (some ⟨y,0,none⟩),.pointer (some ⟨z,0,none⟩),x12,x13,x14,y15,y16,y17,y18,y19,y20,y21,y22,y23,y24,y25,y26,y27,y28,y29,y30,y31,y32,y33,y34,y35,y36,y37,y38,y39,y40,y41,y42,y43,y44,y45,x46,x47,x48,x49,x50,x51,x52,x53,x54,y55,y56,y57,y58,y59,y60,y61,y62,y63,y64,y65,y66,y67,y68,y69,y70,y71,y72,y73,y74,y75],defers:=[] } W:=by
  refine wp_region_inv (rcbI G N x y z a b c y0 y1 y2 y3 y4 y5 y6 y7 y8 y15 y16 y17 y18 y19 y20 y21 y22 y23 y24 y25 y26 y27 y28 y29 y30 y31 y32 y33 y34 y35 y36 y37 y38 y39 y40 y41 y42 y43 y44 y45 y55 y56 y57 y58 y59 y60 y61 y62 y63 y64 y65 y66 y67 y68 y69 y70 y71 y72 y73 y74 y75) (by kernel_rfl) ?_ (rcb_steps G N x y z a b c y0 y1 y2 y3 y4 y5 y6 y7 y8 y15 y16 y17 y18 y19 y20 y21 y22 y23 y24 y25 y26 y27 y28 y29 y30 y31 y32 y33 y34 y35 y36 y37 y38 y39 y40 y41 y42 y43 y44 y45 y55 y56 y57 y58 y59 y60 y61 y62 y63 y64 y65 y66 y67 y68 y69 y70 y71 y72 y73 y74 y75 Q HA HB HC GC GI) ?_
  · exact ⟨by simp [rcbOps],fun i=>(#[undef,undef,undef,undef,undef,undef,undef,undef,undef,undef,undef,undef,x12,x13,x14,undef,undef,undef,undef,undef,undef,undef,undef,undef,undef,undef,undef,undef,undef,undef,undef,undef,undef,undef,undef,undef,undef,undef,undef,undef,undef,undef,undef,undef,undef,undef,x46,x47,x48,x49,x50,x51,x52,x53,x54,undef,undef,undef,undef,undef,undef,undef,undef,undef,undef,undef,undef,undef,undef,undef,undef,undef,undef,undef,undef,undef]:Array Value).getD i undef,rfl,hN,g0,PV.nought,PV.nought,PV.nought,PV.nought,PV.nought,PV.nought,PV.nought,PV.nought,PV.nought,QA.nought,QA.nought,QA.nought,DD.nought,DD.nought,DD.nought⟩
  · rintro l A W ⟨hl,X,rfl,hN,g,p0,p1,p2,p3,p4,p5,p6,p7,p8,qa0,qa1,qa2,d0_1,d0_2,d1_2⟩ hr
    unfold rcbOps at hr
    have l0:=ready_end hr 0 (by rw [hl];decide) rfl (fun e he hbn=>by
      simp at he
      (try (repeat (rcases he with rfl | he;· first | assumption | exact absurd hbn (by decide))))
      (try (first | exact he.elim | (subst he;first | assumption | exact absurd hbn (by decide)))))
    have l1:=ready_end hr 1 (by rw [hl];decide) rfl (fun e he hbn=>by
      simp at he
      (try (repeat (rcases he with rfl | he;· first | assumption | exact absurd hbn (by decide))))
      (try (first | exact he.elim | (subst he;first | assumption | exact absurd hbn (by decide)))))
    have l2:=ready_end hr 2 (by rw [hl];decide) rfl (fun e he hbn=>by
      simp at he
      (try (repeat (rcases he with rfl | he;· first | assumption | exact absurd hbn (by decide))))
      (try (first | exact he.elim | (subst he;first | assumption | exact absurd hbn (by decide)))))
    have l3:=ready_end hr 3 (by rw [hl];decide) rfl (fun e he hbn=>by
      simp at he
      (try (repeat (rcases he with rfl | he;· first | assumption | exact absurd hbn (by decide))))
      (try (first | exact he.elim | (subst he;first | assumption | exact absurd hbn (by decide)))))
    have l4:=ready_end hr 4 (by rw [hl];decide) rfl (fun e he hbn=>by
      simp at he
      (try (repeat (rcases he with rfl | he;· first | assumption | exact absurd hbn (by decide))))
      (try (first | exact he.elim | (subst he;first | assumption | exact absurd hbn (by decide)))))
    have l5:=ready_end hr 5 (by rw [hl];decide) rfl (fun e he hbn=>by
      simp at he
      (try (repeat (rcases he with rfl | he;· first | assumption | exact absurd hbn (by decide))))
      (try (first | exact he.elim | (subst he;first | assumption | exact absurd hbn (by decide)))))
    have l6:=ready_end hr 6 (by rw [hl];decide) rfl (fun e he hbn=>by
      simp at he
      (try (repeat (rcases he with rfl | he;· first | assumption | exact absurd hbn (by decide))))
      (try (first | exact he.elim | (subst he;first | assumption | exact absurd hbn (by decide)))))
    have l7:=ready_end hr 7 (by rw [hl];decide) rfl (fun e he hbn=>by
      simp at he
      (try (repeat (rcases he with rfl | he;· first | assumption | exact absurd hbn (by decide))))
      (try (first | exact he.elim | (subst he;first | assumption | exact absurd hbn (by decide)))))
    have l8:=ready_end hr 8 (by rw [hl];decide) rfl (fun e he hbn=>by
      simp at he
      (try (repeat (rcases he with rfl | he;· first | assumption | exact absurd hbn (by decide))))
      (try (first | exact he.elim | (subst he;first | assumption | exact absurd hbn (by decide)))))
    have l9:=ready_end hr 9 (by rw [hl];decide) rfl (fun e he hbn=>by
      simp at he
      (try (repeat (rcases he with rfl | he;· first | assumption | exact absurd hbn (by decide))))
      (try (first | exact he.elim | (subst he;first | assumption | exact absurd hbn (by decide)))))
    have l10:=ready_end hr 10 (by rw [hl];decide) rfl (fun e he hbn=>by
      simp at he
      (try (repeat (rcases he with rfl | he;· first | assumption | exact absurd hbn (by decide))))
      (try (first | exact he.elim | (subst he;first | assumption | exact absurd hbn (by decide)))))
    have l11:=ready_end hr 11 (by rw [hl];decide) rfl (fun e he hbn=>by
      simp at he
      (try (repeat (rcases he with rfl | he;· first | assumption | exact absurd hbn (by decide))))
      (try (first | exact he.elim | (subst he;first | assumption | exact absurd hbn (by decide)))))
    have l12:=ready_end hr 12 (by rw [hl];decide) rfl (fun e he hbn=>by
      simp at he
      (try (repeat (rcases he with rfl | he;· first | assumption | exact absurd hbn (by decide))))
      (try (first | exact he.elim | (subst he;first | assumption | exact absurd hbn (by decide)))))
    have l13:=ready_end hr 13 (by rw [hl];decide) rfl (fun e he hbn=>by
      simp at he
      (try (repeat (rcases he with rfl | he;· first | assumption | exact absurd hbn (by decide))))
      (try (first | exact he.elim | (subst he;first | assumption | exact absurd hbn (by decide)))))
    have l14:=ready_end hr 14 (by rw [hl];decide) rfl (fun e he hbn=>by
      simp at he
      (try (repeat (rcases he with rfl | he;· first | assumption | exact absurd hbn (by decide))))
      (try (first | exact he.elim | (subst he;first | assumption | exact absurd hbn (by decide)))))
    obtain ⟨b0,v0,e0x,n0,o0,t0⟩:=qa0.2 l9
    obtain rfl:=t0 l12
    obtain ⟨b1,v1,e1x,n1,o1,t1⟩:=qa1.2 l10
    obtain rfl:=t1 l13
    obtain ⟨b2,v2,e2x,n2,o2,t2⟩:=qa2.2 l11
    obtain rfl:=t2 l14
    have z:=hK (X 46) (X 47) (X 48) (X 49) (X 50) (X 51) (X 52) (X 53) (X 54) b0 b1 b2 W hN g n0 o0 n1 o1 n2 o2
    rw [← e0x,← e1x,← e2x] at z
    exact z
end Go.Proofs.YtciimaojoococaaGreat
namespace Go.Proofs.YtciimaojoococaaGreat
open Go.ChangeShapes Go.WideShapes Go.RowKit
open Sh
theorem tim_bd9 {q:P3} (h:BdP 1000000 q):BdP 4611686018427387904 (tim 2 q):=by
  simp only [BdP,tim] at h ⊢
  omega
set_option maxRecDepth 100000 in
set_option maxHeartbeats 4000000 in
theorem rcut_any (d:Nat) (D:Int) (t:P9) (w:World) (hD:D=(d:Int)) (hd:d≤3) (hB:BdT 64 t) :
    Calls Tryz.prog 90 #[p9w t,.int .i64 D] w fun e w'=>∃ v,e=.returned v∧w'.ownsRow w.heap.size 42 9 v (4 ^ d) (pcs (cutP d t))∧Below w.heap.size w w':=by
  subst hD
  obtain ⟨i0,hi,hz0,hz1,hz2⟩:=info_parts infoPn9
  have HI:=Lib.hid hi
  have HZ0:=Lib.hid hz0
  have HZ1:=Lib.hid hz1
  have HZ2:=Lib.hid hz2
  have P:=Lib.hid (pan_new w t.1 t.2.1 t.2.2 42)
  have OW:=World.ownsRow_lit (base:=w.heap.size) (e:=42) (size:=9) (w.alloc (pnc t.1 t.2.1 t.2.2 42)) (pcs9 t).toArray 1 (by simp) (by unfold maxLen;omega) rfl
  rw [World.size_alloc] at OW
  have OW':=Lib.hid (show World.ownsRow ((w.alloc (pnc t.1 t.2.1 t.2.2 42)).alloc (.cells (pcs9 t).toArray 42)) w.heap.size 42 9 (.slice (some ⟨w.heap.size + 1,0,none⟩) 1 1) (4 ^ 0) (pcs (cutP 0 t)) by (show World.ownsRow _ _ _ _ _ _ (pcs9 t ++ []));rw [List.append_nil];exact OW)
  have B0:=Lib.hid (show Below w.heap.size w ((w.alloc (pnc t.1 t.2.1 t.2.2 42)).alloc (.cells (pcs9 t).toArray 42)) from ((Below.refl _ w).alloc (Nat.le_refl _) _).alloc (by simp) _)
  have HB:=Lib.hid (fun k (h:k≤2) q (hq:q ∈ cutP k t)=>(cutP_bd k hB q hq).mono (B:=1000000) (by
    have:k=0∨k=1∨k=2:=by omega
    rcases this with rfl | rfl | rfl <;> decide))
  clear hi hz0 hz1 hz2 hB OW
  go_enter Tryz.func90,Tryz.ntmps90
  obtain ⟨c0,c1,c2,c3,c4,c5,c6,c7,c8,cl⟩:=P.out
  go_wp2
  go_loopw [5,6] (fun lv kv wr=>∃ k:Nat,k≤d∧kv=.int .i64 k∧wr.ownsRow w.heap.size 42 9 lv (4 ^ k) (pcs (cutP k t))∧Below w.heap.size w wr) (fun _ kv _=>d - (intOf kv).toNat)
  case atStart=>exact ⟨0,Nat.zero_le _,rfl,OW'.out,B0.out⟩
  case round =>
    obtain ⟨k,hk,rfl,how,hbb⟩:=hrel
    have HOW:=Lib.hid how
    have BK:=Lib.hid hbb
    clear how hbb OW' B0 P c0 c1 c2 c3 c4 c5 c6 c7 c8 cl
    by_cases hlt:k < d
    · have hk1:(k:Int) < (d:Int):=by omega
      have hk0:0≤(k:Int):=by omega
      have hk2:k≤2:=by omega
      obtain ⟨L,hL⟩:∃ L,cutP k t=L:=⟨_,rfl⟩
      have hlen:L.length=4 ^ k:=by rw [← hL];exact cutP_len k t
      have hp4:0 < 4 ^ k:=Nat.pow_pos (by decide)
      have hle:4 ^ k≤16:=by
        have:k=0∨k=1∨k=2:=by omega
        rcases this with rfl | rfl | rfl <;> decide
      have HBk:=Lib.hid (fun i (hi:i < 4 ^ k)=>HB.out k hk2 (L.getD i ((0,0,0),(0,0,0),(0,0,0))) (by
        rw [List.getD_eq_getElem?_getD,List.getElem?_eq_getElem (by rw [hlen];exact hi),hL]
        exact List.getElem_mem _))
      have NX:=Lib.hid (fun i (hi:i < 4 ^ k)=>take_next (l:=L) (k:=i) (by rw [hlen];exact hi))
      have FI:=Lib.hid (show pcs ((L.take (4 ^ k)).flatMap qrs)=pcs (cutP (k + 1) t) by rw [← hlen,List.take_length,cutP_last,hL])
      have P4:=Lib.hid (show 4 * 4 ^ k=4 ^ (k + 1) by rw [Nat.pow_succ];omega)
      have HOL:=HOW.out
      rw [hL] at HOL
      obtain ⟨g,off,cap,rfl,hrow⟩:=own_row9 HOL hlen hp4
      have hg:g < wr.heap.size:=hrow.1
      have R:=Lib.hid hrow
      generalize hm:4 ^ k=m at *
      clear HOL HOW hrow hL hlen HB
      generalize wr=w2 at *
      go_wp2
      go_loopw [7,8] (fun sv kv wr=>∃ i:Nat,i≤m∧kv=.int .i64 i∧wr.ownsRow w2.heap.size 42 9 sv (4 * i) (pcs ((L.take i).flatMap qrs))∧Below w2.heap.size w2 wr) (fun _ kv _=>m - (intOf kv).toNat)
      case atStart=>exact ⟨0,Nat.zero_le _,rfl,World.ownsRow_nil _ _ _ _,Below.refl _ _⟩
      case round =>
        obtain ⟨i,hi,rfl,how,hbb⟩:=hrel
        have OW:=Lib.hid how
        have BB:=Lib.hid hbb
        clear how hbb
        by_cases hil:i < m
        · have hi1:(i:Int) < (m:Int):=by omega
          have NXk:=Lib.hid (NX.out i hil)
          have RK:=Lib.hid (fun (W:World) (h:Below w2.heap.size w2 W)=>(rowP_in R.out h hg).2 i hil)
          have HBi:=Lib.hid (HBk.out i hil)
          have szw:=BB.out.size
          dsimp only at RK
          obtain ⟨q,hq⟩:∃ q,L.getD i ((0,0,0),(0,0,0),(0,0,0))=q:=⟨_,rfl⟩
          rw [hq] at RK NXk HBi
          clear hq NX HBk
          have GI0:=Lib.hid (show (GIp w2 wr.heap.size u7 (4 * i) (pcs ((L.take i).flatMap qrs))) wr from ⟨BB.out,OW.out,fun g h=>(OW.out.lt g h).2⟩)
          go_wp2_with fail
          rename_i K8 hK8
          have HK8:=Lib.hid hK8
          clear hK8
          refine rca_reg (GIp w2 wr.heap.size u7 (4 * i) (pcs ((L.take i).flatMap qrs))) wr.heap.size g off m cap i q (Lib.hid ((tim_bd9 HBi.out.1))) (Lib.hid (tim_bd9 HBi.out.2.1)) (Lib.hid (tim_bd9 HBi.out.2.2)) (Lib.hid ⟨hi1,by omega⟩) (Lib.hid fun W h=>RK.out W h.1) (Lib.hid fun W W' hb h=>gip_in h szw hb) (Nat.le_refl _) (gip_drew GI0.out) ?_
          intro x28 x29 x30 x31 x32 x33 x34 x35 x36 x37 x38 x39 x40 x41 x42 x43 x44 x45 x y z w3 hN3 g3 nx ox ny oy nz oz
          have O3:=Lib.hid (show Own w3 x (tim 2 q.1)∧Own w3 y (tim 2 q.2.1)∧Own w3 z (tim 2 q.2.2) from ⟨ox,oy,oz⟩)
          have g3':=Lib.hid g3
          clear g3 ox oy oz RK GI0
          refine HK8.out _ _ ?_
          clear HK8
          go_wp2_with fail
          rename_i K9 hK9
          have HK9:=Lib.hid hK9
          clear hK9
          have L3:x < w3.heap.size∧y < w3.heap.size∧z < w3.heap.size:=⟨O3.out.1.2.2.2.2.2.2,O3.out.2.1.2.2.2.2.2.2,O3.out.2.2.2.2.2.2.2.2⟩
          refine rcb_reg (fun W=>(GIp w2 wr.heap.size u7 (4 * i) (pcs ((L.take i).flatMap qrs))) W∧Own W x (tim 2 q.1)∧Own W y (tim 2 q.2.1)∧Own W z (tim 2 q.2.2)) w3.heap.size x y z q.1 q.2.1 q.2.2 (Lib.hid HBi.out.1) (Lib.hid HBi.out.2.1) (Lib.hid HBi.out.2.2) (Lib.hid fun W h=>⟨h.2.1.1,h.2.1.2.1,h.2.1.2.2.1,h.2.2.1.1,h.2.2.1.2.1,h.2.2.1.2.2.1,h.2.2.2.1,h.2.2.2.2.1,h.2.2.2.2.2.1⟩) (Lib.hid fun W W' hb h=>⟨gip_in h.1 szw (hb.mono hN3),own_in' h.2.1 hb L3.1,own_in' h.2.2.1 hb L3.2.1,own_in' h.2.2.2 hb L3.2.2⟩) (Nat.le_refl _) ⟨gip_drew g3'.out,own_drew O3.out.1,own_drew O3.out.2.1,own_drew O3.out.2.2⟩ ?_
          intro x46 x47 x48 x49 x50 x51 x52 x53 x54 x' y' z' w4 hN4 g4 nx' ox' ny' oy' nz' oz'
          have SX0:=Lib.hid (show SX w4 x y z x' y' z' (tim 2 q.1) (tim 2 q.2.1) (tim 2 q.2.2) (add q.1 q.2.1) (add q.2.1 q.2.2) (add q.2.2 q.1) from ⟨g4.2,ox',oy',oz'⟩)
          have g4':=Lib.hid g4.1
          have sz4:wr.heap.size≤w4.heap.size:=Nat.le_trans hN3 hN4
          clear g4 ox' oy' oz' g3' O3
          refine HK9.out _ _ ?_
          clear HK9
          have OW4:=Lib.hid g4'.out.2.1
          obtain ⟨s0,s1,s2,s3,s4,s5,s6,s7,s8,s9,sa,sb,sc,sd,se,sf,sg,sh⟩:=sx_cells SX0.out
          go_wp2_with (at_builtin;(refine wpList_append_own _ rfl _ _ 97 rfl w2.heap.size 42 i0 (.agg #[.int .i64 0,.int .i64 0,.int .i64 0,.int .i64 0,.int .i64 0,.int .i64 0,.int .i64 0,.int .i64 0,.int .i64 0]) 9 72 Tryz.underlying97 HI.out HZ0.out HZ1.out HZ2.out rfl (by decide) _ (4 * i) _ rfl (OW4.out.alloc _) ⟨w4.heap.size,0,none⟩ 4 4 (pcs (qrs q)) rfl rfl (lit_src _ (pcs (qrs q)) _ (by show 36≤maxLen;decide)) (pcs_one _) (by unfold maxLen;omega) (by omega) (by simp;omega) ?_);intro v' w5 hown' hgrow _;have OW5:=Lib.hid hown';have GR:=Lib.hid hgrow;clear hown' hgrow)
          have BG:=Lib.hid (((g4'.out.1).alloc (Nat.le_trans szw sz4) _).grown GR.out (by simp;omega) (fun gg hg=>(OW4.out.lt gg hg).1))
          clear s0 s1 s2 s3 s4 s5 s6 s7 s8 s9 sa sb sc sd se sf sg sh
          go_roundw
          case rel=>exact ⟨i + 1,by omega,by go_num,by rw [show 4 * (i + 1)=4 * i + 4 by omega,NXk.out,pcs_app];exact OW5.out,BG.out⟩
          case measure=>simp [intOf];omega
        · obtain rfl:i=m:=by omega
          go_wp2_with fail
          go_roundw
          case rel =>
            have z:=own_base9 OW.out BK.out.size
            rw [FI.out,P4.out] at z
            exact ⟨k + 1,by omega,by go_num,z,BK.out.trans (BB.out.mono BK.out.size)⟩
          case measure=>simp [intOf];omega
    · obtain rfl:k=d:=by omega
      go_wp2
      go_ret
      exact ⟨_,rfl,HOW.out,BK.out⟩
end Go.Proofs.YtciimaojoococaaGreat
namespace Go.Proofs.YtciimaojoococaaGreat
open Go.ChangeShapes Go.WideShapes Go.RowKit
open Sh
set_option maxHeartbeats 1000000 in
theorem rplc_walk (x:P3) (b1 b2 b3:Bool) (w:World) (M1:Hid (∀ W,Calls Tryz.prog 89 #[.int .i64 x.1,.int .i64 (-256),.int .i64 256] W fun e w'=>e=.returned (.bool b1)∧W=w')) (M2:Hid (∀ W,Calls Tryz.prog 89 #[.int .i64 x.2.1,.int .i64 (-256),.int .i64 256] W fun e w'=>e=.returned (.bool b2)∧W=w')) (M3:Hid (∀ W,Calls Tryz.prog 89 #[.int .i64 x.2.2,.int .i64 (-256),.int .i64 256] W fun e w'=>e=.returned (.bool b3)∧W=w')):Calls Tryz.prog 88 #[ptv x] w fun e w'=>e=.returned (.bool (b1 && (b2 && b3)))∧Below w.heap.size w w':=by
  cases b1 with
  | false =>
    go_enter Tryz.func88,Tryz.ntmps88
    go_wp2_with fail
    refine (M1.out _).mono ?_
    rintro e w1 ⟨rfl,rfl⟩
    go_wp2
    go_ret
    exact ⟨rfl,by (repeat' (first | exact Below.refl _ _ | refine Below.setCell ?_ (by simp <;> omega) _ | refine balloc ?_ _ | refine Below.drew ?_ | refine bdrewN ?_ _))⟩
  | true =>
    cases b2 with
    | false =>
      go_enter Tryz.func88,Tryz.ntmps88
      go_wp2_with fail
      refine (M1.out _).mono ?_
      rintro e w1 ⟨rfl,rfl⟩
      go_wp2_with fail
      refine (M2.out _).mono ?_
      rintro e w2 ⟨rfl,rfl⟩
      go_wp2
      go_ret
      exact ⟨rfl,by (repeat' (first | exact Below.refl _ _ | refine Below.setCell ?_ (by simp <;> omega) _ | refine balloc ?_ _ | refine Below.drew ?_ | refine bdrewN ?_ _))⟩
    | true =>
      go_enter Tryz.func88,Tryz.ntmps88
      go_wp2_with fail
      refine (M1.out _).mono ?_
      rintro e w1 ⟨rfl,rfl⟩
      go_wp2_with fail
      refine (M2.out _).mono ?_
      rintro e w2 ⟨rfl,rfl⟩
      go_wp2_with fail
      refine (M3.out _).mono ?_
      rintro e w3 ⟨rfl,rfl⟩
      go_wp2
      go_ret
      exact ⟨rfl,by (repeat' (first | exact Below.refl _ _ | refine Below.setCell ?_ (by simp <;> omega) _ | refine balloc ?_ _ | refine Below.drew ?_ | refine bdrewN ?_ _))⟩
theorem rplc_any (x:P3) (w:World):Calls Tryz.prog 88 #[ptv x] w fun e w'=>e=.returned (.bool (inP 256 x))∧Below w.heap.size w w':=by
  have E:inP 256 x=(rngB x.1 (-256) 256 && (rngB x.2.1 (-256) 256 && rngB x.2.2 (-256) 256)):=by
    unfold inP rngB
    rw [Bool.eq_iff_iff]
    simp only [decide_eq_true_eq,Bool.and_eq_true]
    constructor
    · rintro ⟨h1,h2,h3,h4,h5,h6⟩;exact ⟨⟨h1,h2⟩,⟨h3,h4⟩,h5,h6⟩
    · rintro ⟨⟨h1,h2⟩,⟨h3,h4⟩,h5,h6⟩;exact ⟨h1,h2,h3,h4,h5,h6⟩
  rw [E]
  exact rplc_walk x _ _ _ w (Lib.hid fun W=>rfinr_any _ _ _ W) (Lib.hid fun W=>rfinr_any _ _ _ W) (Lib.hid fun W=>rfinr_any _ _ _ W)
theorem ask_no (t:P9) (x:P3) (D pc:Int) (w:World) (V:Hid (∀ W,Calls Tryz.prog 75 #[p9v t] W fun e w'=>e=.returned (.int .i64 pc)∧Below W.heap.size W w')) (z:(pc != 0)=true) :
    Calls Tryz.prog 52 #[p9v t,ptv x,.int .i64 D] w fun e w'=>e=.returned (.int .i64 pc)∧Below w.heap.size w w':=by
  obtain ⟨a,b,c⟩:=t
  go_enter Tryz.func52,Tryz.ntmps52
  go_wp2_with fail
  refine (V.out _).mono ?_
  rintro e w1 ⟨rfl,hb1⟩
  go_wp2
  go_ret
  exact ⟨rfl,by (repeat' (first | exact Below.refl _ _ | refine bstep ?_ hb1 | refine Below.setCell ?_ (by simp <;> omega) _ | refine balloc ?_ _ | refine Below.drew ?_ | refine bdrewN ?_ _))⟩
theorem ask_a (t:P9) (x:P3) (D:Int) (w:World) (V:Hid (∀ W,Calls Tryz.prog 75 #[p9v t] W fun e w'=>e=.returned (.int .i64 0)∧Below W.heap.size W w')) (K:Hid (∀ W,Calls Tryz.prog 88 #[ptv x] W fun e w'=>e=.returned (.bool false)∧Below W.heap.size W w')) :
    Calls Tryz.prog 52 #[p9v t,ptv x,.int .i64 D] w fun e w'=>e=.returned (.int .i64 1)∧Below w.heap.size w w':=by
  obtain ⟨a,b,c⟩:=t
  have O0:=own_new (w.alloc (pnc a b c 42)) x 24
  simp only [World.size_alloc] at O0
  go_enter Tryz.func52,Tryz.ntmps52
  go_wp2_with fail
  refine (V.out _).mono ?_
  rintro e w1 ⟨rfl,hb1⟩
  obtain ⟨o0,o1,o2,_⟩:=own_below O0 hb1
  go_wp2_with fail
  refine (K.out _).mono ?_
  rintro e w2 ⟨rfl,hb2⟩
  go_wp2
  go_ret
  exact ⟨rfl,by (repeat' (first | exact Below.refl _ _ | refine bstep ?_ hb2 | refine bstep ?_ hb1 | refine Below.setCell ?_ (by simp <;> omega) _ | refine balloc ?_ _ | refine Below.drew ?_ | refine bdrewN ?_ _))⟩
theorem ask_b (t:P9) (x:P3) (D:Int) (w:World) (V:Hid (∀ W,Calls Tryz.prog 75 #[p9v t] W fun e w'=>e=.returned (.int .i64 0)∧Below W.heap.size W w')) (K:Hid (∀ W,Calls Tryz.prog 88 #[ptv x] W fun e w'=>e=.returned (.bool true)∧Below W.heap.size W w')) (I:Hid (∀ W,Calls Tryz.prog 89 #[.int .i64 D,.int .i64 0,.int .i64 3] W fun e w'=>e=.returned (.bool false)∧W=w')) :
    Calls Tryz.prog 52 #[p9v t,ptv x,.int .i64 D] w fun e w'=>e=.returned (.int .i64 1)∧Below w.heap.size w w':=by
  obtain ⟨a,b,c⟩:=t
  have O0:=own_new (w.alloc (pnc a b c 42)) x 24
  simp only [World.size_alloc] at O0
  go_enter Tryz.func52,Tryz.ntmps52
  go_wp2_with fail
  refine (V.out _).mono ?_
  rintro e w1 ⟨rfl,hb1⟩
  obtain ⟨o0,o1,o2,_⟩:=own_below O0 hb1
  go_wp2_with fail
  refine (K.out _).mono ?_
  rintro e w2 ⟨rfl,hb2⟩
  go_wp2_with fail
  refine (I.out _).mono ?_
  rintro e w3 ⟨rfl,rfl⟩
  go_wp2
  go_ret
  exact ⟨rfl,by (repeat' (first | exact Below.refl _ _ | refine bstep ?_ hb2 | refine bstep ?_ hb1 | refine Below.setCell ?_ (by simp <;> omega) _ | refine balloc ?_ _ | refine Below.drew ?_ | refine bdrewN ?_ _))⟩
theorem ask_c (t:P9) (x:P3) (D:Int) (w:World) (V:Hid (∀ W,Calls Tryz.prog 75 #[p9v t] W fun e w'=>e=.returned (.int .i64 0)∧Below W.heap.size W w')) (K:Hid (∀ W,Calls Tryz.prog 88 #[ptv x] W fun e w'=>e=.returned (.bool true)∧Below W.heap.size W w')) (I:Hid (∀ W,Calls Tryz.prog 89 #[.int .i64 D,.int .i64 0,.int .i64 3] W fun e w'=>e=.returned (.bool true)∧W=w')) :
    Calls Tryz.prog 52 #[p9v t,ptv x,.int .i64 D] w fun e w'=>e=.returned (.int .i64 0)∧Below w.heap.size w w':=by
  obtain ⟨a,b,c⟩:=t
  have O0:=own_new (w.alloc (pnc a b c 42)) x 24
  simp only [World.size_alloc] at O0
  go_enter Tryz.func52,Tryz.ntmps52
  go_wp2_with fail
  refine (V.out _).mono ?_
  rintro e w1 ⟨rfl,hb1⟩
  obtain ⟨o0,o1,o2,_⟩:=own_below O0 hb1
  go_wp2_with fail
  refine (K.out _).mono ?_
  rintro e w2 ⟨rfl,hb2⟩
  go_wp2_with fail
  refine (I.out _).mono ?_
  rintro e w3 ⟨rfl,rfl⟩
  go_wp2
  go_ret
  exact ⟨rfl,by (repeat' (first | exact Below.refl _ _ | refine bstep ?_ hb2 | refine bstep ?_ hb1 | refine Below.setCell ?_ (by simp <;> omega) _ | refine balloc ?_ _ | refine Below.drew ?_ | refine bdrewN ?_ _))⟩
theorem rask_any (t:P9) (x:P3) (D:Int) (w:World):Calls Tryz.prog 52 #[p9v t,ptv x,.int .i64 D] w fun e w'=>e=.returned (.int .i64 (snc t x D))∧Below w.heap.size w w':=by
  have V:=fun W=>rvp_any t.1 t.2.1 t.2.2 W
  unfold snc
  by_cases z:pcode t.1 t.2.1 t.2.2=0
  · rw [if_pos z]
    rw [z] at V
    have M:=fun W=>rplc_any x W
    have I:=fun W=>rfinr_any D 0 3 W
    unfold akc
    cases h:inP 256 x with
    | true =>
      rw [h] at M
      cases k:rngB D 0 3 with
      | true=>rw [k] at I;exact ask_c t x D w (Lib.hid V) (Lib.hid M) (Lib.hid I)
      | false=>rw [k] at I;exact ask_b t x D w (Lib.hid V) (Lib.hid M) (Lib.hid I)
    | false=>rw [h] at M;exact ask_a t x D w (Lib.hid V) (Lib.hid M)
  · rw [if_neg z]
    exact ask_no t x D _ w (Lib.hid V) (bne_iff_ne.2 z)
end Go.Proofs.YtciimaojoococaaGreat
namespace Go.Proofs.YtciimaojoococaaGreat
open Go.ChangeShapes Go.WideShapes Go.RowKit
open Sh
theorem owp_in {w w1:World} {N b:Nat} {p:Int × Int} (h:OwP w b p) (hb:Below N w w1) (hN:b < N):OwP w1 b p:=by
  obtain ⟨h1,h2,h3,h4,h5⟩:=h
  exact ⟨(hb.cell (p:=⟨b,0,none⟩) hN).trans h1,(hb.cell (p:=⟨b,1,none⟩) hN).trans h2,(hb.frozen (p:=⟨b,0,none⟩) hN).trans h3,(hb.frozen (p:=⟨b,1,none⟩) hN).trans h4,Nat.lt_of_lt_of_le h5 hb.size⟩
theorem bjoin {w u v:World} (h:Below w.heap.size w u) (k:Below u.heap.size u v):Below w.heap.size w v:=h.trans (k.mono h.size)
set_option maxRecDepth 100000 in
set_option maxHeartbeats 8000000 in
theorem rmwf (a b c x y:P3) (D sc:Int) (n:Nat) (L:Nat→P9) (nd fd lo hi:Nat→Int) (res:Sp.R) (w:World) (SH:Hid (wrap64 (2 ^ D.toNat)=sc)) (SB:0≤D∧D≤3∧0≤sc∧sc≤8) (n0:0 < n) (n1:n≤64)
    (CC:Hid (∀ W,Calls Tryz.prog 90 #[pnv a b c,.int .i64 D] W fun e w'=>∃ g off cap,e=.returned (.slice (some ⟨g,off,none⟩) n cap)∧RowP w' g off n L∧Below W.heap.size W w'))
    (CT:Hid (∀ W,Calls Tryz.prog 91 #[ptv x,.int .i64 sc] W fun e w'=>e=.returned (ptv y)∧Below W.heap.size W w'))
    (CN:Hid (∀ k,k < n→∀ W q,RwG W q 1 (fun _=>y)→Calls Tryz.prog 92 #[p9w (L k),.slice (some ⟨q,0,none⟩) 1 1] W fun e w'=>e=.returned (.int .i64 (nd k))∧Below W.heap.size W w'))
    (CF:Hid (∀ k,k < n→∀ W q,RwG W q 1 (fun _=>y)→Calls Tryz.prog 94 #[p9w (L k),.slice (some ⟨q,0,none⟩) 1 1] W fun e w'=>e=.returned (.int .i64 (fd k))∧Below W.heap.size W w'))
    (CI:Hid (∀ m W,Calls Tryz.prog 93 #[.int .i64 m,.int .i64 sc] W fun e w'=>e=.returned (spr (kV false m sc))∧Below W.heap.size W w'))
    (CK:Hid (∀ m W,Calls Tryz.prog 95 #[.int .i64 m,.int .i64 sc] W fun e w'=>e=.returned (spr (kV true m sc))∧Below W.heap.size W w'))
    (FL:Hid (∀ k,(kV false (fd k) sc).1.1=lo k∧(kV false (nd k) sc).1.2=hi k)) (BL:Hid (∀ k,k < n→nd k ≠ 0→(0≤lo k∧lo k≤1000000000)∧0≤hi k∧hi k≤1000000000))
    (R1:Hid (∀ k,k < n→nd k=0→res=((0,0),10))) (R2:Hid (anyz nd n=false→res=((Sp.fl (sm lo n) n,Sp.ce (sm hi n) n),0))) :
    Calls Tryz.prog 53 #[pnv a b c,ptv x,.int .i64 D,.bool false] w fun e w'=>e=.returned (spr res)∧Below w.heap.size w w':=by
  obtain ⟨s1,s2,s3,s4⟩:=SB
  obtain rfl:=SH.out
  have P0:=Lib.hid (pan_alloc (pan_alloc (pan_new w a b c 42) (ptc x 24)) (.cells #[.int .i64 0,.int .i64 0] 29))
  have X0:=Lib.hid (own_alloc (own_new (w.alloc (pnc a b c 42)) x 24) (.cells #[.int .i64 0,.int .i64 0] 29))
  have Z0:=Lib.hid (owp_new ((w.alloc (pnc a b c 42)).alloc (ptc x 24)) (0,0) 29)
  simp only [World.size_alloc] at X0 Z0
  have B0:=Lib.hid (show Below w.heap.size w (((w.alloc (pnc a b c 42)).alloc (ptc x 24)).alloc (.cells #[.int .i64 0,.int .i64 0] 29)) by (repeat' (first | exact Below.refl _ _ | refine Below.setCell ?_ (by simp <;> omega) _ | refine balloc ?_ _ | refine Below.drew ?_ | refine bdrewN ?_ _)))
  obtain ⟨k0,k1,k2,k3,k4,k5,k6,k7,k8,k9⟩:=id P0.out
  go_enter Tryz.func53,Tryz.ntmps53
  go_wp2_with fail
  with_reducible refine (CC.out _).mono ?_
  rintro e w1 ⟨g,off,cap,rfl,hrow,hb1⟩
  have X1:=Lib.hid (own_below X0.out hb1)
  have Z1:=Lib.hid (owp_below Z0.out hb1)
  have B1:=Lib.hid (bstep B0.out hb1)
  have ROW1:=Lib.hid hrow
  have hgl:g < w1.heap.size:=hrow.1
  clear P0 X0 Z0 B0 hb1 hrow k0 k1 k2 k3 k4 k5 k6 k7 k8 k9
  obtain ⟨o0,o1,o2,o3,o4,o5,o6⟩:=id X1.out
  go_wp2_with fail
  with_reducible refine (CT.out _).mono ?_
  rintro e w2 ⟨rfl,hb2⟩
  have Z2:=Lib.hid (owp_alloc (owp_below Z1.out hb2) (ptc y 24))
  have B2:=Lib.hid (balloc (bstep B1.out hb2) (ptc y 24))
  have ROW2:=Lib.hid (rowP_in ROW1.out (hb2.alloc hb2.size (ptc y 24)) hgl)
  have Q2:=Lib.hid (rwg_new1 w2 y 24)
  have hg2:g < (w2.alloc (ptc y 24)).heap.size:=ROW2.out.1
  clear X1 Z1 B1 ROW1 hb2 o0 o1 o2 o3 o4 o5 o6 hgl
  go_wp2_with fail
  go_loopw [13,14,15] (fun lv hv kv wr=>∃ k:Nat,k≤n∧kv=.int .i64 k∧lv=.int .i64 (sm lo k)∧hv=.int .i64 (sm hi k)∧anyz nd k=false∧(0≤sm lo k∧sm lo k≤(k:Int) * 1000000000)∧(0≤sm hi k∧sm hi k≤(k:Int) * 1000000000)∧Below (w2.alloc (ptc y 24)).heap.size (w2.alloc (ptc y 24)) wr) (fun _ _ kv _=>n - (intOf kv).toNat)
  case atStart=>exact ⟨0,Nat.zero_le _,rfl,rfl,rfl,rfl,⟨Int.le_refl _,Int.le_refl _⟩,⟨Int.le_refl _,Int.le_refl _⟩,Below.refl _ _⟩
  case round =>
    obtain ⟨k,hk,rfl,rfl,rfl,hz,⟨l1,l2⟩,⟨h1,h2⟩,BB⟩:=hrel
    have HZ:=Lib.hid hz
    have B3:=Lib.hid BB
    clear hz BB
    by_cases hlt:k < n
    · have hk1:(k:Int) < (n:Int):=by omega
      have hk0:0≤(k:Int):=by omega
      have hkn:(k:Int)≤64:=by omega
      have ROW3:=Lib.hid (rowP_in ROW2.out B3.out hg2)
      have Q3:=Lib.hid (rwg_in Q2.out B3.out (by simp))
      have Z3:=Lib.hid (owp_in Z2.out B3.out Z2.out.2.2.2.2)
      have CNk:=Lib.hid (CN.out k hlt)
      have CFk:=Lib.hid (CF.out k hlt)
      have BLk:=Lib.hid (BL.out k hlt)
      have R1k:=Lib.hid (R1.out k hlt)
      have FLk:=Lib.hid (FL.out k)
      have NZ:=Lib.hid (fun h:nd k ≠ 0=>anyz_next HZ.out h)
      have SL:=Lib.hid (show sm lo (k + 1)=sm lo k + lo k from rfl)
      have SHk:=Lib.hid (show sm hi (k + 1)=sm hi k + hi k from rfl)
      obtain ⟨c0,c1,c2,c3,c4,c5,c6,c7,c8⟩:=ROW3.out.2 k hlt
      have cz:=ROW3.out.1
      obtain ⟨q,hq⟩:∃ q,L k=q:=⟨_,rfl⟩
      have ROK:=Lib.hid (fun (W:World) (h:Below wr.heap.size wr W)=>(rowP_in ROW3.out h ROW3.out.1).2 k hlt)
      rw [hq] at CNk CFk c0 c1 c2 c3 c4 c5 c6 c7 c8
      rw [hq] at ROK
      generalize nd k=nk at *
      generalize fd k=fk at *
      generalize lo k=lk at *
      generalize hi k=uk at *
      generalize sm lo k=sl at *
      generalize sm hi k=su at *
      clear hq
      go_wp2_with fail
      with_reducible refine (CNk.out _ _ Q3.out).mono ?_
      rintro e w4 ⟨rfl,hb4⟩
      by_cases z:nk=0
      · have hres:=R1k.out z
        subst hres
        subst z
        obtain ⟨o0,o1,o2,o3,o4⟩:=owp_below Z3.out hb4
        have hB:=bstep (bjoin B2.out B3.out) hb4
        clear c0 c1 c2 c3 c4 c5 c6 c7 c8
        go_wp2
        refine bodyPost_ret (v:=spr ((0,0),10)) (by rw [results_cell_tmp rfl];go_simp) rfl ⟨rfl,?_⟩
        (repeat' (first | with_reducible exact hB | (with_reducible refine Below.setCell ?_ (by simp <;> omega) _)))
      · have z1:(nk == 0)=false:=beq_eq_false_iff_ne.2 z
        have bl:=BLk.out z
        obtain ⟨r1,e1⟩:∃ r,kV false fk (wrap64 (2 ^ D.toNat))=r:=⟨_,rfl⟩
        obtain ⟨r2,e2⟩:∃ r,kV false nk (wrap64 (2 ^ D.toNat))=r:=⟨_,rfl⟩
        obtain ⟨r3,e3⟩:∃ r,kV true fk (wrap64 (2 ^ D.toNat))=r:=⟨_,rfl⟩
        obtain ⟨r4,e4⟩:∃ r,kV true nk (wrap64 (2 ^ D.toNat))=r:=⟨_,rfl⟩
        have CI1:Hid (∀ W,Calls Tryz.prog 93 #[.int .i64 fk,.int .i64 (wrap64 (2 ^ D.toNat))] W fun e w'=>e=.returned (spr r1)∧Below W.heap.size W w'):=Lib.hid fun W=>by rw [← e1];exact CI.out fk W
        have CI2:Hid (∀ W,Calls Tryz.prog 93 #[.int .i64 nk,.int .i64 (wrap64 (2 ^ D.toNat))] W fun e w'=>e=.returned (spr r2)∧Below W.heap.size W w'):=Lib.hid fun W=>by rw [← e2];exact CI.out nk W
        have CK3:Hid (∀ W,Calls Tryz.prog 95 #[.int .i64 fk,.int .i64 (wrap64 (2 ^ D.toNat))] W fun e w'=>e=.returned (spr r3)∧Below W.heap.size W w'):=Lib.hid fun W=>by rw [← e3];exact CK.out fk W
        have CK4:Hid (∀ W,Calls Tryz.prog 95 #[.int .i64 nk,.int .i64 (wrap64 (2 ^ D.toNat))] W fun e w'=>e=.returned (spr r4)∧Below W.heap.size W w'):=Lib.hid fun W=>by rw [← e4];exact CK.out nk W
        obtain ⟨⟨l3,l4⟩,h3,h4⟩:=bl
        obtain ⟨f1,f2⟩:=FLk.out
        rw [e1] at f1
        rw [e2] at f2
        clear e1 e2 e3 e4
        obtain ⟨⟨r1a,r1b⟩,r1c⟩:=r1
        obtain ⟨⟨r2a,r2b⟩,r2c⟩:=r2
        obtain ⟨⟨r3a,r3b⟩,r3c⟩:=r3
        obtain ⟨⟨r4a,r4b⟩,r4c⟩:=r4
        obtain rfl:r1a=lk:=f1
        obtain rfl:r2b=uk:=f2
        clear c0 c1 c2 c3 c4 c5 c6 c7 c8
        obtain ⟨c0,c1,c2,c3,c4,c5,c6,c7,c8⟩:=ROK.out w4 hb4
        have cz4:g < w4.heap.size:=Nat.lt_of_lt_of_le cz hb4.size
        go_wp2_with fail
        with_reducible refine (CFk.out _ _ (rwg_below Q3.out hb4)).mono ?_
        rintro e w5 ⟨rfl,hb5⟩
        clear c0 c1 c2 c3 c4 c5 c6 c7 c8
        go_wp2_with fail
        with_reducible refine (CI1.out _).mono ?_
        rintro e w6 ⟨rfl,hb6⟩
        have V6:=Lib.hid (owp_new w6 (r1a,r1b) 29)
        go_wp2_with fail
        with_reducible refine (CI2.out _).mono ?_
        rintro e w7 ⟨rfl,hb7⟩
        have V7:=Lib.hid (owp_alloc (owp_below V6.out hb7) (.cells #[.int .i64 r2a,.int .i64 r2b] 29))
        have U7:=Lib.hid (owp_new w7 (r2a,r2b) 29)
        have hB7:=Lib.hid (show Below wr.heap.size wr w7 from ((hb4.trans (hb5.mono hb4.size)).trans (hb6.mono (Nat.le_trans hb4.size hb5.size))).trans (((Below.refl w6.heap.size w6).alloc (Nat.le_refl _) _).trans (hb7.mono (by simp)) |>.mono (Nat.le_trans hb4.size (Nat.le_trans hb5.size hb6.size))))
        have BX:=Lib.hid (balloc (bstep B3.out hB7.out) (.cells #[.int .i64 r2a,.int .i64 r2b] 29))
        obtain ⟨v0,v1,v2,v3,v4⟩:=V7.out
        obtain ⟨u0,u1,u2,u3,u4⟩:=U7.out
        clear hb4 hb5 hb6 hb7
        go_wp2_with fail
        go_roundw
        case rel=>exact ⟨k + 1,by omega,by go_num,by rw [SL.out],by rw [SHk.out],NZ.out z,by rw [SL.out];omega,by rw [SHk.out];omega,BX.out⟩
        case measure=>simp [intOf];omega
    · obtain rfl:k=n:=by omega
      have hres:=R2.out HZ.out
      subst hres
      have SL1:Sm (sm lo k) (k:Int):=⟨by omega,by omega,by omega,by omega⟩
      have SU1:Sm (sm hi k) (k:Int):=⟨by omega,by omega,by omega,by omega⟩
      have DD:=Lib.hid (fun W=>rdown_any (sm lo k) (k:Int) W SL1 (by omega))
      have DU:=Lib.hid (fun W=>rup_any (sm hi k) (k:Int) W SU1 (by omega))
      have Z3:=Lib.hid (owp_in Z2.out B3.out Z2.out.2.2.2.2)
      have hB:=bjoin B2.out B3.out
      clear SL1 SU1
      obtain ⟨ra,hra⟩:∃ ra,Sp.fl (sm lo k) (k:Int)=ra:=⟨_,rfl⟩
      obtain ⟨rb,hrb⟩:∃ rb,Sp.ce (sm hi k) (k:Int)=rb:=⟨_,rfl⟩
      rw [hra] at DD
      rw [hrb] at DU
      have HRA:=Lib.hid hra
      have HRB:=Lib.hid hrb
      clear hra hrb
      obtain ⟨o0,o1,o2,o3,o4⟩:=Z3.out
      go_wp2_with (first | (go_at_call 96;(with_reducible refine (DD.out _).mono ?_);rintro e W1 ⟨rfl,rfl⟩) | (go_at_call 97;(with_reducible refine (DU.out _).mono ?_);rintro e W1 ⟨rfl,rfl⟩) | fail)
      refine bodyPost_ret (v:=spr ((ra,rb),0)) (by rw [results_cell_tmp rfl];go_simp) rfl ⟨by rw [HRA.out,HRB.out],?_⟩
      (repeat' (first | with_reducible exact hB | (with_reducible refine Below.setCell ?_ (by simp <;> omega) _)))
end Go.Proofs.YtciimaojoococaaGreat
namespace Go.Proofs.YtciimaojoococaaGreat
open Go.ChangeShapes Go.WideShapes Go.RowKit
open Sh
theorem fl_ptn {D a:Int} (h0:0≤D) (h3:D≤3):Sp.fl a (ptn D:Int)=a / (ptn D:Int)∧Sp.ce a (ptn D:Int)=(a + (ptn D:Int) - 1) / (ptn D:Int):=by
  have hn:=(ptn_vals h0 h3).1
  have hd:D.toNat=0∨D.toNat=1∨D.toNat=2∨D.toNat=3:=by omega
  have hv:ptn D=1∨ptn D=4∨ptn D=16∨ptn D=64:=by
    unfold ptn
    rcases hd with e | e | e | e <;> rw [e] <;> decide
  unfold Sp.ce Sp.fl
  rw [if_pos (by omega),if_pos (by omega)]
  refine ⟨rfl,?_⟩
  rcases hv with e | e | e | e <;> rw [e] <;> omega
theorem rparts_row {t:P9} {D:Int} {w w':World} {v:Value} (h:w'.ownsRow w.heap.size 42 9 v (4 ^ D.toNat) (pcs (cutP D.toNat t))):∃ g off cap,v=.slice (some ⟨g,off,none⟩) (ptn D) cap∧RowP w' g off (ptn D) (ptk t D) :=
  own_row9 h (cutP_len _ _) (Nat.pow_pos (by decide))
theorem rmef_ok (t:P9) (x:P3) (D:Int) (w:World) (h:snc t x D=0):Calls Tryz.prog 53 #[p9v t,ptv x,.int .i64 D,.bool false] w fun e w'=>e=.returned (spr (mnF false t x D))∧Below w.heap.size w w':=by
  obtain ⟨hB,hx,d0,d3⟩:=snc_ok h
  obtain ⟨sw,s1,s2⟩:=scl_vals d0 d3
  obtain ⟨n0,n1⟩:=ptn_vals d0 d3
  have hy:=tim_bd hx s1 s2
  have hQ:∀ k,k < 1→BdP 1000000 ((fun _:Nat=>tim (scl D) x) k):=fun _ _=>hy.mono (by decide)
  have val:∀ m:Int,1≤m→m≤19660800→0≤(kV false m (scl D)).1.1∧(kV false m (scl D)).1.1≤(kV false m (scl D)).1.2∧(kV false m (scl D)).1.2≤1000000000:=fun m m1 m2=>by
    obtain ⟨r,u,e,h1,h2⟩:=kV_val false m1 (by omega:m≤1099511627776) s1 s2
    rw [e]
    show 0≤(r:Int)∧(r:Int)≤(u:Int)∧(u:Int)≤1000000000
    omega
  refine rmwf t.1 t.2.1 t.2.2 x (tim (scl D) x) D (scl D) (ptn D) (ptk t D) (ptd t D x) (ptf t D x) (mLo false t D x) (mHi false t D x) _ w (Lib.hid sw) ⟨d0,d3,by omega,s2⟩ n0 n1
    (Lib.hid fun W=>(rcut_any D.toNat D t W (by omega) (by omega) hB).mono ?_)
    (Lib.hid fun W=>rtimes_any (scl D) x W (hy.mono (by decide)))
    (Lib.hid fun k hk W q r=>?_) (Lib.hid fun k hk W q r=>?_)
    (Lib.hid fun m W=>rinv_any m _ W) (Lib.hid fun m W=>rcube_any m _ W)
    (Lib.hid fun k=>⟨rfl,rfl⟩) (Lib.hid fun k hk nz=>?_) (Lib.hid fun k hk z=>?_) (Lib.hid fun nz=>?_)
  · rintro e w' ⟨v,rfl,ho,hb⟩
    obtain ⟨g,off,cap,rfl,hr⟩:=rparts_row ho
    exact ⟨g,off,cap,rfl,hr,hb⟩
  · have hb:=ptk_bd9 hB d0 d3 hk
    have z:=rclose_any (ptk t D k).1 (ptk t D k).2.1 (ptk t D k).2.2 q 1 1 (fun _=>tim (scl D) x) W r (by decide) (by decide) (hb.mono (by decide)) hQ
    rw [lo1_eq,hi1_eq,show ((ptk t D k).1,(ptk t D k).2.1,(ptk t D k).2.2)=ptk t D k from rfl,nG_one] at z
    exact z
  · have hb:=ptk_bd9 hB d0 d3 hk
    have z:=rfar_any (ptk t D k).1 (ptk t D k).2.1 (ptk t D k).2.2 q 1 1 (fun _=>tim (scl D) x) W r (by decide) (fun i hi j _=>by
      match i,hi with
      | 0,_=>exact (sub_bd9 hb.1 hy).mono (by decide)
      | 1,_=>exact (sub_bd9 hb.2.1 hy).mono (by decide)
      | 2,_=>exact (sub_bd9 hb.2.2 hy).mono (by decide))
    rw [show ((ptk t D k).1,(ptk t D k).2.1,(ptk t D k).2.2)=ptk t D k from rfl,cG_one] at z
    exact z
  · have z2:0≤ptd t D x k:=near_nn _ _
    have z3:ptd t D x k≤ptf t D x k:=near_far _ _
    have z4:ptf t D x k≤19660800:=far_bd9 (ptk_bd9 hB d0 d3 hk) hy
    have a:=val (ptf t D x k) (by omega) z4
    have b:=val (ptd t D x k) (by omega) (by omega)
    unfold mLo mHi
    omega
  · unfold mnF
    rw [if_pos (anyz_hit z hk)]
  · unfold mnF
    rw [if_neg (by rw [nz];decide),(fl_ptn d0 d3).1,(fl_ptn d0 d3).2]
theorem rmeanf_ok (t:P9) (x:P3) (D:Int) (w:World) (r:Sp.R) (V:Hid (∀ W,Calls Tryz.prog 52 #[p9v t,ptv x,.int .i64 D] W fun e w'=>e=.returned (.int .i64 0)∧Below W.heap.size W w')) (M:Hid (∀ W,Calls Tryz.prog 53 #[p9v t,ptv x,.int .i64 D,.bool false] W fun e w'=>e=.returned (spr r)∧Below W.heap.size W w')) :
    Calls Tryz.prog 26 #[p9v t,ptv x,.int .i64 D] w fun e w'=>e=.returned (spr r)∧Below w.heap.size w w':=by
  obtain ⟨a,b,c⟩:=t
  have P0:=Lib.hid (pan_alloc (pan_alloc (pan_new w a b c 42) (ptc x 24)) (.cells #[.int .i64 0,.int .i64 0] 29))
  have X0:=Lib.hid (own_alloc (own_new (w.alloc (pnc a b c 42)) x 24) (.cells #[.int .i64 0,.int .i64 0] 29))
  have R0:=Lib.hid (owp_new ((w.alloc (pnc a b c 42)).alloc (ptc x 24)) (0,0) 29)
  have B0:=Lib.hid (show Below w.heap.size w (((w.alloc (pnc a b c 42)).alloc (ptc x 24)).alloc (.cells #[.int .i64 0,.int .i64 0] 29)) by (repeat' (first | exact Below.refl _ _ | refine Below.setCell ?_ (by simp <;> omega) _ | refine balloc ?_ _ | refine Below.drew ?_ | refine bdrewN ?_ _)))
  simp only [World.size_alloc] at R0 X0
  go_enter Tryz.func26,Tryz.ntmps26
  go_wp2_with fail
  refine (V.out _).mono ?_
  rintro e w1 ⟨rfl,hb1⟩
  obtain ⟨o0,o1,o2,o3,o4⟩:=owp_below R0.out hb1
  have hB:=bstep B0.out hb1
  obtain ⟨k0,k1,k2,k3,k4,k5,k6,k7,k8,k9⟩:=pan_below P0.out hb1
  obtain ⟨x0,x1,x2,x3,x4,x5,x6⟩:=own_below X0.out hb1
  have R1:=Lib.hid (owp_below R0.out hb1)
  clear P0 X0 o0 o1 o2 o3 o4
  go_wp2_with fail
  with_reducible refine (M.out _).mono ?_
  rintro e w2 ⟨rfl,hb2⟩
  have hB2:=bstep hB hb2
  obtain ⟨o0,o1,o2,o3,o4⟩:=owp_below R1.out hb2
  clear R0 B0 hB hb1 hb2 k0 k1 k2 k3 k4 k5 k6 k7 k8 k9 x0 x1 x2 x3 x4 x5 x6
  go_wp2
  refine bodyPost_ret (v:=spr r) (by rw [results_cell_tmp rfl];go_simp) rfl ⟨rfl,?_⟩
  (repeat' (first | with_reducible exact hB2 | (with_reducible refine Below.setCell ?_ (by simp <;> omega) _)))
theorem rmeanf_no (t:P9) (x:P3) (D pc:Int) (w:World) (V:Hid (∀ W,Calls Tryz.prog 52 #[p9v t,ptv x,.int .i64 D] W fun e w'=>e=.returned (.int .i64 pc)∧Below W.heap.size W w')) (z:(pc != 0)=true) :
    Calls Tryz.prog 26 #[p9v t,ptv x,.int .i64 D] w fun e w'=>e=.returned (spr ((0,0),pc))∧Below w.heap.size w w':=by
  obtain ⟨a,b,c⟩:=t
  have P0:=Lib.hid (pan_alloc (pan_alloc (pan_new w a b c 42) (ptc x 24)) (.cells #[.int .i64 0,.int .i64 0] 29))
  have X0:=Lib.hid (own_alloc (own_new (w.alloc (pnc a b c 42)) x 24) (.cells #[.int .i64 0,.int .i64 0] 29))
  have R0:=Lib.hid (owp_new ((w.alloc (pnc a b c 42)).alloc (ptc x 24)) (0,0) 29)
  have B0:=Lib.hid (show Below w.heap.size w (((w.alloc (pnc a b c 42)).alloc (ptc x 24)).alloc (.cells #[.int .i64 0,.int .i64 0] 29)) by (repeat' (first | exact Below.refl _ _ | refine Below.setCell ?_ (by simp <;> omega) _ | refine balloc ?_ _ | refine Below.drew ?_ | refine bdrewN ?_ _)))
  simp only [World.size_alloc] at R0 X0
  go_enter Tryz.func26,Tryz.ntmps26
  go_wp2_with fail
  refine (V.out _).mono ?_
  rintro e w1 ⟨rfl,hb1⟩
  obtain ⟨o0,o1,o2,o3,o4⟩:=owp_below R0.out hb1
  have hB:=bstep B0.out hb1
  clear R0 B0 P0 X0
  go_wp2
  refine bodyPost_ret (v:=spr ((0,0),pc)) (by rw [results_cell_tmp rfl];go_simp) rfl ⟨rfl,?_⟩
  (repeat' (first | with_reducible exact hB | (with_reducible refine Below.setCell ?_ (by simp <;> omega) _)))
theorem rmeanf_any (t:P9) (x:P3) (D:Int) (w:World):Calls Tryz.prog 26 #[p9v t,ptv x,.int .i64 D] w fun e w'=>e=.returned (spr (meF false t x D))∧Below w.heap.size w w':=by
  have V:=fun W=>rask_any t x D W
  unfold meF
  by_cases h:snc t x D=0
  · rw [if_pos h]
    rw [h] at V
    exact rmeanf_ok t x D w _ (Lib.hid V) (Lib.hid fun W=>rmef_ok t x D W h)
  · rw [if_neg h]
    exact rmeanf_no t x D _ w (Lib.hid V) (bne_iff_ne.2 h)
end Go.Proofs.YtciimaojoococaaGreat
