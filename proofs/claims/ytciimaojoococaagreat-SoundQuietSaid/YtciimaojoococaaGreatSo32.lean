/-
  The regions of the document's parts that draw their order.
-/
import Derived.Test.YtciimaojoococaaGreatFiM
import Derived.Test.YtciimaojoococaaGreatMoM
namespace Go.Proofs.YtciimaojoococaaGreat
open Go.ChangeShapes Go.WideShapes Go.RowKit
open Sh
def rpaOps : Array Oper := #[{ dst := some 28, op := Op.move (Operand.tmp 6), type := 97, pos := "ref.go:124", after := #[], guard := none }, { dst := some 29, op := Op.move (Operand.tmp 7), type := 3, pos := "ref.go:124", after := #[], guard := none }, { dst := some 30, op := Op.indexAddr 97 (Operand.tmp 28) (Operand.tmp 29), type := 0, pos := "ref.go:124", after := #[{ on := 0, ground := Ground.data }, { on := 1, ground := Ground.data }], guard := none }, { dst := some 31, op := Op.fieldAddr 42 (Operand.tmp 30) 0, type := 0, pos := "ref.go:124", after := #[{ on := 2, ground := Ground.data }], guard := none }, { dst := some 32, op := Op.load 24 (Operand.tmp 31), type := 24, pos := "ref.go:124", after := #[{ on := 3, ground := Ground.data }], guard := none }, { dst := some 33, op := Op.move (Operand.tmp 6), type := 97, pos := "ref.go:124", after := #[{ on := 18, ground := Ground.gcOnly Departure.lateStores }], guard := none }, { dst := some 34, op := Op.move (Operand.tmp 7), type := 3, pos := "ref.go:124", after := #[{ on := 18, ground := Ground.gcOnly Departure.lateStores }], guard := none }, { dst := some 35, op := Op.indexAddr 97 (Operand.tmp 33) (Operand.tmp 34), type := 0, pos := "ref.go:124", after := #[{ on := 5, ground := Ground.data }, { on := 6, ground := Ground.data }, { on := 18, ground := Ground.gcOnly Departure.lateStores }], guard := none }, { dst := some 36, op := Op.fieldAddr 42 (Operand.tmp 35) 1, type := 0, pos := "ref.go:124", after := #[{ on := 7, ground := Ground.data }, { on := 18, ground := Ground.gcOnly Departure.lateStores }], guard := none }, { dst := some 37, op := Op.load 24 (Operand.tmp 36), type := 24, pos := "ref.go:124", after := #[{ on := 8, ground := Ground.data }, { on := 18, ground := Ground.gcOnly Departure.lateStores }], guard := none }, { dst := some 38, op := Op.move (Operand.tmp 6), type := 97, pos := "ref.go:124", after := #[{ on := 19, ground := Ground.gcOnly Departure.lateStores }], guard := none }, { dst := some 39, op := Op.move (Operand.tmp 7), type := 3, pos := "ref.go:124", after := #[{ on := 19, ground := Ground.gcOnly Departure.lateStores }], guard := none }, { dst := some 40, op := Op.indexAddr 97 (Operand.tmp 38) (Operand.tmp 39), type := 0, pos := "ref.go:124", after := #[{ on := 10, ground := Ground.data }, { on := 11, ground := Ground.data }, { on := 19, ground := Ground.gcOnly Departure.lateStores }], guard := none }, { dst := some 41, op := Op.fieldAddr 42 (Operand.tmp 40) 2, type := 0, pos := "ref.go:124", after := #[{ on := 12, ground := Ground.data }, { on := 19, ground := Ground.gcOnly Departure.lateStores }], guard := none }, { dst := some 42, op := Op.load 24 (Operand.tmp 41), type := 24, pos := "ref.go:124", after := #[{ on := 13, ground := Ground.data }, { on := 19, ground := Ground.gcOnly Departure.lateStores }], guard := none }, { dst := some 8, op := Op.alloc 24, type := 0, pos := "ref.go:124", after := #[], guard := none }, { dst := some 9, op := Op.alloc 24, type := 0, pos := "ref.go:124", after := #[], guard := none }, { dst := some 10, op := Op.alloc 24, type := 0, pos := "ref.go:124", after := #[], guard := none }, { dst := none, op := Op.store 24 (Operand.tmp 8) (Operand.tmp 32), type := 0, pos := "ref.go:124", after := #[{ on := 15, ground := Ground.data }, { on := 4, ground := Ground.data }, { on := 0, ground := Ground.phase }, { on := 1, ground := Ground.phase }, { on := 2, ground := Ground.phase }, { on := 3, ground := Ground.phase }, { on := 4, ground := Ground.phase }, { on := 5, ground := Ground.textOnly Departure.lateStores }, { on := 6, ground := Ground.textOnly Departure.lateStores }, { on := 7, ground := Ground.textOnly Departure.lateStores }, { on := 8, ground := Ground.textOnly Departure.lateStores }, { on := 9, ground := Ground.textOnly Departure.lateStores }, { on := 10, ground := Ground.textOnly Departure.lateStores }, { on := 11, ground := Ground.textOnly Departure.lateStores }, { on := 12, ground := Ground.textOnly Departure.lateStores }, { on := 13, ground := Ground.textOnly Departure.lateStores }, { on := 14, ground := Ground.textOnly Departure.lateStores }, { on := 15, ground := Ground.phase }, { on := 16, ground := Ground.phase }, { on := 17, ground := Ground.phase }], guard := none }, { dst := none, op := Op.store 24 (Operand.tmp 9) (Operand.tmp 37), type := 0, pos := "ref.go:124", after := #[{ on := 16, ground := Ground.data }, { on := 9, ground := Ground.data }, { on := 18, ground := Ground.chain }, { on := 0, ground := Ground.phase }, { on := 1, ground := Ground.phase }, { on := 2, ground := Ground.phase }, { on := 3, ground := Ground.phase }, { on := 4, ground := Ground.phase }, { on := 5, ground := Ground.phase }, { on := 6, ground := Ground.phase }, { on := 7, ground := Ground.phase }, { on := 8, ground := Ground.phase }, { on := 9, ground := Ground.phase }, { on := 10, ground := Ground.textOnly Departure.lateStores }, { on := 11, ground := Ground.textOnly Departure.lateStores }, { on := 12, ground := Ground.textOnly Departure.lateStores }, { on := 13, ground := Ground.textOnly Departure.lateStores }, { on := 14, ground := Ground.textOnly Departure.lateStores }, { on := 15, ground := Ground.phase }, { on := 16, ground := Ground.phase }, { on := 17, ground := Ground.phase }, { on := 18, ground := Ground.phase }], guard := none }, { dst := none, op := Op.store 24 (Operand.tmp 10) (Operand.tmp 42), type := 0, pos := "ref.go:124", after := #[{ on := 17, ground := Ground.data }, { on := 14, ground := Ground.data }, { on := 19, ground := Ground.chain }, { on := 0, ground := Ground.phase }, { on := 1, ground := Ground.phase }, { on := 2, ground := Ground.phase }, { on := 3, ground := Ground.phase }, { on := 4, ground := Ground.phase }, { on := 5, ground := Ground.phase }, { on := 6, ground := Ground.phase }, { on := 7, ground := Ground.phase }, { on := 8, ground := Ground.phase }, { on := 9, ground := Ground.phase }, { on := 10, ground := Ground.phase }, { on := 11, ground := Ground.phase }, { on := 12, ground := Ground.phase }, { on := 13, ground := Ground.phase }, { on := 14, ground := Ground.phase }, { on := 15, ground := Ground.phase }, { on := 16, ground := Ground.phase }, { on := 17, ground := Ground.phase }, { on := 18, ground := Ground.phase }, { on := 19, ground := Ground.phase }], guard := none }]
def rpaT (b:Nat) (off:Nat) (m:Nat) (cap:Nat) (k:Nat) (y0 y1 y2 y3 y4 y5 y11 y12 y13 y14 y15 y16 y17 y18 y19 y20 y21 y22 y23 y24 y25 y26 y27 y43 y44 y45 y46 y47 y48 y49 y50 y51 y52 y53 y54 y55 y56 y57 y58 y59 y60 y61 y62 y63 y64 y65 y66 y67 y68 y69 y70 y71 y72 y73 y74:Value) (X:Nat→Value):Array Value:=#[y0,y1,y2,y3,y4,y5,.slice (some ⟨b,off,none⟩) m cap,.int .i64 k,X 8,X 9,X 10,y11,y12,y13,y14,y15,y16,y17,y18,y19,y20,y21,y22,y23,y24,y25,y26,y27,X 28,X 29,X 30,X 31,X 32,X 33,X 34,X 35,X 36,X 37,X 38,X 39,X 40,X 41,X 42,y43,y44,y45,y46,y47,y48,y49,y50,y51,y52,y53,y54,y55,y56,y57,y58,y59,y60,y61,y62,y63,y64,y65,y66,y67,y68,y69,y70,y71,y72,y73,y74]
theorem rpaT_eq (b:Nat) (off:Nat) (m:Nat) (cap:Nat) (k:Nat) (y0 y1 y2 y3 y4 y5 y11 y12 y13 y14 y15 y16 y17 y18 y19 y20 y21 y22 y23 y24 y25 y26 y27 y43 y44 y45 y46 y47 y48 y49 y50 y51 y52 y53 y54 y55 y56 y57 y58 y59 y60 y61 y62 y63 y64 y65 y66 y67 y68 y69 y70 y71 y72 y73 y74:Value) (X:Nat→Value):rpaT b off m cap k y0 y1 y2 y3 y4 y5 y11 y12 y13 y14 y15 y16 y17 y18 y19 y20 y21 y22 y23 y24 y25 y26 y27 y43 y44 y45 y46 y47 y48 y49 y50 y51 y52 y53 y54 y55 y56 y57 y58 y59 y60 y61 y62 y63 y64 y65 y66 y67 y68 y69 y70 y71 y72 y73 y74 X=#[y0,y1,y2,y3,y4,y5,.slice (some ⟨b,off,none⟩) m cap,.int .i64 k,X 8,X 9,X 10,y11,y12,y13,y14,y15,y16,y17,y18,y19,y20,y21,y22,y23,y24,y25,y26,y27,X 28,X 29,X 30,X 31,X 32,X 33,X 34,X 35,X 36,X 37,X 38,X 39,X 40,X 41,X 42,y43,y44,y45,y46,y47,y48,y49,y50,y51,y52,y53,y54,y55,y56,y57,y58,y59,y60,y61,y62,y63,y64,y65,y66,y67,y68,y69,y70,y71,y72,y73,y74]:=rfl
def rpaI (G:World→Prop) (N:Nat) (b off m cap k:Nat) (t:P9) (y0 y1 y2 y3 y4 y5 y11 y12 y13 y14 y15 y16 y17 y18 y19 y20 y21 y22 y23 y24 y25 y26 y27 y43 y44 y45 y46 y47 y48 y49 y50 y51 y52 y53 y54 y55 y56 y57 y58 y59 y60 y61 y62 y63 y64 y65 y66 y67 y68 y69 y70 y71 y72 y73 y74:Value) (l:Array Bool) (A:Act) (W:World):Prop :=
  l.size=21∧∃ X:Nat→Value,A={ tmps:=rpaT b off m cap k y0 y1 y2 y3 y4 y5 y11 y12 y13 y14 y15 y16 y17 y18 y19 y20 y21 y22 y23 y24 y25 y26 y27 y43 y44 y45 y46 y47 y48 y49 y50 y51 y52 y53 y54 y55 y56 y57 y58 y59 y60 y61 y62 y63 y64 y65 y66 y67 y68 y69 y70 y71 y72 y73 y74 X,defers:=[] }∧N≤W.heap.size∧G W∧PV l 0 (X 28) (.slice (some ⟨b,off,none⟩) m cap)∧PV l 1 (X 29) (.int .i64 k)∧PV l 2 (X 30) (.pointer (some ⟨b,off + k * 9,none⟩))∧PV l 3 (X 31) (.pointer (some ⟨b,off + k * 9,none⟩))∧PV l 4 (X 32) (ptv t.1)∧PV l 5 (X 33) (.slice (some ⟨b,off,none⟩) m cap)∧PV l 6 (X 34) (.int .i64 k)∧PV l 7 (X 35) (.pointer (some ⟨b,off + k * 9,none⟩))∧PV l 8 (X 36) (.pointer (some ⟨b,off + k * 9 + 3,none⟩))∧PV l 9 (X 37) (ptv t.2.1)∧PV l 10 (X 38) (.slice (some ⟨b,off,none⟩) m cap)∧PV l 11 (X 39) (.int .i64 k)∧PV l 12 (X 40) (.pointer (some ⟨b,off + k * 9,none⟩))∧PV l 13 (X 41) (.pointer (some ⟨b,off + k * 9 + 6,none⟩))∧PV l 14 (X 42) (ptv t.2.2)∧QA l W (X 8) 15 18 N (t.1)∧QA l W (X 9) 16 19 N (t.2.1)∧QA l W (X 10) 17 20 N (t.2.2)∧DD l (X 8) (X 9) 15 16∧DD l (X 8) (X 10) 15 17∧DD l (X 9) (X 10) 16 17
set_option maxRecDepth 100000 in
set_option maxHeartbeats 4000000 in
theorem rpa_steps (G:World→Prop) (N:Nat) (b off m cap k:Nat) (t:P9) (y0 y1 y2 y3 y4 y5 y11 y12 y13 y14 y15 y16 y17 y18 y19 y20 y21 y22 y23 y24 y25 y26 y27 y43 y44 y45 y46 y47 y48 y49 y50 y51 y52 y53 y54 y55 y56 y57 y58 y59 y60 y61 y62 y63 y64 y65 y66 y67 y68 y69 y70 y71 y72 y73 y74:Value) (Q:Exit→Act→World→Prop) (HK:Hid ((k:Int) < (m:Int)∧0≤(k:Int))) (GC:Hid (∀ W:World,G W→W.cell? ⟨b,off + k * 9,none⟩=some (.int .i64 t.1.1)∧W.cell? ⟨b,off + k * 9 + 1,none⟩=some (.int .i64 t.1.2.1)∧W.cell? ⟨b,off + k * 9 + 1 + 1,none⟩=some (.int .i64 t.1.2.2)∧W.cell? ⟨b,off + k * 9 + 3,none⟩=some (.int .i64 t.2.1.1)∧W.cell? ⟨b,off + k * 9 + 3 + 1,none⟩=some (.int .i64 t.2.1.2.1)∧W.cell? ⟨b,off + k * 9 + 3 + 1 + 1,none⟩=some (.int .i64 t.2.1.2.2)∧W.cell? ⟨b,off + k * 9 + 6,none⟩=some (.int .i64 t.2.2.1)∧W.cell? ⟨b,off + k * 9 + 6 + 1,none⟩=some (.int .i64 t.2.2.2.1)∧W.cell? ⟨b,off + k * 9 + 6 + 1 + 1,none⟩=some (.int .i64 t.2.2.2.2))) (GI:Hid (∀ W W':World,Below N W W'→G W→G W')) :
    allOps (fun i o=>∀ (l:Array Bool) (A:Act) (W:World),rpaI G N b off m cap k t y0 y1 y2 y3 y4 y5 y11 y12 y13 y14 y15 y16 y17 y18 y19 y20 y21 y22 y23 y24 y25 y26 y27 y43 y44 y45 y46 y47 y48 y49 y50 y51 y52 y53 y54 y55 y56 y57 y58 y59 y60 y61 y62 y63 y64 y65 y66 y67 y68 y69 y70 y71 y72 y73 y74 l A W→l.getD i true=false→(∀ e ∈ o.after,Region.binds .any e=true→l.getD e.on false=true)→∀ K':Act→World→Prop,(∀ A' W',rpaI G N b off m cap k t y0 y1 y2 y3 y4 y5 y11 y12 y13 y14 y15 y16 y17 y18 y19 y20 y21 y22 y23 y24 y25 y26 y27 y43 y44 y45 y46 y47 y48 y49 y50 y51 y52 y53 y54 y55 y56 y57 y58 y59 y60 y61 y62 y63 y64 y65 y66 y67 y68 y69 y70 y71 y72 y73 y74 (l.setIfInBounds i true) A' W'→K' A' W')→if Region.wanted o (yielded rpaOps A.tmps)=true then Oper.wp Tryz.prog o A W K' Q else K' (A.put o.dst undef) W) 0 rpaOps.toList:=by
  simp only [rpaOps,allOps]
  refine ⟨?_,?_,?_,?_,?_,?_,?_,?_,?_,?_,?_,?_,?_,?_,?_,?_,?_,?_,?_,?_,?_,trivial⟩
  · rintro l A W ⟨hl,X,rfl,hN,g,F⟩ h1 hp K hK
    rw [rpaT_eq]
    have g':=Lib.hid g
    have F':=Lib.hid F;clear F g
    have hN':=Lib.hid hN;clear hN;have hl':=Lib.hid hl;clear hl;have h1':=Lib.hid h1;clear h1;have hp':=Lib.hid hp;clear hp;have hK':=Lib.hid hK;clear hK
    go_simp
    have hK:=hK'.out;have hN:=hN'.out;have hl:=hl'.out;have h1:=h1'.out
    obtain ⟨p0,p1,p2,p3,p4,p5,p6,p7,p8,p9,p10,p11,p12,p13,p14,qa0,qa1,qa2,d0_1,d0_2,d1_2⟩:=F'.out
    have g:=g'.out
    refine hK _ _ ⟨by simpa using hl,(upd X 28 (.slice (some ⟨b,off,none⟩) m cap)),rfl,hN,g,PV.made rfl,p1.k,p2.k,p3.k,p4.k,p5.k,p6.k,p7.k,p8.k,p9.k,p10.k,p11.k,p12.k,p13.k,p14.k,qa0.keep (by decide) (by decide) (fun _ _ h=>h),qa1.keep (by decide) (by decide) (fun _ _ h=>h),qa2.keep (by decide) (by decide) (fun _ _ h=>h),d0_1.k,d0_2.k,d1_2.k⟩
  · rintro l A W ⟨hl,X,rfl,hN,g,F⟩ h1 hp K hK
    rw [rpaT_eq]
    have g':=Lib.hid g
    have F':=Lib.hid F;clear F g
    have hN':=Lib.hid hN;clear hN;have hl':=Lib.hid hl;clear hl;have h1':=Lib.hid h1;clear h1;have hp':=Lib.hid hp;clear hp;have hK':=Lib.hid hK;clear hK
    go_simp
    have hK:=hK'.out;have hN:=hN'.out;have hl:=hl'.out;have h1:=h1'.out
    obtain ⟨p0,p1,p2,p3,p4,p5,p6,p7,p8,p9,p10,p11,p12,p13,p14,qa0,qa1,qa2,d0_1,d0_2,d1_2⟩:=F'.out
    have g:=g'.out
    refine hK _ _ ⟨by simpa using hl,(upd X 29 (.int .i64 k)),rfl,hN,g,p0.k,PV.made rfl,p2.k,p3.k,p4.k,p5.k,p6.k,p7.k,p8.k,p9.k,p10.k,p11.k,p12.k,p13.k,p14.k,qa0.keep (by decide) (by decide) (fun _ _ h=>h),qa1.keep (by decide) (by decide) (fun _ _ h=>h),qa2.keep (by decide) (by decide) (fun _ _ h=>h),d0_1.k,d0_2.k,d1_2.k⟩
  · rintro l A W ⟨hl,X,rfl,hN,g,F⟩ h1 hp K hK
    have e0:=F.1 (hp ⟨0,.data⟩ (by simp) rfl)
    have e1:=F.2.1 (hp ⟨1,.data⟩ (by simp) rfl)
    obtain ⟨hk1,hk2⟩:=HK.out
    rw [rpaT_eq]
    have g':=Lib.hid g
    have F':=Lib.hid F;clear F g
    have hN':=Lib.hid hN;clear hN;have hl':=Lib.hid hl;clear hl;have h1':=Lib.hid h1;clear h1;have hp':=Lib.hid hp;clear hp;have hK':=Lib.hid hK;clear hK
    go_simp
    have hK:=hK'.out;have hN:=hN'.out;have hl:=hl'.out;have h1:=h1'.out
    obtain ⟨p0,p1,p2,p3,p4,p5,p6,p7,p8,p9,p10,p11,p12,p13,p14,qa0,qa1,qa2,d0_1,d0_2,d1_2⟩:=F'.out
    have g:=g'.out
    refine hK _ _ ⟨by simpa using hl,(upd (upd (upd X 28 (.slice (some ⟨b,off,none⟩) m cap)) 29 (.int .i64 k)) 30 (.pointer (some ⟨b,off + k * 9,none⟩))),rfl,hN,g,PV.made rfl,PV.made rfl,PV.made rfl,p3.k,p4.k,p5.k,p6.k,p7.k,p8.k,p9.k,p10.k,p11.k,p12.k,p13.k,p14.k,qa0.keep (by decide) (by decide) (fun _ _ h=>h),qa1.keep (by decide) (by decide) (fun _ _ h=>h),qa2.keep (by decide) (by decide) (fun _ _ h=>h),d0_1.k,d0_2.k,d1_2.k⟩
  · rintro l A W ⟨hl,X,rfl,hN,g,F⟩ h1 hp K hK
    have e2:=F.2.2.1 (hp ⟨2,.data⟩ (by simp) rfl)
    rw [rpaT_eq]
    have g':=Lib.hid g
    have F':=Lib.hid F;clear F g
    have hN':=Lib.hid hN;clear hN;have hl':=Lib.hid hl;clear hl;have h1':=Lib.hid h1;clear h1;have hp':=Lib.hid hp;clear hp;have hK':=Lib.hid hK;clear hK
    go_simp
    have hK:=hK'.out;have hN:=hN'.out;have hl:=hl'.out;have h1:=h1'.out
    obtain ⟨p0,p1,p2,p3,p4,p5,p6,p7,p8,p9,p10,p11,p12,p13,p14,qa0,qa1,qa2,d0_1,d0_2,d1_2⟩:=F'.out
    have g:=g'.out
    refine hK _ _ ⟨by simpa using hl,(upd (upd X 30 (.pointer (some ⟨b,off + k * 9,none⟩))) 31 (.pointer (some ⟨b,off + k * 9,none⟩))),rfl,hN,g,p0.k,p1.k,PV.made rfl,PV.made rfl,p4.k,p5.k,p6.k,p7.k,p8.k,p9.k,p10.k,p11.k,p12.k,p13.k,p14.k,qa0.keep (by decide) (by decide) (fun _ _ h=>h),qa1.keep (by decide) (by decide) (fun _ _ h=>h),qa2.keep (by decide) (by decide) (fun _ _ h=>h),d0_1.k,d0_2.k,d1_2.k⟩
  · rintro l A W ⟨hl,X,rfl,hN,g,F⟩ h1 hp K hK
    have e3:=F.2.2.2.1 (hp ⟨3,.data⟩ (by simp) rfl)
    obtain ⟨c0,c1,c2,c3,c4,c5,c6,c7,c8⟩:=GC.out W g
    rw [rpaT_eq]
    have g':=Lib.hid g
    have F':=Lib.hid F;clear F g
    have hN':=Lib.hid hN;clear hN;have hl':=Lib.hid hl;clear hl;have h1':=Lib.hid h1;clear h1;have hp':=Lib.hid hp;clear hp;have hK':=Lib.hid hK;clear hK
    go_simp
    have hK:=hK'.out;have hN:=hN'.out;have hl:=hl'.out;have h1:=h1'.out
    obtain ⟨p0,p1,p2,p3,p4,p5,p6,p7,p8,p9,p10,p11,p12,p13,p14,qa0,qa1,qa2,d0_1,d0_2,d1_2⟩:=F'.out
    have g:=g'.out
    refine hK _ _ ⟨by simpa using hl,(upd (upd X 31 (.pointer (some ⟨b,off + k * 9,none⟩))) 32 (ptv t.1)),rfl,hN,g,p0.k,p1.k,p2.k,PV.made rfl,PV.made rfl,p5.k,p6.k,p7.k,p8.k,p9.k,p10.k,p11.k,p12.k,p13.k,p14.k,qa0.keep (by decide) (by decide) (fun _ _ h=>h),qa1.keep (by decide) (by decide) (fun _ _ h=>h),qa2.keep (by decide) (by decide) (fun _ _ h=>h),d0_1.k,d0_2.k,d1_2.k⟩
  · rintro l A W ⟨hl,X,rfl,hN,g,F⟩ h1 hp K hK
    rw [rpaT_eq]
    have g':=Lib.hid g
    have F':=Lib.hid F;clear F g
    have hN':=Lib.hid hN;clear hN;have hl':=Lib.hid hl;clear hl;have h1':=Lib.hid h1;clear h1;have hp':=Lib.hid hp;clear hp;have hK':=Lib.hid hK;clear hK
    go_simp
    have hK:=hK'.out;have hN:=hN'.out;have hl:=hl'.out;have h1:=h1'.out
    obtain ⟨p0,p1,p2,p3,p4,p5,p6,p7,p8,p9,p10,p11,p12,p13,p14,qa0,qa1,qa2,d0_1,d0_2,d1_2⟩:=F'.out
    have g:=g'.out
    refine hK _ _ ⟨by simpa using hl,(upd X 33 (.slice (some ⟨b,off,none⟩) m cap)),rfl,hN,g,p0.k,p1.k,p2.k,p3.k,p4.k,PV.made rfl,p6.k,p7.k,p8.k,p9.k,p10.k,p11.k,p12.k,p13.k,p14.k,qa0.keep (by decide) (by decide) (fun _ _ h=>h),qa1.keep (by decide) (by decide) (fun _ _ h=>h),qa2.keep (by decide) (by decide) (fun _ _ h=>h),d0_1.k,d0_2.k,d1_2.k⟩
  · rintro l A W ⟨hl,X,rfl,hN,g,F⟩ h1 hp K hK
    rw [rpaT_eq]
    have g':=Lib.hid g
    have F':=Lib.hid F;clear F g
    have hN':=Lib.hid hN;clear hN;have hl':=Lib.hid hl;clear hl;have h1':=Lib.hid h1;clear h1;have hp':=Lib.hid hp;clear hp;have hK':=Lib.hid hK;clear hK
    go_simp
    have hK:=hK'.out;have hN:=hN'.out;have hl:=hl'.out;have h1:=h1'.out
    obtain ⟨p0,p1,p2,p3,p4,p5,p6,p7,p8,p9,p10,p11,p12,p13,p14,qa0,qa1,qa2,d0_1,d0_2,d1_2⟩:=F'.out
    have g:=g'.out
    refine hK _ _ ⟨by simpa using hl,(upd X 34 (.int .i64 k)),rfl,hN,g,p0.k,p1.k,p2.k,p3.k,p4.k,p5.k,PV.made rfl,p7.k,p8.k,p9.k,p10.k,p11.k,p12.k,p13.k,p14.k,qa0.keep (by decide) (by decide) (fun _ _ h=>h),qa1.keep (by decide) (by decide) (fun _ _ h=>h),qa2.keep (by decide) (by decide) (fun _ _ h=>h),d0_1.k,d0_2.k,d1_2.k⟩
  · rintro l A W ⟨hl,X,rfl,hN,g,F⟩ h1 hp K hK
    have e5:=F.2.2.2.2.2.1 (hp ⟨5,.data⟩ (by simp) rfl)
    have e6:=F.2.2.2.2.2.2.1 (hp ⟨6,.data⟩ (by simp) rfl)
    obtain ⟨hk1,hk2⟩:=HK.out
    rw [rpaT_eq]
    have g':=Lib.hid g
    have F':=Lib.hid F;clear F g
    have hN':=Lib.hid hN;clear hN;have hl':=Lib.hid hl;clear hl;have h1':=Lib.hid h1;clear h1;have hp':=Lib.hid hp;clear hp;have hK':=Lib.hid hK;clear hK
    go_simp
    have hK:=hK'.out;have hN:=hN'.out;have hl:=hl'.out;have h1:=h1'.out
    obtain ⟨p0,p1,p2,p3,p4,p5,p6,p7,p8,p9,p10,p11,p12,p13,p14,qa0,qa1,qa2,d0_1,d0_2,d1_2⟩:=F'.out
    have g:=g'.out
    refine hK _ _ ⟨by simpa using hl,(upd (upd (upd X 33 (.slice (some ⟨b,off,none⟩) m cap)) 34 (.int .i64 k)) 35 (.pointer (some ⟨b,off + k * 9,none⟩))),rfl,hN,g,p0.k,p1.k,p2.k,p3.k,p4.k,PV.made rfl,PV.made rfl,PV.made rfl,p8.k,p9.k,p10.k,p11.k,p12.k,p13.k,p14.k,qa0.keep (by decide) (by decide) (fun _ _ h=>h),qa1.keep (by decide) (by decide) (fun _ _ h=>h),qa2.keep (by decide) (by decide) (fun _ _ h=>h),d0_1.k,d0_2.k,d1_2.k⟩
  · rintro l A W ⟨hl,X,rfl,hN,g,F⟩ h1 hp K hK
    have e7:=F.2.2.2.2.2.2.2.1 (hp ⟨7,.data⟩ (by simp) rfl)
    rw [rpaT_eq]
    have g':=Lib.hid g
    have F':=Lib.hid F;clear F g
    have hN':=Lib.hid hN;clear hN;have hl':=Lib.hid hl;clear hl;have h1':=Lib.hid h1;clear h1;have hp':=Lib.hid hp;clear hp;have hK':=Lib.hid hK;clear hK
    go_simp
    have hK:=hK'.out;have hN:=hN'.out;have hl:=hl'.out;have h1:=h1'.out
    obtain ⟨p0,p1,p2,p3,p4,p5,p6,p7,p8,p9,p10,p11,p12,p13,p14,qa0,qa1,qa2,d0_1,d0_2,d1_2⟩:=F'.out
    have g:=g'.out
    refine hK _ _ ⟨by simpa using hl,(upd (upd X 35 (.pointer (some ⟨b,off + k * 9,none⟩))) 36 (.pointer (some ⟨b,off + k * 9 + 3,none⟩))),rfl,hN,g,p0.k,p1.k,p2.k,p3.k,p4.k,p5.k,p6.k,PV.made rfl,PV.made rfl,p9.k,p10.k,p11.k,p12.k,p13.k,p14.k,qa0.keep (by decide) (by decide) (fun _ _ h=>h),qa1.keep (by decide) (by decide) (fun _ _ h=>h),qa2.keep (by decide) (by decide) (fun _ _ h=>h),d0_1.k,d0_2.k,d1_2.k⟩
  · rintro l A W ⟨hl,X,rfl,hN,g,F⟩ h1 hp K hK
    have e8:=F.2.2.2.2.2.2.2.2.1 (hp ⟨8,.data⟩ (by simp) rfl)
    obtain ⟨c0,c1,c2,c3,c4,c5,c6,c7,c8⟩:=GC.out W g
    rw [rpaT_eq]
    have g':=Lib.hid g
    have F':=Lib.hid F;clear F g
    have hN':=Lib.hid hN;clear hN;have hl':=Lib.hid hl;clear hl;have h1':=Lib.hid h1;clear h1;have hp':=Lib.hid hp;clear hp;have hK':=Lib.hid hK;clear hK
    go_simp
    have hK:=hK'.out;have hN:=hN'.out;have hl:=hl'.out;have h1:=h1'.out
    obtain ⟨p0,p1,p2,p3,p4,p5,p6,p7,p8,p9,p10,p11,p12,p13,p14,qa0,qa1,qa2,d0_1,d0_2,d1_2⟩:=F'.out
    have g:=g'.out
    refine hK _ _ ⟨by simpa using hl,(upd (upd X 36 (.pointer (some ⟨b,off + k * 9 + 3,none⟩))) 37 (ptv t.2.1)),rfl,hN,g,p0.k,p1.k,p2.k,p3.k,p4.k,p5.k,p6.k,p7.k,PV.made rfl,PV.made rfl,p10.k,p11.k,p12.k,p13.k,p14.k,qa0.keep (by decide) (by decide) (fun _ _ h=>h),qa1.keep (by decide) (by decide) (fun _ _ h=>h),qa2.keep (by decide) (by decide) (fun _ _ h=>h),d0_1.k,d0_2.k,d1_2.k⟩
  · rintro l A W ⟨hl,X,rfl,hN,g,F⟩ h1 hp K hK
    rw [rpaT_eq]
    have g':=Lib.hid g
    have F':=Lib.hid F;clear F g
    have hN':=Lib.hid hN;clear hN;have hl':=Lib.hid hl;clear hl;have h1':=Lib.hid h1;clear h1;have hp':=Lib.hid hp;clear hp;have hK':=Lib.hid hK;clear hK
    go_simp
    have hK:=hK'.out;have hN:=hN'.out;have hl:=hl'.out;have h1:=h1'.out
    obtain ⟨p0,p1,p2,p3,p4,p5,p6,p7,p8,p9,p10,p11,p12,p13,p14,qa0,qa1,qa2,d0_1,d0_2,d1_2⟩:=F'.out
    have g:=g'.out
    refine hK _ _ ⟨by simpa using hl,(upd X 38 (.slice (some ⟨b,off,none⟩) m cap)),rfl,hN,g,p0.k,p1.k,p2.k,p3.k,p4.k,p5.k,p6.k,p7.k,p8.k,p9.k,PV.made rfl,p11.k,p12.k,p13.k,p14.k,qa0.keep (by decide) (by decide) (fun _ _ h=>h),qa1.keep (by decide) (by decide) (fun _ _ h=>h),qa2.keep (by decide) (by decide) (fun _ _ h=>h),d0_1.k,d0_2.k,d1_2.k⟩
  · rintro l A W ⟨hl,X,rfl,hN,g,F⟩ h1 hp K hK
    rw [rpaT_eq]
    have g':=Lib.hid g
    have F':=Lib.hid F;clear F g
    have hN':=Lib.hid hN;clear hN;have hl':=Lib.hid hl;clear hl;have h1':=Lib.hid h1;clear h1;have hp':=Lib.hid hp;clear hp;have hK':=Lib.hid hK;clear hK
    go_simp
    have hK:=hK'.out;have hN:=hN'.out;have hl:=hl'.out;have h1:=h1'.out
    obtain ⟨p0,p1,p2,p3,p4,p5,p6,p7,p8,p9,p10,p11,p12,p13,p14,qa0,qa1,qa2,d0_1,d0_2,d1_2⟩:=F'.out
    have g:=g'.out
    refine hK _ _ ⟨by simpa using hl,(upd X 39 (.int .i64 k)),rfl,hN,g,p0.k,p1.k,p2.k,p3.k,p4.k,p5.k,p6.k,p7.k,p8.k,p9.k,p10.k,PV.made rfl,p12.k,p13.k,p14.k,qa0.keep (by decide) (by decide) (fun _ _ h=>h),qa1.keep (by decide) (by decide) (fun _ _ h=>h),qa2.keep (by decide) (by decide) (fun _ _ h=>h),d0_1.k,d0_2.k,d1_2.k⟩
  · rintro l A W ⟨hl,X,rfl,hN,g,F⟩ h1 hp K hK
    have e10:=F.2.2.2.2.2.2.2.2.2.2.1 (hp ⟨10,.data⟩ (by simp) rfl)
    have e11:=F.2.2.2.2.2.2.2.2.2.2.2.1 (hp ⟨11,.data⟩ (by simp) rfl)
    obtain ⟨hk1,hk2⟩:=HK.out
    rw [rpaT_eq]
    have g':=Lib.hid g
    have F':=Lib.hid F;clear F g
    have hN':=Lib.hid hN;clear hN;have hl':=Lib.hid hl;clear hl;have h1':=Lib.hid h1;clear h1;have hp':=Lib.hid hp;clear hp;have hK':=Lib.hid hK;clear hK
    go_simp
    have hK:=hK'.out;have hN:=hN'.out;have hl:=hl'.out;have h1:=h1'.out
    obtain ⟨p0,p1,p2,p3,p4,p5,p6,p7,p8,p9,p10,p11,p12,p13,p14,qa0,qa1,qa2,d0_1,d0_2,d1_2⟩:=F'.out
    have g:=g'.out
    refine hK _ _ ⟨by simpa using hl,(upd (upd (upd X 38 (.slice (some ⟨b,off,none⟩) m cap)) 39 (.int .i64 k)) 40 (.pointer (some ⟨b,off + k * 9,none⟩))),rfl,hN,g,p0.k,p1.k,p2.k,p3.k,p4.k,p5.k,p6.k,p7.k,p8.k,p9.k,PV.made rfl,PV.made rfl,PV.made rfl,p13.k,p14.k,qa0.keep (by decide) (by decide) (fun _ _ h=>h),qa1.keep (by decide) (by decide) (fun _ _ h=>h),qa2.keep (by decide) (by decide) (fun _ _ h=>h),d0_1.k,d0_2.k,d1_2.k⟩
  · rintro l A W ⟨hl,X,rfl,hN,g,F⟩ h1 hp K hK
    have e12:=F.2.2.2.2.2.2.2.2.2.2.2.2.1 (hp ⟨12,.data⟩ (by simp) rfl)
    rw [rpaT_eq]
    have g':=Lib.hid g
    have F':=Lib.hid F;clear F g
    have hN':=Lib.hid hN;clear hN;have hl':=Lib.hid hl;clear hl;have h1':=Lib.hid h1;clear h1;have hp':=Lib.hid hp;clear hp;have hK':=Lib.hid hK;clear hK
    go_simp
    have hK:=hK'.out;have hN:=hN'.out;have hl:=hl'.out;have h1:=h1'.out
    obtain ⟨p0,p1,p2,p3,p4,p5,p6,p7,p8,p9,p10,p11,p12,p13,p14,qa0,qa1,qa2,d0_1,d0_2,d1_2⟩:=F'.out
    have g:=g'.out
    refine hK _ _ ⟨by simpa using hl,(upd (upd X 40 (.pointer (some ⟨b,off + k * 9,none⟩))) 41 (.pointer (some ⟨b,off + k * 9 + 6,none⟩))),rfl,hN,g,p0.k,p1.k,p2.k,p3.k,p4.k,p5.k,p6.k,p7.k,p8.k,p9.k,p10.k,p11.k,PV.made rfl,PV.made rfl,p14.k,qa0.keep (by decide) (by decide) (fun _ _ h=>h),qa1.keep (by decide) (by decide) (fun _ _ h=>h),qa2.keep (by decide) (by decide) (fun _ _ h=>h),d0_1.k,d0_2.k,d1_2.k⟩
  · rintro l A W ⟨hl,X,rfl,hN,g,F⟩ h1 hp K hK
    have e13:=F.2.2.2.2.2.2.2.2.2.2.2.2.2.1 (hp ⟨13,.data⟩ (by simp) rfl)
    obtain ⟨c0,c1,c2,c3,c4,c5,c6,c7,c8⟩:=GC.out W g
    rw [rpaT_eq]
    have g':=Lib.hid g
    have F':=Lib.hid F;clear F g
    have hN':=Lib.hid hN;clear hN;have hl':=Lib.hid hl;clear hl;have h1':=Lib.hid h1;clear h1;have hp':=Lib.hid hp;clear hp;have hK':=Lib.hid hK;clear hK
    go_simp
    have hK:=hK'.out;have hN:=hN'.out;have hl:=hl'.out;have h1:=h1'.out
    obtain ⟨p0,p1,p2,p3,p4,p5,p6,p7,p8,p9,p10,p11,p12,p13,p14,qa0,qa1,qa2,d0_1,d0_2,d1_2⟩:=F'.out
    have g:=g'.out
    refine hK _ _ ⟨by simpa using hl,(upd (upd X 41 (.pointer (some ⟨b,off + k * 9 + 6,none⟩))) 42 (ptv t.2.2)),rfl,hN,g,p0.k,p1.k,p2.k,p3.k,p4.k,p5.k,p6.k,p7.k,p8.k,p9.k,p10.k,p11.k,p12.k,PV.made rfl,PV.made rfl,qa0.keep (by decide) (by decide) (fun _ _ h=>h),qa1.keep (by decide) (by decide) (fun _ _ h=>h),qa2.keep (by decide) (by decide) (fun _ _ h=>h),d0_1.k,d0_2.k,d1_2.k⟩
  · rintro l A W ⟨hl,X,rfl,hN,g,F⟩ h1 hp K hK
    rw [rpaT_eq]
    have g':=Lib.hid g
    have F':=Lib.hid F;clear F g
    have hN':=Lib.hid hN;clear hN;have hl':=Lib.hid hl;clear hl;have h1':=Lib.hid h1;clear h1;have hp':=Lib.hid hp;clear hp;have hK':=Lib.hid hK;clear hK
    go_simp
    have hK:=hK'.out;have hN:=hN'.out;have hl:=hl'.out;have h1:=h1'.out
    obtain ⟨p0,p1,p2,p3,p4,p5,p6,p7,p8,p9,p10,p11,p12,p13,p14,qa0,qa1,qa2,d0_1,d0_2,d1_2⟩:=F'.out
    have g:=g'.out
    refine hK _ _ ⟨by simpa using hl,(upd X 8 (.pointer (some ⟨W.heap.size,0,none⟩))),rfl,(by simp;omega),GI.out _ _ (((Below.refl _ W).alloc (Nat.le_refl _) _).mono hN) g,p0.k,p1.k,p2.k,p3.k,p4.k,p5.k,p6.k,p7.k,p8.k,p9.k,p10.k,p11.k,p12.k,p13.k,p14.k,qa0.made (by decide) (by rw [hl];decide) h1 hN (own_new W (0,0,0) _),qa1.keep (by decide) (by decide) (fun _ _ h=>own_alloc h _),qa2.keep (by decide) (by decide) (fun _ _ h=>own_alloc h _),DD.mk1 qa1 (by decide),DD.mk1 qa2 (by decide),d1_2.k⟩
  · rintro l A W ⟨hl,X,rfl,hN,g,F⟩ h1 hp K hK
    rw [rpaT_eq]
    have g':=Lib.hid g
    have F':=Lib.hid F;clear F g
    have hN':=Lib.hid hN;clear hN;have hl':=Lib.hid hl;clear hl;have h1':=Lib.hid h1;clear h1;have hp':=Lib.hid hp;clear hp;have hK':=Lib.hid hK;clear hK
    go_simp
    have hK:=hK'.out;have hN:=hN'.out;have hl:=hl'.out;have h1:=h1'.out
    obtain ⟨p0,p1,p2,p3,p4,p5,p6,p7,p8,p9,p10,p11,p12,p13,p14,qa0,qa1,qa2,d0_1,d0_2,d1_2⟩:=F'.out
    have g:=g'.out
    refine hK _ _ ⟨by simpa using hl,(upd X 9 (.pointer (some ⟨W.heap.size,0,none⟩))),rfl,(by simp;omega),GI.out _ _ (((Below.refl _ W).alloc (Nat.le_refl _) _).mono hN) g,p0.k,p1.k,p2.k,p3.k,p4.k,p5.k,p6.k,p7.k,p8.k,p9.k,p10.k,p11.k,p12.k,p13.k,p14.k,qa0.keep (by decide) (by decide) (fun _ _ h=>own_alloc h _),qa1.made (by decide) (by rw [hl];decide) h1 hN (own_new W (0,0,0) _),qa2.keep (by decide) (by decide) (fun _ _ h=>own_alloc h _),DD.mk2 qa0 (by decide),d0_2.k,DD.mk1 qa2 (by decide)⟩
  · rintro l A W ⟨hl,X,rfl,hN,g,F⟩ h1 hp K hK
    rw [rpaT_eq]
    have g':=Lib.hid g
    have F':=Lib.hid F;clear F g
    have hN':=Lib.hid hN;clear hN;have hl':=Lib.hid hl;clear hl;have h1':=Lib.hid h1;clear h1;have hp':=Lib.hid hp;clear hp;have hK':=Lib.hid hK;clear hK
    go_simp
    have hK:=hK'.out;have hN:=hN'.out;have hl:=hl'.out;have h1:=h1'.out
    obtain ⟨p0,p1,p2,p3,p4,p5,p6,p7,p8,p9,p10,p11,p12,p13,p14,qa0,qa1,qa2,d0_1,d0_2,d1_2⟩:=F'.out
    have g:=g'.out
    refine hK _ _ ⟨by simpa using hl,(upd X 10 (.pointer (some ⟨W.heap.size,0,none⟩))),rfl,(by simp;omega),GI.out _ _ (((Below.refl _ W).alloc (Nat.le_refl _) _).mono hN) g,p0.k,p1.k,p2.k,p3.k,p4.k,p5.k,p6.k,p7.k,p8.k,p9.k,p10.k,p11.k,p12.k,p13.k,p14.k,qa0.keep (by decide) (by decide) (fun _ _ h=>own_alloc h _),qa1.keep (by decide) (by decide) (fun _ _ h=>own_alloc h _),qa2.made (by decide) (by rw [hl];decide) h1 hN (own_new W (0,0,0) _),d0_1.k,DD.mk2 qa0 (by decide),DD.mk2 qa1 (by decide)⟩
  · rintro l A W ⟨hl,X,rfl,hN,g,F⟩ h1 hp K hK
    have la:=hp ⟨15,.data⟩ (by simp) rfl
    have e4:=F.2.2.2.2.1 (hp ⟨4,.data⟩ (by simp) rfl)
    obtain ⟨b',v',e2,hb',ow,_⟩:=F.2.2.2.2.2.2.2.2.2.2.2.2.2.2.2.1.2 la
    obtain ⟨o0,o1,o2,o3,o4,o5,o6⟩:=id ow
    rw [rpaT_eq]
    have g':=Lib.hid g
    have F':=Lib.hid F;clear F g
    have hN':=Lib.hid hN;clear hN;have hl':=Lib.hid hl;clear hl;have h1':=Lib.hid h1;clear h1;have hp':=Lib.hid hp;clear hp;have hK':=Lib.hid hK;clear hK
    have la':=Lib.hid la;clear la;have hb'':=Lib.hid hb';clear hb';have ow':=Lib.hid ow;clear ow
    go_simp
    have hK:=hK'.out;have hN:=hN'.out;have hl:=hl'.out;have h1:=h1'.out
    obtain ⟨p0,p1,p2,p3,p4,p5,p6,p7,p8,p9,p10,p11,p12,p13,p14,qa0,qa1,qa2,d0_1,d0_2,d1_2⟩:=F'.out
    have g:=g'.out
    have la:=la'.out;have hb':=hb''.out;have ow:=ow'.out
    refine hK _ _ ⟨by simpa using hl,(upd (upd X 32 (ptv t.1)) 8 (.pointer (some ⟨b',0,none⟩))),rfl,(by simpa using hN),GI.out _ _ (below_set3 _ _ _ hb') g,p0.k,p1.k,p2.k,p3.k,PV.made rfl,p5.k,p6.k,p7.k,p8.k,p9.k,p10.k,p11.k,p12.k,p13.k,p14.k,QA.put (by decide) la rfl hb' (own_put ow _),qa1.other (by decide) (by decide) (fun z=>by have dd:=d0_1 la z;rw [e2] at dd;exact dd.symm) (fun _ _ n h=>own_set3 _ _ _ n h),qa2.other (by decide) (by decide) (fun z=>by have dd:=d0_2 la z;rw [e2] at dd;exact dd.symm) (fun _ _ n h=>own_set3 _ _ _ n h),(by have z:=d0_1.keep (i:=18) (by decide) (by decide);rw [e2] at z;exact z),(by have z:=d0_2.keep (i:=18) (by decide) (by decide);rw [e2] at z;exact z),d1_2.k⟩
  · rintro l A W ⟨hl,X,rfl,hN,g,F⟩ h1 hp K hK
    have la:=hp ⟨16,.data⟩ (by simp) rfl
    have e9:=F.2.2.2.2.2.2.2.2.2.1 (hp ⟨9,.data⟩ (by simp) rfl)
    obtain ⟨b',v',e2,hb',ow,_⟩:=F.2.2.2.2.2.2.2.2.2.2.2.2.2.2.2.2.1.2 la
    obtain ⟨o0,o1,o2,o3,o4,o5,o6⟩:=id ow
    rw [rpaT_eq]
    have g':=Lib.hid g
    have F':=Lib.hid F;clear F g
    have hN':=Lib.hid hN;clear hN;have hl':=Lib.hid hl;clear hl;have h1':=Lib.hid h1;clear h1;have hp':=Lib.hid hp;clear hp;have hK':=Lib.hid hK;clear hK
    have la':=Lib.hid la;clear la;have hb'':=Lib.hid hb';clear hb';have ow':=Lib.hid ow;clear ow
    go_simp
    have hK:=hK'.out;have hN:=hN'.out;have hl:=hl'.out;have h1:=h1'.out
    obtain ⟨p0,p1,p2,p3,p4,p5,p6,p7,p8,p9,p10,p11,p12,p13,p14,qa0,qa1,qa2,d0_1,d0_2,d1_2⟩:=F'.out
    have g:=g'.out
    have la:=la'.out;have hb':=hb''.out;have ow:=ow'.out
    refine hK _ _ ⟨by simpa using hl,(upd (upd X 37 (ptv t.2.1)) 9 (.pointer (some ⟨b',0,none⟩))),rfl,(by simpa using hN),GI.out _ _ (below_set3 _ _ _ hb') g,p0.k,p1.k,p2.k,p3.k,p4.k,p5.k,p6.k,p7.k,p8.k,PV.made rfl,p10.k,p11.k,p12.k,p13.k,p14.k,qa0.other (by decide) (by decide) (fun z=>by have dd:=d0_1 z la;rw [e2] at dd;exact dd) (fun _ _ n h=>own_set3 _ _ _ n h),QA.put (by decide) la rfl hb' (own_put ow _),qa2.other (by decide) (by decide) (fun z=>by have dd:=d1_2 la z;rw [e2] at dd;exact dd.symm) (fun _ _ n h=>own_set3 _ _ _ n h),(by have z:=d0_1.keep (i:=19) (by decide) (by decide);rw [e2] at z;exact z),d0_2.k,(by have z:=d1_2.keep (i:=19) (by decide) (by decide);rw [e2] at z;exact z)⟩
  · rintro l A W ⟨hl,X,rfl,hN,g,F⟩ h1 hp K hK
    have la:=hp ⟨17,.data⟩ (by simp) rfl
    have e14:=F.2.2.2.2.2.2.2.2.2.2.2.2.2.2.1 (hp ⟨14,.data⟩ (by simp) rfl)
    obtain ⟨b',v',e2,hb',ow,_⟩:=F.2.2.2.2.2.2.2.2.2.2.2.2.2.2.2.2.2.1.2 la
    obtain ⟨o0,o1,o2,o3,o4,o5,o6⟩:=id ow
    rw [rpaT_eq]
    have g':=Lib.hid g
    have F':=Lib.hid F;clear F g
    have hN':=Lib.hid hN;clear hN;have hl':=Lib.hid hl;clear hl;have h1':=Lib.hid h1;clear h1;have hp':=Lib.hid hp;clear hp;have hK':=Lib.hid hK;clear hK
    have la':=Lib.hid la;clear la;have hb'':=Lib.hid hb';clear hb';have ow':=Lib.hid ow;clear ow
    go_simp
    have hK:=hK'.out;have hN:=hN'.out;have hl:=hl'.out;have h1:=h1'.out
    obtain ⟨p0,p1,p2,p3,p4,p5,p6,p7,p8,p9,p10,p11,p12,p13,p14,qa0,qa1,qa2,d0_1,d0_2,d1_2⟩:=F'.out
    have g:=g'.out
    have la:=la'.out;have hb':=hb''.out;have ow:=ow'.out
    refine hK _ _ ⟨by simpa using hl,(upd (upd X 42 (ptv t.2.2)) 10 (.pointer (some ⟨b',0,none⟩))),rfl,(by simpa using hN),GI.out _ _ (below_set3 _ _ _ hb') g,p0.k,p1.k,p2.k,p3.k,p4.k,p5.k,p6.k,p7.k,p8.k,p9.k,p10.k,p11.k,p12.k,p13.k,PV.made rfl,qa0.other (by decide) (by decide) (fun z=>by have dd:=d0_2 z la;rw [e2] at dd;exact dd) (fun _ _ n h=>own_set3 _ _ _ n h),qa1.other (by decide) (by decide) (fun z=>by have dd:=d1_2 z la;rw [e2] at dd;exact dd) (fun _ _ n h=>own_set3 _ _ _ n h),QA.put (by decide) la rfl hb' (own_put ow _),d0_1.k,(by have z:=d0_2.keep (i:=20) (by decide) (by decide);rw [e2] at z;exact z),(by have z:=d1_2.keep (i:=20) (by decide) (by decide);rw [e2] at z;exact z)⟩
set_option maxRecDepth 100000 in
set_option maxHeartbeats 4000000 in
theorem rpa_reg (G:World→Prop) (N:Nat) (b off m cap k:Nat) (t:P9) {y0 y1 y2 y3 y4 y5 y11 y12 y13 y14 y15 y16 y17 y18 y19 y20 y21 y22 y23 y24 y25 y26 y27 y43 y44 y45 y46 y47 y48 y49 y50 y51 y52 y53 y54 y55 y56 y57 y58 y59 y60 y61 y62 y63 y64 y65 y66 y67 y68 y69 y70 y71 y72 y73 y74 x8 x9 x10 x28 x29 x30 x31 x32 x33 x34 x35 x36 x37 x38 x39 x40 x41 x42:Value} {W:World} {Q:Exit→Act→World→Prop} (HK:Hid ((k:Int) < (m:Int)∧0≤(k:Int))) (GC:Hid (∀ W:World,G W→W.cell? ⟨b,off + k * 9,none⟩=some (.int .i64 t.1.1)∧W.cell? ⟨b,off + k * 9 + 1,none⟩=some (.int .i64 t.1.2.1)∧W.cell? ⟨b,off + k * 9 + 1 + 1,none⟩=some (.int .i64 t.1.2.2)∧W.cell? ⟨b,off + k * 9 + 3,none⟩=some (.int .i64 t.2.1.1)∧W.cell? ⟨b,off + k * 9 + 3 + 1,none⟩=some (.int .i64 t.2.1.2.1)∧W.cell? ⟨b,off + k * 9 + 3 + 1 + 1,none⟩=some (.int .i64 t.2.1.2.2)∧W.cell? ⟨b,off + k * 9 + 6,none⟩=some (.int .i64 t.2.2.1)∧W.cell? ⟨b,off + k * 9 + 6 + 1,none⟩=some (.int .i64 t.2.2.2.1)∧W.cell? ⟨b,off + k * 9 + 6 + 1 + 1,none⟩=some (.int .i64 t.2.2.2.2))) (GI:Hid (∀ W W':World,Below N W W'→G W→G W')) (hN:N≤W.heap.size) (g0:G W.drew)
    (hK:∀ (x28 x29 x30 x31 x32 x33 x34 x35 x36 x37 x38 x39 x40 x41 x42:Value) (b0 b1 b2:Nat) (W':World),N≤W'.heap.size→G W'→N≤b0→Own W' b0 (t.1)→N≤b1→Own W' b1 (t.2.1)→N≤b2→Own W' b2 (t.2.2)→Q .normal { tmps:=#[y0,y1,y2,y3,y4,y5,.slice (some ⟨b,off,none⟩) m cap,.int .i64 k,.pointer (some ⟨b0,0,none⟩),.pointer (some ⟨b1,0,none⟩),.pointer (some ⟨b2,0,none⟩),y11,y12,y13,y14,y15,y16,y17,y18,y19,y20,y21,y22,y23,y24,y25,y26,y27,x28,x29,x30,x31,x32,x33,x34,x35,x36,x37,x38,x39,x40,x41,x42,y43,y44,y45,y46,y47,y48,y49,y50,y51,y52,y53,y54,y55,y56,y57,y58,y59,y60,y61,y62,y63,y64,y65,y66,y67,y68,y69,y70,y71,y72,y73,y74],defers:=[] } W') :
    Code.wp Tryz.prog (.region 8 rpaOps true) Q { tmps:=#[y0,y1,y2,y3,y4,y5,.slice (some ⟨b,off,none⟩) m cap,.int .i64 k,x8,x9,x10,y11,y12,y13,y14,y15,y16,y17,y18,y19,y20,y21,y22,y23,y24,y25,y26,y27,x28,x29,x30,x31,x32,x33,x34,x35,x36,x37,x38,x39,x40,x41,x42,y43,y44,y45,y46,y47,y48,y49,y50,y51,y52,y53,y54,y55,y56,y57,y58,y59,y60,y61,y62,y63,y64,y65,y66,y67,y68,y69,y70,y71,y72,y73,y74],defers:=[] } W:=by
  refine wp_region_inv (rpaI G N b off m cap k t y0 y1 y2 y3 y4 y5 y11 y12 y13 y14 y15 y16 y17 y18 y19 y20 y21 y22 y23 y24 y25 y26 y27 y43 y44 y45 y46 y47 y48 y49 y50 y51 y52 y53 y54 y55 y56 y57 y58 y59 y60 y61 y62 y63 y64 y65 y66 y67 y68 y69 y70 y71 y72 y73 y74) (by kernel_rfl) ?_ (rpa_steps G N b off m cap k t y0 y1 y2 y3 y4 y5 y11 y12 y13 y14 y15 y16 y17 y18 y19 y20 y21 y22 y23 y24 y25 y26 y27 y43 y44 y45 y46 y47 y48 y49 y50 y51 y52 y53 y54 y55 y56 y57 y58 y59 y60 y61 y62 y63 y64 y65 y66 y67 y68 y69 y70 y71 y72 y73 y74 Q HK GC GI) ?_
  · exact ⟨by simp [rpaOps],fun i=>(#[undef,undef,undef,undef,undef,undef,undef,undef,x8,x9,x10,undef,undef,undef,undef,undef,undef,undef,undef,undef,undef,undef,undef,undef,undef,undef,undef,undef,x28,x29,x30,x31,x32,x33,x34,x35,x36,x37,x38,x39,x40,x41,x42,undef,undef,undef,undef,undef,undef,undef,undef,undef,undef,undef,undef,undef,undef,undef,undef,undef,undef,undef,undef,undef,undef,undef,undef,undef,undef,undef,undef,undef,undef,undef,undef]:Array Value).getD i undef,rfl,hN,g0,PV.nought,PV.nought,PV.nought,PV.nought,PV.nought,PV.nought,PV.nought,PV.nought,PV.nought,PV.nought,PV.nought,PV.nought,PV.nought,PV.nought,PV.nought,QA.nought,QA.nought,QA.nought,DD.nought,DD.nought,DD.nought⟩
  · rintro l A W ⟨hl,X,rfl,hN,g,p0,p1,p2,p3,p4,p5,p6,p7,p8,p9,p10,p11,p12,p13,p14,qa0,qa1,qa2,d0_1,d0_2,d1_2⟩ hr
    unfold rpaOps at hr
    have l0:=ready_end hr 0 (by rw [hl];decide) rfl (fun e he hbn=>by
      simp at he
      (try (repeat (rcases he with rfl | he;· first | assumption | exact absurd hbn (by decide))))
      (try (first | exact he.elim | (subst he;first | assumption | exact absurd hbn (by decide)))))
    have l1:=ready_end hr 1 (by rw [hl];decide) rfl (fun e he hbn=>by
      simp at he
      (try (repeat (rcases he with rfl | he;· first | assumption | exact absurd hbn (by decide))))
      (try (first | exact he.elim | (subst he;first | assumption | exact absurd hbn (by decide)))))
    have l2:=ready_end hr 2 (by rw [hl];decide) rfl (fun e he hbn=>by
      simp at he
      (try (repeat (rcases he with rfl | he;· first | assumption | exact absurd hbn (by decide))))
      (try (first | exact he.elim | (subst he;first | assumption | exact absurd hbn (by decide)))))
    have l3:=ready_end hr 3 (by rw [hl];decide) rfl (fun e he hbn=>by
      simp at he
      (try (repeat (rcases he with rfl | he;· first | assumption | exact absurd hbn (by decide))))
      (try (first | exact he.elim | (subst he;first | assumption | exact absurd hbn (by decide)))))
    have l4:=ready_end hr 4 (by rw [hl];decide) rfl (fun e he hbn=>by
      simp at he
      (try (repeat (rcases he with rfl | he;· first | assumption | exact absurd hbn (by decide))))
      (try (first | exact he.elim | (subst he;first | assumption | exact absurd hbn (by decide)))))
    have l5:=ready_end hr 5 (by rw [hl];decide) rfl (fun e he hbn=>by
      simp at he
      (try (repeat (rcases he with rfl | he;· first | assumption | exact absurd hbn (by decide))))
      (try (first | exact he.elim | (subst he;first | assumption | exact absurd hbn (by decide)))))
    have l6:=ready_end hr 6 (by rw [hl];decide) rfl (fun e he hbn=>by
      simp at he
      (try (repeat (rcases he with rfl | he;· first | assumption | exact absurd hbn (by decide))))
      (try (first | exact he.elim | (subst he;first | assumption | exact absurd hbn (by decide)))))
    have l7:=ready_end hr 7 (by rw [hl];decide) rfl (fun e he hbn=>by
      simp at he
      (try (repeat (rcases he with rfl | he;· first | assumption | exact absurd hbn (by decide))))
      (try (first | exact he.elim | (subst he;first | assumption | exact absurd hbn (by decide)))))
    have l8:=ready_end hr 8 (by rw [hl];decide) rfl (fun e he hbn=>by
      simp at he
      (try (repeat (rcases he with rfl | he;· first | assumption | exact absurd hbn (by decide))))
      (try (first | exact he.elim | (subst he;first | assumption | exact absurd hbn (by decide)))))
    have l9:=ready_end hr 9 (by rw [hl];decide) rfl (fun e he hbn=>by
      simp at he
      (try (repeat (rcases he with rfl | he;· first | assumption | exact absurd hbn (by decide))))
      (try (first | exact he.elim | (subst he;first | assumption | exact absurd hbn (by decide)))))
    have l10:=ready_end hr 10 (by rw [hl];decide) rfl (fun e he hbn=>by
      simp at he
      (try (repeat (rcases he with rfl | he;· first | assumption | exact absurd hbn (by decide))))
      (try (first | exact he.elim | (subst he;first | assumption | exact absurd hbn (by decide)))))
    have l11:=ready_end hr 11 (by rw [hl];decide) rfl (fun e he hbn=>by
      simp at he
      (try (repeat (rcases he with rfl | he;· first | assumption | exact absurd hbn (by decide))))
      (try (first | exact he.elim | (subst he;first | assumption | exact absurd hbn (by decide)))))
    have l12:=ready_end hr 12 (by rw [hl];decide) rfl (fun e he hbn=>by
      simp at he
      (try (repeat (rcases he with rfl | he;· first | assumption | exact absurd hbn (by decide))))
      (try (first | exact he.elim | (subst he;first | assumption | exact absurd hbn (by decide)))))
    have l13:=ready_end hr 13 (by rw [hl];decide) rfl (fun e he hbn=>by
      simp at he
      (try (repeat (rcases he with rfl | he;· first | assumption | exact absurd hbn (by decide))))
      (try (first | exact he.elim | (subst he;first | assumption | exact absurd hbn (by decide)))))
    have l14:=ready_end hr 14 (by rw [hl];decide) rfl (fun e he hbn=>by
      simp at he
      (try (repeat (rcases he with rfl | he;· first | assumption | exact absurd hbn (by decide))))
      (try (first | exact he.elim | (subst he;first | assumption | exact absurd hbn (by decide)))))
    have l15:=ready_end hr 15 (by rw [hl];decide) rfl (fun e he hbn=>by
      simp at he
      (try (repeat (rcases he with rfl | he;· first | assumption | exact absurd hbn (by decide))))
      (try (first | exact he.elim | (subst he;first | assumption | exact absurd hbn (by decide)))))
    have l16:=ready_end hr 16 (by rw [hl];decide) rfl (fun e he hbn=>by
      simp at he
      (try (repeat (rcases he with rfl | he;· first | assumption | exact absurd hbn (by decide))))
      (try (first | exact he.elim | (subst he;first | assumption | exact absurd hbn (by decide)))))
    have l17:=ready_end hr 17 (by rw [hl];decide) rfl (fun e he hbn=>by
      simp at he
      (try (repeat (rcases he with rfl | he;· first | assumption | exact absurd hbn (by decide))))
      (try (first | exact he.elim | (subst he;first | assumption | exact absurd hbn (by decide)))))
    have l18:=ready_end hr 18 (by rw [hl];decide) rfl (fun e he hbn=>by
      simp at he
      (try (repeat (rcases he with rfl | he;· first | assumption | exact absurd hbn (by decide))))
      (try (first | exact he.elim | (subst he;first | assumption | exact absurd hbn (by decide)))))
    have l19:=ready_end hr 19 (by rw [hl];decide) rfl (fun e he hbn=>by
      simp at he
      (try (repeat (rcases he with rfl | he;· first | assumption | exact absurd hbn (by decide))))
      (try (first | exact he.elim | (subst he;first | assumption | exact absurd hbn (by decide)))))
    have l20:=ready_end hr 20 (by rw [hl];decide) rfl (fun e he hbn=>by
      simp at he
      (try (repeat (rcases he with rfl | he;· first | assumption | exact absurd hbn (by decide))))
      (try (first | exact he.elim | (subst he;first | assumption | exact absurd hbn (by decide)))))
    obtain ⟨b0,v0,e0x,n0,o0,t0⟩:=qa0.2 l15
    obtain rfl:=t0 l18
    obtain ⟨b1,v1,e1x,n1,o1,t1⟩:=qa1.2 l16
    obtain rfl:=t1 l19
    obtain ⟨b2,v2,e2x,n2,o2,t2⟩:=qa2.2 l17
    obtain rfl:=t2 l20
    have z:=hK (X 28) (X 29) (X 30) (X 31) (X 32) (X 33) (X 34) (X 35) (X 36) (X 37) (X 38) (X 39) (X 40) (X 41) (X 42) b0 b1 b2 W hN g n0 o0 n1 o1 n2 o2
    rw [← e0x,← e1x,← e2x] at z
    exact z
def rpbOps : Array Oper := #[{ dst := some 43, op := Op.load 24 (Operand.tmp 8), type := 24, pos := "ref.go:125", after := #[], guard := none }, { dst := some 44, op := Op.load 24 (Operand.tmp 9), type := 24, pos := "ref.go:125", after := #[], guard := none }, { dst := some 45, op := Op.call { callee := Callee.value (Operand.func 124), args := #[Operand.tmp 43, Operand.tmp 44], argTypes := #[24, 24] }, type := 24, pos := "ref.go:125", after := #[{ on := 0, ground := Ground.data }, { on := 1, ground := Ground.data }], guard := none }, { dst := some 46, op := Op.load 24 (Operand.tmp 9), type := 24, pos := "ref.go:125", after := #[], guard := none }, { dst := some 47, op := Op.load 24 (Operand.tmp 10), type := 24, pos := "ref.go:125", after := #[], guard := none }, { dst := some 48, op := Op.call { callee := Callee.value (Operand.func 124), args := #[Operand.tmp 46, Operand.tmp 47], argTypes := #[24, 24] }, type := 24, pos := "ref.go:125", after := #[{ on := 3, ground := Ground.data }, { on := 4, ground := Ground.data }, { on := 2, ground := Ground.chain }], guard := none }, { dst := some 49, op := Op.load 24 (Operand.tmp 10), type := 24, pos := "ref.go:125", after := #[], guard := none }, { dst := some 50, op := Op.load 24 (Operand.tmp 8), type := 24, pos := "ref.go:125", after := #[], guard := none }, { dst := some 51, op := Op.call { callee := Callee.value (Operand.func 124), args := #[Operand.tmp 49, Operand.tmp 50], argTypes := #[24, 24] }, type := 24, pos := "ref.go:125", after := #[{ on := 6, ground := Ground.data }, { on := 7, ground := Ground.data }, { on := 5, ground := Ground.chain }], guard := none }, { dst := some 11, op := Op.alloc 24, type := 0, pos := "ref.go:125", after := #[], guard := none }, { dst := some 12, op := Op.alloc 24, type := 0, pos := "ref.go:125", after := #[], guard := none }, { dst := some 13, op := Op.alloc 24, type := 0, pos := "ref.go:125", after := #[], guard := none }, { dst := none, op := Op.store 24 (Operand.tmp 11) (Operand.tmp 45), type := 0, pos := "ref.go:125", after := #[{ on := 9, ground := Ground.data }, { on := 2, ground := Ground.data }, { on := 8, ground := Ground.chain }, { on := 0, ground := Ground.phase }, { on := 1, ground := Ground.phase }, { on := 2, ground := Ground.phase }, { on := 3, ground := Ground.textOnly Departure.lateStores }, { on := 4, ground := Ground.textOnly Departure.lateStores }, { on := 5, ground := Ground.textOnly Departure.lateStoresUnsure }, { on := 6, ground := Ground.textOnly Departure.lateStores }, { on := 7, ground := Ground.textOnly Departure.lateStores }, { on := 8, ground := Ground.textOnly Departure.lateStoresUnsure }, { on := 9, ground := Ground.phase }, { on := 10, ground := Ground.phase }, { on := 11, ground := Ground.phase }], guard := none }, { dst := none, op := Op.store 24 (Operand.tmp 12) (Operand.tmp 48), type := 0, pos := "ref.go:125", after := #[{ on := 10, ground := Ground.data }, { on := 5, ground := Ground.data }, { on := 12, ground := Ground.chain }, { on := 0, ground := Ground.phase }, { on := 1, ground := Ground.phase }, { on := 2, ground := Ground.phase }, { on := 3, ground := Ground.phase }, { on := 4, ground := Ground.phase }, { on := 5, ground := Ground.phase }, { on := 6, ground := Ground.textOnly Departure.lateStores }, { on := 7, ground := Ground.textOnly Departure.lateStores }, { on := 8, ground := Ground.textOnly Departure.lateStoresUnsure }, { on := 9, ground := Ground.phase }, { on := 10, ground := Ground.phase }, { on := 11, ground := Ground.phase }, { on := 12, ground := Ground.phase }], guard := none }, { dst := none, op := Op.store 24 (Operand.tmp 13) (Operand.tmp 51), type := 0, pos := "ref.go:125", after := #[{ on := 11, ground := Ground.data }, { on := 8, ground := Ground.data }, { on := 13, ground := Ground.chain }, { on := 0, ground := Ground.phase }, { on := 1, ground := Ground.phase }, { on := 2, ground := Ground.phase }, { on := 3, ground := Ground.phase }, { on := 4, ground := Ground.phase }, { on := 5, ground := Ground.phase }, { on := 6, ground := Ground.phase }, { on := 7, ground := Ground.phase }, { on := 8, ground := Ground.phase }, { on := 9, ground := Ground.phase }, { on := 10, ground := Ground.phase }, { on := 11, ground := Ground.phase }, { on := 12, ground := Ground.phase }, { on := 13, ground := Ground.phase }], guard := none }]
def rpbT (x:Nat) (y:Nat) (z:Nat) (y0 y1 y2 y3 y4 y5 y6 y7 y14 y15 y16 y17 y18 y19 y20 y21 y22 y23 y24 y25 y26 y27 y28 y29 y30 y31 y32 y33 y34 y35 y36 y37 y38 y39 y40 y41 y42 y52 y53 y54 y55 y56 y57 y58 y59 y60 y61 y62 y63 y64 y65 y66 y67 y68 y69 y70 y71 y72 y73 y74:Value) (X:Nat→Value):Array Value:=#[y0,y1,y2,y3,y4,y5,y6,y7,.pointer (some ⟨x,0,none⟩),.pointer (some ⟨y,0,none⟩),.pointer (some ⟨z,0,none⟩),X 11,X 12,X 13,y14,y15,y16,y17,y18,y19,y20,y21,y22,y23,y24,y25,y26,y27,y28,y29,y30,y31,y32,y33,y34,y35,y36,y37,y38,y39,y40,y41,y42,X 43,X 44,X 45,X 46,X 47,X 48,X 49,X 50,X 51,y52,y53,y54,y55,y56,y57,y58,y59,y60,y61,y62,y63,y64,y65,y66,y67,y68,y69,y70,y71,y72,y73,y74]
theorem rpbT_eq (x:Nat) (y:Nat) (z:Nat) (y0 y1 y2 y3 y4 y5 y6 y7 y14 y15 y16 y17 y18 y19 y20 y21 y22 y23 y24 y25 y26 y27 y28 y29 y30 y31 y32 y33 y34 y35 y36 y37 y38 y39 y40 y41 y42 y52 y53 y54 y55 y56 y57 y58 y59 y60 y61 y62 y63 y64 y65 y66 y67 y68 y69 y70 y71 y72 y73 y74:Value) (X:Nat→Value):rpbT x y z y0 y1 y2 y3 y4 y5 y6 y7 y14 y15 y16 y17 y18 y19 y20 y21 y22 y23 y24 y25 y26 y27 y28 y29 y30 y31 y32 y33 y34 y35 y36 y37 y38 y39 y40 y41 y42 y52 y53 y54 y55 y56 y57 y58 y59 y60 y61 y62 y63 y64 y65 y66 y67 y68 y69 y70 y71 y72 y73 y74 X=#[y0,y1,y2,y3,y4,y5,y6,y7,.pointer (some ⟨x,0,none⟩),.pointer (some ⟨y,0,none⟩),.pointer (some ⟨z,0,none⟩),X 11,X 12,X 13,y14,y15,y16,y17,y18,y19,y20,y21,y22,y23,y24,y25,y26,y27,y28,y29,y30,y31,y32,y33,y34,y35,y36,y37,y38,y39,y40,y41,y42,X 43,X 44,X 45,X 46,X 47,X 48,X 49,X 50,X 51,y52,y53,y54,y55,y56,y57,y58,y59,y60,y61,y62,y63,y64,y65,y66,y67,y68,y69,y70,y71,y72,y73,y74]:=rfl
def rpbI (G:World→Prop) (N:Nat) (x y z:Nat) (a b c:P3) (y0 y1 y2 y3 y4 y5 y6 y7 y14 y15 y16 y17 y18 y19 y20 y21 y22 y23 y24 y25 y26 y27 y28 y29 y30 y31 y32 y33 y34 y35 y36 y37 y38 y39 y40 y41 y42 y52 y53 y54 y55 y56 y57 y58 y59 y60 y61 y62 y63 y64 y65 y66 y67 y68 y69 y70 y71 y72 y73 y74:Value) (l:Array Bool) (A:Act) (W:World):Prop :=
  l.size=15∧∃ X:Nat→Value,A={ tmps:=rpbT x y z y0 y1 y2 y3 y4 y5 y6 y7 y14 y15 y16 y17 y18 y19 y20 y21 y22 y23 y24 y25 y26 y27 y28 y29 y30 y31 y32 y33 y34 y35 y36 y37 y38 y39 y40 y41 y42 y52 y53 y54 y55 y56 y57 y58 y59 y60 y61 y62 y63 y64 y65 y66 y67 y68 y69 y70 y71 y72 y73 y74 X,defers:=[] }∧N≤W.heap.size∧G W∧PV l 0 (X 43) (ptv a)∧PV l 1 (X 44) (ptv b)∧PV l 2 (X 45) (ptv (add a b))∧PV l 3 (X 46) (ptv b)∧PV l 4 (X 47) (ptv c)∧PV l 5 (X 48) (ptv (add b c))∧PV l 6 (X 49) (ptv c)∧PV l 7 (X 50) (ptv a)∧PV l 8 (X 51) (ptv (add c a))∧QA l W (X 11) 9 12 N ((add a b))∧QA l W (X 12) 10 13 N ((add b c))∧QA l W (X 13) 11 14 N ((add c a))∧DD l (X 11) (X 12) 9 10∧DD l (X 11) (X 13) 9 11∧DD l (X 12) (X 13) 10 11
set_option maxRecDepth 100000 in
set_option maxHeartbeats 4000000 in
theorem rpb_steps (G:World→Prop) (N:Nat) (x y z:Nat) (a b c:P3) (y0 y1 y2 y3 y4 y5 y6 y7 y14 y15 y16 y17 y18 y19 y20 y21 y22 y23 y24 y25 y26 y27 y28 y29 y30 y31 y32 y33 y34 y35 y36 y37 y38 y39 y40 y41 y42 y52 y53 y54 y55 y56 y57 y58 y59 y60 y61 y62 y63 y64 y65 y66 y67 y68 y69 y70 y71 y72 y73 y74:Value) (Q:Exit→Act→World→Prop) (AB:Hid (BdP 4611686018427387904 (add a b))) (BC:Hid (BdP 4611686018427387904 (add b c))) (CA:Hid (BdP 4611686018427387904 (add c a))) (GC:Hid (∀ W:World,G W→W.cell? ⟨x,0,none⟩=some (.int .i64 a.1)∧W.cell? ⟨x,1,none⟩=some (.int .i64 a.2.1)∧W.cell? ⟨x,2,none⟩=some (.int .i64 a.2.2)∧W.cell? ⟨y,0,none⟩=some (.int .i64 b.1)∧W.cell? ⟨y,1,none⟩=some (.int .i64 b.2.1)∧W.cell? ⟨y,2,none⟩=some (.int .i64 b.2.2)∧W.cell? ⟨z,0,none⟩=some (.int .i64 c.1)∧W.cell? ⟨z,1,none⟩=some (.int .i64 c.2.1)∧W.cell? ⟨z,2,none⟩=some (.int .i64 c.2.2))) (GI:Hid (∀ W W':World,Below N W W'→G W→G W')) :
    allOps (fun i o=>∀ (l:Array Bool) (A:Act) (W:World),rpbI G N x y z a b c y0 y1 y2 y3 y4 y5 y6 y7 y14 y15 y16 y17 y18 y19 y20 y21 y22 y23 y24 y25 y26 y27 y28 y29 y30 y31 y32 y33 y34 y35 y36 y37 y38 y39 y40 y41 y42 y52 y53 y54 y55 y56 y57 y58 y59 y60 y61 y62 y63 y64 y65 y66 y67 y68 y69 y70 y71 y72 y73 y74 l A W→l.getD i true=false→(∀ e ∈ o.after,Region.binds .any e=true→l.getD e.on false=true)→∀ K':Act→World→Prop,(∀ A' W',rpbI G N x y z a b c y0 y1 y2 y3 y4 y5 y6 y7 y14 y15 y16 y17 y18 y19 y20 y21 y22 y23 y24 y25 y26 y27 y28 y29 y30 y31 y32 y33 y34 y35 y36 y37 y38 y39 y40 y41 y42 y52 y53 y54 y55 y56 y57 y58 y59 y60 y61 y62 y63 y64 y65 y66 y67 y68 y69 y70 y71 y72 y73 y74 (l.setIfInBounds i true) A' W'→K' A' W')→if Region.wanted o (yielded rpbOps A.tmps)=true then Oper.wp Tryz.prog o A W K' Q else K' (A.put o.dst undef) W) 0 rpbOps.toList:=by
  simp only [rpbOps,allOps]
  refine ⟨?_,?_,?_,?_,?_,?_,?_,?_,?_,?_,?_,?_,?_,?_,?_,trivial⟩
  · rintro l A W ⟨hl,X,rfl,hN,g,F⟩ h1 hp K hK
    obtain ⟨c0,c1,c2,c3,c4,c5,c6,c7,c8⟩:=GC.out W g
    rw [rpbT_eq]
    have g':=Lib.hid g
    have F':=Lib.hid F;clear F g
    have hN':=Lib.hid hN;clear hN;have hl':=Lib.hid hl;clear hl;have h1':=Lib.hid h1;clear h1;have hp':=Lib.hid hp;clear hp;have hK':=Lib.hid hK;clear hK
    go_simp
    have hK:=hK'.out;have hN:=hN'.out;have hl:=hl'.out;have h1:=h1'.out
    obtain ⟨p0,p1,p2,p3,p4,p5,p6,p7,p8,qa0,qa1,qa2,d0_1,d0_2,d1_2⟩:=F'.out
    have g:=g'.out
    refine hK _ _ ⟨by simpa using hl,(upd X 43 (ptv a)),rfl,hN,g,PV.made rfl,p1.k,p2.k,p3.k,p4.k,p5.k,p6.k,p7.k,p8.k,qa0.keep (by decide) (by decide) (fun _ _ h=>h),qa1.keep (by decide) (by decide) (fun _ _ h=>h),qa2.keep (by decide) (by decide) (fun _ _ h=>h),d0_1.k,d0_2.k,d1_2.k⟩
  · rintro l A W ⟨hl,X,rfl,hN,g,F⟩ h1 hp K hK
    obtain ⟨c0,c1,c2,c3,c4,c5,c6,c7,c8⟩:=GC.out W g
    rw [rpbT_eq]
    have g':=Lib.hid g
    have F':=Lib.hid F;clear F g
    have hN':=Lib.hid hN;clear hN;have hl':=Lib.hid hl;clear hl;have h1':=Lib.hid h1;clear h1;have hp':=Lib.hid hp;clear hp;have hK':=Lib.hid hK;clear hK
    go_simp
    have hK:=hK'.out;have hN:=hN'.out;have hl:=hl'.out;have h1:=h1'.out
    obtain ⟨p0,p1,p2,p3,p4,p5,p6,p7,p8,qa0,qa1,qa2,d0_1,d0_2,d1_2⟩:=F'.out
    have g:=g'.out
    refine hK _ _ ⟨by simpa using hl,(upd X 44 (ptv b)),rfl,hN,g,p0.k,PV.made rfl,p2.k,p3.k,p4.k,p5.k,p6.k,p7.k,p8.k,qa0.keep (by decide) (by decide) (fun _ _ h=>h),qa1.keep (by decide) (by decide) (fun _ _ h=>h),qa2.keep (by decide) (by decide) (fun _ _ h=>h),d0_1.k,d0_2.k,d1_2.k⟩
  · rintro l A W ⟨hl,X,rfl,hN,g,F⟩ h1 hp K hK
    have e0:=F.1 (hp ⟨0,.data⟩ (by simp) rfl)
    have e1:=F.2.1 (hp ⟨1,.data⟩ (by simp) rfl)
    rw [rpbT_eq]
    have g':=Lib.hid g
    have F':=Lib.hid F;clear F g
    have hN':=Lib.hid hN;clear hN;have hl':=Lib.hid hl;clear hl;have h1':=Lib.hid h1;clear h1;have hp':=Lib.hid hp;clear hp;have hK':=Lib.hid hK;clear hK
    go_simp
    go_at_call 124
    refine (plus4_any a b _ AB.out).mono ?_
    rintro e W1 ⟨rfl,hb⟩
    (try dsimp only)
    have hK:=hK'.out;have hN:=hN'.out;have hl:=hl'.out;have h1:=h1'.out
    obtain ⟨p0,p1,p2,p3,p4,p5,p6,p7,p8,qa0,qa1,qa2,d0_1,d0_2,d1_2⟩:=F'.out
    have g:=g'.out
    refine hK _ _ ⟨by simpa using hl,(upd (upd (upd X 43 (ptv a)) 44 (ptv b)) 45 (ptv (add a b))),rfl,Nat.le_trans hN hb.size,GI.out _ _ (hb.mono hN) g,PV.made rfl,PV.made rfl,PV.made rfl,p3.k,p4.k,p5.k,p6.k,p7.k,p8.k,qa0.keep (by decide) (by decide) (fun _ _ h=>own_below h hb),qa1.keep (by decide) (by decide) (fun _ _ h=>own_below h hb),qa2.keep (by decide) (by decide) (fun _ _ h=>own_below h hb),d0_1.k,d0_2.k,d1_2.k⟩
  · rintro l A W ⟨hl,X,rfl,hN,g,F⟩ h1 hp K hK
    obtain ⟨c0,c1,c2,c3,c4,c5,c6,c7,c8⟩:=GC.out W g
    rw [rpbT_eq]
    have g':=Lib.hid g
    have F':=Lib.hid F;clear F g
    have hN':=Lib.hid hN;clear hN;have hl':=Lib.hid hl;clear hl;have h1':=Lib.hid h1;clear h1;have hp':=Lib.hid hp;clear hp;have hK':=Lib.hid hK;clear hK
    go_simp
    have hK:=hK'.out;have hN:=hN'.out;have hl:=hl'.out;have h1:=h1'.out
    obtain ⟨p0,p1,p2,p3,p4,p5,p6,p7,p8,qa0,qa1,qa2,d0_1,d0_2,d1_2⟩:=F'.out
    have g:=g'.out
    refine hK _ _ ⟨by simpa using hl,(upd X 46 (ptv b)),rfl,hN,g,p0.k,p1.k,p2.k,PV.made rfl,p4.k,p5.k,p6.k,p7.k,p8.k,qa0.keep (by decide) (by decide) (fun _ _ h=>h),qa1.keep (by decide) (by decide) (fun _ _ h=>h),qa2.keep (by decide) (by decide) (fun _ _ h=>h),d0_1.k,d0_2.k,d1_2.k⟩
  · rintro l A W ⟨hl,X,rfl,hN,g,F⟩ h1 hp K hK
    obtain ⟨c0,c1,c2,c3,c4,c5,c6,c7,c8⟩:=GC.out W g
    rw [rpbT_eq]
    have g':=Lib.hid g
    have F':=Lib.hid F;clear F g
    have hN':=Lib.hid hN;clear hN;have hl':=Lib.hid hl;clear hl;have h1':=Lib.hid h1;clear h1;have hp':=Lib.hid hp;clear hp;have hK':=Lib.hid hK;clear hK
    go_simp
    have hK:=hK'.out;have hN:=hN'.out;have hl:=hl'.out;have h1:=h1'.out
    obtain ⟨p0,p1,p2,p3,p4,p5,p6,p7,p8,qa0,qa1,qa2,d0_1,d0_2,d1_2⟩:=F'.out
    have g:=g'.out
    refine hK _ _ ⟨by simpa using hl,(upd X 47 (ptv c)),rfl,hN,g,p0.k,p1.k,p2.k,p3.k,PV.made rfl,p5.k,p6.k,p7.k,p8.k,qa0.keep (by decide) (by decide) (fun _ _ h=>h),qa1.keep (by decide) (by decide) (fun _ _ h=>h),qa2.keep (by decide) (by decide) (fun _ _ h=>h),d0_1.k,d0_2.k,d1_2.k⟩
  · rintro l A W ⟨hl,X,rfl,hN,g,F⟩ h1 hp K hK
    have e3:=F.2.2.2.1 (hp ⟨3,.data⟩ (by simp) rfl)
    have e4:=F.2.2.2.2.1 (hp ⟨4,.data⟩ (by simp) rfl)
    rw [rpbT_eq]
    have g':=Lib.hid g
    have F':=Lib.hid F;clear F g
    have hN':=Lib.hid hN;clear hN;have hl':=Lib.hid hl;clear hl;have h1':=Lib.hid h1;clear h1;have hp':=Lib.hid hp;clear hp;have hK':=Lib.hid hK;clear hK
    go_simp
    go_at_call 124
    refine (plus4_any b c _ BC.out).mono ?_
    rintro e W1 ⟨rfl,hb⟩
    (try dsimp only)
    have hK:=hK'.out;have hN:=hN'.out;have hl:=hl'.out;have h1:=h1'.out
    obtain ⟨p0,p1,p2,p3,p4,p5,p6,p7,p8,qa0,qa1,qa2,d0_1,d0_2,d1_2⟩:=F'.out
    have g:=g'.out
    refine hK _ _ ⟨by simpa using hl,(upd (upd (upd X 46 (ptv b)) 47 (ptv c)) 48 (ptv (add b c))),rfl,Nat.le_trans hN hb.size,GI.out _ _ (hb.mono hN) g,p0.k,p1.k,p2.k,PV.made rfl,PV.made rfl,PV.made rfl,p6.k,p7.k,p8.k,qa0.keep (by decide) (by decide) (fun _ _ h=>own_below h hb),qa1.keep (by decide) (by decide) (fun _ _ h=>own_below h hb),qa2.keep (by decide) (by decide) (fun _ _ h=>own_below h hb),d0_1.k,d0_2.k,d1_2.k⟩
  · rintro l A W ⟨hl,X,rfl,hN,g,F⟩ h1 hp K hK
    obtain ⟨c0,c1,c2,c3,c4,c5,c6,c7,c8⟩:=GC.out W g
    rw [rpbT_eq]
    have g':=Lib.hid g
    have F':=Lib.hid F;clear F g
    have hN':=Lib.hid hN;clear hN;have hl':=Lib.hid hl;clear hl;have h1':=Lib.hid h1;clear h1;have hp':=Lib.hid hp;clear hp;have hK':=Lib.hid hK;clear hK
    go_simp
    have hK:=hK'.out;have hN:=hN'.out;have hl:=hl'.out;have h1:=h1'.out
    obtain ⟨p0,p1,p2,p3,p4,p5,p6,p7,p8,qa0,qa1,qa2,d0_1,d0_2,d1_2⟩:=F'.out
    have g:=g'.out
    refine hK _ _ ⟨by simpa using hl,(upd X 49 (ptv c)),rfl,hN,g,p0.k,p1.k,p2.k,p3.k,p4.k,p5.k,PV.made rfl,p7.k,p8.k,qa0.keep (by decide) (by decide) (fun _ _ h=>h),qa1.keep (by decide) (by decide) (fun _ _ h=>h),qa2.keep (by decide) (by decide) (fun _ _ h=>h),d0_1.k,d0_2.k,d1_2.k⟩
  · rintro l A W ⟨hl,X,rfl,hN,g,F⟩ h1 hp K hK
    obtain ⟨c0,c1,c2,c3,c4,c5,c6,c7,c8⟩:=GC.out W g
    rw [rpbT_eq]
    have g':=Lib.hid g
    have F':=Lib.hid F;clear F g
    have hN':=Lib.hid hN;clear hN;have hl':=Lib.hid hl;clear hl;have h1':=Lib.hid h1;clear h1;have hp':=Lib.hid hp;clear hp;have hK':=Lib.hid hK;clear hK
    go_simp
    have hK:=hK'.out;have hN:=hN'.out;have hl:=hl'.out;have h1:=h1'.out
    obtain ⟨p0,p1,p2,p3,p4,p5,p6,p7,p8,qa0,qa1,qa2,d0_1,d0_2,d1_2⟩:=F'.out
    have g:=g'.out
    refine hK _ _ ⟨by simpa using hl,(upd X 50 (ptv a)),rfl,hN,g,p0.k,p1.k,p2.k,p3.k,p4.k,p5.k,p6.k,PV.made rfl,p8.k,qa0.keep (by decide) (by decide) (fun _ _ h=>h),qa1.keep (by decide) (by decide) (fun _ _ h=>h),qa2.keep (by decide) (by decide) (fun _ _ h=>h),d0_1.k,d0_2.k,d1_2.k⟩
  · rintro l A W ⟨hl,X,rfl,hN,g,F⟩ h1 hp K hK
    have e6:=F.2.2.2.2.2.2.1 (hp ⟨6,.data⟩ (by simp) rfl)
    have e7:=F.2.2.2.2.2.2.2.1 (hp ⟨7,.data⟩ (by simp) rfl)
    rw [rpbT_eq]
    have g':=Lib.hid g
    have F':=Lib.hid F;clear F g
    have hN':=Lib.hid hN;clear hN;have hl':=Lib.hid hl;clear hl;have h1':=Lib.hid h1;clear h1;have hp':=Lib.hid hp;clear hp;have hK':=Lib.hid hK;clear hK
    go_simp
    go_at_call 124
    refine (plus4_any c a _ CA.out).mono ?_
    rintro e W1 ⟨rfl,hb⟩
    (try dsimp only)
    have hK:=hK'.out;have hN:=hN'.out;have hl:=hl'.out;have h1:=h1'.out
    obtain ⟨p0,p1,p2,p3,p4,p5,p6,p7,p8,qa0,qa1,qa2,d0_1,d0_2,d1_2⟩:=F'.out
    have g:=g'.out
    refine hK _ _ ⟨by simpa using hl,(upd (upd (upd X 49 (ptv c)) 50 (ptv a)) 51 (ptv (add c a))),rfl,Nat.le_trans hN hb.size,GI.out _ _ (hb.mono hN) g,p0.k,p1.k,p2.k,p3.k,p4.k,p5.k,PV.made rfl,PV.made rfl,PV.made rfl,qa0.keep (by decide) (by decide) (fun _ _ h=>own_below h hb),qa1.keep (by decide) (by decide) (fun _ _ h=>own_below h hb),qa2.keep (by decide) (by decide) (fun _ _ h=>own_below h hb),d0_1.k,d0_2.k,d1_2.k⟩
  · rintro l A W ⟨hl,X,rfl,hN,g,F⟩ h1 hp K hK
    rw [rpbT_eq]
    have g':=Lib.hid g
    have F':=Lib.hid F;clear F g
    have hN':=Lib.hid hN;clear hN;have hl':=Lib.hid hl;clear hl;have h1':=Lib.hid h1;clear h1;have hp':=Lib.hid hp;clear hp;have hK':=Lib.hid hK;clear hK
    go_simp
    have hK:=hK'.out;have hN:=hN'.out;have hl:=hl'.out;have h1:=h1'.out
    obtain ⟨p0,p1,p2,p3,p4,p5,p6,p7,p8,qa0,qa1,qa2,d0_1,d0_2,d1_2⟩:=F'.out
    have g:=g'.out
    refine hK _ _ ⟨by simpa using hl,(upd X 11 (.pointer (some ⟨W.heap.size,0,none⟩))),rfl,(by simp;omega),GI.out _ _ (((Below.refl _ W).alloc (Nat.le_refl _) _).mono hN) g,p0.k,p1.k,p2.k,p3.k,p4.k,p5.k,p6.k,p7.k,p8.k,qa0.made (by decide) (by rw [hl];decide) h1 hN (own_new W (0,0,0) _),qa1.keep (by decide) (by decide) (fun _ _ h=>own_alloc h _),qa2.keep (by decide) (by decide) (fun _ _ h=>own_alloc h _),DD.mk1 qa1 (by decide),DD.mk1 qa2 (by decide),d1_2.k⟩
  · rintro l A W ⟨hl,X,rfl,hN,g,F⟩ h1 hp K hK
    rw [rpbT_eq]
    have g':=Lib.hid g
    have F':=Lib.hid F;clear F g
    have hN':=Lib.hid hN;clear hN;have hl':=Lib.hid hl;clear hl;have h1':=Lib.hid h1;clear h1;have hp':=Lib.hid hp;clear hp;have hK':=Lib.hid hK;clear hK
    go_simp
    have hK:=hK'.out;have hN:=hN'.out;have hl:=hl'.out;have h1:=h1'.out
    obtain ⟨p0,p1,p2,p3,p4,p5,p6,p7,p8,qa0,qa1,qa2,d0_1,d0_2,d1_2⟩:=F'.out
    have g:=g'.out
    refine hK _ _ ⟨by simpa using hl,(upd X 12 (.pointer (some ⟨W.heap.size,0,none⟩))),rfl,(by simp;omega),GI.out _ _ (((Below.refl _ W).alloc (Nat.le_refl _) _).mono hN) g,p0.k,p1.k,p2.k,p3.k,p4.k,p5.k,p6.k,p7.k,p8.k,qa0.keep (by decide) (by decide) (fun _ _ h=>own_alloc h _),qa1.made (by decide) (by rw [hl];decide) h1 hN (own_new W (0,0,0) _),qa2.keep (by decide) (by decide) (fun _ _ h=>own_alloc h _),DD.mk2 qa0 (by decide),d0_2.k,DD.mk1 qa2 (by decide)⟩
  · rintro l A W ⟨hl,X,rfl,hN,g,F⟩ h1 hp K hK
    rw [rpbT_eq]
    have g':=Lib.hid g
    have F':=Lib.hid F;clear F g
    have hN':=Lib.hid hN;clear hN;have hl':=Lib.hid hl;clear hl;have h1':=Lib.hid h1;clear h1;have hp':=Lib.hid hp;clear hp;have hK':=Lib.hid hK;clear hK
    go_simp
    have hK:=hK'.out;have hN:=hN'.out;have hl:=hl'.out;have h1:=h1'.out
    obtain ⟨p0,p1,p2,p3,p4,p5,p6,p7,p8,qa0,qa1,qa2,d0_1,d0_2,d1_2⟩:=F'.out
    have g:=g'.out
    refine hK _ _ ⟨by simpa using hl,(upd X 13 (.pointer (some ⟨W.heap.size,0,none⟩))),rfl,(by simp;omega),GI.out _ _ (((Below.refl _ W).alloc (Nat.le_refl _) _).mono hN) g,p0.k,p1.k,p2.k,p3.k,p4.k,p5.k,p6.k,p7.k,p8.k,qa0.keep (by decide) (by decide) (fun _ _ h=>own_alloc h _),qa1.keep (by decide) (by decide) (fun _ _ h=>own_alloc h _),qa2.made (by decide) (by rw [hl];decide) h1 hN (own_new W (0,0,0) _),d0_1.k,DD.mk2 qa0 (by decide),DD.mk2 qa1 (by decide)⟩
  · rintro l A W ⟨hl,X,rfl,hN,g,F⟩ h1 hp K hK
    have la:=hp ⟨9,.data⟩ (by simp) rfl
    have e2:=F.2.2.1 (hp ⟨2,.data⟩ (by simp) rfl)
    obtain ⟨b',v',e2,hb',ow,_⟩:=F.2.2.2.2.2.2.2.2.2.1.2 la
    obtain ⟨o0,o1,o2,o3,o4,o5,o6⟩:=id ow
    rw [rpbT_eq]
    have g':=Lib.hid g
    have F':=Lib.hid F;clear F g
    have hN':=Lib.hid hN;clear hN;have hl':=Lib.hid hl;clear hl;have h1':=Lib.hid h1;clear h1;have hp':=Lib.hid hp;clear hp;have hK':=Lib.hid hK;clear hK
    have la':=Lib.hid la;clear la;have hb'':=Lib.hid hb';clear hb';have ow':=Lib.hid ow;clear ow
    go_simp
    have hK:=hK'.out;have hN:=hN'.out;have hl:=hl'.out;have h1:=h1'.out
    obtain ⟨p0,p1,p2,p3,p4,p5,p6,p7,p8,qa0,qa1,qa2,d0_1,d0_2,d1_2⟩:=F'.out
    have g:=g'.out
    have la:=la'.out;have hb':=hb''.out;have ow:=ow'.out
    refine hK _ _ ⟨by simpa using hl,(upd (upd X 45 (ptv (add a b))) 11 (.pointer (some ⟨b',0,none⟩))),rfl,(by simpa using hN),GI.out _ _ (below_set3 _ _ _ hb') g,p0.k,p1.k,PV.made rfl,p3.k,p4.k,p5.k,p6.k,p7.k,p8.k,QA.put (by decide) la rfl hb' (own_put ow _),qa1.other (by decide) (by decide) (fun z=>by have dd:=d0_1 la z;rw [e2] at dd;exact dd.symm) (fun _ _ n h=>own_set3 _ _ _ n h),qa2.other (by decide) (by decide) (fun z=>by have dd:=d0_2 la z;rw [e2] at dd;exact dd.symm) (fun _ _ n h=>own_set3 _ _ _ n h),(by have z:=d0_1.keep (i:=12) (by decide) (by decide);rw [e2] at z;exact z),(by have z:=d0_2.keep (i:=12) (by decide) (by decide);rw [e2] at z;exact z),d1_2.k⟩
  · rintro l A W ⟨hl,X,rfl,hN,g,F⟩ h1 hp K hK
    have la:=hp ⟨10,.data⟩ (by simp) rfl
    have e5:=F.2.2.2.2.2.1 (hp ⟨5,.data⟩ (by simp) rfl)
    obtain ⟨b',v',e2,hb',ow,_⟩:=F.2.2.2.2.2.2.2.2.2.2.1.2 la
    obtain ⟨o0,o1,o2,o3,o4,o5,o6⟩:=id ow
    rw [rpbT_eq]
    have g':=Lib.hid g
    have F':=Lib.hid F;clear F g
    have hN':=Lib.hid hN;clear hN;have hl':=Lib.hid hl;clear hl;have h1':=Lib.hid h1;clear h1;have hp':=Lib.hid hp;clear hp;have hK':=Lib.hid hK;clear hK
    have la':=Lib.hid la;clear la;have hb'':=Lib.hid hb';clear hb';have ow':=Lib.hid ow;clear ow
    go_simp
    have hK:=hK'.out;have hN:=hN'.out;have hl:=hl'.out;have h1:=h1'.out
    obtain ⟨p0,p1,p2,p3,p4,p5,p6,p7,p8,qa0,qa1,qa2,d0_1,d0_2,d1_2⟩:=F'.out
    have g:=g'.out
    have la:=la'.out;have hb':=hb''.out;have ow:=ow'.out
    refine hK _ _ ⟨by simpa using hl,(upd (upd X 48 (ptv (add b c))) 12 (.pointer (some ⟨b',0,none⟩))),rfl,(by simpa using hN),GI.out _ _ (below_set3 _ _ _ hb') g,p0.k,p1.k,p2.k,p3.k,p4.k,PV.made rfl,p6.k,p7.k,p8.k,qa0.other (by decide) (by decide) (fun z=>by have dd:=d0_1 z la;rw [e2] at dd;exact dd) (fun _ _ n h=>own_set3 _ _ _ n h),QA.put (by decide) la rfl hb' (own_put ow _),qa2.other (by decide) (by decide) (fun z=>by have dd:=d1_2 la z;rw [e2] at dd;exact dd.symm) (fun _ _ n h=>own_set3 _ _ _ n h),(by have z:=d0_1.keep (i:=13) (by decide) (by decide);rw [e2] at z;exact z),d0_2.k,(by have z:=d1_2.keep (i:=13) (by decide) (by decide);rw [e2] at z;exact z)⟩
  · rintro l A W ⟨hl,X,rfl,hN,g,F⟩ h1 hp K hK
    have la:=hp ⟨11,.data⟩ (by simp) rfl
    have e8:=F.2.2.2.2.2.2.2.2.1 (hp ⟨8,.data⟩ (by simp) rfl)
    obtain ⟨b',v',e2,hb',ow,_⟩:=F.2.2.2.2.2.2.2.2.2.2.2.1.2 la
    obtain ⟨o0,o1,o2,o3,o4,o5,o6⟩:=id ow
    rw [rpbT_eq]
    have g':=Lib.hid g
    have F':=Lib.hid F;clear F g
    have hN':=Lib.hid hN;clear hN;have hl':=Lib.hid hl;clear hl;have h1':=Lib.hid h1;clear h1;have hp':=Lib.hid hp;clear hp;have hK':=Lib.hid hK;clear hK
    have la':=Lib.hid la;clear la;have hb'':=Lib.hid hb';clear hb';have ow':=Lib.hid ow;clear ow
    go_simp
    have hK:=hK'.out;have hN:=hN'.out;have hl:=hl'.out;have h1:=h1'.out
    obtain ⟨p0,p1,p2,p3,p4,p5,p6,p7,p8,qa0,qa1,qa2,d0_1,d0_2,d1_2⟩:=F'.out
    have g:=g'.out
    have la:=la'.out;have hb':=hb''.out;have ow:=ow'.out
    refine hK _ _ ⟨by simpa using hl,(upd (upd X 51 (ptv (add c a))) 13 (.pointer (some ⟨b',0,none⟩))),rfl,(by simpa using hN),GI.out _ _ (below_set3 _ _ _ hb') g,p0.k,p1.k,p2.k,p3.k,p4.k,p5.k,p6.k,p7.k,PV.made rfl,qa0.other (by decide) (by decide) (fun z=>by have dd:=d0_2 z la;rw [e2] at dd;exact dd) (fun _ _ n h=>own_set3 _ _ _ n h),qa1.other (by decide) (by decide) (fun z=>by have dd:=d1_2 z la;rw [e2] at dd;exact dd) (fun _ _ n h=>own_set3 _ _ _ n h),QA.put (by decide) la rfl hb' (own_put ow _),d0_1.k,(by have z:=d0_2.keep (i:=14) (by decide) (by decide);rw [e2] at z;exact z),(by have z:=d1_2.keep (i:=14) (by decide) (by decide);rw [e2] at z;exact z)⟩
set_option maxRecDepth 100000 in
set_option maxHeartbeats 4000000 in
theorem rpb_reg (G:World→Prop) (N:Nat) (x y z:Nat) (a b c:P3) {y0 y1 y2 y3 y4 y5 y6 y7 y14 y15 y16 y17 y18 y19 y20 y21 y22 y23 y24 y25 y26 y27 y28 y29 y30 y31 y32 y33 y34 y35 y36 y37 y38 y39 y40 y41 y42 y52 y53 y54 y55 y56 y57 y58 y59 y60 y61 y62 y63 y64 y65 y66 y67 y68 y69 y70 y71 y72 y73 y74 x11 x12 x13 x43 x44 x45 x46 x47 x48 x49 x50 x51:Value} {W:World} {Q:Exit→Act→World→Prop} (AB:Hid (BdP 4611686018427387904 (add a b))) (BC:Hid (BdP 4611686018427387904 (add b c))) (CA:Hid (BdP 4611686018427387904 (add c a))) (GC:Hid (∀ W:World,G W→W.cell? ⟨x,0,none⟩=some (.int .i64 a.1)∧W.cell? ⟨x,1,none⟩=some (.int .i64 a.2.1)∧W.cell? ⟨x,2,none⟩=some (.int .i64 a.2.2)∧W.cell? ⟨y,0,none⟩=some (.int .i64 b.1)∧W.cell? ⟨y,1,none⟩=some (.int .i64 b.2.1)∧W.cell? ⟨y,2,none⟩=some (.int .i64 b.2.2)∧W.cell? ⟨z,0,none⟩=some (.int .i64 c.1)∧W.cell? ⟨z,1,none⟩=some (.int .i64 c.2.1)∧W.cell? ⟨z,2,none⟩=some (.int .i64 c.2.2))) (GI:Hid (∀ W W':World,Below N W W'→G W→G W')) (hN:N≤W.heap.size) (g0:G W.drew)
    (hK:∀ (x43 x44 x45 x46 x47 x48 x49 x50 x51:Value) (b0 b1 b2:Nat) (W':World),N≤W'.heap.size→G W'→N≤b0→Own W' b0 ((add a b))→N≤b1→Own W' b1 ((add b c))→N≤b2→Own W' b2 ((add c a))→Q .normal { tmps:=#[y0,y1,y2,y3,y4,y5,y6,y7,.pointer (some ⟨x,0,none⟩),.pointer (some ⟨y,0,none⟩),.pointer (some ⟨z,0,none⟩),.pointer (some ⟨b0,0,none⟩),.pointer (some ⟨b1,0,none⟩),.pointer (some ⟨b2,0,none⟩),y14,y15,y16,y17,y18,y19,y20,y21,y22,y23,y24,y25,y26,y27,y28,y29,y30,y31,y32,y33,y34,y35,y36,y37,y38,y39,y40,y41,y42,x43,x44,x45,x46,x47,x48,x49,x50,x51,y52,y53,y54,y55,y56,y57,y58,y59,y60,y61,y62,y63,y64,y65,y66,y67,y68,y69,y70,y71,y72,y73,y74],defers:=[] } W') :
    Code.wp Tryz.prog (.region 9 rpbOps true) Q { tmps:=#[y0,y1,y2,y3,y4,y5,y6,y7,.pointer (some ⟨x,0,none⟩),.pointer (some ⟨y,0,none⟩),.pointer (some ⟨z,0,none⟩),x11,x12,x13,y14,y15,y16,y17,y18,y19,y20,y21,y22,y23,y24,y25,y26,y27,y28,y29,y30,y31,y32,y33,y34,y35,y36,y37,y38,y39,y40,y41,y42,x43,x44,x45,x46,x47,x48,x49,x50,x51,y52,y53,y54,y55,y56,y57,y58,y59,y60,y61,y62,y63,y64,y65,y66,y67,y68,y69,y70,y71,y72,y73,y74],defers:=[] } W:=by
  refine wp_region_inv (rpbI G N x y z a b c y0 y1 y2 y3 y4 y5 y6 y7 y14 y15 y16 y17 y18 y19 y20 y21 y22 y23 y24 y25 y26 y27 y28 y29 y30 y31 y32 y33 y34 y35 y36 y37 y38 y39 y40 y41 y42 y52 y53 y54 y55 y56 y57 y58 y59 y60 y61 y62 y63 y64 y65 y66 y67 y68 y69 y70 y71 y72 y73 y74) (by kernel_rfl) ?_ (rpb_steps G N x y z a b c y0 y1 y2 y3 y4 y5 y6 y7 y14 y15 y16 y17 y18 y19 y20 y21 y22 y23 y24 y25 y26 y27 y28 y29 y30 y31 y32 y33 y34 y35 y36 y37 y38 y39 y40 y41 y42 y52 y53 y54 y55 y56 y57 y58 y59 y60 y61 y62 y63 y64 y65 y66 y67 y68 y69 y70 y71 y72 y73 y74 Q AB BC CA GC GI) ?_
  · exact ⟨by simp [rpbOps],fun i=>(#[undef,undef,undef,undef,undef,undef,undef,undef,undef,undef,undef,x11,x12,x13,undef,undef,undef,undef,undef,undef,undef,undef,undef,undef,undef,undef,undef,undef,undef,undef,undef,undef,undef,undef,undef,undef,undef,undef,undef,undef,undef,undef,undef,x43,x44,x45,x46,x47,x48,x49,x50,x51,undef,undef,undef,undef,undef,undef,undef,undef,undef,undef,undef,undef,undef,undef,undef,undef,undef,undef,undef,undef,undef,undef,undef]:Array Value).getD i undef,rfl,hN,g0,PV.nought,PV.nought,PV.nought,PV.nought,PV.nought,PV.nought,PV.nought,PV.nought,PV.nought,QA.nought,QA.nought,QA.nought,DD.nought,DD.nought,DD.nought⟩
  · rintro l A W ⟨hl,X,rfl,hN,g,p0,p1,p2,p3,p4,p5,p6,p7,p8,qa0,qa1,qa2,d0_1,d0_2,d1_2⟩ hr
    unfold rpbOps at hr
    have l0:=ready_end hr 0 (by rw [hl];decide) rfl (fun e he hbn=>by
      simp at he
      (try (repeat (rcases he with rfl | he;· first | assumption | exact absurd hbn (by decide))))
      (try (first | exact he.elim | (subst he;first | assumption | exact absurd hbn (by decide)))))
    have l1:=ready_end hr 1 (by rw [hl];decide) rfl (fun e he hbn=>by
      simp at he
      (try (repeat (rcases he with rfl | he;· first | assumption | exact absurd hbn (by decide))))
      (try (first | exact he.elim | (subst he;first | assumption | exact absurd hbn (by decide)))))
    have l2:=ready_end hr 2 (by rw [hl];decide) rfl (fun e he hbn=>by
      simp at he
      (try (repeat (rcases he with rfl | he;· first | assumption | exact absurd hbn (by decide))))
      (try (first | exact he.elim | (subst he;first | assumption | exact absurd hbn (by decide)))))
    have l3:=ready_end hr 3 (by rw [hl];decide) rfl (fun e he hbn=>by
      simp at he
      (try (repeat (rcases he with rfl | he;· first | assumption | exact absurd hbn (by decide))))
      (try (first | exact he.elim | (subst he;first | assumption | exact absurd hbn (by decide)))))
    have l4:=ready_end hr 4 (by rw [hl];decide) rfl (fun e he hbn=>by
      simp at he
      (try (repeat (rcases he with rfl | he;· first | assumption | exact absurd hbn (by decide))))
      (try (first | exact he.elim | (subst he;first | assumption | exact absurd hbn (by decide)))))
    have l5:=ready_end hr 5 (by rw [hl];decide) rfl (fun e he hbn=>by
      simp at he
      (try (repeat (rcases he with rfl | he;· first | assumption | exact absurd hbn (by decide))))
      (try (first | exact he.elim | (subst he;first | assumption | exact absurd hbn (by decide)))))
    have l6:=ready_end hr 6 (by rw [hl];decide) rfl (fun e he hbn=>by
      simp at he
      (try (repeat (rcases he with rfl | he;· first | assumption | exact absurd hbn (by decide))))
      (try (first | exact he.elim | (subst he;first | assumption | exact absurd hbn (by decide)))))
    have l7:=ready_end hr 7 (by rw [hl];decide) rfl (fun e he hbn=>by
      simp at he
      (try (repeat (rcases he with rfl | he;· first | assumption | exact absurd hbn (by decide))))
      (try (first | exact he.elim | (subst he;first | assumption | exact absurd hbn (by decide)))))
    have l8:=ready_end hr 8 (by rw [hl];decide) rfl (fun e he hbn=>by
      simp at he
      (try (repeat (rcases he with rfl | he;· first | assumption | exact absurd hbn (by decide))))
      (try (first | exact he.elim | (subst he;first | assumption | exact absurd hbn (by decide)))))
    have l9:=ready_end hr 9 (by rw [hl];decide) rfl (fun e he hbn=>by
      simp at he
      (try (repeat (rcases he with rfl | he;· first | assumption | exact absurd hbn (by decide))))
      (try (first | exact he.elim | (subst he;first | assumption | exact absurd hbn (by decide)))))
    have l10:=ready_end hr 10 (by rw [hl];decide) rfl (fun e he hbn=>by
      simp at he
      (try (repeat (rcases he with rfl | he;· first | assumption | exact absurd hbn (by decide))))
      (try (first | exact he.elim | (subst he;first | assumption | exact absurd hbn (by decide)))))
    have l11:=ready_end hr 11 (by rw [hl];decide) rfl (fun e he hbn=>by
      simp at he
      (try (repeat (rcases he with rfl | he;· first | assumption | exact absurd hbn (by decide))))
      (try (first | exact he.elim | (subst he;first | assumption | exact absurd hbn (by decide)))))
    have l12:=ready_end hr 12 (by rw [hl];decide) rfl (fun e he hbn=>by
      simp at he
      (try (repeat (rcases he with rfl | he;· first | assumption | exact absurd hbn (by decide))))
      (try (first | exact he.elim | (subst he;first | assumption | exact absurd hbn (by decide)))))
    have l13:=ready_end hr 13 (by rw [hl];decide) rfl (fun e he hbn=>by
      simp at he
      (try (repeat (rcases he with rfl | he;· first | assumption | exact absurd hbn (by decide))))
      (try (first | exact he.elim | (subst he;first | assumption | exact absurd hbn (by decide)))))
    have l14:=ready_end hr 14 (by rw [hl];decide) rfl (fun e he hbn=>by
      simp at he
      (try (repeat (rcases he with rfl | he;· first | assumption | exact absurd hbn (by decide))))
      (try (first | exact he.elim | (subst he;first | assumption | exact absurd hbn (by decide)))))
    obtain ⟨b0,v0,e0x,n0,o0,t0⟩:=qa0.2 l9
    obtain rfl:=t0 l12
    obtain ⟨b1,v1,e1x,n1,o1,t1⟩:=qa1.2 l10
    obtain rfl:=t1 l13
    obtain ⟨b2,v2,e2x,n2,o2,t2⟩:=qa2.2 l11
    obtain rfl:=t2 l14
    have z:=hK (X 43) (X 44) (X 45) (X 46) (X 47) (X 48) (X 49) (X 50) (X 51) b0 b1 b2 W hN g n0 o0 n1 o1 n2 o2
    rw [← e0x,← e1x,← e2x] at z
    exact z
end Go.Proofs.YtciimaojoococaaGreat
