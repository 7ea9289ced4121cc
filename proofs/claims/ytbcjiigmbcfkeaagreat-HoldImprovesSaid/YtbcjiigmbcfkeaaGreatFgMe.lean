/-
  The document's half of two points whose sum is even.
  The document's Cut: the parts of a panel,level by level.
  The contract of the document's Cut.
  The document's place and asked.
  The walk of the document's mean: behind its callees' contracts.
  The contracts of the document's Mean and MeanCube,and the chapter's example.
-/
import Derived.Test.YtbcjiigmbcfkeaaGreatFgMd
import Derived.Test.YtbcjiigmbcfkeaaGreatSo32
import Derived.Test.YtbcjiigmbcfkeaaGreatSoMc
namespace Go.Proofs.YtbcjiigmbcfkeaaGreat
open Go.Lib (hid)
set_option maxRecDepth 100000
set_option maxHeartbeats 4000000
open Go.ChangeShapes Go.WideShapes Go.RowKit
open Sh
theorem half_num (x y:Int):(2*x+2*y).tdiv 2=x+y:=by
  rw [← Int.mul_add,Int.mul_tdiv_cancel_left _ (by decide)]
theorem rhalf_any (u v:P3) (w:World) (h:BdP 1000000 u) (k:BdP 1000000 v):Calls Tryz.prog 176 #[ptv (tim 2 u),ptv (tim 2 v)] w fun e w'=>e=.returned (ptv (add u v))/\Below w.heap.size w w':=by
  have e1:=half_num u.1 v.1
  have e2:=half_num u.2.1 v.2.1
  have e3:=half_num u.2.2 v.2.2
  simp only [BdP] at h k
  obtain ⟨h1,h2,h3,h4,h5,h6⟩:=h
  obtain ⟨k1,k2,k3,k4,k5,k6⟩:=k
  simp only [tim,add]
  go_enter Tryz.func176,Tryz.ntmps176
  go_wp2
  refine bodyPost_ret (v:=.agg #[.int .i64 (u.1+v.1),.int .i64 (u.2.1+v.2.1),.int .i64 (u.2.2+v.2.2)]) (by rw [results_cell rfl];go_simp) rfl ⟨rfl,?_⟩
  (repeat' (first|exact Below.refl _ _|refine Below.setCell ?_ (by simp<;>omega) _|refine balloc ?_ _|refine Below.drew ?_|refine bdrewN ?_ _))
def rcaOps : Array Oper := #[⟨some 28,.move (.tmp 5),74,"ref.go:24",#[],none⟩,⟨some 29,.move (.tmp 8),3,"ref.go:24",#[],none⟩,⟨some 30,.indexAddr 74 (.tmp 28) (.tmp 29),0,"ref.go:24",#[⟨0,.data⟩,⟨1,.data⟩],none⟩,⟨some 31,.fieldAddr 77 (.tmp 30) 0,0,"ref.go:24",#[⟨2,.data⟩],none⟩,⟨some 32,.load 44 (.tmp 31),44,"ref.go:24",#[⟨3,.data⟩],none⟩,⟨some 33,.call ⟨.value (.func 111),#[.tmp 32,.const (.int .i64 2)],#[44,3]⟩,44,"ref.go:24",#[⟨4,.data⟩],none⟩,⟨some 34,.move (.tmp 5),74,"ref.go:24",#[],none⟩,⟨some 35,.move (.tmp 8),3,"ref.go:24",#[],none⟩,⟨some 36,.indexAddr 74 (.tmp 34) (.tmp 35),0,"ref.go:24",#[⟨6,.data⟩,⟨7,.data⟩],none⟩,⟨some 37,.fieldAddr 77 (.tmp 36) 1,0,"ref.go:24",#[⟨8,.data⟩],none⟩,⟨some 38,.load 44 (.tmp 37),44,"ref.go:24",#[⟨9,.data⟩],none⟩,⟨some 39,.call ⟨.value (.func 111),#[.tmp 38,.const (.int .i64 2)],#[44,3]⟩,44,"ref.go:24",#[⟨10,.data⟩,⟨5,.chain⟩],none⟩,⟨some 40,.move (.tmp 5),74,"ref.go:24",#[],none⟩,⟨some 41,.move (.tmp 8),3,"ref.go:24",#[],none⟩,⟨some 42,.indexAddr 74 (.tmp 40) (.tmp 41),0,"ref.go:24",#[⟨12,.data⟩,⟨13,.data⟩],none⟩,⟨some 43,.fieldAddr 77 (.tmp 42) 2,0,"ref.go:24",#[⟨14,.data⟩],none⟩,⟨some 44,.load 44 (.tmp 43),44,"ref.go:24",#[⟨15,.data⟩],none⟩,⟨some 45,.call ⟨.value (.func 111),#[.tmp 44,.const (.int .i64 2)],#[44,3]⟩,44,"ref.go:24",#[⟨16,.data⟩,⟨11,.chain⟩],none⟩,⟨some 9,.alloc 44,0,"ref.go:24",#[],none⟩,⟨some 10,.alloc 44,0,"ref.go:24",#[],none⟩,⟨some 11,.alloc 44,0,"ref.go:24",#[],none⟩,⟨none,.store 44 (.tmp 9) (.tmp 33),0,"ref.go:24",#[⟨18,.data⟩,⟨5,.data⟩,⟨17,.chain⟩,⟨0,.phase⟩,⟨1,.phase⟩,⟨2,.phase⟩,⟨3,.phase⟩,⟨4,.phase⟩,⟨5,.phase⟩,⟨6,.textOnly .lateStores⟩,⟨7,.textOnly .lateStores⟩,⟨8,.textOnly .lateStores⟩,⟨9,.textOnly .lateStores⟩,⟨10,.textOnly .lateStores⟩,⟨11,.textOnly .lateStoresUnsure⟩,⟨12,.textOnly .lateStores⟩,⟨13,.textOnly .lateStores⟩,⟨14,.textOnly .lateStores⟩,⟨15,.textOnly .lateStores⟩,⟨16,.textOnly .lateStores⟩,⟨17,.textOnly .lateStoresUnsure⟩,⟨18,.phase⟩,⟨19,.phase⟩,⟨20,.phase⟩],none⟩,⟨none,.store 44 (.tmp 10) (.tmp 39),0,"ref.go:24",#[⟨19,.data⟩,⟨11,.data⟩,⟨21,.chain⟩,⟨0,.phase⟩,⟨1,.phase⟩,⟨2,.phase⟩,⟨3,.phase⟩,⟨4,.phase⟩,⟨5,.phase⟩,⟨6,.phase⟩,⟨7,.phase⟩,⟨8,.phase⟩,⟨9,.phase⟩,⟨10,.phase⟩,⟨11,.phase⟩,⟨12,.textOnly .lateStores⟩,⟨13,.textOnly .lateStores⟩,⟨14,.textOnly .lateStores⟩,⟨15,.textOnly .lateStores⟩,⟨16,.textOnly .lateStores⟩,⟨17,.textOnly .lateStoresUnsure⟩,⟨18,.phase⟩,⟨19,.phase⟩,⟨20,.phase⟩,⟨21,.phase⟩],none⟩,⟨none,.store 44 (.tmp 11) (.tmp 45),0,"ref.go:24",#[⟨20,.data⟩,⟨17,.data⟩,⟨22,.chain⟩,⟨0,.phase⟩,⟨1,.phase⟩,⟨2,.phase⟩,⟨3,.phase⟩,⟨4,.phase⟩,⟨5,.phase⟩,⟨6,.phase⟩,⟨7,.phase⟩,⟨8,.phase⟩,⟨9,.phase⟩,⟨10,.phase⟩,⟨11,.phase⟩,⟨12,.phase⟩,⟨13,.phase⟩,⟨14,.phase⟩,⟨15,.phase⟩,⟨16,.phase⟩,⟨17,.phase⟩,⟨18,.phase⟩,⟨19,.phase⟩,⟨20,.phase⟩,⟨21,.phase⟩,⟨22,.phase⟩],none⟩]
def rcaT (b:Nat) (off:Nat) (m:Nat) (cap:Nat) (k:Nat) (y0 y1 y2 y3 y4 y6 y7 y12 y13 y14 y15 y16 y17 y18 y19 y20 y21 y22 y23 y24 y25 y26 y27 y46 y47 y48 y49 y50 y51 y52 y53 y54 y55 y56 y57 y58 y59 y60 y61 y62 y63 y64 y65 y66 y67 y68 y69 y70 y71 y72 y73 y74 y75:Value) (X:Nat->Value):Array Value:=#[y0,y1,y2,y3,y4,.slice (some ⟨b,off,none⟩) m cap,y6,y7,.int .i64 k,X 9,X 10,X 11,y12,y13,y14,y15,y16,y17,y18,y19,y20,y21,y22,y23,y24,y25,y26,y27,X 28,X 29,X 30,X 31,X 32,X 33,X 34,X 35,X 36,X 37,X 38,X 39,X 40,X 41,X 42,X 43,X 44,X 45,y46,y47,y48,y49,y50,y51,y52,y53,y54,y55,y56,y57,y58,y59,y60,y61,y62,y63,y64,y65,y66,y67,y68,y69,y70,y71,y72,y73,y74,y75]
theorem rcaT_eq (b:Nat) (off:Nat) (m:Nat) (cap:Nat) (k:Nat) (y0 y1 y2 y3 y4 y6 y7 y12 y13 y14 y15 y16 y17 y18 y19 y20 y21 y22 y23 y24 y25 y26 y27 y46 y47 y48 y49 y50 y51 y52 y53 y54 y55 y56 y57 y58 y59 y60 y61 y62 y63 y64 y65 y66 y67 y68 y69 y70 y71 y72 y73 y74 y75:Value) (X:Nat->Value):rcaT b off m cap k y0 y1 y2 y3 y4 y6 y7 y12 y13 y14 y15 y16 y17 y18 y19 y20 y21 y22 y23 y24 y25 y26 y27 y46 y47 y48 y49 y50 y51 y52 y53 y54 y55 y56 y57 y58 y59 y60 y61 y62 y63 y64 y65 y66 y67 y68 y69 y70 y71 y72 y73 y74 y75 X=#[y0,y1,y2,y3,y4,.slice (some ⟨b,off,none⟩) m cap,y6,y7,.int .i64 k,X 9,X 10,X 11,y12,y13,y14,y15,y16,y17,y18,y19,y20,y21,y22,y23,y24,y25,y26,y27,X 28,X 29,X 30,X 31,X 32,X 33,X 34,X 35,X 36,X 37,X 38,X 39,X 40,X 41,X 42,X 43,X 44,X 45,y46,y47,y48,y49,y50,y51,y52,y53,y54,y55,y56,y57,y58,y59,y60,y61,y62,y63,y64,y65,y66,y67,y68,y69,y70,y71,y72,y73,y74,y75]:=rfl
def rcaI (G:World->Prop) (N:Nat) (b off m cap k:Nat) (t:P9) (y0 y1 y2 y3 y4 y6 y7 y12 y13 y14 y15 y16 y17 y18 y19 y20 y21 y22 y23 y24 y25 y26 y27 y46 y47 y48 y49 y50 y51 y52 y53 y54 y55 y56 y57 y58 y59 y60 y61 y62 y63 y64 y65 y66 y67 y68 y69 y70 y71 y72 y73 y74 y75:Value) (l:Array Bool) (A:Act) (W:World):Prop :=
  l.size=24/\∃ X:Nat->Value,A={ tmps:=rcaT b off m cap k y0 y1 y2 y3 y4 y6 y7 y12 y13 y14 y15 y16 y17 y18 y19 y20 y21 y22 y23 y24 y25 y26 y27 y46 y47 y48 y49 y50 y51 y52 y53 y54 y55 y56 y57 y58 y59 y60 y61 y62 y63 y64 y65 y66 y67 y68 y69 y70 y71 y72 y73 y74 y75 X,defers:=[] }/\N<=W.heap.size/\G W/\PV l 0 (X 28) (.slice (some ⟨b,off,none⟩) m cap)/\PV l 1 (X 29) (.int .i64 k)/\PV l 2 (X 30) (.pointer (some ⟨b,off+k*9,none⟩))/\PV l 3 (X 31) (.pointer (some ⟨b,off+k*9,none⟩))/\PV l 4 (X 32) (ptv t.1)/\PV l 5 (X 33) (ptv (tim 2 t.1))/\PV l 6 (X 34) (.slice (some ⟨b,off,none⟩) m cap)/\PV l 7 (X 35) (.int .i64 k)/\PV l 8 (X 36) (.pointer (some ⟨b,off+k*9,none⟩))/\PV l 9 (X 37) (.pointer (some ⟨b,off+k*9+3,none⟩))/\PV l 10 (X 38) (ptv t.2.1)/\PV l 11 (X 39) (ptv (tim 2 t.2.1))/\PV l 12 (X 40) (.slice (some ⟨b,off,none⟩) m cap)/\PV l 13 (X 41) (.int .i64 k)/\PV l 14 (X 42) (.pointer (some ⟨b,off+k*9,none⟩))/\PV l 15 (X 43) (.pointer (some ⟨b,off+k*9+6,none⟩))/\PV l 16 (X 44) (ptv t.2.2)/\PV l 17 (X 45) (ptv (tim 2 t.2.2))/\QA l W (X 9) 18 21 N ((tim 2 t.1))/\QA l W (X 10) 19 22 N ((tim 2 t.2.1))/\QA l W (X 11) 20 23 N ((tim 2 t.2.2))/\DD l (X 9) (X 10) 18 19/\DD l (X 9) (X 11) 18 20/\DD l (X 10) (X 11) 19 20
theorem rca_steps (G:World->Prop) (N:Nat) (b off m cap k:Nat) (t:P9) (y0 y1 y2 y3 y4 y6 y7 y12 y13 y14 y15 y16 y17 y18 y19 y20 y21 y22 y23 y24 y25 y26 y27 y46 y47 y48 y49 y50 y51 y52 y53 y54 y55 y56 y57 y58 y59 y60 y61 y62 y63 y64 y65 y66 y67 y68 y69 y70 y71 y72 y73 y74 y75:Value) (Q:Exit->Act->World->Prop) (T0:Hid (BdP 4611686018427387904 (tim 2 t.1))) (T1:Hid (BdP 4611686018427387904 (tim 2 t.2.1))) (T2:Hid (BdP 4611686018427387904 (tim 2 t.2.2))) (HK:Hid ((k:Int)<(m:Int)/\0<=(k:Int))) (GC:Hid (∀ W:World,G W->W.cell? ⟨b,off+k*9,none⟩=some (.int .i64 t.1.1)/\W.cell? ⟨b,off+k*9+1,none⟩=some (.int .i64 t.1.2.1)/\W.cell? ⟨b,off+k*9+1+1,none⟩=some (.int .i64 t.1.2.2)/\W.cell? ⟨b,off+k*9+3,none⟩=some (.int .i64 t.2.1.1)/\W.cell? ⟨b,off+k*9+3+1,none⟩=some (.int .i64 t.2.1.2.1)/\W.cell? ⟨b,off+k*9+3+1+1,none⟩=some (.int .i64 t.2.1.2.2)/\W.cell? ⟨b,off+k*9+6,none⟩=some (.int .i64 t.2.2.1)/\W.cell? ⟨b,off+k*9+6+1,none⟩=some (.int .i64 t.2.2.2.1)/\W.cell? ⟨b,off+k*9+6+1+1,none⟩=some (.int .i64 t.2.2.2.2))) (GI:Hid (∀ W W':World,Below N W W'->G W->G W')) :
    allOps (fun i o=>∀ (l:Array Bool) (A:Act) (W:World),rcaI G N b off m cap k t y0 y1 y2 y3 y4 y6 y7 y12 y13 y14 y15 y16 y17 y18 y19 y20 y21 y22 y23 y24 y25 y26 y27 y46 y47 y48 y49 y50 y51 y52 y53 y54 y55 y56 y57 y58 y59 y60 y61 y62 y63 y64 y65 y66 y67 y68 y69 y70 y71 y72 y73 y74 y75 l A W->l.getD i true=false->(∀ e ∈ o.after,Region.binds .any e=true->l.getD e.on false=true)->∀ K':Act->World->Prop,(∀ A' W',rcaI G N b off m cap k t y0 y1 y2 y3 y4 y6 y7 y12 y13 y14 y15 y16 y17 y18 y19 y20 y21 y22 y23 y24 y25 y26 y27 y46 y47 y48 y49 y50 y51 y52 y53 y54 y55 y56 y57 y58 y59 y60 y61 y62 y63 y64 y65 y66 y67 y68 y69 y70 y71 y72 y73 y74 y75 (l.setIfInBounds i true) A' W'->K' A' W')->if Region.wanted o (yielded rcaOps A.tmps)=true then Oper.wp Tryz.prog o A W K' Q else K' (A.put o.dst undef) W) 0 rcaOps.toList:=by
  simp only [rcaOps,allOps]
  refine ⟨?_,?_,?_,?_,?_,?_,?_,?_,?_,?_,?_,?_,?_,?_,?_,?_,?_,?_,?_,?_,?_,?_,?_,?_,trivial⟩
  · rintro l A W ⟨hl,X,rfl,hN,g,F⟩ h1 hp K hK
    rw [rcaT_eq]
    have g':=hid g
    have F':=hid F;clear F g
    obtain ⟨hN',hl',h1',hp',hK'⟩:=hid5 hN hl h1 hp hK;clear hN hl h1 hp hK
    go_simp
    obtain ⟨hK,hN,hl,h1⟩:=out4 hK' hN' hl' h1'
    obtain ⟨p0,p1,p2,p3,p4,p5,p6,p7,p8,p9,p10,p11,p12,p13,p14,p15,p16,p17,qa0,qa1,qa2,d0_1,d0_2,d1_2⟩:=F'.out
    have g:=g'.out
    refine hK _ _ ⟨by simpa using hl,(upd X 28 (.slice (some ⟨b,off,none⟩) m cap)),rfl,hN,g,PV.made rfl,p1.k,p2.k,p3.k,p4.k,p5.k,p6.k,p7.k,p8.k,p9.k,p10.k,p11.k,p12.k,p13.k,p14.k,p15.k,p16.k,p17.k,qa0.keep (by decide) (by decide) (fun _ _ h=>h),qa1.keep (by decide) (by decide) (fun _ _ h=>h),qa2.keep (by decide) (by decide) (fun _ _ h=>h),d0_1.k,d0_2.k,d1_2.k⟩
  · rintro l A W ⟨hl,X,rfl,hN,g,F⟩ h1 hp K hK
    rw [rcaT_eq]
    have g':=hid g
    have F':=hid F;clear F g
    obtain ⟨hN',hl',h1',hp',hK'⟩:=hid5 hN hl h1 hp hK;clear hN hl h1 hp hK
    go_simp
    obtain ⟨hK,hN,hl,h1⟩:=out4 hK' hN' hl' h1'
    obtain ⟨p0,p1,p2,p3,p4,p5,p6,p7,p8,p9,p10,p11,p12,p13,p14,p15,p16,p17,qa0,qa1,qa2,d0_1,d0_2,d1_2⟩:=F'.out
    have g:=g'.out
    refine hK _ _ ⟨by simpa using hl,(upd X 29 (.int .i64 k)),rfl,hN,g,p0.k,PV.made rfl,p2.k,p3.k,p4.k,p5.k,p6.k,p7.k,p8.k,p9.k,p10.k,p11.k,p12.k,p13.k,p14.k,p15.k,p16.k,p17.k,qa0.keep (by decide) (by decide) (fun _ _ h=>h),qa1.keep (by decide) (by decide) (fun _ _ h=>h),qa2.keep (by decide) (by decide) (fun _ _ h=>h),d0_1.k,d0_2.k,d1_2.k⟩
  · rintro l A W ⟨hl,X,rfl,hN,g,F⟩ h1 hp K hK
    have e0:=F.1 (hp ⟨0,.data⟩ (by simp) rfl)
    have e1:=F.2.1 (hp ⟨1,.data⟩ (by simp) rfl)
    obtain ⟨hk1,hk2⟩:=HK.out
    rw [rcaT_eq]
    have g':=hid g
    have F':=hid F;clear F g
    obtain ⟨hN',hl',h1',hp',hK'⟩:=hid5 hN hl h1 hp hK;clear hN hl h1 hp hK
    go_simp
    obtain ⟨hK,hN,hl,h1⟩:=out4 hK' hN' hl' h1'
    obtain ⟨p0,p1,p2,p3,p4,p5,p6,p7,p8,p9,p10,p11,p12,p13,p14,p15,p16,p17,qa0,qa1,qa2,d0_1,d0_2,d1_2⟩:=F'.out
    have g:=g'.out
    refine hK _ _ ⟨by simpa using hl,(upd (upd (upd X 28 (.slice (some ⟨b,off,none⟩) m cap)) 29 (.int .i64 k)) 30 (.pointer (some ⟨b,off+k*9,none⟩))),rfl,hN,g,PV.made rfl,PV.made rfl,PV.made rfl,p3.k,p4.k,p5.k,p6.k,p7.k,p8.k,p9.k,p10.k,p11.k,p12.k,p13.k,p14.k,p15.k,p16.k,p17.k,qa0.keep (by decide) (by decide) (fun _ _ h=>h),qa1.keep (by decide) (by decide) (fun _ _ h=>h),qa2.keep (by decide) (by decide) (fun _ _ h=>h),d0_1.k,d0_2.k,d1_2.k⟩
  · rintro l A W ⟨hl,X,rfl,hN,g,F⟩ h1 hp K hK
    have e2:=F.2.2.1 (hp ⟨2,.data⟩ (by simp) rfl)
    rw [rcaT_eq]
    have g':=hid g
    have F':=hid F;clear F g
    obtain ⟨hN',hl',h1',hp',hK'⟩:=hid5 hN hl h1 hp hK;clear hN hl h1 hp hK
    go_simp
    obtain ⟨hK,hN,hl,h1⟩:=out4 hK' hN' hl' h1'
    obtain ⟨p0,p1,p2,p3,p4,p5,p6,p7,p8,p9,p10,p11,p12,p13,p14,p15,p16,p17,qa0,qa1,qa2,d0_1,d0_2,d1_2⟩:=F'.out
    have g:=g'.out
    refine hK _ _ ⟨by simpa using hl,(upd (upd X 30 (.pointer (some ⟨b,off+k*9,none⟩))) 31 (.pointer (some ⟨b,off+k*9,none⟩))),rfl,hN,g,p0.k,p1.k,PV.made rfl,PV.made rfl,p4.k,p5.k,p6.k,p7.k,p8.k,p9.k,p10.k,p11.k,p12.k,p13.k,p14.k,p15.k,p16.k,p17.k,qa0.keep (by decide) (by decide) (fun _ _ h=>h),qa1.keep (by decide) (by decide) (fun _ _ h=>h),qa2.keep (by decide) (by decide) (fun _ _ h=>h),d0_1.k,d0_2.k,d1_2.k⟩
  · rintro l A W ⟨hl,X,rfl,hN,g,F⟩ h1 hp K hK
    have e3:=F.2.2.2.1 (hp ⟨3,.data⟩ (by simp) rfl)
    obtain ⟨c0,c1,c2,c3,c4,c5,c6,c7,c8⟩:=GC.out W g
    rw [rcaT_eq]
    have g':=hid g
    have F':=hid F;clear F g
    obtain ⟨hN',hl',h1',hp',hK'⟩:=hid5 hN hl h1 hp hK;clear hN hl h1 hp hK
    go_simp
    obtain ⟨hK,hN,hl,h1⟩:=out4 hK' hN' hl' h1'
    obtain ⟨p0,p1,p2,p3,p4,p5,p6,p7,p8,p9,p10,p11,p12,p13,p14,p15,p16,p17,qa0,qa1,qa2,d0_1,d0_2,d1_2⟩:=F'.out
    have g:=g'.out
    refine hK _ _ ⟨by simpa using hl,(upd (upd X 31 (.pointer (some ⟨b,off+k*9,none⟩))) 32 (ptv t.1)),rfl,hN,g,p0.k,p1.k,p2.k,PV.made rfl,PV.made rfl,p5.k,p6.k,p7.k,p8.k,p9.k,p10.k,p11.k,p12.k,p13.k,p14.k,p15.k,p16.k,p17.k,qa0.keep (by decide) (by decide) (fun _ _ h=>h),qa1.keep (by decide) (by decide) (fun _ _ h=>h),qa2.keep (by decide) (by decide) (fun _ _ h=>h),d0_1.k,d0_2.k,d1_2.k⟩
  · rintro l A W ⟨hl,X,rfl,hN,g,F⟩ h1 hp K hK
    have e4:=F.2.2.2.2.1 (hp ⟨4,.data⟩ (by simp) rfl)
    rw [rcaT_eq]
    have g':=hid g
    have F':=hid F;clear F g
    obtain ⟨hN',hl',h1',hp',hK'⟩:=hid5 hN hl h1 hp hK;clear hN hl h1 hp hK
    go_simp
    go_at_call 111
    refine (rtimes_any 2 t.1 _ T0.out).mono ?_
    rintro e W1 ⟨rfl,hb⟩
    (try dsimp only)
    obtain ⟨hK,hN,hl,h1⟩:=out4 hK' hN' hl' h1'
    obtain ⟨p0,p1,p2,p3,p4,p5,p6,p7,p8,p9,p10,p11,p12,p13,p14,p15,p16,p17,qa0,qa1,qa2,d0_1,d0_2,d1_2⟩:=F'.out
    have g:=g'.out
    refine hK _ _ ⟨by simpa using hl,(upd (upd X 32 (ptv t.1)) 33 (ptv (tim 2 t.1))),rfl,Nat.le_trans hN hb.size,GI.out _ _ (hb.mono hN) g,p0.k,p1.k,p2.k,p3.k,PV.made rfl,PV.made rfl,p6.k,p7.k,p8.k,p9.k,p10.k,p11.k,p12.k,p13.k,p14.k,p15.k,p16.k,p17.k,qa0.keep (by decide) (by decide) (fun _ _ h=>own_below h hb),qa1.keep (by decide) (by decide) (fun _ _ h=>own_below h hb),qa2.keep (by decide) (by decide) (fun _ _ h=>own_below h hb),d0_1.k,d0_2.k,d1_2.k⟩
  · rintro l A W ⟨hl,X,rfl,hN,g,F⟩ h1 hp K hK
    rw [rcaT_eq]
    have g':=hid g
    have F':=hid F;clear F g
    obtain ⟨hN',hl',h1',hp',hK'⟩:=hid5 hN hl h1 hp hK;clear hN hl h1 hp hK
    go_simp
    obtain ⟨hK,hN,hl,h1⟩:=out4 hK' hN' hl' h1'
    obtain ⟨p0,p1,p2,p3,p4,p5,p6,p7,p8,p9,p10,p11,p12,p13,p14,p15,p16,p17,qa0,qa1,qa2,d0_1,d0_2,d1_2⟩:=F'.out
    have g:=g'.out
    refine hK _ _ ⟨by simpa using hl,(upd X 34 (.slice (some ⟨b,off,none⟩) m cap)),rfl,hN,g,p0.k,p1.k,p2.k,p3.k,p4.k,p5.k,PV.made rfl,p7.k,p8.k,p9.k,p10.k,p11.k,p12.k,p13.k,p14.k,p15.k,p16.k,p17.k,qa0.keep (by decide) (by decide) (fun _ _ h=>h),qa1.keep (by decide) (by decide) (fun _ _ h=>h),qa2.keep (by decide) (by decide) (fun _ _ h=>h),d0_1.k,d0_2.k,d1_2.k⟩
  · rintro l A W ⟨hl,X,rfl,hN,g,F⟩ h1 hp K hK
    rw [rcaT_eq]
    have g':=hid g
    have F':=hid F;clear F g
    obtain ⟨hN',hl',h1',hp',hK'⟩:=hid5 hN hl h1 hp hK;clear hN hl h1 hp hK
    go_simp
    obtain ⟨hK,hN,hl,h1⟩:=out4 hK' hN' hl' h1'
    obtain ⟨p0,p1,p2,p3,p4,p5,p6,p7,p8,p9,p10,p11,p12,p13,p14,p15,p16,p17,qa0,qa1,qa2,d0_1,d0_2,d1_2⟩:=F'.out
    have g:=g'.out
    refine hK _ _ ⟨by simpa using hl,(upd X 35 (.int .i64 k)),rfl,hN,g,p0.k,p1.k,p2.k,p3.k,p4.k,p5.k,p6.k,PV.made rfl,p8.k,p9.k,p10.k,p11.k,p12.k,p13.k,p14.k,p15.k,p16.k,p17.k,qa0.keep (by decide) (by decide) (fun _ _ h=>h),qa1.keep (by decide) (by decide) (fun _ _ h=>h),qa2.keep (by decide) (by decide) (fun _ _ h=>h),d0_1.k,d0_2.k,d1_2.k⟩
  · rintro l A W ⟨hl,X,rfl,hN,g,F⟩ h1 hp K hK
    have e6:=F.2.2.2.2.2.2.1 (hp ⟨6,.data⟩ (by simp) rfl)
    have e7:=F.2.2.2.2.2.2.2.1 (hp ⟨7,.data⟩ (by simp) rfl)
    obtain ⟨hk1,hk2⟩:=HK.out
    rw [rcaT_eq]
    have g':=hid g
    have F':=hid F;clear F g
    obtain ⟨hN',hl',h1',hp',hK'⟩:=hid5 hN hl h1 hp hK;clear hN hl h1 hp hK
    go_simp
    obtain ⟨hK,hN,hl,h1⟩:=out4 hK' hN' hl' h1'
    obtain ⟨p0,p1,p2,p3,p4,p5,p6,p7,p8,p9,p10,p11,p12,p13,p14,p15,p16,p17,qa0,qa1,qa2,d0_1,d0_2,d1_2⟩:=F'.out
    have g:=g'.out
    refine hK _ _ ⟨by simpa using hl,(upd (upd (upd X 34 (.slice (some ⟨b,off,none⟩) m cap)) 35 (.int .i64 k)) 36 (.pointer (some ⟨b,off+k*9,none⟩))),rfl,hN,g,p0.k,p1.k,p2.k,p3.k,p4.k,p5.k,PV.made rfl,PV.made rfl,PV.made rfl,p9.k,p10.k,p11.k,p12.k,p13.k,p14.k,p15.k,p16.k,p17.k,qa0.keep (by decide) (by decide) (fun _ _ h=>h),qa1.keep (by decide) (by decide) (fun _ _ h=>h),qa2.keep (by decide) (by decide) (fun _ _ h=>h),d0_1.k,d0_2.k,d1_2.k⟩
  · rintro l A W ⟨hl,X,rfl,hN,g,F⟩ h1 hp K hK
    have e8:=F.2.2.2.2.2.2.2.2.1 (hp ⟨8,.data⟩ (by simp) rfl)
    rw [rcaT_eq]
    have g':=hid g
    have F':=hid F;clear F g
    obtain ⟨hN',hl',h1',hp',hK'⟩:=hid5 hN hl h1 hp hK;clear hN hl h1 hp hK
    go_simp
    obtain ⟨hK,hN,hl,h1⟩:=out4 hK' hN' hl' h1'
    obtain ⟨p0,p1,p2,p3,p4,p5,p6,p7,p8,p9,p10,p11,p12,p13,p14,p15,p16,p17,qa0,qa1,qa2,d0_1,d0_2,d1_2⟩:=F'.out
    have g:=g'.out
    refine hK _ _ ⟨by simpa using hl,(upd (upd X 36 (.pointer (some ⟨b,off+k*9,none⟩))) 37 (.pointer (some ⟨b,off+k*9+3,none⟩))),rfl,hN,g,p0.k,p1.k,p2.k,p3.k,p4.k,p5.k,p6.k,p7.k,PV.made rfl,PV.made rfl,p10.k,p11.k,p12.k,p13.k,p14.k,p15.k,p16.k,p17.k,qa0.keep (by decide) (by decide) (fun _ _ h=>h),qa1.keep (by decide) (by decide) (fun _ _ h=>h),qa2.keep (by decide) (by decide) (fun _ _ h=>h),d0_1.k,d0_2.k,d1_2.k⟩
  · rintro l A W ⟨hl,X,rfl,hN,g,F⟩ h1 hp K hK
    have e9:=F.2.2.2.2.2.2.2.2.2.1 (hp ⟨9,.data⟩ (by simp) rfl)
    obtain ⟨c0,c1,c2,c3,c4,c5,c6,c7,c8⟩:=GC.out W g
    rw [rcaT_eq]
    have g':=hid g
    have F':=hid F;clear F g
    obtain ⟨hN',hl',h1',hp',hK'⟩:=hid5 hN hl h1 hp hK;clear hN hl h1 hp hK
    go_simp
    obtain ⟨hK,hN,hl,h1⟩:=out4 hK' hN' hl' h1'
    obtain ⟨p0,p1,p2,p3,p4,p5,p6,p7,p8,p9,p10,p11,p12,p13,p14,p15,p16,p17,qa0,qa1,qa2,d0_1,d0_2,d1_2⟩:=F'.out
    have g:=g'.out
    refine hK _ _ ⟨by simpa using hl,(upd (upd X 37 (.pointer (some ⟨b,off+k*9+3,none⟩))) 38 (ptv t.2.1)),rfl,hN,g,p0.k,p1.k,p2.k,p3.k,p4.k,p5.k,p6.k,p7.k,p8.k,PV.made rfl,PV.made rfl,p11.k,p12.k,p13.k,p14.k,p15.k,p16.k,p17.k,qa0.keep (by decide) (by decide) (fun _ _ h=>h),qa1.keep (by decide) (by decide) (fun _ _ h=>h),qa2.keep (by decide) (by decide) (fun _ _ h=>h),d0_1.k,d0_2.k,d1_2.k⟩
  · rintro l A W ⟨hl,X,rfl,hN,g,F⟩ h1 hp K hK
    have e10:=F.2.2.2.2.2.2.2.2.2.2.1 (hp ⟨10,.data⟩ (by simp) rfl)
    rw [rcaT_eq]
    have g':=hid g
    have F':=hid F;clear F g
    obtain ⟨hN',hl',h1',hp',hK'⟩:=hid5 hN hl h1 hp hK;clear hN hl h1 hp hK
    go_simp
    go_at_call 111
    refine (rtimes_any 2 t.2.1 _ T1.out).mono ?_
    rintro e W1 ⟨rfl,hb⟩
    (try dsimp only)
    obtain ⟨hK,hN,hl,h1⟩:=out4 hK' hN' hl' h1'
    obtain ⟨p0,p1,p2,p3,p4,p5,p6,p7,p8,p9,p10,p11,p12,p13,p14,p15,p16,p17,qa0,qa1,qa2,d0_1,d0_2,d1_2⟩:=F'.out
    have g:=g'.out
    refine hK _ _ ⟨by simpa using hl,(upd (upd X 38 (ptv t.2.1)) 39 (ptv (tim 2 t.2.1))),rfl,Nat.le_trans hN hb.size,GI.out _ _ (hb.mono hN) g,p0.k,p1.k,p2.k,p3.k,p4.k,p5.k,p6.k,p7.k,p8.k,p9.k,PV.made rfl,PV.made rfl,p12.k,p13.k,p14.k,p15.k,p16.k,p17.k,qa0.keep (by decide) (by decide) (fun _ _ h=>own_below h hb),qa1.keep (by decide) (by decide) (fun _ _ h=>own_below h hb),qa2.keep (by decide) (by decide) (fun _ _ h=>own_below h hb),d0_1.k,d0_2.k,d1_2.k⟩
  · rintro l A W ⟨hl,X,rfl,hN,g,F⟩ h1 hp K hK
    rw [rcaT_eq]
    have g':=hid g
    have F':=hid F;clear F g
    obtain ⟨hN',hl',h1',hp',hK'⟩:=hid5 hN hl h1 hp hK;clear hN hl h1 hp hK
    go_simp
    obtain ⟨hK,hN,hl,h1⟩:=out4 hK' hN' hl' h1'
    obtain ⟨p0,p1,p2,p3,p4,p5,p6,p7,p8,p9,p10,p11,p12,p13,p14,p15,p16,p17,qa0,qa1,qa2,d0_1,d0_2,d1_2⟩:=F'.out
    have g:=g'.out
    refine hK _ _ ⟨by simpa using hl,(upd X 40 (.slice (some ⟨b,off,none⟩) m cap)),rfl,hN,g,p0.k,p1.k,p2.k,p3.k,p4.k,p5.k,p6.k,p7.k,p8.k,p9.k,p10.k,p11.k,PV.made rfl,p13.k,p14.k,p15.k,p16.k,p17.k,qa0.keep (by decide) (by decide) (fun _ _ h=>h),qa1.keep (by decide) (by decide) (fun _ _ h=>h),qa2.keep (by decide) (by decide) (fun _ _ h=>h),d0_1.k,d0_2.k,d1_2.k⟩
  · rintro l A W ⟨hl,X,rfl,hN,g,F⟩ h1 hp K hK
    rw [rcaT_eq]
    have g':=hid g
    have F':=hid F;clear F g
    obtain ⟨hN',hl',h1',hp',hK'⟩:=hid5 hN hl h1 hp hK;clear hN hl h1 hp hK
    go_simp
    obtain ⟨hK,hN,hl,h1⟩:=out4 hK' hN' hl' h1'
    obtain ⟨p0,p1,p2,p3,p4,p5,p6,p7,p8,p9,p10,p11,p12,p13,p14,p15,p16,p17,qa0,qa1,qa2,d0_1,d0_2,d1_2⟩:=F'.out
    have g:=g'.out
    refine hK _ _ ⟨by simpa using hl,(upd X 41 (.int .i64 k)),rfl,hN,g,p0.k,p1.k,p2.k,p3.k,p4.k,p5.k,p6.k,p7.k,p8.k,p9.k,p10.k,p11.k,p12.k,PV.made rfl,p14.k,p15.k,p16.k,p17.k,qa0.keep (by decide) (by decide) (fun _ _ h=>h),qa1.keep (by decide) (by decide) (fun _ _ h=>h),qa2.keep (by decide) (by decide) (fun _ _ h=>h),d0_1.k,d0_2.k,d1_2.k⟩
  · rintro l A W ⟨hl,X,rfl,hN,g,F⟩ h1 hp K hK
    have e12:=F.2.2.2.2.2.2.2.2.2.2.2.2.1 (hp ⟨12,.data⟩ (by simp) rfl)
    have e13:=F.2.2.2.2.2.2.2.2.2.2.2.2.2.1 (hp ⟨13,.data⟩ (by simp) rfl)
    obtain ⟨hk1,hk2⟩:=HK.out
    rw [rcaT_eq]
    have g':=hid g
    have F':=hid F;clear F g
    obtain ⟨hN',hl',h1',hp',hK'⟩:=hid5 hN hl h1 hp hK;clear hN hl h1 hp hK
    go_simp
    obtain ⟨hK,hN,hl,h1⟩:=out4 hK' hN' hl' h1'
    obtain ⟨p0,p1,p2,p3,p4,p5,p6,p7,p8,p9,p10,p11,p12,p13,p14,p15,p16,p17,qa0,qa1,qa2,d0_1,d0_2,d1_2⟩:=F'.out
    have g:=g'.out
    refine hK _ _ ⟨by simpa using hl,(upd (upd (upd X 40 (.slice (some ⟨b,off,none⟩) m cap)) 41 (.int .i64 k)) 42 (.pointer (some ⟨b,off+k*9,none⟩))),rfl,hN,g,p0.k,p1.k,p2.k,p3.k,p4.k,p5.k,p6.k,p7.k,p8.k,p9.k,p10.k,p11.k,PV.made rfl,PV.made rfl,PV.made rfl,p15.k,p16.k,p17.k,qa0.keep (by decide) (by decide) (fun _ _ h=>h),qa1.keep (by decide) (by decide) (fun _ _ h=>h),qa2.keep (by decide) (by decide) (fun _ _ h=>h),d0_1.k,d0_2.k,d1_2.k⟩
  · rintro l A W ⟨hl,X,rfl,hN,g,F⟩ h1 hp K hK
    have e14:=F.2.2.2.2.2.2.2.2.2.2.2.2.2.2.1 (hp ⟨14,.data⟩ (by simp) rfl)
    rw [rcaT_eq]
    have g':=hid g
    have F':=hid F;clear F g
    obtain ⟨hN',hl',h1',hp',hK'⟩:=hid5 hN hl h1 hp hK;clear hN hl h1 hp hK
    go_simp
    obtain ⟨hK,hN,hl,h1⟩:=out4 hK' hN' hl' h1'
    obtain ⟨p0,p1,p2,p3,p4,p5,p6,p7,p8,p9,p10,p11,p12,p13,p14,p15,p16,p17,qa0,qa1,qa2,d0_1,d0_2,d1_2⟩:=F'.out
    have g:=g'.out
    refine hK _ _ ⟨by simpa using hl,(upd (upd X 42 (.pointer (some ⟨b,off+k*9,none⟩))) 43 (.pointer (some ⟨b,off+k*9+6,none⟩))),rfl,hN,g,p0.k,p1.k,p2.k,p3.k,p4.k,p5.k,p6.k,p7.k,p8.k,p9.k,p10.k,p11.k,p12.k,p13.k,PV.made rfl,PV.made rfl,p16.k,p17.k,qa0.keep (by decide) (by decide) (fun _ _ h=>h),qa1.keep (by decide) (by decide) (fun _ _ h=>h),qa2.keep (by decide) (by decide) (fun _ _ h=>h),d0_1.k,d0_2.k,d1_2.k⟩
  · rintro l A W ⟨hl,X,rfl,hN,g,F⟩ h1 hp K hK
    have e15:=F.2.2.2.2.2.2.2.2.2.2.2.2.2.2.2.1 (hp ⟨15,.data⟩ (by simp) rfl)
    obtain ⟨c0,c1,c2,c3,c4,c5,c6,c7,c8⟩:=GC.out W g
    rw [rcaT_eq]
    have g':=hid g
    have F':=hid F;clear F g
    obtain ⟨hN',hl',h1',hp',hK'⟩:=hid5 hN hl h1 hp hK;clear hN hl h1 hp hK
    go_simp
    obtain ⟨hK,hN,hl,h1⟩:=out4 hK' hN' hl' h1'
    obtain ⟨p0,p1,p2,p3,p4,p5,p6,p7,p8,p9,p10,p11,p12,p13,p14,p15,p16,p17,qa0,qa1,qa2,d0_1,d0_2,d1_2⟩:=F'.out
    have g:=g'.out
    refine hK _ _ ⟨by simpa using hl,(upd (upd X 43 (.pointer (some ⟨b,off+k*9+6,none⟩))) 44 (ptv t.2.2)),rfl,hN,g,p0.k,p1.k,p2.k,p3.k,p4.k,p5.k,p6.k,p7.k,p8.k,p9.k,p10.k,p11.k,p12.k,p13.k,p14.k,PV.made rfl,PV.made rfl,p17.k,qa0.keep (by decide) (by decide) (fun _ _ h=>h),qa1.keep (by decide) (by decide) (fun _ _ h=>h),qa2.keep (by decide) (by decide) (fun _ _ h=>h),d0_1.k,d0_2.k,d1_2.k⟩
  · rintro l A W ⟨hl,X,rfl,hN,g,F⟩ h1 hp K hK
    have e16:=F.2.2.2.2.2.2.2.2.2.2.2.2.2.2.2.2.1 (hp ⟨16,.data⟩ (by simp) rfl)
    rw [rcaT_eq]
    have g':=hid g
    have F':=hid F;clear F g
    obtain ⟨hN',hl',h1',hp',hK'⟩:=hid5 hN hl h1 hp hK;clear hN hl h1 hp hK
    go_simp
    go_at_call 111
    refine (rtimes_any 2 t.2.2 _ T2.out).mono ?_
    rintro e W1 ⟨rfl,hb⟩
    (try dsimp only)
    obtain ⟨hK,hN,hl,h1⟩:=out4 hK' hN' hl' h1'
    obtain ⟨p0,p1,p2,p3,p4,p5,p6,p7,p8,p9,p10,p11,p12,p13,p14,p15,p16,p17,qa0,qa1,qa2,d0_1,d0_2,d1_2⟩:=F'.out
    have g:=g'.out
    refine hK _ _ ⟨by simpa using hl,(upd (upd X 44 (ptv t.2.2)) 45 (ptv (tim 2 t.2.2))),rfl,Nat.le_trans hN hb.size,GI.out _ _ (hb.mono hN) g,p0.k,p1.k,p2.k,p3.k,p4.k,p5.k,p6.k,p7.k,p8.k,p9.k,p10.k,p11.k,p12.k,p13.k,p14.k,p15.k,PV.made rfl,PV.made rfl,qa0.keep (by decide) (by decide) (fun _ _ h=>own_below h hb),qa1.keep (by decide) (by decide) (fun _ _ h=>own_below h hb),qa2.keep (by decide) (by decide) (fun _ _ h=>own_below h hb),d0_1.k,d0_2.k,d1_2.k⟩
  · rintro l A W ⟨hl,X,rfl,hN,g,F⟩ h1 hp K hK
    rw [rcaT_eq]
    have g':=hid g
    have F':=hid F;clear F g
    obtain ⟨hN',hl',h1',hp',hK'⟩:=hid5 hN hl h1 hp hK;clear hN hl h1 hp hK
    go_simp
    obtain ⟨hK,hN,hl,h1⟩:=out4 hK' hN' hl' h1'
    obtain ⟨p0,p1,p2,p3,p4,p5,p6,p7,p8,p9,p10,p11,p12,p13,p14,p15,p16,p17,qa0,qa1,qa2,d0_1,d0_2,d1_2⟩:=F'.out
    have g:=g'.out
    refine hK _ _ ⟨by simpa using hl,(upd X 9 (.pointer (some ⟨W.heap.size,0,none⟩))),rfl,(by simp;omega),GI.out _ _ (((Below.refl _ W).alloc (Nat.le_refl _) _).mono hN) g,p0.k,p1.k,p2.k,p3.k,p4.k,p5.k,p6.k,p7.k,p8.k,p9.k,p10.k,p11.k,p12.k,p13.k,p14.k,p15.k,p16.k,p17.k,qa0.made (by decide) (by rw [hl];decide) h1 hN (own_new W (0,0,0) _),qa1.keep (by decide) (by decide) (fun _ _ h=>own_alloc h _),qa2.keep (by decide) (by decide) (fun _ _ h=>own_alloc h _),DD.mk1 qa1 (by decide),DD.mk1 qa2 (by decide),d1_2.k⟩
  · rintro l A W ⟨hl,X,rfl,hN,g,F⟩ h1 hp K hK
    rw [rcaT_eq]
    have g':=hid g
    have F':=hid F;clear F g
    obtain ⟨hN',hl',h1',hp',hK'⟩:=hid5 hN hl h1 hp hK;clear hN hl h1 hp hK
    go_simp
    obtain ⟨hK,hN,hl,h1⟩:=out4 hK' hN' hl' h1'
    obtain ⟨p0,p1,p2,p3,p4,p5,p6,p7,p8,p9,p10,p11,p12,p13,p14,p15,p16,p17,qa0,qa1,qa2,d0_1,d0_2,d1_2⟩:=F'.out
    have g:=g'.out
    refine hK _ _ ⟨by simpa using hl,(upd X 10 (.pointer (some ⟨W.heap.size,0,none⟩))),rfl,(by simp;omega),GI.out _ _ (((Below.refl _ W).alloc (Nat.le_refl _) _).mono hN) g,p0.k,p1.k,p2.k,p3.k,p4.k,p5.k,p6.k,p7.k,p8.k,p9.k,p10.k,p11.k,p12.k,p13.k,p14.k,p15.k,p16.k,p17.k,qa0.keep (by decide) (by decide) (fun _ _ h=>own_alloc h _),qa1.made (by decide) (by rw [hl];decide) h1 hN (own_new W (0,0,0) _),qa2.keep (by decide) (by decide) (fun _ _ h=>own_alloc h _),DD.mk2 qa0 (by decide),d0_2.k,DD.mk1 qa2 (by decide)⟩
  · rintro l A W ⟨hl,X,rfl,hN,g,F⟩ h1 hp K hK
    rw [rcaT_eq]
    have g':=hid g
    have F':=hid F;clear F g
    obtain ⟨hN',hl',h1',hp',hK'⟩:=hid5 hN hl h1 hp hK;clear hN hl h1 hp hK
    go_simp
    obtain ⟨hK,hN,hl,h1⟩:=out4 hK' hN' hl' h1'
    obtain ⟨p0,p1,p2,p3,p4,p5,p6,p7,p8,p9,p10,p11,p12,p13,p14,p15,p16,p17,qa0,qa1,qa2,d0_1,d0_2,d1_2⟩:=F'.out
    have g:=g'.out
    refine hK _ _ ⟨by simpa using hl,(upd X 11 (.pointer (some ⟨W.heap.size,0,none⟩))),rfl,(by simp;omega),GI.out _ _ (((Below.refl _ W).alloc (Nat.le_refl _) _).mono hN) g,p0.k,p1.k,p2.k,p3.k,p4.k,p5.k,p6.k,p7.k,p8.k,p9.k,p10.k,p11.k,p12.k,p13.k,p14.k,p15.k,p16.k,p17.k,qa0.keep (by decide) (by decide) (fun _ _ h=>own_alloc h _),qa1.keep (by decide) (by decide) (fun _ _ h=>own_alloc h _),qa2.made (by decide) (by rw [hl];decide) h1 hN (own_new W (0,0,0) _),d0_1.k,DD.mk2 qa0 (by decide),DD.mk2 qa1 (by decide)⟩
  · rintro l A W ⟨hl,X,rfl,hN,g,F⟩ h1 hp K hK
    have la:=hp ⟨18,.data⟩ (by simp) rfl
    have e5:=F.2.2.2.2.2.1 (hp ⟨5,.data⟩ (by simp) rfl)
    obtain ⟨b',v',e2,hb',ow,_⟩:=F.2.2.2.2.2.2.2.2.2.2.2.2.2.2.2.2.2.2.1.2 la
    obtain ⟨o0,o1,o2,o3,o4,o5,o6⟩:=id ow
    rw [rcaT_eq]
    have g':=hid g
    have F':=hid F;clear F g
    obtain ⟨hN',hl',h1',hp',hK'⟩:=hid5 hN hl h1 hp hK;clear hN hl h1 hp hK
    have la':=hid la;clear la;have hb'':=hid hb';clear hb';have ow':=hid ow;clear ow
    go_simp
    obtain ⟨hK,hN,hl,h1⟩:=out4 hK' hN' hl' h1'
    obtain ⟨p0,p1,p2,p3,p4,p5,p6,p7,p8,p9,p10,p11,p12,p13,p14,p15,p16,p17,qa0,qa1,qa2,d0_1,d0_2,d1_2⟩:=F'.out
    have g:=g'.out
    have la:=la'.out;have hb':=hb''.out;have ow:=ow'.out
    refine hK _ _ ⟨by simpa using hl,(upd (upd X 33 (ptv (tim 2 t.1))) 9 (.pointer (some ⟨b',0,none⟩))),rfl,(by simpa using hN),GI.out _ _ (below_set3 _ _ _ hb') g,p0.k,p1.k,p2.k,p3.k,p4.k,PV.made rfl,p6.k,p7.k,p8.k,p9.k,p10.k,p11.k,p12.k,p13.k,p14.k,p15.k,p16.k,p17.k,QA.put (by decide) la rfl hb' (own_put ow _),qa1.other (by decide) (by decide) (fun z=>by have dd:=d0_1 la z;rw [e2] at dd;exact dd.symm) (fun _ _ n h=>own_set3 _ _ _ n h),qa2.other (by decide) (by decide) (fun z=>by have dd:=d0_2 la z;rw [e2] at dd;exact dd.symm) (fun _ _ n h=>own_set3 _ _ _ n h),(by have z:=d0_1.keep (i:=21) (by decide) (by decide);rw [e2] at z;exact z),(by have z:=d0_2.keep (i:=21) (by decide) (by decide);rw [e2] at z;exact z),d1_2.k⟩
  · rintro l A W ⟨hl,X,rfl,hN,g,F⟩ h1 hp K hK
    have la:=hp ⟨19,.data⟩ (by simp) rfl
    have e11:=F.2.2.2.2.2.2.2.2.2.2.2.1 (hp ⟨11,.data⟩ (by simp) rfl)
    obtain ⟨b',v',e2,hb',ow,_⟩:=F.2.2.2.2.2.2.2.2.2.2.2.2.2.2.2.2.2.2.2.1.2 la
    obtain ⟨o0,o1,o2,o3,o4,o5,o6⟩:=id ow
    rw [rcaT_eq]
    have g':=hid g
    have F':=hid F;clear F g
    obtain ⟨hN',hl',h1',hp',hK'⟩:=hid5 hN hl h1 hp hK;clear hN hl h1 hp hK
    have la':=hid la;clear la;have hb'':=hid hb';clear hb';have ow':=hid ow;clear ow
    go_simp
    obtain ⟨hK,hN,hl,h1⟩:=out4 hK' hN' hl' h1'
    obtain ⟨p0,p1,p2,p3,p4,p5,p6,p7,p8,p9,p10,p11,p12,p13,p14,p15,p16,p17,qa0,qa1,qa2,d0_1,d0_2,d1_2⟩:=F'.out
    have g:=g'.out
    have la:=la'.out;have hb':=hb''.out;have ow:=ow'.out
    refine hK _ _ ⟨by simpa using hl,(upd (upd X 39 (ptv (tim 2 t.2.1))) 10 (.pointer (some ⟨b',0,none⟩))),rfl,(by simpa using hN),GI.out _ _ (below_set3 _ _ _ hb') g,p0.k,p1.k,p2.k,p3.k,p4.k,p5.k,p6.k,p7.k,p8.k,p9.k,p10.k,PV.made rfl,p12.k,p13.k,p14.k,p15.k,p16.k,p17.k,qa0.other (by decide) (by decide) (fun z=>by have dd:=d0_1 z la;rw [e2] at dd;exact dd) (fun _ _ n h=>own_set3 _ _ _ n h),QA.put (by decide) la rfl hb' (own_put ow _),qa2.other (by decide) (by decide) (fun z=>by have dd:=d1_2 la z;rw [e2] at dd;exact dd.symm) (fun _ _ n h=>own_set3 _ _ _ n h),(by have z:=d0_1.keep (i:=22) (by decide) (by decide);rw [e2] at z;exact z),d0_2.k,(by have z:=d1_2.keep (i:=22) (by decide) (by decide);rw [e2] at z;exact z)⟩
  · rintro l A W ⟨hl,X,rfl,hN,g,F⟩ h1 hp K hK
    have la:=hp ⟨20,.data⟩ (by simp) rfl
    have e17:=F.2.2.2.2.2.2.2.2.2.2.2.2.2.2.2.2.2.1 (hp ⟨17,.data⟩ (by simp) rfl)
    obtain ⟨b',v',e2,hb',ow,_⟩:=F.2.2.2.2.2.2.2.2.2.2.2.2.2.2.2.2.2.2.2.2.1.2 la
    obtain ⟨o0,o1,o2,o3,o4,o5,o6⟩:=id ow
    rw [rcaT_eq]
    have g':=hid g
    have F':=hid F;clear F g
    obtain ⟨hN',hl',h1',hp',hK'⟩:=hid5 hN hl h1 hp hK;clear hN hl h1 hp hK
    have la':=hid la;clear la;have hb'':=hid hb';clear hb';have ow':=hid ow;clear ow
    go_simp
    obtain ⟨hK,hN,hl,h1⟩:=out4 hK' hN' hl' h1'
    obtain ⟨p0,p1,p2,p3,p4,p5,p6,p7,p8,p9,p10,p11,p12,p13,p14,p15,p16,p17,qa0,qa1,qa2,d0_1,d0_2,d1_2⟩:=F'.out
    have g:=g'.out
    have la:=la'.out;have hb':=hb''.out;have ow:=ow'.out
    refine hK _ _ ⟨by simpa using hl,(upd (upd X 45 (ptv (tim 2 t.2.2))) 11 (.pointer (some ⟨b',0,none⟩))),rfl,(by simpa using hN),GI.out _ _ (below_set3 _ _ _ hb') g,p0.k,p1.k,p2.k,p3.k,p4.k,p5.k,p6.k,p7.k,p8.k,p9.k,p10.k,p11.k,p12.k,p13.k,p14.k,p15.k,p16.k,PV.made rfl,qa0.other (by decide) (by decide) (fun z=>by have dd:=d0_2 z la;rw [e2] at dd;exact dd) (fun _ _ n h=>own_set3 _ _ _ n h),qa1.other (by decide) (by decide) (fun z=>by have dd:=d1_2 z la;rw [e2] at dd;exact dd) (fun _ _ n h=>own_set3 _ _ _ n h),QA.put (by decide) la rfl hb' (own_put ow _),d0_1.k,(by have z:=d0_2.keep (i:=23) (by decide) (by decide);rw [e2] at z;exact z),(by have z:=d1_2.keep (i:=23) (by decide) (by decide);rw [e2] at z;exact z)⟩
theorem rca_reg (G:World->Prop) (N:Nat) (b off m cap k:Nat) (t:P9) {y0 y1 y2 y3 y4 y6 y7 y12 y13 y14 y15 y16 y17 y18 y19 y20 y21 y22 y23 y24 y25 y26 y27 y46 y47 y48 y49 y50 y51 y52 y53 y54 y55 y56 y57 y58 y59 y60 y61 y62 y63 y64 y65 y66 y67 y68 y69 y70 y71 y72 y73 y74 y75 x9 x10 x11 x28 x29 x30 x31 x32 x33 x34 x35 x36 x37 x38 x39 x40 x41 x42 x43 x44 x45:Value} {W:World} {Q:Exit->Act->World->Prop} (T0:Hid (BdP 4611686018427387904 (tim 2 t.1))) (T1:Hid (BdP 4611686018427387904 (tim 2 t.2.1))) (T2:Hid (BdP 4611686018427387904 (tim 2 t.2.2))) (HK:Hid ((k:Int)<(m:Int)/\0<=(k:Int))) (GC:Hid (∀ W:World,G W->W.cell? ⟨b,off+k*9,none⟩=some (.int .i64 t.1.1)/\W.cell? ⟨b,off+k*9+1,none⟩=some (.int .i64 t.1.2.1)/\W.cell? ⟨b,off+k*9+1+1,none⟩=some (.int .i64 t.1.2.2)/\W.cell? ⟨b,off+k*9+3,none⟩=some (.int .i64 t.2.1.1)/\W.cell? ⟨b,off+k*9+3+1,none⟩=some (.int .i64 t.2.1.2.1)/\W.cell? ⟨b,off+k*9+3+1+1,none⟩=some (.int .i64 t.2.1.2.2)/\W.cell? ⟨b,off+k*9+6,none⟩=some (.int .i64 t.2.2.1)/\W.cell? ⟨b,off+k*9+6+1,none⟩=some (.int .i64 t.2.2.2.1)/\W.cell? ⟨b,off+k*9+6+1+1,none⟩=some (.int .i64 t.2.2.2.2))) (GI:Hid (∀ W W':World,Below N W W'->G W->G W')) (hN:N<=W.heap.size) (g0:G W.drew)
    (hK:∀ (x28 x29 x30 x31 x32 x33 x34 x35 x36 x37 x38 x39 x40 x41 x42 x43 x44 x45:Value) (b0 b1 b2:Nat) (W':World),N<=W'.heap.size->G W'->N<=b0->Own W' b0 ((tim 2 t.1))->N<=b1->Own W' b1 ((tim 2 t.2.1))->N<=b2->Own W' b2 ((tim 2 t.2.2))->Q .normal { tmps:=#[y0,y1,y2,y3,y4,.slice (some ⟨b,off,none⟩) m cap,y6,y7,.int .i64 k,.pointer (some ⟨b0,0,none⟩),.pointer (some ⟨b1,0,none⟩),.pointer (some ⟨b2,0,none⟩),y12,y13,y14,y15,y16,y17,y18,y19,y20,y21,y22,y23,y24,y25,y26,y27,x28,x29,x30,x31,x32,x33,x34,x35,x36,x37,x38,x39,x40,x41,x42,x43,x44,x45,y46,y47,y48,y49,y50,y51,y52,y53,y54,y55,y56,y57,y58,y59,y60,y61,y62,y63,y64,y65,y66,y67,y68,y69,y70,y71,y72,y73,y74,y75],defers:=[] } W') :
    Code.wp Tryz.prog (.region 9 rcaOps true) Q { tmps:=#[y0,y1,y2,y3,y4,.slice (some ⟨b,off,none⟩) m cap,y6,y7,.int .i64 k,x9,x10,x11,y12,y13,y14,y15,y16,y17,y18,y19,y20,y21,y22,y23,y24,y25,y26,y27,x28,x29,x30,x31,x32,x33,x34,x35,x36,x37,x38,x39,x40,x41,x42,x43,x44,x45,y46,y47,y48,y49,y50,y51,y52,y53,y54,y55,y56,y57,y58,y59,y60,y61,y62,y63,y64,y65,y66,y67,y68,y69,y70,y71,y72,y73,y74,y75],defers:=[] } W:=by
  refine wp_region_inv (rcaI G N b off m cap k t y0 y1 y2 y3 y4 y6 y7 y12 y13 y14 y15 y16 y17 y18 y19 y20 y21 y22 y23 y24 y25 y26 y27 y46 y47 y48 y49 y50 y51 y52 y53 y54 y55 y56 y57 y58 y59 y60 y61 y62 y63 y64 y65 y66 y67 y68 y69 y70 y71 y72 y73 y74 y75) (by kernel_rfl) ?_ (rca_steps G N b off m cap k t y0 y1 y2 y3 y4 y6 y7 y12 y13 y14 y15 y16 y17 y18 y19 y20 y21 y22 y23 y24 y25 y26 y27 y46 y47 y48 y49 y50 y51 y52 y53 y54 y55 y56 y57 y58 y59 y60 y61 y62 y63 y64 y65 y66 y67 y68 y69 y70 y71 y72 y73 y74 y75 Q T0 T1 T2 HK GC GI) ?_
  · exact ⟨by simp [rcaOps],fun i=>(#[undef,undef,undef,undef,undef,undef,undef,undef,undef,x9,x10,x11,undef,undef,undef,undef,undef,undef,undef,undef,undef,undef,undef,undef,undef,undef,undef,undef,x28,x29,x30,x31,x32,x33,x34,x35,x36,x37,x38,x39,x40,x41,x42,x43,x44,x45,undef,undef,undef,undef,undef,undef,undef,undef,undef,undef,undef,undef,undef,undef,undef,undef,undef,undef,undef,undef,undef,undef,undef,undef,undef,undef,undef,undef,undef,undef]:Array Value).getD i undef,rfl,hN,g0,PV.nought,PV.nought,PV.nought,PV.nought,PV.nought,PV.nought,PV.nought,PV.nought,PV.nought,PV.nought,PV.nought,PV.nought,PV.nought,PV.nought,PV.nought,PV.nought,PV.nought,PV.nought,QA.nought,QA.nought,QA.nought,DD.nought,DD.nought,DD.nought⟩
  · rintro l A W ⟨hl,X,rfl,hN,g,p0,p1,p2,p3,p4,p5,p6,p7,p8,p9,p10,p11,p12,p13,p14,p15,p16,p17,qa0,qa1,qa2,d0_1,d0_2,d1_2⟩ hr
    unfold rcaOps at hr
    have l0:=ready_end hr 0 (by rw [hl];decide) rfl (fun e he hbn=>by
      simp at he
      (try (repeat (rcases he with rfl|he;· first|assumption|exact absurd hbn (by decide))))
      (try (first|exact he.elim|(subst he;first|assumption|exact absurd hbn (by decide)))))
    have l1:=ready_end hr 1 (by rw [hl];decide) rfl (fun e he hbn=>by
      simp at he
      (try (repeat (rcases he with rfl|he;· first|assumption|exact absurd hbn (by decide))))
      (try (first|exact he.elim|(subst he;first|assumption|exact absurd hbn (by decide)))))
    have l2:=ready_end hr 2 (by rw [hl];decide) rfl (fun e he hbn=>by
      simp at he
      (try (repeat (rcases he with rfl|he;· first|assumption|exact absurd hbn (by decide))))
      (try (first|exact he.elim|(subst he;first|assumption|exact absurd hbn (by decide)))))
    have l3:=ready_end hr 3 (by rw [hl];decide) rfl (fun e he hbn=>by
      simp at he
      (try (repeat (rcases he with rfl|he;· first|assumption|exact absurd hbn (by decide))))
      (try (first|exact he.elim|(subst he;first|assumption|exact absurd hbn (by decide)))))
    have l4:=ready_end hr 4 (by rw [hl];decide) rfl (fun e he hbn=>by
      simp at he
      (try (repeat (rcases he with rfl|he;· first|assumption|exact absurd hbn (by decide))))
      (try (first|exact he.elim|(subst he;first|assumption|exact absurd hbn (by decide)))))
    have l5:=ready_end hr 5 (by rw [hl];decide) rfl (fun e he hbn=>by
      simp at he
      (try (repeat (rcases he with rfl|he;· first|assumption|exact absurd hbn (by decide))))
      (try (first|exact he.elim|(subst he;first|assumption|exact absurd hbn (by decide)))))
    have l6:=ready_end hr 6 (by rw [hl];decide) rfl (fun e he hbn=>by
      simp at he
      (try (repeat (rcases he with rfl|he;· first|assumption|exact absurd hbn (by decide))))
      (try (first|exact he.elim|(subst he;first|assumption|exact absurd hbn (by decide)))))
    have l7:=ready_end hr 7 (by rw [hl];decide) rfl (fun e he hbn=>by
      simp at he
      (try (repeat (rcases he with rfl|he;· first|assumption|exact absurd hbn (by decide))))
      (try (first|exact he.elim|(subst he;first|assumption|exact absurd hbn (by decide)))))
    have l8:=ready_end hr 8 (by rw [hl];decide) rfl (fun e he hbn=>by
      simp at he
      (try (repeat (rcases he with rfl|he;· first|assumption|exact absurd hbn (by decide))))
      (try (first|exact he.elim|(subst he;first|assumption|exact absurd hbn (by decide)))))
    have l9:=ready_end hr 9 (by rw [hl];decide) rfl (fun e he hbn=>by
      simp at he
      (try (repeat (rcases he with rfl|he;· first|assumption|exact absurd hbn (by decide))))
      (try (first|exact he.elim|(subst he;first|assumption|exact absurd hbn (by decide)))))
    have l10:=ready_end hr 10 (by rw [hl];decide) rfl (fun e he hbn=>by
      simp at he
      (try (repeat (rcases he with rfl|he;· first|assumption|exact absurd hbn (by decide))))
      (try (first|exact he.elim|(subst he;first|assumption|exact absurd hbn (by decide)))))
    have l11:=ready_end hr 11 (by rw [hl];decide) rfl (fun e he hbn=>by
      simp at he
      (try (repeat (rcases he with rfl|he;· first|assumption|exact absurd hbn (by decide))))
      (try (first|exact he.elim|(subst he;first|assumption|exact absurd hbn (by decide)))))
    have l12:=ready_end hr 12 (by rw [hl];decide) rfl (fun e he hbn=>by
      simp at he
      (try (repeat (rcases he with rfl|he;· first|assumption|exact absurd hbn (by decide))))
      (try (first|exact he.elim|(subst he;first|assumption|exact absurd hbn (by decide)))))
    have l13:=ready_end hr 13 (by rw [hl];decide) rfl (fun e he hbn=>by
      simp at he
      (try (repeat (rcases he with rfl|he;· first|assumption|exact absurd hbn (by decide))))
      (try (first|exact he.elim|(subst he;first|assumption|exact absurd hbn (by decide)))))
    have l14:=ready_end hr 14 (by rw [hl];decide) rfl (fun e he hbn=>by
      simp at he
      (try (repeat (rcases he with rfl|he;· first|assumption|exact absurd hbn (by decide))))
      (try (first|exact he.elim|(subst he;first|assumption|exact absurd hbn (by decide)))))
    have l15:=ready_end hr 15 (by rw [hl];decide) rfl (fun e he hbn=>by
      simp at he
      (try (repeat (rcases he with rfl|he;· first|assumption|exact absurd hbn (by decide))))
      (try (first|exact he.elim|(subst he;first|assumption|exact absurd hbn (by decide)))))
    have l16:=ready_end hr 16 (by rw [hl];decide) rfl (fun e he hbn=>by
      simp at he
      (try (repeat (rcases he with rfl|he;· first|assumption|exact absurd hbn (by decide))))
      (try (first|exact he.elim|(subst he;first|assumption|exact absurd hbn (by decide)))))
    have l17:=ready_end hr 17 (by rw [hl];decide) rfl (fun e he hbn=>by
      simp at he
      (try (repeat (rcases he with rfl|he;· first|assumption|exact absurd hbn (by decide))))
      (try (first|exact he.elim|(subst he;first|assumption|exact absurd hbn (by decide)))))
    have l18:=ready_end hr 18 (by rw [hl];decide) rfl (fun e he hbn=>by
      simp at he
      (try (repeat (rcases he with rfl|he;· first|assumption|exact absurd hbn (by decide))))
      (try (first|exact he.elim|(subst he;first|assumption|exact absurd hbn (by decide)))))
    have l19:=ready_end hr 19 (by rw [hl];decide) rfl (fun e he hbn=>by
      simp at he
      (try (repeat (rcases he with rfl|he;· first|assumption|exact absurd hbn (by decide))))
      (try (first|exact he.elim|(subst he;first|assumption|exact absurd hbn (by decide)))))
    have l20:=ready_end hr 20 (by rw [hl];decide) rfl (fun e he hbn=>by
      simp at he
      (try (repeat (rcases he with rfl|he;· first|assumption|exact absurd hbn (by decide))))
      (try (first|exact he.elim|(subst he;first|assumption|exact absurd hbn (by decide)))))
    have l21:=ready_end hr 21 (by rw [hl];decide) rfl (fun e he hbn=>by
      simp at he
      (try (repeat (rcases he with rfl|he;· first|assumption|exact absurd hbn (by decide))))
      (try (first|exact he.elim|(subst he;first|assumption|exact absurd hbn (by decide)))))
    have l22:=ready_end hr 22 (by rw [hl];decide) rfl (fun e he hbn=>by
      simp at he
      (try (repeat (rcases he with rfl|he;· first|assumption|exact absurd hbn (by decide))))
      (try (first|exact he.elim|(subst he;first|assumption|exact absurd hbn (by decide)))))
    have l23:=ready_end hr 23 (by rw [hl];decide) rfl (fun e he hbn=>by
      simp at he
      (try (repeat (rcases he with rfl|he;· first|assumption|exact absurd hbn (by decide))))
      (try (first|exact he.elim|(subst he;first|assumption|exact absurd hbn (by decide)))))
    obtain ⟨b0,v0,e0x,n0,o0,t0⟩:=qa0.2 l18
    obtain rfl:=t0 l21
    obtain ⟨b1,v1,e1x,n1,o1,t1⟩:=qa1.2 l19
    obtain rfl:=t1 l22
    obtain ⟨b2,v2,e2x,n2,o2,t2⟩:=qa2.2 l20
    obtain rfl:=t2 l23
    have z:=hK (X 28) (X 29) (X 30) (X 31) (X 32) (X 33) (X 34) (X 35) (X 36) (X 37) (X 38) (X 39) (X 40) (X 41) (X 42) (X 43) (X 44) (X 45) b0 b1 b2 W hN g n0 o0 n1 o1 n2 o2
    rw [← e0x,← e1x,← e2x] at z
    exact z
def rcbOps : Array Oper := #[⟨some 46,.load 44 (.tmp 9),44,"ref.go:25",#[],none⟩,⟨some 47,.load 44 (.tmp 10),44,"ref.go:25",#[],none⟩,⟨some 48,.call ⟨.value (.func 176),#[.tmp 46,.tmp 47],#[44,44]⟩,44,"ref.go:25",#[⟨0,.data⟩,⟨1,.data⟩],none⟩,⟨some 49,.load 44 (.tmp 10),44,"ref.go:25",#[],none⟩,⟨some 50,.load 44 (.tmp 11),44,"ref.go:25",#[],none⟩,⟨some 51,.call ⟨.value (.func 176),#[.tmp 49,.tmp 50],#[44,44]⟩,44,"ref.go:25",#[⟨3,.data⟩,⟨4,.data⟩,⟨2,.chain⟩],none⟩,⟨some 52,.load 44 (.tmp 11),44,"ref.go:25",#[],none⟩,⟨some 53,.load 44 (.tmp 9),44,"ref.go:25",#[],none⟩,⟨some 54,.call ⟨.value (.func 176),#[.tmp 52,.tmp 53],#[44,44]⟩,44,"ref.go:25",#[⟨6,.data⟩,⟨7,.data⟩,⟨5,.chain⟩],none⟩,⟨some 12,.alloc 44,0,"ref.go:25",#[],none⟩,⟨some 13,.alloc 44,0,"ref.go:25",#[],none⟩,⟨some 14,.alloc 44,0,"ref.go:25",#[],none⟩,⟨none,.store 44 (.tmp 12) (.tmp 48),0,"ref.go:25",#[⟨9,.data⟩,⟨2,.data⟩,⟨8,.chain⟩,⟨0,.phase⟩,⟨1,.phase⟩,⟨2,.phase⟩,⟨3,.textOnly .lateStores⟩,⟨4,.textOnly .lateStores⟩,⟨5,.textOnly .lateStoresUnsure⟩,⟨6,.textOnly .lateStores⟩,⟨7,.textOnly .lateStores⟩,⟨8,.textOnly .lateStoresUnsure⟩,⟨9,.phase⟩,⟨10,.phase⟩,⟨11,.phase⟩],none⟩,⟨none,.store 44 (.tmp 13) (.tmp 51),0,"ref.go:25",#[⟨10,.data⟩,⟨5,.data⟩,⟨12,.chain⟩,⟨0,.phase⟩,⟨1,.phase⟩,⟨2,.phase⟩,⟨3,.phase⟩,⟨4,.phase⟩,⟨5,.phase⟩,⟨6,.textOnly .lateStores⟩,⟨7,.textOnly .lateStores⟩,⟨8,.textOnly .lateStoresUnsure⟩,⟨9,.phase⟩,⟨10,.phase⟩,⟨11,.phase⟩,⟨12,.phase⟩],none⟩,⟨none,.store 44 (.tmp 14) (.tmp 54),0,"ref.go:25",#[⟨11,.data⟩,⟨8,.data⟩,⟨13,.chain⟩,⟨0,.phase⟩,⟨1,.phase⟩,⟨2,.phase⟩,⟨3,.phase⟩,⟨4,.phase⟩,⟨5,.phase⟩,⟨6,.phase⟩,⟨7,.phase⟩,⟨8,.phase⟩,⟨9,.phase⟩,⟨10,.phase⟩,⟨11,.phase⟩,⟨12,.phase⟩,⟨13,.phase⟩],none⟩]
def rcbT (x:Nat) (y:Nat) (z:Nat) (y0 y1 y2 y3 y4 y5 y6 y7 y8 y15 y16 y17 y18 y19 y20 y21 y22 y23 y24 y25 y26 y27 y28 y29 y30 y31 y32 y33 y34 y35 y36 y37 y38 y39 y40 y41 y42 y43 y44 y45 y55 y56 y57 y58 y59 y60 y61 y62 y63 y64 y65 y66 y67 y68 y69 y70 y71 y72 y73 y74 y75:Value) (X:Nat->Value):Array Value:=#[y0,y1,y2,y3,y4,y5,y6,y7,y8,.pointer (some ⟨x,0,none⟩),.pointer (some ⟨y,0,none⟩),.pointer (some ⟨z,0,none⟩),X 12,X 13,X 14,y15,y16,y17,y18,y19,y20,y21,y22,y23,y24,y25,y26,y27,y28,y29,y30,y31,y32,y33,y34,y35,y36,y37,y38,y39,y40,y41,y42,y43,y44,y45,X 46,X 47,X 48,X 49,X 50,X 51,X 52,X 53,X 54,y55,y56,y57,y58,y59,y60,y61,y62,y63,y64,y65,y66,y67,y68,y69,y70,y71,y72,y73,y74,y75]
theorem rcbT_eq (x:Nat) (y:Nat) (z:Nat) (y0 y1 y2 y3 y4 y5 y6 y7 y8 y15 y16 y17 y18 y19 y20 y21 y22 y23 y24 y25 y26 y27 y28 y29 y30 y31 y32 y33 y34 y35 y36 y37 y38 y39 y40 y41 y42 y43 y44 y45 y55 y56 y57 y58 y59 y60 y61 y62 y63 y64 y65 y66 y67 y68 y69 y70 y71 y72 y73 y74 y75:Value) (X:Nat->Value):rcbT x y z y0 y1 y2 y3 y4 y5 y6 y7 y8 y15 y16 y17 y18 y19 y20 y21 y22 y23 y24 y25 y26 y27 y28 y29 y30 y31 y32 y33 y34 y35 y36 y37 y38 y39 y40 y41 y42 y43 y44 y45 y55 y56 y57 y58 y59 y60 y61 y62 y63 y64 y65 y66 y67 y68 y69 y70 y71 y72 y73 y74 y75 X=#[y0,y1,y2,y3,y4,y5,y6,y7,y8,.pointer (some ⟨x,0,none⟩),.pointer (some ⟨y,0,none⟩),.pointer (some ⟨z,0,none⟩),X 12,X 13,X 14,y15,y16,y17,y18,y19,y20,y21,y22,y23,y24,y25,y26,y27,y28,y29,y30,y31,y32,y33,y34,y35,y36,y37,y38,y39,y40,y41,y42,y43,y44,y45,X 46,X 47,X 48,X 49,X 50,X 51,X 52,X 53,X 54,y55,y56,y57,y58,y59,y60,y61,y62,y63,y64,y65,y66,y67,y68,y69,y70,y71,y72,y73,y74,y75]:=rfl
def rcbI (G:World->Prop) (N:Nat) (x y z:Nat) (a b c:P3) (y0 y1 y2 y3 y4 y5 y6 y7 y8 y15 y16 y17 y18 y19 y20 y21 y22 y23 y24 y25 y26 y27 y28 y29 y30 y31 y32 y33 y34 y35 y36 y37 y38 y39 y40 y41 y42 y43 y44 y45 y55 y56 y57 y58 y59 y60 y61 y62 y63 y64 y65 y66 y67 y68 y69 y70 y71 y72 y73 y74 y75:Value) (l:Array Bool) (A:Act) (W:World):Prop :=
  l.size=15/\∃ X:Nat->Value,A={ tmps:=rcbT x y z y0 y1 y2 y3 y4 y5 y6 y7 y8 y15 y16 y17 y18 y19 y20 y21 y22 y23 y24 y25 y26 y27 y28 y29 y30 y31 y32 y33 y34 y35 y36 y37 y38 y39 y40 y41 y42 y43 y44 y45 y55 y56 y57 y58 y59 y60 y61 y62 y63 y64 y65 y66 y67 y68 y69 y70 y71 y72 y73 y74 y75 X,defers:=[] }/\N<=W.heap.size/\G W/\PV l 0 (X 46) (ptv (tim 2 a))/\PV l 1 (X 47) (ptv (tim 2 b))/\PV l 2 (X 48) (ptv (add a b))/\PV l 3 (X 49) (ptv (tim 2 b))/\PV l 4 (X 50) (ptv (tim 2 c))/\PV l 5 (X 51) (ptv (add b c))/\PV l 6 (X 52) (ptv (tim 2 c))/\PV l 7 (X 53) (ptv (tim 2 a))/\PV l 8 (X 54) (ptv (add c a))/\QA l W (X 12) 9 12 N ((add a b))/\QA l W (X 13) 10 13 N ((add b c))/\QA l W (X 14) 11 14 N ((add c a))/\DD l (X 12) (X 13) 9 10/\DD l (X 12) (X 14) 9 11/\DD l (X 13) (X 14) 10 11
theorem rcb_steps (G:World->Prop) (N:Nat) (x y z:Nat) (a b c:P3) (y0 y1 y2 y3 y4 y5 y6 y7 y8 y15 y16 y17 y18 y19 y20 y21 y22 y23 y24 y25 y26 y27 y28 y29 y30 y31 y32 y33 y34 y35 y36 y37 y38 y39 y40 y41 y42 y43 y44 y45 y55 y56 y57 y58 y59 y60 y61 y62 y63 y64 y65 y66 y67 y68 y69 y70 y71 y72 y73 y74 y75:Value) (Q:Exit->Act->World->Prop) (HA:Hid (BdP 1000000 a)) (HB:Hid (BdP 1000000 b)) (HC:Hid (BdP 1000000 c)) (GC:Hid (∀ W:World,G W->W.cell? ⟨x,0,none⟩=some (.int .i64 (tim 2 a).1)/\W.cell? ⟨x,1,none⟩=some (.int .i64 (tim 2 a).2.1)/\W.cell? ⟨x,2,none⟩=some (.int .i64 (tim 2 a).2.2)/\W.cell? ⟨y,0,none⟩=some (.int .i64 (tim 2 b).1)/\W.cell? ⟨y,1,none⟩=some (.int .i64 (tim 2 b).2.1)/\W.cell? ⟨y,2,none⟩=some (.int .i64 (tim 2 b).2.2)/\W.cell? ⟨z,0,none⟩=some (.int .i64 (tim 2 c).1)/\W.cell? ⟨z,1,none⟩=some (.int .i64 (tim 2 c).2.1)/\W.cell? ⟨z,2,none⟩=some (.int .i64 (tim 2 c).2.2))) (GI:Hid (∀ W W':World,Below N W W'->G W->G W')) :
    allOps (fun i o=>∀ (l:Array Bool) (A:Act) (W:World),rcbI G N x y z a b c y0 y1 y2 y3 y4 y5 y6 y7 y8 y15 y16 y17 y18 y19 y20 y21 y22 y23 y24 y25 y26 y27 y28 y29 y30 y31 y32 y33 y34 y35 y36 y37 y38 y39 y40 y41 y42 y43 y44 y45 y55 y56 y57 y58 y59 y60 y61 y62 y63 y64 y65 y66 y67 y68 y69 y70 y71 y72 y73 y74 y75 l A W->l.getD i true=false->(∀ e ∈ o.after,Region.binds .any e=true->l.getD e.on false=true)->∀ K':Act->World->Prop,(∀ A' W',rcbI G N x y z a b c y0 y1 y2 y3 y4 y5 y6 y7 y8 y15 y16 y17 y18 y19 y20 y21 y22 y23 y24 y25 y26 y27 y28 y29 y30 y31 y32 y33 y34 y35 y36 y37 y38 y39 y40 y41 y42 y43 y44 y45 y55 y56 y57 y58 y59 y60 y61 y62 y63 y64 y65 y66 y67 y68 y69 y70 y71 y72 y73 y74 y75 (l.setIfInBounds i true) A' W'->K' A' W')->if Region.wanted o (yielded rcbOps A.tmps)=true then Oper.wp Tryz.prog o A W K' Q else K' (A.put o.dst undef) W) 0 rcbOps.toList:=by
  simp only [rcbOps,allOps]
  refine ⟨?_,?_,?_,?_,?_,?_,?_,?_,?_,?_,?_,?_,?_,?_,?_,trivial⟩
  · rintro l A W ⟨hl,X,rfl,hN,g,F⟩ h1 hp K hK
    obtain ⟨c0,c1,c2,c3,c4,c5,c6,c7,c8⟩:=GC.out W g
    rw [rcbT_eq]
    have g':=hid g
    have F':=hid F;clear F g
    obtain ⟨hN',hl',h1',hp',hK'⟩:=hid5 hN hl h1 hp hK;clear hN hl h1 hp hK
    go_simp
    obtain ⟨hK,hN,hl,h1⟩:=out4 hK' hN' hl' h1'
    obtain ⟨p0,p1,p2,p3,p4,p5,p6,p7,p8,qa0,qa1,qa2,d0_1,d0_2,d1_2⟩:=F'.out
    have g:=g'.out
    refine hK _ _ ⟨by simpa using hl,(upd X 46 (ptv (tim 2 a))),rfl,hN,g,PV.made rfl,p1.k,p2.k,p3.k,p4.k,p5.k,p6.k,p7.k,p8.k,qa0.keep (by decide) (by decide) (fun _ _ h=>h),qa1.keep (by decide) (by decide) (fun _ _ h=>h),qa2.keep (by decide) (by decide) (fun _ _ h=>h),d0_1.k,d0_2.k,d1_2.k⟩
  · rintro l A W ⟨hl,X,rfl,hN,g,F⟩ h1 hp K hK
    obtain ⟨c0,c1,c2,c3,c4,c5,c6,c7,c8⟩:=GC.out W g
    rw [rcbT_eq]
    have g':=hid g
    have F':=hid F;clear F g
    obtain ⟨hN',hl',h1',hp',hK'⟩:=hid5 hN hl h1 hp hK;clear hN hl h1 hp hK
    go_simp
    obtain ⟨hK,hN,hl,h1⟩:=out4 hK' hN' hl' h1'
    obtain ⟨p0,p1,p2,p3,p4,p5,p6,p7,p8,qa0,qa1,qa2,d0_1,d0_2,d1_2⟩:=F'.out
    have g:=g'.out
    refine hK _ _ ⟨by simpa using hl,(upd X 47 (ptv (tim 2 b))),rfl,hN,g,p0.k,PV.made rfl,p2.k,p3.k,p4.k,p5.k,p6.k,p7.k,p8.k,qa0.keep (by decide) (by decide) (fun _ _ h=>h),qa1.keep (by decide) (by decide) (fun _ _ h=>h),qa2.keep (by decide) (by decide) (fun _ _ h=>h),d0_1.k,d0_2.k,d1_2.k⟩
  · rintro l A W ⟨hl,X,rfl,hN,g,F⟩ h1 hp K hK
    have e0:=F.1 (hp ⟨0,.data⟩ (by simp) rfl)
    have e1:=F.2.1 (hp ⟨1,.data⟩ (by simp) rfl)
    rw [rcbT_eq]
    have g':=hid g
    have F':=hid F;clear F g
    obtain ⟨hN',hl',h1',hp',hK'⟩:=hid5 hN hl h1 hp hK;clear hN hl h1 hp hK
    go_simp
    go_at_call 176
    refine (rhalf_any a b _ HA.out HB.out).mono ?_
    rintro e W1 ⟨rfl,hb⟩
    (try dsimp only)
    obtain ⟨hK,hN,hl,h1⟩:=out4 hK' hN' hl' h1'
    obtain ⟨p0,p1,p2,p3,p4,p5,p6,p7,p8,qa0,qa1,qa2,d0_1,d0_2,d1_2⟩:=F'.out
    have g:=g'.out
    refine hK _ _ ⟨by simpa using hl,(upd (upd (upd X 46 (ptv (tim 2 a))) 47 (ptv (tim 2 b))) 48 (ptv (add a b))),rfl,Nat.le_trans hN hb.size,GI.out _ _ (hb.mono hN) g,PV.made rfl,PV.made rfl,PV.made rfl,p3.k,p4.k,p5.k,p6.k,p7.k,p8.k,qa0.keep (by decide) (by decide) (fun _ _ h=>own_below h hb),qa1.keep (by decide) (by decide) (fun _ _ h=>own_below h hb),qa2.keep (by decide) (by decide) (fun _ _ h=>own_below h hb),d0_1.k,d0_2.k,d1_2.k⟩
  · rintro l A W ⟨hl,X,rfl,hN,g,F⟩ h1 hp K hK
    obtain ⟨c0,c1,c2,c3,c4,c5,c6,c7,c8⟩:=GC.out W g
    rw [rcbT_eq]
    have g':=hid g
    have F':=hid F;clear F g
    obtain ⟨hN',hl',h1',hp',hK'⟩:=hid5 hN hl h1 hp hK;clear hN hl h1 hp hK
    go_simp
    obtain ⟨hK,hN,hl,h1⟩:=out4 hK' hN' hl' h1'
    obtain ⟨p0,p1,p2,p3,p4,p5,p6,p7,p8,qa0,qa1,qa2,d0_1,d0_2,d1_2⟩:=F'.out
    have g:=g'.out
    refine hK _ _ ⟨by simpa using hl,(upd X 49 (ptv (tim 2 b))),rfl,hN,g,p0.k,p1.k,p2.k,PV.made rfl,p4.k,p5.k,p6.k,p7.k,p8.k,qa0.keep (by decide) (by decide) (fun _ _ h=>h),qa1.keep (by decide) (by decide) (fun _ _ h=>h),qa2.keep (by decide) (by decide) (fun _ _ h=>h),d0_1.k,d0_2.k,d1_2.k⟩
  · rintro l A W ⟨hl,X,rfl,hN,g,F⟩ h1 hp K hK
    obtain ⟨c0,c1,c2,c3,c4,c5,c6,c7,c8⟩:=GC.out W g
    rw [rcbT_eq]
    have g':=hid g
    have F':=hid F;clear F g
    obtain ⟨hN',hl',h1',hp',hK'⟩:=hid5 hN hl h1 hp hK;clear hN hl h1 hp hK
    go_simp
    obtain ⟨hK,hN,hl,h1⟩:=out4 hK' hN' hl' h1'
    obtain ⟨p0,p1,p2,p3,p4,p5,p6,p7,p8,qa0,qa1,qa2,d0_1,d0_2,d1_2⟩:=F'.out
    have g:=g'.out
    refine hK _ _ ⟨by simpa using hl,(upd X 50 (ptv (tim 2 c))),rfl,hN,g,p0.k,p1.k,p2.k,p3.k,PV.made rfl,p5.k,p6.k,p7.k,p8.k,qa0.keep (by decide) (by decide) (fun _ _ h=>h),qa1.keep (by decide) (by decide) (fun _ _ h=>h),qa2.keep (by decide) (by decide) (fun _ _ h=>h),d0_1.k,d0_2.k,d1_2.k⟩
  · rintro l A W ⟨hl,X,rfl,hN,g,F⟩ h1 hp K hK
    have e3:=F.2.2.2.1 (hp ⟨3,.data⟩ (by simp) rfl)
    have e4:=F.2.2.2.2.1 (hp ⟨4,.data⟩ (by simp) rfl)
    rw [rcbT_eq]
    have g':=hid g
    have F':=hid F;clear F g
    obtain ⟨hN',hl',h1',hp',hK'⟩:=hid5 hN hl h1 hp hK;clear hN hl h1 hp hK
    go_simp
    go_at_call 176
    refine (rhalf_any b c _ HB.out HC.out).mono ?_
    rintro e W1 ⟨rfl,hb⟩
    (try dsimp only)
    obtain ⟨hK,hN,hl,h1⟩:=out4 hK' hN' hl' h1'
    obtain ⟨p0,p1,p2,p3,p4,p5,p6,p7,p8,qa0,qa1,qa2,d0_1,d0_2,d1_2⟩:=F'.out
    have g:=g'.out
    refine hK _ _ ⟨by simpa using hl,(upd (upd (upd X 49 (ptv (tim 2 b))) 50 (ptv (tim 2 c))) 51 (ptv (add b c))),rfl,Nat.le_trans hN hb.size,GI.out _ _ (hb.mono hN) g,p0.k,p1.k,p2.k,PV.made rfl,PV.made rfl,PV.made rfl,p6.k,p7.k,p8.k,qa0.keep (by decide) (by decide) (fun _ _ h=>own_below h hb),qa1.keep (by decide) (by decide) (fun _ _ h=>own_below h hb),qa2.keep (by decide) (by decide) (fun _ _ h=>own_below h hb),d0_1.k,d0_2.k,d1_2.k⟩
  · rintro l A W ⟨hl,X,rfl,hN,g,F⟩ h1 hp K hK
    obtain ⟨c0,c1,c2,c3,c4,c5,c6,c7,c8⟩:=GC.out W g
    rw [rcbT_eq]
    have g':=hid g
    have F':=hid F;clear F g
    obtain ⟨hN',hl',h1',hp',hK'⟩:=hid5 hN hl h1 hp hK;clear hN hl h1 hp hK
    go_simp
    obtain ⟨hK,hN,hl,h1⟩:=out4 hK' hN' hl' h1'
    obtain ⟨p0,p1,p2,p3,p4,p5,p6,p7,p8,qa0,qa1,qa2,d0_1,d0_2,d1_2⟩:=F'.out
    have g:=g'.out
    refine hK _ _ ⟨by simpa using hl,(upd X 52 (ptv (tim 2 c))),rfl,hN,g,p0.k,p1.k,p2.k,p3.k,p4.k,p5.k,PV.made rfl,p7.k,p8.k,qa0.keep (by decide) (by decide) (fun _ _ h=>h),qa1.keep (by decide) (by decide) (fun _ _ h=>h),qa2.keep (by decide) (by decide) (fun _ _ h=>h),d0_1.k,d0_2.k,d1_2.k⟩
  · rintro l A W ⟨hl,X,rfl,hN,g,F⟩ h1 hp K hK
    obtain ⟨c0,c1,c2,c3,c4,c5,c6,c7,c8⟩:=GC.out W g
    rw [rcbT_eq]
    have g':=hid g
    have F':=hid F;clear F g
    obtain ⟨hN',hl',h1',hp',hK'⟩:=hid5 hN hl h1 hp hK;clear hN hl h1 hp hK
    go_simp
    obtain ⟨hK,hN,hl,h1⟩:=out4 hK' hN' hl' h1'
    obtain ⟨p0,p1,p2,p3,p4,p5,p6,p7,p8,qa0,qa1,qa2,d0_1,d0_2,d1_2⟩:=F'.out
    have g:=g'.out
    refine hK _ _ ⟨by simpa using hl,(upd X 53 (ptv (tim 2 a))),rfl,hN,g,p0.k,p1.k,p2.k,p3.k,p4.k,p5.k,p6.k,PV.made rfl,p8.k,qa0.keep (by decide) (by decide) (fun _ _ h=>h),qa1.keep (by decide) (by decide) (fun _ _ h=>h),qa2.keep (by decide) (by decide) (fun _ _ h=>h),d0_1.k,d0_2.k,d1_2.k⟩
  · rintro l A W ⟨hl,X,rfl,hN,g,F⟩ h1 hp K hK
    have e6:=F.2.2.2.2.2.2.1 (hp ⟨6,.data⟩ (by simp) rfl)
    have e7:=F.2.2.2.2.2.2.2.1 (hp ⟨7,.data⟩ (by simp) rfl)
    rw [rcbT_eq]
    have g':=hid g
    have F':=hid F;clear F g
    obtain ⟨hN',hl',h1',hp',hK'⟩:=hid5 hN hl h1 hp hK;clear hN hl h1 hp hK
    go_simp
    go_at_call 176
    refine (rhalf_any c a _ HC.out HA.out).mono ?_
    rintro e W1 ⟨rfl,hb⟩
    (try dsimp only)
    obtain ⟨hK,hN,hl,h1⟩:=out4 hK' hN' hl' h1'
    obtain ⟨p0,p1,p2,p3,p4,p5,p6,p7,p8,qa0,qa1,qa2,d0_1,d0_2,d1_2⟩:=F'.out
    have g:=g'.out
    refine hK _ _ ⟨by simpa using hl,(upd (upd (upd X 52 (ptv (tim 2 c))) 53 (ptv (tim 2 a))) 54 (ptv (add c a))),rfl,Nat.le_trans hN hb.size,GI.out _ _ (hb.mono hN) g,p0.k,p1.k,p2.k,p3.k,p4.k,p5.k,PV.made rfl,PV.made rfl,PV.made rfl,qa0.keep (by decide) (by decide) (fun _ _ h=>own_below h hb),qa1.keep (by decide) (by decide) (fun _ _ h=>own_below h hb),qa2.keep (by decide) (by decide) (fun _ _ h=>own_below h hb),d0_1.k,d0_2.k,d1_2.k⟩
  · rintro l A W ⟨hl,X,rfl,hN,g,F⟩ h1 hp K hK
    rw [rcbT_eq]
    have g':=hid g
    have F':=hid F;clear F g
    obtain ⟨hN',hl',h1',hp',hK'⟩:=hid5 hN hl h1 hp hK;clear hN hl h1 hp hK
    go_simp
    obtain ⟨hK,hN,hl,h1⟩:=out4 hK' hN' hl' h1'
    obtain ⟨p0,p1,p2,p3,p4,p5,p6,p7,p8,qa0,qa1,qa2,d0_1,d0_2,d1_2⟩:=F'.out
    have g:=g'.out
    refine hK _ _ ⟨by simpa using hl,(upd X 12 (.pointer (some ⟨W.heap.size,0,none⟩))),rfl,(by simp;omega),GI.out _ _ (((Below.refl _ W).alloc (Nat.le_refl _) _).mono hN) g,p0.k,p1.k,p2.k,p3.k,p4.k,p5.k,p6.k,p7.k,p8.k,qa0.made (by decide) (by rw [hl];decide) h1 hN (own_new W (0,0,0) _),qa1.keep (by decide) (by decide) (fun _ _ h=>own_alloc h _),qa2.keep (by decide) (by decide) (fun _ _ h=>own_alloc h _),DD.mk1 qa1 (by decide),DD.mk1 qa2 (by decide),d1_2.k⟩
  · rintro l A W ⟨hl,X,rfl,hN,g,F⟩ h1 hp K hK
    rw [rcbT_eq]
    have g':=hid g
    have F':=hid F;clear F g
    obtain ⟨hN',hl',h1',hp',hK'⟩:=hid5 hN hl h1 hp hK;clear hN hl h1 hp hK
    go_simp
    obtain ⟨hK,hN,hl,h1⟩:=out4 hK' hN' hl' h1'
    obtain ⟨p0,p1,p2,p3,p4,p5,p6,p7,p8,qa0,qa1,qa2,d0_1,d0_2,d1_2⟩:=F'.out
    have g:=g'.out
    refine hK _ _ ⟨by simpa using hl,(upd X 13 (.pointer (some ⟨W.heap.size,0,none⟩))),rfl,(by simp;omega),GI.out _ _ (((Below.refl _ W).alloc (Nat.le_refl _) _).mono hN) g,p0.k,p1.k,p2.k,p3.k,p4.k,p5.k,p6.k,p7.k,p8.k,qa0.keep (by decide) (by decide) (fun _ _ h=>own_alloc h _),qa1.made (by decide) (by rw [hl];decide) h1 hN (own_new W (0,0,0) _),qa2.keep (by decide) (by decide) (fun _ _ h=>own_alloc h _),DD.mk2 qa0 (by decide),d0_2.k,DD.mk1 qa2 (by decide)⟩
  · rintro l A W ⟨hl,X,rfl,hN,g,F⟩ h1 hp K hK
    rw [rcbT_eq]
    have g':=hid g
    have F':=hid F;clear F g
    obtain ⟨hN',hl',h1',hp',hK'⟩:=hid5 hN hl h1 hp hK;clear hN hl h1 hp hK
    go_simp
    obtain ⟨hK,hN,hl,h1⟩:=out4 hK' hN' hl' h1'
    obtain ⟨p0,p1,p2,p3,p4,p5,p6,p7,p8,qa0,qa1,qa2,d0_1,d0_2,d1_2⟩:=F'.out
    have g:=g'.out
    refine hK _ _ ⟨by simpa using hl,(upd X 14 (.pointer (some ⟨W.heap.size,0,none⟩))),rfl,(by simp;omega),GI.out _ _ (((Below.refl _ W).alloc (Nat.le_refl _) _).mono hN) g,p0.k,p1.k,p2.k,p3.k,p4.k,p5.k,p6.k,p7.k,p8.k,qa0.keep (by decide) (by decide) (fun _ _ h=>own_alloc h _),qa1.keep (by decide) (by decide) (fun _ _ h=>own_alloc h _),qa2.made (by decide) (by rw [hl];decide) h1 hN (own_new W (0,0,0) _),d0_1.k,DD.mk2 qa0 (by decide),DD.mk2 qa1 (by decide)⟩
  · rintro l A W ⟨hl,X,rfl,hN,g,F⟩ h1 hp K hK
    have la:=hp ⟨9,.data⟩ (by simp) rfl
    have e2:=F.2.2.1 (hp ⟨2,.data⟩ (by simp) rfl)
    obtain ⟨b',v',e2,hb',ow,_⟩:=F.2.2.2.2.2.2.2.2.2.1.2 la
    obtain ⟨o0,o1,o2,o3,o4,o5,o6⟩:=id ow
    rw [rcbT_eq]
    have g':=hid g
    have F':=hid F;clear F g
    obtain ⟨hN',hl',h1',hp',hK'⟩:=hid5 hN hl h1 hp hK;clear hN hl h1 hp hK
    have la':=hid la;clear la;have hb'':=hid hb';clear hb';have ow':=hid ow;clear ow
    go_simp
    obtain ⟨hK,hN,hl,h1⟩:=out4 hK' hN' hl' h1'
    obtain ⟨p0,p1,p2,p3,p4,p5,p6,p7,p8,qa0,qa1,qa2,d0_1,d0_2,d1_2⟩:=F'.out
    have g:=g'.out
    have la:=la'.out;have hb':=hb''.out;have ow:=ow'.out
    refine hK _ _ ⟨by simpa using hl,(upd (upd X 48 (ptv (add a b))) 12 (.pointer (some ⟨b',0,none⟩))),rfl,(by simpa using hN),GI.out _ _ (below_set3 _ _ _ hb') g,p0.k,p1.k,PV.made rfl,p3.k,p4.k,p5.k,p6.k,p7.k,p8.k,QA.put (by decide) la rfl hb' (own_put ow _),qa1.other (by decide) (by decide) (fun z=>by have dd:=d0_1 la z;rw [e2] at dd;exact dd.symm) (fun _ _ n h=>own_set3 _ _ _ n h),qa2.other (by decide) (by decide) (fun z=>by have dd:=d0_2 la z;rw [e2] at dd;exact dd.symm) (fun _ _ n h=>own_set3 _ _ _ n h),(by have z:=d0_1.keep (i:=12) (by decide) (by decide);rw [e2] at z;exact z),(by have z:=d0_2.keep (i:=12) (by decide) (by decide);rw [e2] at z;exact z),d1_2.k⟩
  · rintro l A W ⟨hl,X,rfl,hN,g,F⟩ h1 hp K hK
    have la:=hp ⟨10,.data⟩ (by simp) rfl
    have e5:=F.2.2.2.2.2.1 (hp ⟨5,.data⟩ (by simp) rfl)
    obtain ⟨b',v',e2,hb',ow,_⟩:=F.2.2.2.2.2.2.2.2.2.2.1.2 la
    obtain ⟨o0,o1,o2,o3,o4,o5,o6⟩:=id ow
    rw [rcbT_eq]
    have g':=hid g
    have F':=hid F;clear F g
    obtain ⟨hN',hl',h1',hp',hK'⟩:=hid5 hN hl h1 hp hK;clear hN hl h1 hp hK
    have la':=hid la;clear la;have hb'':=hid hb';clear hb';have ow':=hid ow;clear ow
    go_simp
    obtain ⟨hK,hN,hl,h1⟩:=out4 hK' hN' hl' h1'
    obtain ⟨p0,p1,p2,p3,p4,p5,p6,p7,p8,qa0,qa1,qa2,d0_1,d0_2,d1_2⟩:=F'.out
    have g:=g'.out
    have la:=la'.out;have hb':=hb''.out;have ow:=ow'.out
    refine hK _ _ ⟨by simpa using hl,(upd (upd X 51 (ptv (add b c))) 13 (.pointer (some ⟨b',0,none⟩))),rfl,(by simpa using hN),GI.out _ _ (below_set3 _ _ _ hb') g,p0.k,p1.k,p2.k,p3.k,p4.k,PV.made rfl,p6.k,p7.k,p8.k,qa0.other (by decide) (by decide) (fun z=>by have dd:=d0_1 z la;rw [e2] at dd;exact dd) (fun _ _ n h=>own_set3 _ _ _ n h),QA.put (by decide) la rfl hb' (own_put ow _),qa2.other (by decide) (by decide) (fun z=>by have dd:=d1_2 la z;rw [e2] at dd;exact dd.symm) (fun _ _ n h=>own_set3 _ _ _ n h),(by have z:=d0_1.keep (i:=13) (by decide) (by decide);rw [e2] at z;exact z),d0_2.k,(by have z:=d1_2.keep (i:=13) (by decide) (by decide);rw [e2] at z;exact z)⟩
  · rintro l A W ⟨hl,X,rfl,hN,g,F⟩ h1 hp K hK
    have la:=hp ⟨11,.data⟩ (by simp) rfl
    have e8:=F.2.2.2.2.2.2.2.2.1 (hp ⟨8,.data⟩ (by simp) rfl)
    obtain ⟨b',v',e2,hb',ow,_⟩:=F.2.2.2.2.2.2.2.2.2.2.2.1.2 la
    obtain ⟨o0,o1,o2,o3,o4,o5,o6⟩:=id ow
    rw [rcbT_eq]
    have g':=hid g
    have F':=hid F;clear F g
    obtain ⟨hN',hl',h1',hp',hK'⟩:=hid5 hN hl h1 hp hK;clear hN hl h1 hp hK
    have la':=hid la;clear la;have hb'':=hid hb';clear hb';have ow':=hid ow;clear ow
    go_simp
    obtain ⟨hK,hN,hl,h1⟩:=out4 hK' hN' hl' h1'
    obtain ⟨p0,p1,p2,p3,p4,p5,p6,p7,p8,qa0,qa1,qa2,d0_1,d0_2,d1_2⟩:=F'.out
    have g:=g'.out
    have la:=la'.out;have hb':=hb''.out;have ow:=ow'.out
    refine hK _ _ ⟨by simpa using hl,(upd (upd X 54 (ptv (add c a))) 14 (.pointer (some ⟨b',0,none⟩))),rfl,(by simpa using hN),GI.out _ _ (below_set3 _ _ _ hb') g,p0.k,p1.k,p2.k,p3.k,p4.k,p5.k,p6.k,p7.k,PV.made rfl,qa0.other (by decide) (by decide) (fun z=>by have dd:=d0_2 z la;rw [e2] at dd;exact dd) (fun _ _ n h=>own_set3 _ _ _ n h),qa1.other (by decide) (by decide) (fun z=>by have dd:=d1_2 z la;rw [e2] at dd;exact dd) (fun _ _ n h=>own_set3 _ _ _ n h),QA.put (by decide) la rfl hb' (own_put ow _),d0_1.k,(by have z:=d0_2.keep (i:=14) (by decide) (by decide);rw [e2] at z;exact z),(by have z:=d1_2.keep (i:=14) (by decide) (by decide);rw [e2] at z;exact z)⟩
theorem rcb_reg (G:World->Prop) (N:Nat) (x y z:Nat) (a b c:P3) {y0 y1 y2 y3 y4 y5 y6 y7 y8 y15 y16 y17 y18 y19 y20 y21 y22 y23 y24 y25 y26 y27 y28 y29 y30 y31 y32 y33 y34 y35 y36 y37 y38 y39 y40 y41 y42 y43 y44 y45 y55 y56 y57 y58 y59 y60 y61 y62 y63 y64 y65 y66 y67 y68 y69 y70 y71 y72 y73 y74 y75 x12 x13 x14 x46 x47 x48 x49 x50 x51 x52 x53 x54:Value} {W:World} {Q:Exit->Act->World->Prop} (HA:Hid (BdP 1000000 a)) (HB:Hid (BdP 1000000 b)) (HC:Hid (BdP 1000000 c)) (GC:Hid (∀ W:World,G W->W.cell? ⟨x,0,none⟩=some (.int .i64 (tim 2 a).1)/\W.cell? ⟨x,1,none⟩=some (.int .i64 (tim 2 a).2.1)/\W.cell? ⟨x,2,none⟩=some (.int .i64 (tim 2 a).2.2)/\W.cell? ⟨y,0,none⟩=some (.int .i64 (tim 2 b).1)/\W.cell? ⟨y,1,none⟩=some (.int .i64 (tim 2 b).2.1)/\W.cell? ⟨y,2,none⟩=some (.int .i64 (tim 2 b).2.2)/\W.cell? ⟨z,0,none⟩=some (.int .i64 (tim 2 c).1)/\W.cell? ⟨z,1,none⟩=some (.int .i64 (tim 2 c).2.1)/\W.cell? ⟨z,2,none⟩=some (.int .i64 (tim 2 c).2.2))) (GI:Hid (∀ W W':World,Below N W W'->G W->G W')) (hN:N<=W.heap.size) (g0:G W.drew)
    (hK:∀ (x46 x47 x48 x49 x50 x51 x52 x53 x54:Value) (b0 b1 b2:Nat) (W':World),N<=W'.heap.size->G W'->N<=b0->Own W' b0 ((add a b))->N<=b1->Own W' b1 ((add b c))->N<=b2->Own W' b2 ((add c a))->Q .normal { tmps:=#[y0,y1,y2,y3,y4,y5,y6,y7,y8,.pointer (some ⟨x,0,none⟩),.pointer (some ⟨y,0,none⟩),.pointer (some ⟨z,0,none⟩),.pointer (some ⟨b0,0,none⟩),.pointer (some ⟨b1,0,none⟩),.pointer (some ⟨b2,0,none⟩),y15,y16,y17,y18,y19,y20,y21,y22,y23,y24,y25,y26,y27,y28,y29,y30,y31,y32,y33,y34,y35,y36,y37,y38,y39,y40,y41,y42,y43,y44,y45,x46,x47,x48,x49,x50,x51,x52,x53,x54,y55,y56,y57,y58,y59,y60,y61,y62,y63,y64,y65,y66,y67,y68,y69,y70,y71,y72,y73,y74,y75],defers:=[] } W') :
    Code.wp Tryz.prog (.region 10 rcbOps true) Q { tmps:=#[y0,y1,y2,y3,y4,y5,y6,y7,y8,.pointer (some ⟨x,0,none⟩),.pointer (some ⟨y,0,none⟩),.pointer (some ⟨z,0,none⟩),x12,x13,x14,y15,y16,y17,y18,y19,y20,y21,y22,y23,y24,y25,y26,y27,y28,y29,y30,y31,y32,y33,y34,y35,y36,y37,y38,y39,y40,y41,y42,y43,y44,y45,x46,x47,x48,x49,x50,x51,x52,x53,x54,y55,y56,y57,y58,y59,y60,y61,y62,y63,y64,y65,y66,y67,y68,y69,y70,y71,y72,y73,y74,y75],defers:=[] } W:=by
  refine wp_region_inv (rcbI G N x y z a b c y0 y1 y2 y3 y4 y5 y6 y7 y8 y15 y16 y17 y18 y19 y20 y21 y22 y23 y24 y25 y26 y27 y28 y29 y30 y31 y32 y33 y34 y35 y36 y37 y38 y39 y40 y41 y42 y43 y44 y45 y55 y56 y57 y58 y59 y60 y61 y62 y63 y64 y65 y66 y67 y68 y69 y70 y71 y72 y73 y74 y75) (by kernel_rfl) ?_ (rcb_steps G N x y z a b c y0 y1 y2 y3 y4 y5 y6 y7 y8 y15 y16 y17 y18 y19 y20 y21 y22 y23 y24 y25 y26 y27 y28 y29 y30 y31 y32 y33 y34 y35 y36 y37 y38 y39 y40 y41 y42 y43 y44 y45 y55 y56 y57 y58 y59 y60 y61 y62 y63 y64 y65 y66 y67 y68 y69 y70 y71 y72 y73 y74 y75 Q HA HB HC GC GI) ?_
  · exact ⟨by simp [rcbOps],fun i=>(#[undef,undef,undef,undef,undef,undef,undef,undef,undef,undef,undef,undef,x12,x13,x14,undef,undef,undef,undef,undef,undef,undef,undef,undef,undef,undef,undef,undef,undef,undef,undef,undef,undef,undef,undef,undef,undef,undef,undef,undef,undef,undef,undef,undef,undef,undef,x46,x47,x48,x49,x50,x51,x52,x53,x54,undef,undef,undef,undef,undef,undef,undef,undef,undef,undef,undef,undef,undef,undef,undef,undef,undef,undef,undef,undef,undef]:Array Value).getD i undef,rfl,hN,g0,PV.nought,PV.nought,PV.nought,PV.nought,PV.nought,PV.nought,PV.nought,PV.nought,PV.nought,QA.nought,QA.nought,QA.nought,DD.nought,DD.nought,DD.nought⟩
  · rintro l A W ⟨hl,X,rfl,hN,g,p0,p1,p2,p3,p4,p5,p6,p7,p8,qa0,qa1,qa2,d0_1,d0_2,d1_2⟩ hr
    unfold rcbOps at hr
    have l0:=ready_end hr 0 (by rw [hl];decide) rfl (fun e he hbn=>by
      simp at he
      (try (repeat (rcases he with rfl|he;· first|assumption|exact absurd hbn (by decide))))
      (try (first|exact he.elim|(subst he;first|assumption|exact absurd hbn (by decide)))))
    have l1:=ready_end hr 1 (by rw [hl];decide) rfl (fun e he hbn=>by
      simp at he
      (try (repeat (rcases he with rfl|he;· first|assumption|exact absurd hbn (by decide))))
      (try (first|exact he.elim|(subst he;first|assumption|exact absurd hbn (by decide)))))
    have l2:=ready_end hr 2 (by rw [hl];decide) rfl (fun e he hbn=>by
      simp at he
      (try (repeat (rcases he with rfl|he;· first|assumption|exact absurd hbn (by decide))))
      (try (first|exact he.elim|(subst he;first|assumption|exact absurd hbn (by decide)))))
    have l3:=ready_end hr 3 (by rw [hl];decide) rfl (fun e he hbn=>by
      simp at he
      (try (repeat (rcases he with rfl|he;· first|assumption|exact absurd hbn (by decide))))
      (try (first|exact he.elim|(subst he;first|assumption|exact absurd hbn (by decide)))))
    have l4:=ready_end hr 4 (by rw [hl];decide) rfl (fun e he hbn=>by
      simp at he
      (try (repeat (rcases he with rfl|he;· first|assumption|exact absurd hbn (by decide))))
      (try (first|exact he.elim|(subst he;first|assumption|exact absurd hbn (by decide)))))
    have l5:=ready_end hr 5 (by rw [hl];decide) rfl (fun e he hbn=>by
      simp at he
      (try (repeat (rcases he with rfl|he;· first|assumption|exact absurd hbn (by decide))))
      (try (first|exact he.elim|(subst he;first|assumption|exact absurd hbn (by decide)))))
    have l6:=ready_end hr 6 (by rw [hl];decide) rfl (fun e he hbn=>by
      simp at he
      (try (repeat (rcases he with rfl|he;· first|assumption|exact absurd hbn (by decide))))
      (try (first|exact he.elim|(subst he;first|assumption|exact absurd hbn (by decide)))))
    have l7:=ready_end hr 7 (by rw [hl];decide) rfl (fun e he hbn=>by
      simp at he
      (try (repeat (rcases he with rfl|he;· first|assumption|exact absurd hbn (by decide))))
      (try (first|exact he.elim|(subst he;first|assumption|exact absurd hbn (by decide)))))
    have l8:=ready_end hr 8 (by rw [hl];decide) rfl (fun e he hbn=>by
      simp at he
      (try (repeat (rcases he with rfl|he;· first|assumption|exact absurd hbn (by decide))))
      (try (first|exact he.elim|(subst he;first|assumption|exact absurd hbn (by decide)))))
    have l9:=ready_end hr 9 (by rw [hl];decide) rfl (fun e he hbn=>by
      simp at he
      (try (repeat (rcases he with rfl|he;· first|assumption|exact absurd hbn (by decide))))
      (try (first|exact he.elim|(subst he;first|assumption|exact absurd hbn (by decide)))))
    have l10:=ready_end hr 10 (by rw [hl];decide) rfl (fun e he hbn=>by
      simp at he
      (try (repeat (rcases he with rfl|he;· first|assumption|exact absurd hbn (by decide))))
      (try (first|exact he.elim|(subst he;first|assumption|exact absurd hbn (by decide)))))
    have l11:=ready_end hr 11 (by rw [hl];decide) rfl (fun e he hbn=>by
      simp at he
      (try (repeat (rcases he with rfl|he;· first|assumption|exact absurd hbn (by decide))))
      (try (first|exact he.elim|(subst he;first|assumption|exact absurd hbn (by decide)))))
    have l12:=ready_end hr 12 (by rw [hl];decide) rfl (fun e he hbn=>by
      simp at he
      (try (repeat (rcases he with rfl|he;· first|assumption|exact absurd hbn (by decide))))
      (try (first|exact he.elim|(subst he;first|assumption|exact absurd hbn (by decide)))))
    have l13:=ready_end hr 13 (by rw [hl];decide) rfl (fun e he hbn=>by
      simp at he
      (try (repeat (rcases he with rfl|he;· first|assumption|exact absurd hbn (by decide))))
      (try (first|exact he.elim|(subst he;first|assumption|exact absurd hbn (by decide)))))
    have l14:=ready_end hr 14 (by rw [hl];decide) rfl (fun e he hbn=>by
      simp at he
      (try (repeat (rcases he with rfl|he;· first|assumption|exact absurd hbn (by decide))))
      (try (first|exact he.elim|(subst he;first|assumption|exact absurd hbn (by decide)))))
    obtain ⟨b0,v0,e0x,n0,o0,t0⟩:=qa0.2 l9
    obtain rfl:=t0 l12
    obtain ⟨b1,v1,e1x,n1,o1,t1⟩:=qa1.2 l10
    obtain rfl:=t1 l13
    obtain ⟨b2,v2,e2x,n2,o2,t2⟩:=qa2.2 l11
    obtain rfl:=t2 l14
    have z:=hK (X 46) (X 47) (X 48) (X 49) (X 50) (X 51) (X 52) (X 53) (X 54) b0 b1 b2 W hN g n0 o0 n1 o1 n2 o2
    rw [← e0x,← e1x,← e2x] at z
    exact z
theorem tim_bd9 {q:P3} (h:BdP 1000000 q):BdP 4611686018427387904 (tim 2 q):=by
  simp only [BdP,tim] at h ⊢
  omega
theorem rcut_any (d:Nat) (D:Int) (t:P9) (w:World) (hD:D=(d:Int)) (hd:d<=3) (hB:BdT 64 t) :
    Calls Tryz.prog 118 #[p9w t,.int .i64 D] w fun e w'=>∃ v,e=.returned v/\w'.ownsRow w.heap.size 77 9 v (4 ^ d) (pcs (cutP d t))/\Below w.heap.size w w':=by
  subst hD
  obtain ⟨i0,hi,hz0,hz1,hz2⟩:=info_parts infoPn9
  have HI:=hid hi
  have HZ0:=hid hz0
  have HZ1:=hid hz1
  have HZ2:=hid hz2
  have P:=hid (pan_new w t.1 t.2.1 t.2.2 77)
  have OW:=World.ownsRow_lit (base:=w.heap.size) (e:=77) (size:=9) (w.alloc (pnc t.1 t.2.1 t.2.2 77)) (pcs9 t).toArray 1 (by simp) (by unfold maxLen;omega) rfl
  rw [World.size_alloc] at OW
  have OW':=hid (show World.ownsRow ((w.alloc (pnc t.1 t.2.1 t.2.2 77)).alloc (.cells (pcs9 t).toArray 77)) w.heap.size 77 9 (.slice (some ⟨w.heap.size+1,0,none⟩) 1 1) (4 ^ 0) (pcs (cutP 0 t)) by (show World.ownsRow _ _ _ _ _ _ (pcs9 t ++ []));rw [List.append_nil];exact OW)
  have B0:=hid (show Below w.heap.size w ((w.alloc (pnc t.1 t.2.1 t.2.2 77)).alloc (.cells (pcs9 t).toArray 77)) from ((Below.refl _ w).alloc (Nat.le_refl _) _).alloc (by simp) _)
  have HB:=hid (fun k (h:k<=2) q (hq:q ∈ cutP k t)=>(cutP_bd k hB q hq).mono (B:=1000000) (by
    have:k=0∨k=1∨k=2:=by omega
    rcases this with rfl|rfl|rfl<;>decide))
  clear hi hz0 hz1 hz2 hB OW
  go_enter Tryz.func118,Tryz.ntmps118
  obtain ⟨c0,c1,c2,c3,c4,c5,c6,c7,c8,cl⟩:=P.out
  go_wp2
  go_loopw [5,6] (fun lv kv wr=>∃ k:Nat,k<=d/\kv=.int .i64 k/\wr.ownsRow w.heap.size 77 9 lv (4 ^ k) (pcs (cutP k t))/\Below w.heap.size w wr) (fun _ kv _=>d - (intOf kv).toNat)
  case atStart=>exact ⟨0,Nat.zero_le _,rfl,OW'.out,B0.out⟩
  case round =>
    obtain ⟨k,hk,rfl,how,hbb⟩:=hrel
    have HOW:=hid how
    have BK:=hid hbb
    clear how hbb OW' B0 P c0 c1 c2 c3 c4 c5 c6 c7 c8 cl
    by_cases hlt:k<d
    · have hk1:(k:Int)<(d:Int):=by omega
      have hk0:0<=(k:Int):=by omega
      have hk2:k<=2:=by omega
      obtain ⟨L,hL⟩:∃ L,cutP k t=L:=⟨_,rfl⟩
      have hlen:L.length=4 ^ k:=by rw [← hL];exact cutP_len k t
      have hp4:0<4 ^ k:=Nat.pow_pos (by decide)
      have hle:4 ^ k<=16:=by
        have:k=0∨k=1∨k=2:=by omega
        rcases this with rfl|rfl|rfl<;>decide
      have HBk:=hid (fun i (hi:i<4 ^ k)=>HB.out k hk2 (L.getD i ((0,0,0),(0,0,0),(0,0,0))) (by
        rw [List.getD_eq_getElem?_getD,List.getElem?_eq_getElem (by rw [hlen];exact hi),hL]
        exact List.getElem_mem _))
      have NX:=hid (fun i (hi:i<4 ^ k)=>take_next (l:=L) (k:=i) (by rw [hlen];exact hi))
      have FI:=hid (show pcs ((L.take (4 ^ k)).flatMap qrs)=pcs (cutP (k+1) t) by rw [← hlen,List.take_length,cutP_last,hL])
      have P4:=hid (show 4*4 ^ k=4 ^ (k+1) by rw [Nat.pow_succ];omega)
      have HOL:=HOW.out
      rw [hL] at HOL
      obtain ⟨g,off,cap,rfl,hrow⟩:=own_row9 HOL hlen hp4
      have hg:g<wr.heap.size:=hrow.1
      have R:=hid hrow
      generalize hm:4 ^ k=m at *
      clear HOL HOW hrow hL hlen HB
      generalize wr=w2 at *
      go_wp2
      go_loopw [7,8] (fun sv kv wr=>∃ i:Nat,i<=m/\kv=.int .i64 i/\wr.ownsRow w2.heap.size 77 9 sv (4*i) (pcs ((L.take i).flatMap qrs))/\Below w2.heap.size w2 wr) (fun _ kv _=>m - (intOf kv).toNat)
      case atStart=>exact ⟨0,Nat.zero_le _,rfl,World.ownsRow_nil _ _ _ _,Below.refl _ _⟩
      case round =>
        obtain ⟨i,hi,rfl,how,hbb⟩:=hrel
        have OW:=hid how
        have BB:=hid hbb
        clear how hbb
        by_cases hil:i<m
        · have hi1:(i:Int)<(m:Int):=by omega
          have NXk:=hid (NX.out i hil)
          have RK:=hid (fun (W:World) (h:Below w2.heap.size w2 W)=>(rowP_in R.out h hg).2 i hil)
          have HBi:=hid (HBk.out i hil)
          have szw:=BB.out.size
          dsimp only at RK
          obtain ⟨q,hq⟩:∃ q,L.getD i ((0,0,0),(0,0,0),(0,0,0))=q:=⟨_,rfl⟩
          rw [hq] at RK NXk HBi
          clear hq NX HBk
          have GI0:=hid (show (GIp w2 wr.heap.size u7 (4*i) (pcs ((L.take i).flatMap qrs))) wr from ⟨BB.out,OW.out,fun g h=>(OW.out.lt g h).2⟩)
          go_wp2_with fail
          rename_i K8 hK8
          have HK8:=hid hK8
          clear hK8
          refine rca_reg (GIp w2 wr.heap.size u7 (4*i) (pcs ((L.take i).flatMap qrs))) wr.heap.size g off m cap i q (hid ((tim_bd9 HBi.out.1))) (hid (tim_bd9 HBi.out.2.1)) (hid (tim_bd9 HBi.out.2.2)) (hid ⟨hi1,by omega⟩) (hid fun W h=>RK.out W h.1) (hid fun W W' hb h=>gip_in h szw hb) (Nat.le_refl _) (gip_drew GI0.out) ?_
          intro x28 x29 x30 x31 x32 x33 x34 x35 x36 x37 x38 x39 x40 x41 x42 x43 x44 x45 x y z w3 hN3 g3 nx ox ny oy nz oz
          have O3:=hid (show Own w3 x (tim 2 q.1)/\Own w3 y (tim 2 q.2.1)/\Own w3 z (tim 2 q.2.2) from ⟨ox,oy,oz⟩)
          have g3':=hid g3
          clear g3 ox oy oz RK GI0
          refine HK8.out _ _ ?_
          clear HK8
          go_wp2_with fail
          rename_i K9 hK9
          have HK9:=hid hK9
          clear hK9
          have L3:x<w3.heap.size/\y<w3.heap.size/\z<w3.heap.size:=⟨O3.out.1.2.2.2.2.2.2,O3.out.2.1.2.2.2.2.2.2,O3.out.2.2.2.2.2.2.2.2⟩
          refine rcb_reg (fun W=>(GIp w2 wr.heap.size u7 (4*i) (pcs ((L.take i).flatMap qrs))) W/\Own W x (tim 2 q.1)/\Own W y (tim 2 q.2.1)/\Own W z (tim 2 q.2.2)) w3.heap.size x y z q.1 q.2.1 q.2.2 (hid HBi.out.1) (hid HBi.out.2.1) (hid HBi.out.2.2) (hid fun W h=>⟨h.2.1.1,h.2.1.2.1,h.2.1.2.2.1,h.2.2.1.1,h.2.2.1.2.1,h.2.2.1.2.2.1,h.2.2.2.1,h.2.2.2.2.1,h.2.2.2.2.2.1⟩) (hid fun W W' hb h=>⟨gip_in h.1 szw (hb.mono hN3),own_in' h.2.1 hb L3.1,own_in' h.2.2.1 hb L3.2.1,own_in' h.2.2.2 hb L3.2.2⟩) (Nat.le_refl _) ⟨gip_drew g3'.out,own_drew O3.out.1,own_drew O3.out.2.1,own_drew O3.out.2.2⟩ ?_
          intro x46 x47 x48 x49 x50 x51 x52 x53 x54 x' y' z' w4 hN4 g4 nx' ox' ny' oy' nz' oz'
          have SX0:=hid (show SX w4 x y z x' y' z' (tim 2 q.1) (tim 2 q.2.1) (tim 2 q.2.2) (add q.1 q.2.1) (add q.2.1 q.2.2) (add q.2.2 q.1) from ⟨g4.2,ox',oy',oz'⟩)
          have g4':=hid g4.1
          have sz4:wr.heap.size<=w4.heap.size:=Nat.le_trans hN3 hN4
          clear g4 ox' oy' oz' g3' O3
          refine HK9.out _ _ ?_
          clear HK9
          have OW4:=hid g4'.out.2.1
          obtain ⟨s0,s1,s2,s3,s4,s5,s6,s7,s8,s9,sa,sb,sc,sd,se,sf,sg,sh⟩:=sx_cells SX0.out
          go_wp2_with (at_builtin;(refine wpList_append_own _ rfl _ _ 74 rfl w2.heap.size 77 i0 (.agg #[.int .i64 0,.int .i64 0,.int .i64 0,.int .i64 0,.int .i64 0,.int .i64 0,.int .i64 0,.int .i64 0,.int .i64 0]) 9 72 Tryz.underlying74 HI.out HZ0.out HZ1.out HZ2.out rfl (by decide) _ (4*i) _ rfl (OW4.out.alloc _) ⟨w4.heap.size,0,none⟩ 4 4 (pcs (qrs q)) rfl rfl (lit_src _ (pcs (qrs q)) _ (by show 36<=maxLen;decide)) (pcs_one _) (by unfold maxLen;omega) (by omega) (by simp;omega) ?_);intro v' w5 hown' hgrow _;have OW5:=hid hown';have GR:=hid hgrow;clear hown' hgrow)
          have BG:=hid (((g4'.out.1).alloc (Nat.le_trans szw sz4) _).grown GR.out (by simp;omega) (fun gg hg=>(OW4.out.lt gg hg).1))
          clear s0 s1 s2 s3 s4 s5 s6 s7 s8 s9 sa sb sc sd se sf sg sh
          go_roundw
          case rel=>exact ⟨i+1,by omega,by go_num,by rw [show 4*(i+1)=4*i+4 by omega,NXk.out,pcs_app];exact OW5.out,BG.out⟩
          case measure=>simp [intOf];omega
        · obtain rfl:i=m:=by omega
          go_wp2_with fail
          go_roundw
          case rel =>
            have z:=own_base9 OW.out BK.out.size
            rw [FI.out,P4.out] at z
            exact ⟨k+1,by omega,by go_num,z,BK.out.trans (BB.out.mono BK.out.size)⟩
          case measure=>simp [intOf];omega
    · obtain rfl:k=d:=by omega
      go_wp2
      go_ret
      exact ⟨_,rfl,HOW.out,BK.out⟩
theorem owp_in {w w1:World} {N b:Nat} {p:Int × Int} (h:OwP w b p) (hb:Below N w w1) (hN:b<N):OwP w1 b p:=by
  obtain ⟨h1,h2,h3,h4,h5⟩:=h
  exact ⟨(hb.cell (p:=⟨b,0,none⟩) hN).trans h1,(hb.cell (p:=⟨b,1,none⟩) hN).trans h2,(hb.frozen (p:=⟨b,0,none⟩) hN).trans h3,(hb.frozen (p:=⟨b,1,none⟩) hN).trans h4,Nat.lt_of_lt_of_le h5 hb.size⟩
theorem bjoin {w u v:World} (h:Below w.heap.size w u) (k:Below u.heap.size u v):Below w.heap.size w v:=h.trans (k.mono h.size)
theorem fl_ptn {D a:Int} (h0:0<=D) (h3:D<=3):Sp.fl a (ptn D:Int)=a / (ptn D:Int)/\Sp.ce a (ptn D:Int)=(a+(ptn D:Int) - 1) / (ptn D:Int):=by
  have hn:=(ptn_vals h0 h3).1
  have hd:D.toNat=0∨D.toNat=1∨D.toNat=2∨D.toNat=3:=by omega
  have hv:ptn D=1∨ptn D=4∨ptn D=16∨ptn D=64:=by
    unfold ptn
    rcases hd with e|e|e|e<;>rw [e]<;>decide
  unfold Sp.ce Sp.fl
  rw [if_pos (by omega),if_pos (by omega)]
  refine ⟨rfl,?_⟩
  rcases hv with e|e|e|e<;>rw [e]<;>omega
theorem rparts_row {t:P9} {D:Int} {w w':World} {v:Value} (h:w'.ownsRow w.heap.size 77 9 v (4 ^ D.toNat) (pcs (cutP D.toNat t))):∃ g off cap,v=.slice (some ⟨g,off,none⟩) (ptn D) cap/\RowP w' g off (ptn D) (ptk t D) :=
  own_row9 h (cutP_len _ _) (Nat.pow_pos (by decide))
end Go.Proofs.YtbcjiigmbcfkeaaGreat
