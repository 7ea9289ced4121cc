/-
  Stage 7: two panels that see each other in the document's Potentials.
  Stage 7: the document's Potentials.
-/
import Derived.Test.YtbcjiigmbcfkeaaGreatHo17
import Derived.Test.YtbcjiigmbcfkeaaGreatFgMb
import Derived.Test.YtbcjiigmbcfkeaaGreatFgMi
namespace Go.Proofs.YtbcjiigmbcfkeaaGreat
open Go.Lib (hid)
set_option maxRecDepth 100000
set_option maxHeartbeats 4000000
open Go.ChangeShapes Go.WideShapes Go.RowKit
open Sh
def hprOps : Array Oper := #[⟨some 40,.move (.tmp 9),74,"ref.go:77",#[],none⟩,⟨some 41,.move (.tmp 13),3,"ref.go:77",#[],none⟩,⟨some 42,.indexAddr 74 (.tmp 40) (.tmp 41),0,"ref.go:77",#[⟨0,.data⟩,⟨1,.data⟩],none⟩,⟨some 43,.load 77 (.tmp 42),77,"ref.go:77",#[⟨2,.data⟩],none⟩,⟨some 44,.move (.tmp 9),74,"ref.go:77",#[],none⟩,⟨some 45,.move (.tmp 11),3,"ref.go:77",#[],none⟩,⟨some 46,.indexAddr 74 (.tmp 44) (.tmp 45),0,"ref.go:77",#[⟨4,.data⟩,⟨5,.data⟩],none⟩,⟨some 47,.load 77 (.tmp 46),77,"ref.go:77",#[⟨6,.data⟩],none⟩,⟨some 48,.move (.tmp 2),3,"ref.go:77",#[],none⟩,⟨some 49,.call ⟨.value (.func 59),#[.tmp 43,.tmp 47,.tmp 48],#[77,77,3]⟩,40,"ref.go:77",#[⟨3,.data⟩,⟨7,.data⟩,⟨8,.data⟩],none⟩,⟨some 39,.move (.tmp 49),40,"ref.go:77",#[⟨9,.data⟩],none⟩,⟨some 50,.extract (.tmp 39) 0,39,"ref.go:77",#[⟨10,.data⟩],none⟩,⟨some 51,.extract (.tmp 39) 1,29,"ref.go:77",#[⟨10,.data⟩,⟨14,.gcOnly .lateStores⟩],none⟩,⟨some 14,.alloc 39,0,"ref.go:77",#[],none⟩,⟨none,.store 39 (.tmp 14) (.tmp 50),0,"ref.go:77",#[⟨13,.data⟩,⟨11,.data⟩,⟨9,.chain⟩,⟨0,.phase⟩,⟨1,.phase⟩,⟨2,.phase⟩,⟨3,.phase⟩,⟨4,.phase⟩,⟨5,.phase⟩,⟨6,.phase⟩,⟨7,.phase⟩,⟨8,.phase⟩,⟨9,.phase⟩,⟨10,.phase⟩,⟨11,.phase⟩,⟨12,.textOnly .lateStores⟩,⟨13,.phase⟩],none⟩,⟨some 15,.assign (.tmp 51),29,"ref.go:77",#[⟨12,.data⟩,⟨14,.chain⟩,⟨0,.phase⟩,⟨1,.phase⟩,⟨2,.phase⟩,⟨3,.phase⟩,⟨4,.phase⟩,⟨5,.phase⟩,⟨6,.phase⟩,⟨7,.phase⟩,⟨8,.phase⟩,⟨9,.phase⟩,⟨10,.phase⟩,⟨11,.phase⟩,⟨12,.phase⟩,⟨13,.phase⟩,⟨14,.phase⟩],none⟩]
def hprT (u:Nat) (n:Nat) (cap:Nat) (ki:Nat) (kj:Nat) (D:Int) (y0 y1 y3 y4 y5 y6 y7 y8 y10 y12 y16 y17 y18 y19 y20 y21 y22 y23 y24 y25 y26 y27 y28 y29 y30 y31 y32 y33 y34 y35 y36 y37 y38 y52 y53 y54 y55 y56 y57 y58 y59 y60 y61 y62 y63 y64 y65 y66 y67 y68 y69 y70 y71 y72 y73 y74 y75 y76 y77 y78 y79 y80 y81 y82 y83:Value) (X:Nat->Value):Array Value:=#[y0,y1,.int .i64 D,y3,y4,y5,y6,y7,y8,.slice (some ⟨u,0,none⟩) n cap,y10,.int .i64 kj,y12,.int .i64 ki,X 14,X 15,y16,y17,y18,y19,y20,y21,y22,y23,y24,y25,y26,y27,y28,y29,y30,y31,y32,y33,y34,y35,y36,y37,y38,X 39,X 40,X 41,X 42,X 43,X 44,X 45,X 46,X 47,X 48,X 49,X 50,X 51,y52,y53,y54,y55,y56,y57,y58,y59,y60,y61,y62,y63,y64,y65,y66,y67,y68,y69,y70,y71,y72,y73,y74,y75,y76,y77,y78,y79,y80,y81,y82,y83]
theorem hprT_eq (u:Nat) (n:Nat) (cap:Nat) (ki:Nat) (kj:Nat) (D:Int) (y0 y1 y3 y4 y5 y6 y7 y8 y10 y12 y16 y17 y18 y19 y20 y21 y22 y23 y24 y25 y26 y27 y28 y29 y30 y31 y32 y33 y34 y35 y36 y37 y38 y52 y53 y54 y55 y56 y57 y58 y59 y60 y61 y62 y63 y64 y65 y66 y67 y68 y69 y70 y71 y72 y73 y74 y75 y76 y77 y78 y79 y80 y81 y82 y83:Value) (X:Nat->Value):hprT u n cap ki kj D y0 y1 y3 y4 y5 y6 y7 y8 y10 y12 y16 y17 y18 y19 y20 y21 y22 y23 y24 y25 y26 y27 y28 y29 y30 y31 y32 y33 y34 y35 y36 y37 y38 y52 y53 y54 y55 y56 y57 y58 y59 y60 y61 y62 y63 y64 y65 y66 y67 y68 y69 y70 y71 y72 y73 y74 y75 y76 y77 y78 y79 y80 y81 y82 y83 X=#[y0,y1,.int .i64 D,y3,y4,y5,y6,y7,y8,.slice (some ⟨u,0,none⟩) n cap,y10,.int .i64 kj,y12,.int .i64 ki,X 14,X 15,y16,y17,y18,y19,y20,y21,y22,y23,y24,y25,y26,y27,y28,y29,y30,y31,y32,y33,y34,y35,y36,y37,y38,X 39,X 40,X 41,X 42,X 43,X 44,X 45,X 46,X 47,X 48,X 49,X 50,X 51,y52,y53,y54,y55,y56,y57,y58,y59,y60,y61,y62,y63,y64,y65,y66,y67,y68,y69,y70,y71,y72,y73,y74,y75,y76,y77,y78,y79,y80,y81,y82,y83]:=rfl
def hprI (G:World->Prop) (N:Nat) (u n cap ki kj:Nat) (p q:P9) (D:Int) (r:Sp.R) (y0 y1 y3 y4 y5 y6 y7 y8 y10 y12 y16 y17 y18 y19 y20 y21 y22 y23 y24 y25 y26 y27 y28 y29 y30 y31 y32 y33 y34 y35 y36 y37 y38 y52 y53 y54 y55 y56 y57 y58 y59 y60 y61 y62 y63 y64 y65 y66 y67 y68 y69 y70 y71 y72 y73 y74 y75 y76 y77 y78 y79 y80 y81 y82 y83:Value) (l:Array Bool) (A:Act) (W:World):Prop :=
  l.size=16/\∃ X:Nat->Value,A={ tmps:=hprT u n cap ki kj D y0 y1 y3 y4 y5 y6 y7 y8 y10 y12 y16 y17 y18 y19 y20 y21 y22 y23 y24 y25 y26 y27 y28 y29 y30 y31 y32 y33 y34 y35 y36 y37 y38 y52 y53 y54 y55 y56 y57 y58 y59 y60 y61 y62 y63 y64 y65 y66 y67 y68 y69 y70 y71 y72 y73 y74 y75 y76 y77 y78 y79 y80 y81 y82 y83 X,defers:=[] }/\N<=W.heap.size/\G W/\PV l 0 (X 40) (.slice (some ⟨u,0,none⟩) n cap)/\PV l 1 (X 41) (.int .i64 ki)/\PV l 2 (X 42) (.pointer (some ⟨u,ki*9,none⟩))/\PV l 3 (X 43) (pnv p.1 p.2.1 p.2.2)/\PV l 4 (X 44) (.slice (some ⟨u,0,none⟩) n cap)/\PV l 5 (X 45) (.int .i64 kj)/\PV l 6 (X 46) (.pointer (some ⟨u,kj*9,none⟩))/\PV l 7 (X 47) (pnv q.1 q.2.1 q.2.2)/\PV l 8 (X 48) (.int .i64 D)/\PV l 9 (X 49) (spr r)/\PV l 10 (X 39) (spr r)/\PV l 11 (X 50) (.agg #[.int .i64 r.1.1,.int .i64 r.1.2])/\PV l 12 (X 51) (.int .i64 r.2)/\PV l 15 (X 15) (.int .i64 r.2)/\QX OwP l W (X 14) 13 14 N (r.1)
theorem hpr_steps (G:World->Prop) (N:Nat) (u n cap ki kj:Nat) (p q:P9) (D:Int) (r:Sp.R) (y0 y1 y3 y4 y5 y6 y7 y8 y10 y12 y16 y17 y18 y19 y20 y21 y22 y23 y24 y25 y26 y27 y28 y29 y30 y31 y32 y33 y34 y35 y36 y37 y38 y52 y53 y54 y55 y56 y57 y58 y59 y60 y61 y62 y63 y64 y65 y66 y67 y68 y69 y70 y71 y72 y73 y74 y75 y76 y77 y78 y79 y80 y81 y82 y83:Value) (Q:Exit->Act->World->Prop) (HKi:Hid ((ki:Int)<(n:Int)/\0<=(ki:Int))) (HKj:Hid ((kj:Int)<(n:Int)/\0<=(kj:Int))) (SC:Hid (∀ W,Calls Tryz.prog 59 #[pnv p.1 p.2.1 p.2.2,pnv q.1 q.2.1 q.2.2,.int .i64 D] W fun e w'=>e=.returned (spr r)/\Below W.heap.size W w')) (GC:Hid (∀ W:World,G W->W.cell? ⟨u,ki*9,none⟩=some (.int .i64 p.1.1)/\W.cell? ⟨u,ki*9+1,none⟩=some (.int .i64 p.1.2.1)/\W.cell? ⟨u,ki*9+1+1,none⟩=some (.int .i64 p.1.2.2)/\W.cell? ⟨u,ki*9+1+1+1,none⟩=some (.int .i64 p.2.1.1)/\W.cell? ⟨u,ki*9+1+1+1+1,none⟩=some (.int .i64 p.2.1.2.1)/\W.cell? ⟨u,ki*9+1+1+1+1+1,none⟩=some (.int .i64 p.2.1.2.2)/\W.cell? ⟨u,ki*9+1+1+1+1+1+1,none⟩=some (.int .i64 p.2.2.1)/\W.cell? ⟨u,ki*9+1+1+1+1+1+1+1,none⟩=some (.int .i64 p.2.2.2.1)/\W.cell? ⟨u,ki*9+1+1+1+1+1+1+1+1,none⟩=some (.int .i64 p.2.2.2.2)/\W.cell? ⟨u,kj*9,none⟩=some (.int .i64 q.1.1)/\W.cell? ⟨u,kj*9+1,none⟩=some (.int .i64 q.1.2.1)/\W.cell? ⟨u,kj*9+1+1,none⟩=some (.int .i64 q.1.2.2)/\W.cell? ⟨u,kj*9+1+1+1,none⟩=some (.int .i64 q.2.1.1)/\W.cell? ⟨u,kj*9+1+1+1+1,none⟩=some (.int .i64 q.2.1.2.1)/\W.cell? ⟨u,kj*9+1+1+1+1+1,none⟩=some (.int .i64 q.2.1.2.2)/\W.cell? ⟨u,kj*9+1+1+1+1+1+1,none⟩=some (.int .i64 q.2.2.1)/\W.cell? ⟨u,kj*9+1+1+1+1+1+1+1,none⟩=some (.int .i64 q.2.2.2.1)/\W.cell? ⟨u,kj*9+1+1+1+1+1+1+1+1,none⟩=some (.int .i64 q.2.2.2.2))) (GI:Hid (∀ W W':World,Below N W W'->G W->G W')) :
    allOps (fun i o=>∀ (l:Array Bool) (A:Act) (W:World),hprI G N u n cap ki kj p q D r y0 y1 y3 y4 y5 y6 y7 y8 y10 y12 y16 y17 y18 y19 y20 y21 y22 y23 y24 y25 y26 y27 y28 y29 y30 y31 y32 y33 y34 y35 y36 y37 y38 y52 y53 y54 y55 y56 y57 y58 y59 y60 y61 y62 y63 y64 y65 y66 y67 y68 y69 y70 y71 y72 y73 y74 y75 y76 y77 y78 y79 y80 y81 y82 y83 l A W->l.getD i true=false->(∀ e ∈ o.after,Region.binds .any e=true->l.getD e.on false=true)->∀ K':Act->World->Prop,(∀ A' W',hprI G N u n cap ki kj p q D r y0 y1 y3 y4 y5 y6 y7 y8 y10 y12 y16 y17 y18 y19 y20 y21 y22 y23 y24 y25 y26 y27 y28 y29 y30 y31 y32 y33 y34 y35 y36 y37 y38 y52 y53 y54 y55 y56 y57 y58 y59 y60 y61 y62 y63 y64 y65 y66 y67 y68 y69 y70 y71 y72 y73 y74 y75 y76 y77 y78 y79 y80 y81 y82 y83 (l.setIfInBounds i true) A' W'->K' A' W')->if Region.wanted o (yielded hprOps A.tmps)=true then Oper.wp Tryz.prog o A W K' Q else K' (A.put o.dst undef) W) 0 hprOps.toList:=by
  simp only [hprOps,allOps]
  refine ⟨?_,?_,?_,?_,?_,?_,?_,?_,?_,?_,?_,?_,?_,?_,?_,?_,trivial⟩
  · rintro l A W ⟨hl,X,rfl,hN,g,F⟩ h1 hp K hK
    rw [hprT_eq]
    have g':=hid g
    have F':=hid F;clear F g
    obtain ⟨hN',hl',h1',hp',hK'⟩:=hid5 hN hl h1 hp hK;clear hN hl h1 hp hK
    go_simp
    obtain ⟨hK,hN,hl,h1⟩:=out4 hK' hN' hl' h1'
    obtain ⟨p0,p1,p2,p3,p4,p5,p6,p7,p8,p9,p10,p11,p12,p15,qa0⟩:=F'.out
    have g:=g'.out
    refine hK _ _ ⟨by simpa using hl,(upd X 40 (.slice (some ⟨u,0,none⟩) n cap)),rfl,hN,g,PV.made rfl,p1.k,p2.k,p3.k,p4.k,p5.k,p6.k,p7.k,p8.k,p9.k,p10.k,p11.k,p12.k,p15.k,qa0.keep (by decide) (by decide) (fun _ _ h=>h)⟩
  · rintro l A W ⟨hl,X,rfl,hN,g,F⟩ h1 hp K hK
    rw [hprT_eq]
    have g':=hid g
    have F':=hid F;clear F g
    obtain ⟨hN',hl',h1',hp',hK'⟩:=hid5 hN hl h1 hp hK;clear hN hl h1 hp hK
    go_simp
    obtain ⟨hK,hN,hl,h1⟩:=out4 hK' hN' hl' h1'
    obtain ⟨p0,p1,p2,p3,p4,p5,p6,p7,p8,p9,p10,p11,p12,p15,qa0⟩:=F'.out
    have g:=g'.out
    refine hK _ _ ⟨by simpa using hl,(upd X 41 (.int .i64 ki)),rfl,hN,g,p0.k,PV.made rfl,p2.k,p3.k,p4.k,p5.k,p6.k,p7.k,p8.k,p9.k,p10.k,p11.k,p12.k,p15.k,qa0.keep (by decide) (by decide) (fun _ _ h=>h)⟩
  · rintro l A W ⟨hl,X,rfl,hN,g,F⟩ h1 hp K hK
    have e0:=F.1 (hp ⟨0,.data⟩ (by simp) rfl)
    have e1:=F.2.1 (hp ⟨1,.data⟩ (by simp) rfl)
    obtain ⟨hk1,hk2⟩:=HKi.out
    rw [hprT_eq]
    have g':=hid g
    have F':=hid F;clear F g
    obtain ⟨hN',hl',h1',hp',hK'⟩:=hid5 hN hl h1 hp hK;clear hN hl h1 hp hK
    go_simp
    obtain ⟨hK,hN,hl,h1⟩:=out4 hK' hN' hl' h1'
    obtain ⟨p0,p1,p2,p3,p4,p5,p6,p7,p8,p9,p10,p11,p12,p15,qa0⟩:=F'.out
    have g:=g'.out
    refine hK _ _ ⟨by simpa using hl,(upd (upd (upd X 40 (.slice (some ⟨u,0,none⟩) n cap)) 41 (.int .i64 ki)) 42 (.pointer (some ⟨u,ki*9,none⟩))),rfl,hN,g,PV.made rfl,PV.made rfl,PV.made rfl,p3.k,p4.k,p5.k,p6.k,p7.k,p8.k,p9.k,p10.k,p11.k,p12.k,p15.k,qa0.keep (by decide) (by decide) (fun _ _ h=>h)⟩
  · rintro l A W ⟨hl,X,rfl,hN,g,F⟩ h1 hp K hK
    have e2:=F.2.2.1 (hp ⟨2,.data⟩ (by simp) rfl)
    obtain ⟨c0,c1,c2,c3,c4,c5,c6,c7,c8,c9,c10,c11,c12,c13,c14,c15,c16,c17⟩:=GC.out W g
    rw [hprT_eq]
    have g':=hid g
    have F':=hid F;clear F g
    obtain ⟨hN',hl',h1',hp',hK'⟩:=hid5 hN hl h1 hp hK;clear hN hl h1 hp hK
    go_simp
    obtain ⟨hK,hN,hl,h1⟩:=out4 hK' hN' hl' h1'
    obtain ⟨p0,p1,p2,p3,p4,p5,p6,p7,p8,p9,p10,p11,p12,p15,qa0⟩:=F'.out
    have g:=g'.out
    refine hK _ _ ⟨by simpa using hl,(upd (upd X 42 (.pointer (some ⟨u,ki*9,none⟩))) 43 (pnv p.1 p.2.1 p.2.2)),rfl,hN,g,p0.k,p1.k,PV.made rfl,PV.made rfl,p4.k,p5.k,p6.k,p7.k,p8.k,p9.k,p10.k,p11.k,p12.k,p15.k,qa0.keep (by decide) (by decide) (fun _ _ h=>h)⟩
  · rintro l A W ⟨hl,X,rfl,hN,g,F⟩ h1 hp K hK
    rw [hprT_eq]
    have g':=hid g
    have F':=hid F;clear F g
    obtain ⟨hN',hl',h1',hp',hK'⟩:=hid5 hN hl h1 hp hK;clear hN hl h1 hp hK
    go_simp
    obtain ⟨hK,hN,hl,h1⟩:=out4 hK' hN' hl' h1'
    obtain ⟨p0,p1,p2,p3,p4,p5,p6,p7,p8,p9,p10,p11,p12,p15,qa0⟩:=F'.out
    have g:=g'.out
    refine hK _ _ ⟨by simpa using hl,(upd X 44 (.slice (some ⟨u,0,none⟩) n cap)),rfl,hN,g,p0.k,p1.k,p2.k,p3.k,PV.made rfl,p5.k,p6.k,p7.k,p8.k,p9.k,p10.k,p11.k,p12.k,p15.k,qa0.keep (by decide) (by decide) (fun _ _ h=>h)⟩
  · rintro l A W ⟨hl,X,rfl,hN,g,F⟩ h1 hp K hK
    rw [hprT_eq]
    have g':=hid g
    have F':=hid F;clear F g
    obtain ⟨hN',hl',h1',hp',hK'⟩:=hid5 hN hl h1 hp hK;clear hN hl h1 hp hK
    go_simp
    obtain ⟨hK,hN,hl,h1⟩:=out4 hK' hN' hl' h1'
    obtain ⟨p0,p1,p2,p3,p4,p5,p6,p7,p8,p9,p10,p11,p12,p15,qa0⟩:=F'.out
    have g:=g'.out
    refine hK _ _ ⟨by simpa using hl,(upd X 45 (.int .i64 kj)),rfl,hN,g,p0.k,p1.k,p2.k,p3.k,p4.k,PV.made rfl,p6.k,p7.k,p8.k,p9.k,p10.k,p11.k,p12.k,p15.k,qa0.keep (by decide) (by decide) (fun _ _ h=>h)⟩
  · rintro l A W ⟨hl,X,rfl,hN,g,F⟩ h1 hp K hK
    have e4:=F.2.2.2.2.1 (hp ⟨4,.data⟩ (by simp) rfl)
    have e5:=F.2.2.2.2.2.1 (hp ⟨5,.data⟩ (by simp) rfl)
    obtain ⟨hk1,hk2⟩:=HKj.out
    rw [hprT_eq]
    have g':=hid g
    have F':=hid F;clear F g
    obtain ⟨hN',hl',h1',hp',hK'⟩:=hid5 hN hl h1 hp hK;clear hN hl h1 hp hK
    go_simp
    obtain ⟨hK,hN,hl,h1⟩:=out4 hK' hN' hl' h1'
    obtain ⟨p0,p1,p2,p3,p4,p5,p6,p7,p8,p9,p10,p11,p12,p15,qa0⟩:=F'.out
    have g:=g'.out
    refine hK _ _ ⟨by simpa using hl,(upd (upd (upd X 44 (.slice (some ⟨u,0,none⟩) n cap)) 45 (.int .i64 kj)) 46 (.pointer (some ⟨u,kj*9,none⟩))),rfl,hN,g,p0.k,p1.k,p2.k,p3.k,PV.made rfl,PV.made rfl,PV.made rfl,p7.k,p8.k,p9.k,p10.k,p11.k,p12.k,p15.k,qa0.keep (by decide) (by decide) (fun _ _ h=>h)⟩
  · rintro l A W ⟨hl,X,rfl,hN,g,F⟩ h1 hp K hK
    have e6:=F.2.2.2.2.2.2.1 (hp ⟨6,.data⟩ (by simp) rfl)
    obtain ⟨c0,c1,c2,c3,c4,c5,c6,c7,c8,c9,c10,c11,c12,c13,c14,c15,c16,c17⟩:=GC.out W g
    rw [hprT_eq]
    have g':=hid g
    have F':=hid F;clear F g
    obtain ⟨hN',hl',h1',hp',hK'⟩:=hid5 hN hl h1 hp hK;clear hN hl h1 hp hK
    go_simp
    obtain ⟨hK,hN,hl,h1⟩:=out4 hK' hN' hl' h1'
    obtain ⟨p0,p1,p2,p3,p4,p5,p6,p7,p8,p9,p10,p11,p12,p15,qa0⟩:=F'.out
    have g:=g'.out
    refine hK _ _ ⟨by simpa using hl,(upd (upd X 46 (.pointer (some ⟨u,kj*9,none⟩))) 47 (pnv q.1 q.2.1 q.2.2)),rfl,hN,g,p0.k,p1.k,p2.k,p3.k,p4.k,p5.k,PV.made rfl,PV.made rfl,p8.k,p9.k,p10.k,p11.k,p12.k,p15.k,qa0.keep (by decide) (by decide) (fun _ _ h=>h)⟩
  · rintro l A W ⟨hl,X,rfl,hN,g,F⟩ h1 hp K hK
    rw [hprT_eq]
    have g':=hid g
    have F':=hid F;clear F g
    obtain ⟨hN',hl',h1',hp',hK'⟩:=hid5 hN hl h1 hp hK;clear hN hl h1 hp hK
    go_simp
    obtain ⟨hK,hN,hl,h1⟩:=out4 hK' hN' hl' h1'
    obtain ⟨p0,p1,p2,p3,p4,p5,p6,p7,p8,p9,p10,p11,p12,p15,qa0⟩:=F'.out
    have g:=g'.out
    refine hK _ _ ⟨by simpa using hl,(upd X 48 (.int .i64 D)),rfl,hN,g,p0.k,p1.k,p2.k,p3.k,p4.k,p5.k,p6.k,p7.k,PV.made rfl,p9.k,p10.k,p11.k,p12.k,p15.k,qa0.keep (by decide) (by decide) (fun _ _ h=>h)⟩
  · rintro l A W ⟨hl,X,rfl,hN,g,F⟩ h1 hp K hK
    have e3:=F.2.2.2.1 (hp ⟨3,.data⟩ (by simp) rfl)
    have e7:=F.2.2.2.2.2.2.2.1 (hp ⟨7,.data⟩ (by simp) rfl)
    have e8:=F.2.2.2.2.2.2.2.2.1 (hp ⟨8,.data⟩ (by simp) rfl)
    rw [hprT_eq]
    have g':=hid g
    have F':=hid F;clear F g
    obtain ⟨hN',hl',h1',hp',hK'⟩:=hid5 hN hl h1 hp hK;clear hN hl h1 hp hK
    go_simp
    go_at_call 59
    refine (SC.out _).mono ?_
    rintro e W1 ⟨rfl,hb⟩
    (try dsimp only)
    obtain ⟨hK,hN,hl,h1⟩:=out4 hK' hN' hl' h1'
    obtain ⟨p0,p1,p2,p3,p4,p5,p6,p7,p8,p9,p10,p11,p12,p15,qa0⟩:=F'.out
    have g:=g'.out
    refine hK _ _ ⟨by simpa using hl,(upd (upd (upd (upd X 43 (pnv p.1 p.2.1 p.2.2)) 47 (pnv q.1 q.2.1 q.2.2)) 48 (.int .i64 D)) 49 (spr r)),rfl,Nat.le_trans hN hb.size,GI.out _ _ (hb.mono hN) g,p0.k,p1.k,p2.k,PV.made rfl,p4.k,p5.k,p6.k,PV.made rfl,PV.made rfl,PV.made rfl,p10.k,p11.k,p12.k,p15.k,qa0.keep (by decide) (by decide) (fun _ _ h=>owp_below h hb)⟩
  · rintro l A W ⟨hl,X,rfl,hN,g,F⟩ h1 hp K hK
    have e9:=F.2.2.2.2.2.2.2.2.2.1 (hp ⟨9,.data⟩ (by simp) rfl)
    rw [hprT_eq]
    have g':=hid g
    have F':=hid F;clear F g
    obtain ⟨hN',hl',h1',hp',hK'⟩:=hid5 hN hl h1 hp hK;clear hN hl h1 hp hK
    go_simp
    obtain ⟨hK,hN,hl,h1⟩:=out4 hK' hN' hl' h1'
    obtain ⟨p0,p1,p2,p3,p4,p5,p6,p7,p8,p9,p10,p11,p12,p15,qa0⟩:=F'.out
    have g:=g'.out
    refine hK _ _ ⟨by simpa using hl,(upd (upd X 49 (spr r)) 39 (spr r)),rfl,hN,g,p0.k,p1.k,p2.k,p3.k,p4.k,p5.k,p6.k,p7.k,p8.k,PV.made rfl,PV.made rfl,p11.k,p12.k,p15.k,qa0.keep (by decide) (by decide) (fun _ _ h=>h)⟩
  · rintro l A W ⟨hl,X,rfl,hN,g,F⟩ h1 hp K hK
    have e10:=F.2.2.2.2.2.2.2.2.2.2.1 (hp ⟨10,.data⟩ (by simp) rfl)
    rw [hprT_eq]
    have g':=hid g
    have F':=hid F;clear F g
    obtain ⟨hN',hl',h1',hp',hK'⟩:=hid5 hN hl h1 hp hK;clear hN hl h1 hp hK
    go_simp
    obtain ⟨hK,hN,hl,h1⟩:=out4 hK' hN' hl' h1'
    obtain ⟨p0,p1,p2,p3,p4,p5,p6,p7,p8,p9,p10,p11,p12,p15,qa0⟩:=F'.out
    have g:=g'.out
    refine hK _ _ ⟨by simpa using hl,(upd (upd X 39 (spr r)) 50 (.agg #[.int .i64 r.1.1,.int .i64 r.1.2])),rfl,hN,g,p0.k,p1.k,p2.k,p3.k,p4.k,p5.k,p6.k,p7.k,p8.k,p9.k,PV.made rfl,PV.made rfl,p12.k,p15.k,qa0.keep (by decide) (by decide) (fun _ _ h=>h)⟩
  · rintro l A W ⟨hl,X,rfl,hN,g,F⟩ h1 hp K hK
    have e10:=F.2.2.2.2.2.2.2.2.2.2.1 (hp ⟨10,.data⟩ (by simp) rfl)
    rw [hprT_eq]
    have g':=hid g
    have F':=hid F;clear F g
    obtain ⟨hN',hl',h1',hp',hK'⟩:=hid5 hN hl h1 hp hK;clear hN hl h1 hp hK
    go_simp
    obtain ⟨hK,hN,hl,h1⟩:=out4 hK' hN' hl' h1'
    obtain ⟨p0,p1,p2,p3,p4,p5,p6,p7,p8,p9,p10,p11,p12,p15,qa0⟩:=F'.out
    have g:=g'.out
    refine hK _ _ ⟨by simpa using hl,(upd (upd X 39 (spr r)) 51 (.int .i64 r.2)),rfl,hN,g,p0.k,p1.k,p2.k,p3.k,p4.k,p5.k,p6.k,p7.k,p8.k,p9.k,PV.made rfl,p11.k,PV.made rfl,p15.k,qa0.keep (by decide) (by decide) (fun _ _ h=>h)⟩
  · rintro l A W ⟨hl,X,rfl,hN,g,F⟩ h1 hp K hK
    rw [hprT_eq]
    have g':=hid g
    have F':=hid F;clear F g
    obtain ⟨hN',hl',h1',hp',hK'⟩:=hid5 hN hl h1 hp hK;clear hN hl h1 hp hK
    go_simp
    obtain ⟨hK,hN,hl,h1⟩:=out4 hK' hN' hl' h1'
    obtain ⟨p0,p1,p2,p3,p4,p5,p6,p7,p8,p9,p10,p11,p12,p15,qa0⟩:=F'.out
    have g:=g'.out
    refine hK _ _ ⟨by simpa using hl,(upd X 14 (.pointer (some ⟨W.heap.size,0,none⟩))),rfl,(by simp;omega),GI.out _ _ (((Below.refl _ W).alloc (Nat.le_refl _) _).mono hN) g,p0.k,p1.k,p2.k,p3.k,p4.k,p5.k,p6.k,p7.k,p8.k,p9.k,p10.k,p11.k,p12.k,p15.k,qa0.made (by decide) (by rw [hl];decide) h1 hN (owp_new W (0,0) _)⟩
  · rintro l A W ⟨hl,X,rfl,hN,g,F⟩ h1 hp K hK
    have la:=hp ⟨13,.data⟩ (by simp) rfl
    have e11:=F.2.2.2.2.2.2.2.2.2.2.2.1 (hp ⟨11,.data⟩ (by simp) rfl)
    obtain ⟨b',v',e2,hb',ow,_⟩:=F.2.2.2.2.2.2.2.2.2.2.2.2.2.2.2 la
    obtain ⟨o0,o1,o2,o3,o4⟩:=id ow
    rw [hprT_eq]
    have g':=hid g
    have F':=hid F;clear F g
    obtain ⟨hN',hl',h1',hp',hK'⟩:=hid5 hN hl h1 hp hK;clear hN hl h1 hp hK
    have la':=hid la;clear la;have hb'':=hid hb';clear hb';have ow':=hid ow;clear ow
    go_simp
    obtain ⟨hK,hN,hl,h1⟩:=out4 hK' hN' hl' h1'
    obtain ⟨p0,p1,p2,p3,p4,p5,p6,p7,p8,p9,p10,p11,p12,p15,qa0⟩:=F'.out
    have g:=g'.out
    have la:=la'.out;have hb':=hb''.out;have ow:=ow'.out
    refine hK _ _ ⟨by simpa using hl,(upd (upd X 50 (.agg #[.int .i64 r.1.1,.int .i64 r.1.2])) 14 (.pointer (some ⟨b',0,none⟩))),rfl,(by simpa using hN),GI.out _ _ (below_set2 _ _ hb') g,p0.k,p1.k,p2.k,p3.k,p4.k,p5.k,p6.k,p7.k,p8.k,p9.k,p10.k,PV.made rfl,p12.k,p15.k,QX.put (by decide) la rfl hb' (owp_put ow r.1)⟩
  · rintro l A W ⟨hl,X,rfl,hN,g,F⟩ h1 hp K hK
    have e12:=F.2.2.2.2.2.2.2.2.2.2.2.2.1 (hp ⟨12,.data⟩ (by simp) rfl)
    rw [hprT_eq]
    have g':=hid g
    have F':=hid F;clear F g
    obtain ⟨hN',hl',h1',hp',hK'⟩:=hid5 hN hl h1 hp hK;clear hN hl h1 hp hK
    go_simp
    obtain ⟨hK,hN,hl,h1⟩:=out4 hK' hN' hl' h1'
    obtain ⟨p0,p1,p2,p3,p4,p5,p6,p7,p8,p9,p10,p11,p12,p15,qa0⟩:=F'.out
    have g:=g'.out
    refine hK _ _ ⟨by simpa using hl,(upd (upd X 51 (.int .i64 r.2)) 15 (.int .i64 r.2)),rfl,hN,g,p0.k,p1.k,p2.k,p3.k,p4.k,p5.k,p6.k,p7.k,p8.k,p9.k,p10.k,p11.k,PV.made rfl,PV.made rfl,qa0.keep (by decide) (by decide) (fun _ _ h=>h)⟩
theorem hpr_reg (G:World->Prop) (N:Nat) (u n cap ki kj:Nat) (p q:P9) (D:Int) (r:Sp.R) {y0 y1 y3 y4 y5 y6 y7 y8 y10 y12 y16 y17 y18 y19 y20 y21 y22 y23 y24 y25 y26 y27 y28 y29 y30 y31 y32 y33 y34 y35 y36 y37 y38 y52 y53 y54 y55 y56 y57 y58 y59 y60 y61 y62 y63 y64 y65 y66 y67 y68 y69 y70 y71 y72 y73 y74 y75 y76 y77 y78 y79 y80 y81 y82 y83 x14 x15 x39 x40 x41 x42 x43 x44 x45 x46 x47 x48 x49 x50 x51:Value} {W:World} {Q:Exit->Act->World->Prop} (HKi:Hid ((ki:Int)<(n:Int)/\0<=(ki:Int))) (HKj:Hid ((kj:Int)<(n:Int)/\0<=(kj:Int))) (SC:Hid (∀ W,Calls Tryz.prog 59 #[pnv p.1 p.2.1 p.2.2,pnv q.1 q.2.1 q.2.2,.int .i64 D] W fun e w'=>e=.returned (spr r)/\Below W.heap.size W w')) (GC:Hid (∀ W:World,G W->W.cell? ⟨u,ki*9,none⟩=some (.int .i64 p.1.1)/\W.cell? ⟨u,ki*9+1,none⟩=some (.int .i64 p.1.2.1)/\W.cell? ⟨u,ki*9+1+1,none⟩=some (.int .i64 p.1.2.2)/\W.cell? ⟨u,ki*9+1+1+1,none⟩=some (.int .i64 p.2.1.1)/\W.cell? ⟨u,ki*9+1+1+1+1,none⟩=some (.int .i64 p.2.1.2.1)/\W.cell? ⟨u,ki*9+1+1+1+1+1,none⟩=some (.int .i64 p.2.1.2.2)/\W.cell? ⟨u,ki*9+1+1+1+1+1+1,none⟩=some (.int .i64 p.2.2.1)/\W.cell? ⟨u,ki*9+1+1+1+1+1+1+1,none⟩=some (.int .i64 p.2.2.2.1)/\W.cell? ⟨u,ki*9+1+1+1+1+1+1+1+1,none⟩=some (.int .i64 p.2.2.2.2)/\W.cell? ⟨u,kj*9,none⟩=some (.int .i64 q.1.1)/\W.cell? ⟨u,kj*9+1,none⟩=some (.int .i64 q.1.2.1)/\W.cell? ⟨u,kj*9+1+1,none⟩=some (.int .i64 q.1.2.2)/\W.cell? ⟨u,kj*9+1+1+1,none⟩=some (.int .i64 q.2.1.1)/\W.cell? ⟨u,kj*9+1+1+1+1,none⟩=some (.int .i64 q.2.1.2.1)/\W.cell? ⟨u,kj*9+1+1+1+1+1,none⟩=some (.int .i64 q.2.1.2.2)/\W.cell? ⟨u,kj*9+1+1+1+1+1+1,none⟩=some (.int .i64 q.2.2.1)/\W.cell? ⟨u,kj*9+1+1+1+1+1+1+1,none⟩=some (.int .i64 q.2.2.2.1)/\W.cell? ⟨u,kj*9+1+1+1+1+1+1+1+1,none⟩=some (.int .i64 q.2.2.2.2))) (GI:Hid (∀ W W':World,Below N W W'->G W->G W')) (hN:N<=W.heap.size) (g0:G W.drew)
    (hK:∀ (x39 x40 x41 x42 x43 x44 x45 x46 x47 x48 x49 x50 x51:Value) (b0:Nat) (W':World),N<=W'.heap.size->G W'->N<=b0->OwP W' b0 (r.1)->Q .normal { tmps:=#[y0,y1,.int .i64 D,y3,y4,y5,y6,y7,y8,.slice (some ⟨u,0,none⟩) n cap,y10,.int .i64 kj,y12,.int .i64 ki,.pointer (some ⟨b0,0,none⟩),.int .i64 r.2,y16,y17,y18,y19,y20,y21,y22,y23,y24,y25,y26,y27,y28,y29,y30,y31,y32,y33,y34,y35,y36,y37,y38,x39,x40,x41,x42,x43,x44,x45,x46,x47,x48,x49,x50,x51,y52,y53,y54,y55,y56,y57,y58,y59,y60,y61,y62,y63,y64,y65,y66,y67,y68,y69,y70,y71,y72,y73,y74,y75,y76,y77,y78,y79,y80,y81,y82,y83],defers:=[] } W') :
    Code.wp Tryz.prog (.region 13 hprOps true) Q { tmps:=#[y0,y1,.int .i64 D,y3,y4,y5,y6,y7,y8,.slice (some ⟨u,0,none⟩) n cap,y10,.int .i64 kj,y12,.int .i64 ki,x14,x15,y16,y17,y18,y19,y20,y21,y22,y23,y24,y25,y26,y27,y28,y29,y30,y31,y32,y33,y34,y35,y36,y37,y38,x39,x40,x41,x42,x43,x44,x45,x46,x47,x48,x49,x50,x51,y52,y53,y54,y55,y56,y57,y58,y59,y60,y61,y62,y63,y64,y65,y66,y67,y68,y69,y70,y71,y72,y73,y74,y75,y76,y77,y78,y79,y80,y81,y82,y83],defers:=[] } W:=by
  refine wp_region_inv (hprI G N u n cap ki kj p q D r y0 y1 y3 y4 y5 y6 y7 y8 y10 y12 y16 y17 y18 y19 y20 y21 y22 y23 y24 y25 y26 y27 y28 y29 y30 y31 y32 y33 y34 y35 y36 y37 y38 y52 y53 y54 y55 y56 y57 y58 y59 y60 y61 y62 y63 y64 y65 y66 y67 y68 y69 y70 y71 y72 y73 y74 y75 y76 y77 y78 y79 y80 y81 y82 y83) (by kernel_rfl) ?_ (hpr_steps G N u n cap ki kj p q D r y0 y1 y3 y4 y5 y6 y7 y8 y10 y12 y16 y17 y18 y19 y20 y21 y22 y23 y24 y25 y26 y27 y28 y29 y30 y31 y32 y33 y34 y35 y36 y37 y38 y52 y53 y54 y55 y56 y57 y58 y59 y60 y61 y62 y63 y64 y65 y66 y67 y68 y69 y70 y71 y72 y73 y74 y75 y76 y77 y78 y79 y80 y81 y82 y83 Q HKi HKj SC GC GI) ?_
  · exact ⟨by simp [hprOps],fun i=>(#[undef,undef,undef,undef,undef,undef,undef,undef,undef,undef,undef,undef,undef,undef,x14,x15,undef,undef,undef,undef,undef,undef,undef,undef,undef,undef,undef,undef,undef,undef,undef,undef,undef,undef,undef,undef,undef,undef,undef,x39,x40,x41,x42,x43,x44,x45,x46,x47,x48,x49,x50,x51,undef,undef,undef,undef,undef,undef,undef,undef,undef,undef,undef,undef,undef,undef,undef,undef,undef,undef,undef,undef,undef,undef,undef,undef,undef,undef,undef,undef,undef,undef,undef,undef]:Array Value).getD i undef,rfl,hN,g0,PV.nought,PV.nought,PV.nought,PV.nought,PV.nought,PV.nought,PV.nought,PV.nought,PV.nought,PV.nought,PV.nought,PV.nought,PV.nought,PV.nought,QX.nought⟩
  · rintro l A W ⟨hl,X,rfl,hN,g,p0,p1,p2,p3,p4,p5,p6,p7,p8,p9,p10,p11,p12,p15,qa0⟩ hr
    unfold hprOps at hr
    have l0:=ready_end hr 0 (by rw [hl];decide) rfl (fun e he hbn=>by
      simp at he
      (try (repeat (rcases he with rfl|he;· first|assumption|exact absurd hbn (by decide))))
      (try (first|exact he.elim|(subst he;first|assumption|exact absurd hbn (by decide)))))
    have l1:=ready_end hr 1 (by rw [hl];decide) rfl (fun e he hbn=>by
      simp at he
      (try (repeat (rcases he with rfl|he;· first|assumption|exact absurd hbn (by decide))))
      (try (first|exact he.elim|(subst he;first|assumption|exact absurd hbn (by decide)))))
    have l2:=ready_end hr 2 (by rw [hl];decide) rfl (fun e he hbn=>by
      simp at he
      (try (repeat (rcases he with rfl|he;· first|assumption|exact absurd hbn (by decide))))
      (try (first|exact he.elim|(subst he;first|assumption|exact absurd hbn (by decide)))))
    have l3:=ready_end hr 3 (by rw [hl];decide) rfl (fun e he hbn=>by
      simp at he
      (try (repeat (rcases he with rfl|he;· first|assumption|exact absurd hbn (by decide))))
      (try (first|exact he.elim|(subst he;first|assumption|exact absurd hbn (by decide)))))
    have l4:=ready_end hr 4 (by rw [hl];decide) rfl (fun e he hbn=>by
      simp at he
      (try (repeat (rcases he with rfl|he;· first|assumption|exact absurd hbn (by decide))))
      (try (first|exact he.elim|(subst he;first|assumption|exact absurd hbn (by decide)))))
    have l5:=ready_end hr 5 (by rw [hl];decide) rfl (fun e he hbn=>by
      simp at he
      (try (repeat (rcases he with rfl|he;· first|assumption|exact absurd hbn (by decide))))
      (try (first|exact he.elim|(subst he;first|assumption|exact absurd hbn (by decide)))))
    have l6:=ready_end hr 6 (by rw [hl];decide) rfl (fun e he hbn=>by
      simp at he
      (try (repeat (rcases he with rfl|he;· first|assumption|exact absurd hbn (by decide))))
      (try (first|exact he.elim|(subst he;first|assumption|exact absurd hbn (by decide)))))
    have l7:=ready_end hr 7 (by rw [hl];decide) rfl (fun e he hbn=>by
      simp at he
      (try (repeat (rcases he with rfl|he;· first|assumption|exact absurd hbn (by decide))))
      (try (first|exact he.elim|(subst he;first|assumption|exact absurd hbn (by decide)))))
    have l8:=ready_end hr 8 (by rw [hl];decide) rfl (fun e he hbn=>by
      simp at he
      (try (repeat (rcases he with rfl|he;· first|assumption|exact absurd hbn (by decide))))
      (try (first|exact he.elim|(subst he;first|assumption|exact absurd hbn (by decide)))))
    have l9:=ready_end hr 9 (by rw [hl];decide) rfl (fun e he hbn=>by
      simp at he
      (try (repeat (rcases he with rfl|he;· first|assumption|exact absurd hbn (by decide))))
      (try (first|exact he.elim|(subst he;first|assumption|exact absurd hbn (by decide)))))
    have l10:=ready_end hr 10 (by rw [hl];decide) rfl (fun e he hbn=>by
      simp at he
      (try (repeat (rcases he with rfl|he;· first|assumption|exact absurd hbn (by decide))))
      (try (first|exact he.elim|(subst he;first|assumption|exact absurd hbn (by decide)))))
    have l11:=ready_end hr 11 (by rw [hl];decide) rfl (fun e he hbn=>by
      simp at he
      (try (repeat (rcases he with rfl|he;· first|assumption|exact absurd hbn (by decide))))
      (try (first|exact he.elim|(subst he;first|assumption|exact absurd hbn (by decide)))))
    have l12:=ready_end hr 12 (by rw [hl];decide) rfl (fun e he hbn=>by
      simp at he
      (try (repeat (rcases he with rfl|he;· first|assumption|exact absurd hbn (by decide))))
      (try (first|exact he.elim|(subst he;first|assumption|exact absurd hbn (by decide)))))
    have l13:=ready_end hr 13 (by rw [hl];decide) rfl (fun e he hbn=>by
      simp at he
      (try (repeat (rcases he with rfl|he;· first|assumption|exact absurd hbn (by decide))))
      (try (first|exact he.elim|(subst he;first|assumption|exact absurd hbn (by decide)))))
    have l14:=ready_end hr 14 (by rw [hl];decide) rfl (fun e he hbn=>by
      simp at he
      (try (repeat (rcases he with rfl|he;· first|assumption|exact absurd hbn (by decide))))
      (try (first|exact he.elim|(subst he;first|assumption|exact absurd hbn (by decide)))))
    have l15:=ready_end hr 15 (by rw [hl];decide) rfl (fun e he hbn=>by
      simp at he
      (try (repeat (rcases he with rfl|he;· first|assumption|exact absurd hbn (by decide))))
      (try (first|exact he.elim|(subst he;first|assumption|exact absurd hbn (by decide)))))
    obtain ⟨b0,v0,e0x,n0,o0,t0⟩:=qa0.2 l13
    obtain rfl:=t0 l14
    have z:=hK (X 39) (X 40) (X 41) (X 42) (X 43) (X 44) (X 45) (X 46) (X 47) (X 48) (X 49) (X 50) (X 51) b0 W hN g n0 o0
    rw [← e0x,← p15 l15] at z
    exact z
theorem own7_in {w w1:World} {N base:Nat} {e:TypeId} {n:Nat} {v:Value} {k:Nat} {xs:List Value} (h:w.ownsRow base e n v k xs) (hb:Below N w w1) (hg:∀ g,v.ownBlock=some g->g<N):w1.ownsRow base e n v k xs:=by
  refine ⟨h.1,?_⟩
  rcases h.2 with x|⟨g,cap,cur,rfl,hbg,hgg,rest⟩
  · exact Or.inl x
  · exact Or.inr ⟨g,cap,cur,rfl,hbg,by rw [hb.block g (hg g rfl)];exact hgg,rest⟩
theorem rowI_in7 {w w1:World} {B b off n:Nat} {c:Nat->Int} (h:RowI w b off n c) (hb:Below B w w1) (hB:b<B):RowI w1 b off n c :=
  ⟨Nat.lt_of_lt_of_le h.1 hb.size,fun k hk=>(hb.cell (p:=⟨b,off+k,none⟩) hB).trans (h.2 k hk)⟩
theorem scl_ok {l h y:Int} (l0:0<=l) (l1:l<=h) (h1:h<=67108866) (y0:0<=y) (y1:y<=10000):scaleR l h y=((l*y,h*y),0)/\Sp.vldB (l*y) (h*y)=true:=by
  have a:=Int.mul_le_mul_of_nonneg_right l1 y0
  have b:=Int.mul_nonneg l0 y0
  have d:=Int.mul_le_mul (show h<=67108866 from h1) y1 y0 (by decide)
  have v:Sp.vldB (l*y) (h*y)=true:=Sp.vld_iff.2 ⟨by omega,a,by omega⟩
  refine ⟨?_,v⟩
  unfold scaleR
  rw [if_pos ⟨Sp.vld_iff.2 ⟨by omega,l1,by omega⟩,by omega,by omega⟩,Sp.mn_eq,Sp.mx_eq,show min (l*y) (h*y)=l*y by omega,show max (l*y) (h*y)=h*y by omega]
  exact Sp.told_yes v
/-- the sum of a list in memory -/
theorem rsum7_any (q cap n:Nat) (L H:Nat->Int) (w:World) (r:Row w q 0 n L H) (hn:n<=10000) (v:∀ i,i<n->Sp.vldB (L i) (H i)=true) :
    Calls Tryz.prog 61 #[.slice (some ⟨q,0,none⟩) n cap] w fun e w'=>e=.returned (spr (Sp.told (sm L n) (sm H n)))/\Below w.heap.size w w':=by
  have T1:TotC 115 (some ⟨q,0,none⟩) n cap (sm L n) (sm H n) 0 w:=fun W B=>rtotal_ok q 0 n cap L H W (row_below r B) hn v
  exact rsum_any (some ⟨q,0,none⟩) n cap (sm L n) (sm H n) 0 w w (hid T1) (Below.refl _ _)
theorem sc_cells {w:World} {q b off n k:Nat} {l h y:Int} {c:Nat->Int} (hp:OwP w q (l,h)) (hr:RowI w b off n c) (hk:k<n) (hy:c k=y) :
    w.cell? ⟨q,0,none⟩=some (.int .i64 l)/\w.cell? ⟨q,1,none⟩=some (.int .i64 h)/\w.cell? ⟨b,off+k,none⟩=some (.int .i64 y):=⟨hp.1,hp.2.1,by rw [hr.2 k hk,hy]⟩
theorem rpt_v (a:Option Addr) (np c:Nat) (a':Option Addr) (nf c':Nat) (b:Option Addr) (n cap:Nat) (D vc:Int) (w:World) (GV:Hid (∀ W,Below w.heap.size w W->Calls Tryz.prog 57 #[msv a np c a' nf c',.slice b n cap,.int .i64 D] W fun e w'=>e=.returned (.int .i64 vc)/\Below W.heap.size W w')) (z:(vc != 0)=true):Calls Tryz.prog 20 #[msv a np c a' nf c',.slice b n cap,.int .i64 D] w fun e w'=>e=.returned (.tuple #[.slice none 0 0,.int .i64 vc])/\Below w.heap.size w w':=by
  have B0:=hid (show Below w.heap.size w (w.alloc (msc a np c a' nf c' 25)) from balloc (Below.refl _ w) _)
  obtain ⟨m0,m1,ml⟩:=mes_new w a np c a' nf c' 25
  go_enter Tryz.func20,Tryz.ntmps20
  go_wp2_with fail
  with_reducible refine (GV.out _ B0.out).mono ?_
  rintro e w1 ⟨rfl,hb1⟩
  have hB:=bstep B0.out hb1
  clear m0 m1 ml hb1
  go_wp2
  go_ret2
  exact ⟨rfl,by (repeat' (first|with_reducible exact hB|with_reducible refine Below.drew ?_|(with_reducible refine balloc ?_ _)|(with_reducible refine Below.setCell ?_ (by simp<;>omega) _)))⟩
theorem rpt_ok (a:Option Addr) (np c:Nat) (a':Option Addr) (nf c':Nat) (b1 off1 cap1 n:Nat) (D:Int) (T:Nat->P9) (f:Nat->Nat->Int × Int) (c0:Nat->Int) (w:World) (h0:0<n) (hn:n<=96) (tb:TB n f) (hc:∀ i,i<n->0<=c0 i/\c0 i<=100) (rc:RowI w b1 off1 n c0)
    (GV:Hid (∀ W,Below w.heap.size w W->Calls Tryz.prog 57 #[msv a np c a' nf c',.slice (some ⟨b1,off1,none⟩) n cap1,.int .i64 D] W fun e w'=>e=.returned (.int .i64 0)/\Below W.heap.size W w'))
    (PN:Hid (∀ W,Below w.heap.size w W->Calls Tryz.prog 58 #[msv a np c a' nf c'] W fun e w'=>∃ q cap,e=.returned (.slice (some ⟨q,0,none⟩) n cap)/\Row9 w' q n T/\Below W.heap.size W w'))
    (SC:Hid (∀ i j,i<n->j<n->∀ W,Calls Tryz.prog 59 #[pnv (T i).1 (T i).2.1 (T i).2.2,pnv (T j).1 (T j).2.1 (T j).2.2,.int .i64 D] W fun e w'=>e=.returned (spr (f j i,0))/\Below W.heap.size W w')) :
    Calls Tryz.prog 20 #[msv a np c a' nf c',.slice (some ⟨b1,off1,none⟩) n cap1,.int .i64 D] w fun e w'=>∃ q cap,e=.returned (.tuple #[.slice (some ⟨q,0,none⟩) n cap,.int .i64 0])/\Row w' q 0 n (ptL f c0 n) (ptH f c0 n)/\Below w.heap.size w w':=by
  obtain ⟨i0,hi,hz0,hz1,hz2⟩:=info_parts infoSp8
  have HI:=hid hi
  have HZ0:=hid hz0
  have HZ1:=hid hz1
  have HZ2:=hid hz2
  clear hi hz0 hz1 hz2
  have hn':(n:Int)<=96:=by omega
  have TBH:=hid tb
  have HC:=hid hc
  have RC:=hid rc
  obtain ⟨g,hg⟩:∃ g:Nat->Int × Int,g=fun j=>(ptL f c0 n j,ptH f c0 n j):=⟨_,rfl⟩
  have G:=hid hg
  have B0:=hid (show Below w.heap.size w (w.alloc (msc a np c a' nf c' 25)) from balloc (Below.refl _ w) _)
  have M0:=hid (mes_new w a np c a' nf c' 25)
  obtain ⟨m0,m1,ml⟩:=M0.out
  clear tb hc rc hg
  go_enter Tryz.func20,Tryz.ntmps20
  go_wp2_with fail
  with_reducible refine (GV.out _ B0.out).mono ?_
  rintro e w0 ⟨rfl,hb0⟩
  have M1:=hid (mes_below M0.out hb0)
  have B1:=hid (bstep B0.out hb0)
  clear hb0 m0 m1 ml B0 M0 GV
  obtain ⟨m0,m1,ml⟩:=M1.out
  go_wp2_with fail
  with_reducible refine (PN.out _ B1.out).mono ?_
  rintro e w1 ⟨q,cap,rfl,rp,hb1⟩
  have RP:=hid rp
  have B2:=hid (bstep B1.out hb1)
  have RI:=hid (rowI_below RC.out B2.out)
  have lq:q<w1.heap.size:=rp.1
  have li:b1<w1.heap.size:=RI.out.1
  clear hb1 rp m0 m1 ml M1 B1 PN RC
  go_wp2
  go_loopw [10,11] (fun sv kv wr=>∃ k:Nat,k<=n/\kv=.int .i64 k/\wr.ownsRow w1.heap.size 39 2 sv k (svs (lsF g k))/\Below w1.heap.size w1 wr) (fun _ kv _=>n - (intOf kv).toNat)
  case atStart=>exact ⟨0,Nat.zero_le _,rfl,World.ownsRow_nil _ _ _ _,Below.refl _ _⟩
  case round =>
    obtain ⟨k,hk,rfl,how,hbb⟩:=hrel
    have ROW:=hid how
    have BB:=hid hbb
    have szw:=hbb.size
    clear how hbb
    by_cases hlt:k<n
    · have hk1:(k:Int)<(n:Int):=by omega
      have hk0:0<=(k:Int):=by omega
      have GK:Hid (g k=(ptL f c0 n k,ptH f c0 n k)):=hid (by rw [G.out])
      have PO:=hid (pt_ok TBH.out hn HC.out hlt)
      have SK:=hid (fun i (hi:i<n)=>SC.out i k hi hlt)
      obtain ⟨wo,hwo⟩:∃ wo:World,wo=wr:=⟨_,rfl⟩
      subst hwo
      obtain ⟨h,hh⟩:∃ h:Nat->Int × Int,h=fun i=>((f k i).1*c0 i,(f k i).2*c0 i):=⟨_,rfl⟩
      have HH:=hid hh
      clear hh
      go_wp2
      go_loopw [12,13] (fun sv kv ws=>∃ i:Nat,i<=n/\kv=.int .i64 i/\ws.ownsRow wo.heap.size 39 2 sv i (svs (lsF h i))/\Below wo.heap.size wo ws) (fun _ kv _=>n - (intOf kv).toNat)
      case atStart=>exact ⟨0,Nat.zero_le _,rfl,World.ownsRow_nil _ _ _ _,Below.refl _ _⟩
      case round =>
        obtain ⟨i,hi,rfl,how,hbb⟩:=hrel
        have RWI:=hid how
        have BS:=hid hbb
        have szs:=hbb.size
        clear how hbb
        have BW:=hid (BB.out.trans (BS.out.mono szw))
        by_cases hli:i<n
        · have hi1:(i:Int)<(n:Int):=by omega
          have hi0:0<=(i:Int):=by omega
          have RB:=hid (row9_in RP.out BW.out lq)
          have hur:q<wr.heap.size:=RB.out.1
          have RK:=hid (fun (W:World) (h:Below wr.heap.size wr W)=>(row9_in RB.out h hur).2)
          have RIs:=hid (rowI_in7 RI.out BW.out li)
          have TI:=TBH.out k i hlt hli
          have CI:=HC.out i hli
          have SI:=hid (SK.out i hli)
          have GS:=hid (show lsF h (i+1)=lsF h i ++ [h i] from rfl)
          have HI2:Hid (h i=((f k i).1*c0 i,(f k i).2*c0 i)):=hid (by rw [HH.out])
          obtain ⟨tp,htp⟩:∃ t,T i=t:=⟨_,rfl⟩
          obtain ⟨tq,htq⟩:∃ t,T k=t:=⟨_,rfl⟩
          rw [htp,htq] at SI
          obtain ⟨⟨l,hr⟩,hlr⟩:∃ uv,f k i=uv:=⟨_,rfl⟩
          rw [hlr] at SI TI HI2
          obtain ⟨y,hy⟩:∃ y,c0 i=y:=⟨_,rfl⟩
          rw [hy] at CI HI2
          have EY:=hid hy
          have HT:=hid (⟨htp,htq⟩:T i=tp/\T k=tq)
          have SV:=hid (scl_ok (l:=l) (h:=hr) (y:=y) (by omega) TI.2.1 TI.2.2 CI.1 (by omega)).1
          have SL:Hid (∀ W,Calls Tryz.prog 60 #[.agg #[.int .i64 l,.int .i64 hr],.int .i64 y] W fun e w'=>e=.returned (spr ((l*y,hr*y),0))/\Below W.heap.size W w'):=hid fun W=>SV.out ▸ rscale_any l hr y W
          obtain ⟨u,hu⟩:∃ u,l*y=u:=⟨_,rfl⟩
          obtain ⟨v,hv⟩:∃ v,hr*y=v:=⟨_,rfl⟩
          rw [hu,hv] at SL HI2
          clear htp htq hlr hy TI CI SV hu hv
          go_wp2_with fail
          rename_i K8 hK8
          have HK8:=hid hK8
          clear hK8
          refine hpr_reg (fun W=>Below wr.heap.size wr W/\wr.heap.size<=W.heap.size) wr.heap.size q n cap i k tp tq D ((l,hr),0) (hid ⟨hi1,hi0⟩) (hid ⟨hk1,hk0⟩) (hid SI.out) (hid fun W hW=>?_) (hid fun W W' hb hW=>⟨hW.1.trans hb,Nat.le_trans hW.2 hb.size⟩) (Nat.le_refl _) ⟨Below.drew (Below.refl _ _),Nat.le_refl _⟩ ?_
          · have a:=RK.out W hW.1 i hli
            have b:=RK.out W hW.1 k hlt
            rw [HT.out.1] at a
            rw [HT.out.2] at b
            exact ⟨a.1,a.2.1,a.2.2.1,a.2.2.2.1,a.2.2.2.2.1,a.2.2.2.2.2.1,a.2.2.2.2.2.2.1,a.2.2.2.2.2.2.2.1,a.2.2.2.2.2.2.2.2,b.1,b.2.1,b.2.2.1,b.2.2.2.1,b.2.2.2.2.1,b.2.2.2.2.2.1,b.2.2.2.2.2.2.1,b.2.2.2.2.2.2.2.1,b.2.2.2.2.2.2.2.2⟩
          intro x39 x40 x41 x42 x43 x44 x45 x46 x47 x48 x49 x50 x51 z w5 hN g5 nz oz
          have OZ:=hid (show OwP w5.drew z (l,hr) from oz)
          have BZ:=hid (show Below wr.heap.size wr w5.drew from Below.drew g5.1)
          have R5:=hid (show RowI w5.drew b1 off1 n c0 from (rowI_below RIs.out g5.1:RowI w5 b1 off1 n c0))
          clear g5 oz RB RK RIs HT SI SK
          refine HK8.out _ _ ?_
          clear HK8
          have c5:=sc_cells OZ.out R5.out hli EY.out
          obtain ⟨c1,c2,c3⟩:=c5
          change w5.cell? _=_ at c1
          change w5.cell? _=_ at c2
          change w5.cell? _=_ at c3
          have c4:b1<w5.heap.size:=R5.out.1
          go_wp2
          go_region_law (first|(go_simp;go_at_call 60;(with_reducible refine (SL.out _).mono ?_);rintro e v1 ⟨rfl,hv1⟩;have OV:=hid (owp_below OZ.out hv1);have BV:=hid (BZ.out.trans (hv1.mono BZ.out.size));clear hv1;obtain ⟨o0,o1,o2,o3,o4⟩:=OV.out)|fail)
          all_goals
            have O8:=hid (owp_put OV.out (u,v))
            have B8:=hid (show Below wr.heap.size wr ((v1.setCell ⟨z,0,none⟩ (.int .i64 u)).setCell ⟨z,1,none⟩ (.int .i64 v)) from (BV.out.setCell (p:=⟨z,0,none⟩) nz _).setCell (p:=⟨z,1,none⟩) nz _)
            clear c1 c2 c3 c4 o0 o1 o2 o3 o4 OV BV
            generalize (v1.setCell ⟨z,0,none⟩ (.int .i64 u)).setCell ⟨z,1,none⟩ (.int .i64 v)=w8 at *
            obtain ⟨o0,o1,o2,o3,o4⟩:=O8.out
            have R8:=hid (own7_in RWI.out B8.out (fun g hg=>(RWI.out.lt g hg).2))
            have BS8:=hid (BS.out.trans (B8.out.mono szs))
            have s8:=BS8.out.size
            have hm60:i+1<=96:=by omega
            go_wp2_with (at_builtin;(refine wpList_append_own _ rfl _ _ 34 rfl wo.heap.size 39 i0 (.agg #[.int .i64 0,.int .i64 0]) 2 16 Tryz.underlying34 HI.out HZ0.out HZ1.out HZ2.out rfl (by decide) _ i (svs (lsF h i)) rfl (R8.out.alloc _) ⟨_,0,none⟩ 1 1 [.int .i64 u,.int .i64 v] rfl rfl (h7sp2 _ _ _ _ _ (by first|rfl|simp)) (by intro u hu;simp at hu;rcases hu with rfl|rfl<;>rfl) (by unfold maxLen;omega) (by omega) (by first|omega|(simp;omega)) ?_);intro v' w9 hown' hgrow _;have OW:=hid hown';have GR:=hid hgrow;clear hown' hgrow)
            have BG:=hid (BS8.out.trans (((Below.refl wo.heap.size w8).alloc (by omega) _).grown GR.out (by first|omega|(simp;omega)) (fun gg hg=>(R8.out.lt gg hg).1)))
            go_roundw
            case rel=>exact ⟨i+1,by omega,by go_num,by rw [GS.out,HI2.out,← svs_snoc];exact OW.out,BG.out⟩
            case measure=>simp [intOf];omega
        · obtain rfl:i=n:=by omega
          obtain ⟨q2,cap2,rfl,rr⟩:=row_lsF RWI.out h0
          have S1:Hid (Calls Tryz.prog 61 #[.slice (some ⟨q2,0,none⟩) i cap2] wr fun e w'=>e=.returned (spr ((ptL f c0 i k,ptH f c0 i k),0))/\Below wr.heap.size wr w'):=hid (by
            rw [HH.out] at rr
            have t:=rsum7_any q2 cap2 i _ _ wr rr (by omega) (fun j hj=>(scl_ok (by have:=TBH.out k j hlt hj;omega) (TBH.out k j hlt hj).2.1 (TBH.out k j hlt hj).2.2 (HC.out j hj).1 (by have:=HC.out j hj;omega)).2)
            have e:Sp.told (sm (fun j=>(f k j).1*c0 j) i) (sm (fun j=>(f k j).2*c0 j) i)=((ptL f c0 i k,ptH f c0 i k),0):=PO.out.1
            dsimp only at t
            rw [e] at t
            exact t)
          clear rr
          obtain ⟨u,hu⟩:∃ u,ptL f c0 i k=u:=⟨_,rfl⟩
          obtain ⟨v,hv⟩:∃ v,ptH f c0 i k=v:=⟨_,rfl⟩
          rw [hu,hv] at S1 GK
          clear hu hv
          go_wp2_with fail
          with_reducible refine S1.out.mono ?_
          rintro e w6 ⟨rfl,hb6⟩
          have BS6:=hid (BS.out.trans (hb6.mono szs))
          have R6:=hid (own7_in ROW.out BS6.out (fun g hg=>(ROW.out.lt g hg).2))
          have BW6:=hid (BB.out.trans (BS6.out.mono szw))
          have s6:=BW6.out.size
          have GS:=hid (show lsF g (k+1)=lsF g k ++ [g k] from rfl)
          clear hb6 S1 RWI BS BW
          obtain ⟨e0,e1,e2,e3,el⟩:=pair_new w6 u v 39
          have R7:=hid (R6.out.alloc (.cells #[.int .i64 u,.int .i64 v] 39))
          have hm60:k+1<=96:=by omega
          go_wp2_with (at_builtin;(refine wpList_append_own _ rfl _ _ 34 rfl w1.heap.size 39 i0 (.agg #[.int .i64 0,.int .i64 0]) 2 16 Tryz.underlying34 HI.out HZ0.out HZ1.out HZ2.out rfl (by decide) _ k (svs (lsF g k)) rfl (R7.out.alloc _) ⟨_,0,none⟩ 1 1 [.int .i64 u,.int .i64 v] rfl rfl (h7sp2 _ _ _ _ _ (by first|rfl|simp)) (by intro u hu;simp at hu;rcases hu with rfl|rfl<;>rfl) (by unfold maxLen;omega) (by omega) (by first|omega|(simp;omega)) ?_);intro v' w9 hown' hgrow _;have OW:=hid hown';have GR:=hid hgrow;clear hown' hgrow)
          have BG:=hid (BW6.out.trans ((((Below.refl w1.heap.size w6).alloc (by omega) _).alloc (by simp;omega) _).grown GR.out (by simp;omega) (fun gg hg=>(R6.out.lt gg hg).1)))
          go_roundw
          case rel=>exact ⟨k+1,by omega,by go_num,by rw [GS.out,GK.out,← svs_snoc];exact OW.out,BG.out⟩
          case measure=>simp [intOf];omega
    · obtain rfl:k=n:=by omega
      obtain ⟨q2,cap2,rfl,rr⟩:=row_lsF ROW.out h0
      have RR:Hid (Row wr q2 0 k (ptL f c0 k) (ptH f c0 k)):=hid (by rw [G.out] at rr;exact rr)
      have hB:=B2.out.trans (BB.out.mono B2.out.size)
      clear rr
      go_wp2
      go_ret2
      exact ⟨q2,cap2,rfl,RR.out,hB⟩
end Go.Proofs.YtbcjiigmbcfkeaaGreat
