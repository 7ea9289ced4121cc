import Derived.Test.YtbcjiigmbcfkeaaGreatHoMj
import Derived.Test.YtbcjiigmbcfkeaaGreatHoMi
import Derived.Test.YtbcjiigmbcfkeaaGreatHo12
import Derived.Deep.AppendLies
namespace Go.Proofs.YtbcjiigmbcfkeaaGreat
open Go.Lib (hid)
open Go.ChangeShapes Go.WideShapes Go.RowKit
open Sh
set_option maxRecDepth 100000 in
set_option maxHeartbeats 4000000 in
theorem rpn_any (b off np c b' off' nf c':Nat) (P F:Nat->P3) (w:World) (rp:Row3 w b off np P) (r:Row3 w b' off' nf F) (hn:np<=64) (hm:nf<=96) (h0:0<nf) (nr:∀ k,k<nf->Fok np (F k)) :
    Calls Tryz.prog 58 #[msv (some ⟨b,off,none⟩) np c (some ⟨b',off',none⟩) nf c'] w fun e w'=>∃ q cap,e=.returned (.slice (some ⟨q,0,none⟩) nf cap)/\Row9 w' q nf (Tr P F)/\Below w.heap.size w w':=by
  have hb1:b'<w.heap.size:=r.1
  have hb2:b<w.heap.size:=rp.1
  have R:=hid r
  have RP:=hid rp
  have NR:=hid nr
  have hn':(np:Int)<=64:=by omega
  have hm':(nf:Int)<=96:=by omega
  obtain ⟨i0,hi,hz0,hz1,hz2⟩:=info_parts infoP
  have HI:=hid hi
  have HZ0:=hid hz0
  have HZ1:=hid hz1
  have HZ2:=hid hz2
  have ME1:=hid (mes_new w (some ⟨b,off,none⟩) np c (some ⟨b',off',none⟩) nf c' 25)
  have B1:=hid (show Below w.heap.size w (w.alloc (msc (some ⟨b,off,none⟩) np c (some ⟨b',off',none⟩) nf c' 25)) from balloc (Below.refl _ w) _)
  clear r rp nr hi hz0 hz1 hz2
  go_enter Tryz.func58,Tryz.ntmps58
  go_wp2
  go_loopw [3,4] (fun v kv wr=>∃ k:Nat,k<=nf/\kv=.int .i64 k/\wr.ownsRow (w.heap.size+1) 77 9 v k (sh_pcs (Tr P F) k)/\Mes wr w.heap.size (some ⟨b,off,none⟩) np c (some ⟨b',off',none⟩) nf c'/\Below w.heap.size w wr) (fun _ kv _=>nf - (intOf kv).toNat)
  case atStart=>exact ⟨0,Nat.zero_le _,rfl,World.ownsRow_nil _ _ _ _,ME1.out,B1.out⟩
  case round =>
    clear ME1 B1
    obtain ⟨k,hk,rfl,hown,hme,BB⟩:=hrel
    have B0:=hid BB
    have HO:=hid hown
    have ME:=hid hme
    clear BB hown hme
    obtain ⟨m1,m2,m3⟩:=ME.out
    by_cases hlt:k<nf
    · have hk1:(k:Int)<(nf:Int):=by omega
      obtain ⟨x,y,z,hp,hx,hy,hz⟩:=fok_nat (NR.out k hlt)
      have S1:=hid (show sh_pcs (Tr P F) (k+1)=sh_pcs (Tr P F) k ++ [.int .i64 (P x).1,.int .i64 (P x).2.1,.int .i64 (P x).2.2,.int .i64 (P y).1,.int .i64 (P y).2.1,.int .i64 (P y).2.2,.int .i64 (P z).1,.int .i64 (P z).2.1,.int .i64 (P z).2.2] by rw [pcs_succ];unfold Tr;rw [hp];rfl)
      have r3:=row3_in R.out B0.out hb1
      have rq:=row3_in RP.out B0.out hb2
      obtain ⟨f0,f1,f2⟩:=r3.2 k hlt
      rw [hp] at f0 f1 f2
      have lf:=r3.1
      have RQ:=hid rq
      have lb:=rq.1
      have hx':(x:Int)<(np:Int):=by omega
      have hy':(y:Int)<(np:Int):=by omega
      have hz':(z:Int)<(np:Int):=by omega
      obtain ⟨px,hpx⟩:∃ p,P x=p:=⟨_,rfl⟩
      obtain ⟨py,hpy⟩:∃ p,P y=p:=⟨_,rfl⟩
      obtain ⟨pz,hpz⟩:∃ p,P z=p:=⟨_,rfl⟩
      rw [hpx,hpy,hpz] at S1
      have ZB:=hid ((Below.refl wr.heap.size wr).alloc (Nat.le_refl _) (.cells #[.int .i64 (x:Int),.int .i64 (y:Int),.int .i64 (z:Int)] 116))
      have FB:=hid (own_new wr ((x:Int),(y:Int),(z:Int)) 116)
      have lw:w.heap.size+1<=wr.heap.size:=m3
      have KEEP:Hid (∀ w',Below wr.heap.size wr w'->(w'.cell? ⟨wr.heap.size,0,none⟩=some (.int .i64 (x:Int))/\w'.cell? ⟨wr.heap.size,1,none⟩=some (.int .i64 (y:Int))/\w'.cell? ⟨wr.heap.size,2,none⟩=some (.int .i64 (z:Int)))->w'.cell? ⟨w.heap.size,0,none⟩=some (.slice (some ⟨b,off,none⟩) np c)/\w'.cell? ⟨wr.heap.size,0,none⟩=some (.int .i64 (x:Int))/\w'.cell? ⟨wr.heap.size,1,none⟩=some (.int .i64 (y:Int))/\w'.cell? ⟨wr.heap.size,2,none⟩=some (.int .i64 (z:Int))/\w'.cell? ⟨b,off+x*3,none⟩=some (.int .i64 px.1)/\w'.cell? ⟨b,off+x*3+1,none⟩=some (.int .i64 px.2.1)/\w'.cell? ⟨b,off+x*3+2,none⟩=some (.int .i64 px.2.2)/\w'.cell? ⟨b,off+y*3,none⟩=some (.int .i64 py.1)/\w'.cell? ⟨b,off+y*3+1,none⟩=some (.int .i64 py.2.1)/\w'.cell? ⟨b,off+y*3+2,none⟩=some (.int .i64 py.2.2)/\w'.cell? ⟨b,off+z*3,none⟩=some (.int .i64 pz.1)/\w'.cell? ⟨b,off+z*3+1,none⟩=some (.int .i64 pz.2.1)/\w'.cell? ⟨b,off+z*3+2,none⟩=some (.int .i64 pz.2.2)):=hid fun w' hb hf=>by
        have u0:=mes_below ME.out hb
        have u2:=row3_below RQ.out hb
        obtain ⟨a1,a2,a3⟩:=u2.2 x hx
        obtain ⟨b1,b2,b3⟩:=u2.2 y hy
        obtain ⟨c1,c2,c3⟩:=u2.2 z hz
        rw [hpx] at a1 a2 a3
        rw [hpy] at b1 b2 b3
        rw [hpz] at c1 c2 c3
        exact ⟨u0.1,hf.1,hf.2.1,hf.2.2,a1,a2,a3,b1,b2,b3,c1,c2,c3⟩
      clear hp hpx hpy hpz r3 rq
      go_wp2
      generalize wr.alloc (.cells #[.int .i64 (x:Int),.int .i64 (y:Int),.int .i64 (z:Int)] 116)=w4 at *
      have fc:w4.cell? ⟨wr.heap.size,0,none⟩=some (.int .i64 (x:Int))/\w4.cell? ⟨wr.heap.size,1,none⟩=some (.int .i64 (y:Int))/\w4.cell? ⟨wr.heap.size,2,none⟩=some (.int .i64 (z:Int)):=⟨FB.out.1,FB.out.2.1,FB.out.2.2.1⟩
      have FC:=hid fc
      have f4:wr.heap.size<w4.heap.size:=FB.out.2.2.2.2.2.2
      have o00:=own_below9 HO.out ZB.out
      have o0:=hid (show w4.drew.ownsRow (w.heap.size+1) 77 9 _ k (sh_pcs (Tr P F) k) from o00)
      clear o00
      have k0:=hid (fun (W:World) (h:Below w4.heap.size w4 W)=>KEEP.out W (ZB.out.trans (h.mono ZB.out.size)) ⟨(h.cell (p:=⟨wr.heap.size,0,none⟩) f4).trans FC.out.1,(h.cell (p:=⟨wr.heap.size,1,none⟩) f4).trans FC.out.2.1,(h.cell (p:=⟨wr.heap.size,2,none⟩) f4).trans FC.out.2.2⟩)
      have b0:=hid (show Below w4.heap.size w4 w4.drew from Below.drew (Below.refl _ _))
      have k1:Hid (∀ W,Below (w.heap.size+1) w4 W->(W.cell? ⟨wr.heap.size,0,none⟩=some (.int .i64 (x:Int))/\W.cell? ⟨wr.heap.size,1,none⟩=some (.int .i64 (y:Int))/\W.cell? ⟨wr.heap.size,2,none⟩=some (.int .i64 (z:Int)))->W.cell? ⟨w.heap.size,0,none⟩=some (.slice (some ⟨b,off,none⟩) np c)/\W.cell? ⟨wr.heap.size,0,none⟩=some (.int .i64 (x:Int))/\W.cell? ⟨wr.heap.size,1,none⟩=some (.int .i64 (y:Int))/\W.cell? ⟨wr.heap.size,2,none⟩=some (.int .i64 (z:Int))/\W.cell? ⟨b,off+x*3,none⟩=some (.int .i64 px.1)/\W.cell? ⟨b,off+x*3+1,none⟩=some (.int .i64 px.2.1)/\W.cell? ⟨b,off+x*3+2,none⟩=some (.int .i64 px.2.2)/\W.cell? ⟨b,off+y*3,none⟩=some (.int .i64 py.1)/\W.cell? ⟨b,off+y*3+1,none⟩=some (.int .i64 py.2.1)/\W.cell? ⟨b,off+y*3+2,none⟩=some (.int .i64 py.2.2)/\W.cell? ⟨b,off+z*3,none⟩=some (.int .i64 pz.1)/\W.cell? ⟨b,off+z*3+1,none⟩=some (.int .i64 pz.2.1)/\W.cell? ⟨b,off+z*3+2,none⟩=some (.int .i64 pz.2.2)):=hid fun W hb hf=>by
        obtain ⟨c0,_,_,_,a1,a2,a3,d1,d2,d3,e1,e2,e3⟩:=k0.out w4 (Below.refl _ _)
        have lb':b<w.heap.size+1:=by omega
        exact ⟨(hb.cell (p:=⟨w.heap.size,0,none⟩) (Nat.lt_succ_self _)).trans c0,hf.1,hf.2.1,hf.2.2,(hb.cell (p:=⟨b,_,none⟩) lb').trans a1,(hb.cell (p:=⟨b,_,none⟩) lb').trans a2,(hb.cell (p:=⟨b,_,none⟩) lb').trans a3,(hb.cell (p:=⟨b,_,none⟩) lb').trans d1,(hb.cell (p:=⟨b,_,none⟩) lb').trans d2,(hb.cell (p:=⟨b,_,none⟩) lb').trans d3,(hb.cell (p:=⟨b,_,none⟩) lb').trans e1,(hb.cell (p:=⟨b,_,none⟩) lb').trans e2,(hb.cell (p:=⟨b,_,none⟩) lb').trans e3⟩
      have F1:=hid (show (w4.alloc (.cells #[.int .i64 px.1,.int .i64 px.2.1,.int .i64 px.2.2,.int .i64 py.1,.int .i64 py.2.1,.int .i64 py.2.2,.int .i64 pz.1,.int .i64 pz.2.1,.int .i64 pz.2.2] 77)).drew.cell? ⟨wr.heap.size,0,none⟩=some (.int .i64 (x:Int))/\(w4.alloc (.cells #[.int .i64 px.1,.int .i64 px.2.1,.int .i64 px.2.2,.int .i64 py.1,.int .i64 py.2.1,.int .i64 py.2.2,.int .i64 pz.1,.int .i64 pz.2.1,.int .i64 pz.2.2] 77)).drew.cell? ⟨wr.heap.size,1,none⟩=some (.int .i64 (y:Int))/\(w4.alloc (.cells #[.int .i64 px.1,.int .i64 px.2.1,.int .i64 px.2.2,.int .i64 py.1,.int .i64 py.2.1,.int .i64 py.2.2,.int .i64 pz.1,.int .i64 pz.2.1,.int .i64 pz.2.2] 77)).drew.cell? ⟨wr.heap.size,2,none⟩=some (.int .i64 (z:Int)) from (k0.out _ (Below.drew ((Below.refl _ _).alloc (Nat.le_refl _) _))).2.imp id fun h=>⟨h.1,h.2.1⟩)
      have ME4:=hid (mes_below ME.out ZB.out)
      clear fc f0 f1 f2 m1 m2 m3 FC FB KEEP
      have b1:=hid (show Below w4.heap.size w4 (w4.alloc (.cells #[.int .i64 px.1,.int .i64 px.2.1,.int .i64 px.2.2,.int .i64 py.1,.int .i64 py.2.1,.int .i64 py.2.2,.int .i64 pz.1,.int .i64 pz.2.1,.int .i64 pz.2.2] 77)).drew from Below.drew ((Below.refl _ _).alloc (Nat.le_refl _) _))
      have bz:=hid (B0.out.trans (ZB.out.mono (by omega)))
      have lz:wr.heap.size<=w4.heap.size:=by omega
      have ow:=hid (fun g hg=>HO.out.lt g hg)
      clear HO ZB
      go_region_held3 (fun w'=>w'.cell? ⟨w.heap.size,0,none⟩=some (.slice (some ⟨b,off,none⟩) np c)/\w'.cell? ⟨wr.heap.size,0,none⟩=some (.int .i64 (x:Int))/\w'.cell? ⟨wr.heap.size,1,none⟩=some (.int .i64 (y:Int))/\w'.cell? ⟨wr.heap.size,2,none⟩=some (.int .i64 (z:Int))/\w'.cell? ⟨b,off+x*3,none⟩=some (.int .i64 px.1)/\w'.cell? ⟨b,off+x*3+1,none⟩=some (.int .i64 px.2.1)/\w'.cell? ⟨b,off+x*3+2,none⟩=some (.int .i64 px.2.2)/\w'.cell? ⟨b,off+y*3,none⟩=some (.int .i64 py.1)/\w'.cell? ⟨b,off+y*3+1,none⟩=some (.int .i64 py.2.1)/\w'.cell? ⟨b,off+y*3+2,none⟩=some (.int .i64 py.2.2)/\w'.cell? ⟨b,off+z*3,none⟩=some (.int .i64 pz.1)/\w'.cell? ⟨b,off+z*3+1,none⟩=some (.int .i64 pz.2.1)/\w'.cell? ⟨b,off+z*3+2,none⟩=some (.int .i64 pz.2.2))
        (first|(with_reducible exact k0.out _ b0.out)|(with_reducible exact k0.out _ b1.out)|(with_reducible exact k5.out)|fail)
        (first|(refine step_own9 rfl (.tmp 18) (.tmp 38) 74 rfl (w.heap.size+1) 77 i0 (.agg #[.int .i64 0,.int .i64 0,.int .i64 0,.int .i64 0,.int .i64 0,.int .i64 0,.int .i64 0,.int .i64 0,.int .i64 0]) 9 72 Tryz.underlying74 HI.out HZ0.out HZ1.out HZ2.out rfl (by decide) _ k (sh_pcs (Tr P F) k) (by simp [Act.eval]) (World.ownsRow.alloc o0.out _) ⟨w4.heap.size,0,none⟩ 1 1 (by simp [Act.eval]) [.int .i64 px.1,.int .i64 px.2.1,.int .i64 px.2.2,.int .i64 py.1,.int .i64 py.2.1,.int .i64 py.2.2,.int .i64 pz.1,.int .i64 pz.2.1,.int .i64 pz.2.2] (cells9 w4 px.1 px.2.1 px.2.2 py.1 py.2.1 py.2.2 pz.1 pz.2.1 pz.2.2 77) rfl (one9 px.1 px.2.1 px.2.2 py.1 py.2.1 py.2.2 pz.1 pz.2.1 pz.2.2) (by unfold maxLen;omega) (by omega) (by simp;omega) ?_;intro v' w7 hown' hgrow;have OW:=hid hown';have b5:=hid ((show Below (w.heap.size+1) w4 (w4.alloc (.cells #[.int .i64 px.1,.int .i64 px.2.1,.int .i64 px.2.2,.int .i64 py.1,.int .i64 py.2.1,.int .i64 py.2.2,.int .i64 pz.1,.int .i64 pz.2.1,.int .i64 pz.2.2] 77)).drew from Below.drew ((Below.refl _ _).alloc (by omega) _)).grown hgrow (by simp;omega) (fun g hg=>(ow.out g hg).1));have k5:=hid (k1.out w7 b5.out ⟨(World.grownBy.cell_far hgrow ⟨wr.heap.size,0,none⟩ (by simp;omega) (fun h=>absurd (ow.out wr.heap.size h.symm).2 (Nat.lt_irrefl _))).trans F1.out.1,(World.grownBy.cell_far hgrow ⟨wr.heap.size,1,none⟩ (by simp;omega) (fun h=>absurd (ow.out wr.heap.size h.symm).2 (Nat.lt_irrefl _))).trans F1.out.2.1,(World.grownBy.cell_far hgrow ⟨wr.heap.size,2,none⟩ (by simp;omega) (fun h=>absurd (ow.out wr.heap.size h.symm).2 (Nat.lt_irrefl _))).trans F1.out.2.2⟩);clear hown' hgrow)|fail)
      all_goals
        have M5:=hid (mes_in ME4.out b5.out (Nat.lt_succ_self _))
        have B5:=hid (bz.out.trans (b5.out.mono (Nat.le_succ _)))
        go_wp2
        go_roundw
        case rel=>exact ⟨k+1,by omega,by go_num,by rw [S1.out];exact OW.out,M5.out,B5.out⟩
        case measure=>simp [intOf];omega
    · obtain rfl:k=nf:=by omega
      obtain ⟨g,cap,hv,hg,r9⟩:=row9_of HO.out h0
      subst hv
      have R9:=hid r9
      have hB:=B0.out
      clear r9
      go_wp2
      go_ret
      exact ⟨g,cap,rfl,R9.out,hB⟩
end Go.Proofs.YtbcjiigmbcfkeaaGreat
