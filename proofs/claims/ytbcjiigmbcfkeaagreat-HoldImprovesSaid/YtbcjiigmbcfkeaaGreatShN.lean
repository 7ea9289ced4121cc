import Derived.Test.YtbcjiigmbcfkeaaGreatShM
import Derived.IntWalk
import Derived.Deep.RegionHeld3
import Derived.Deep.RegionWith
import Derived.Deep.DeepCutAuto
import Derived.Deep.Cut
namespace Go.Proofs.YtbcjiigmbcfkeaaGreat
open Go.Lib (hid)
set_option maxRecDepth 100000
set_option maxHeartbeats 8000000
open Go.ChangeShapes Go.WideShapes Go.RowKit
open Sh
def part (f:P3) (p q:Int):Nat->Int
 |0=>0
 |1=>(if f.1=p/\f.2.1=q then 1 else 0)
 |2=>(if f.1=p/\f.2.1=q then 1 else 0)+(if f.2.1=p/\f.2.2=q then 1 else 0)
 |_=>(if f.1=p/\f.2.1=q then 1 else 0)+(if f.2.1=p/\f.2.2=q then 1 else 0)+(if f.2.2=p/\f.1=q then 1 else 0)
theorem part_end (F:Nat->P3) (k:Nat) (p q:Int):((cnt F k p q:Nat):Int)+part (F k) p q 3=((cnt F (k+1) p q:Nat):Int):=by
  show ((cnt F k p q:Nat):Int)+((if (F k).1=p/\(F k).2.1=q then 1 else 0)+(if (F k).2.1=p/\(F k).2.2=q then 1 else 0)+(if (F k).2.2=p/\(F k).1=q then 1 else 0))=((cnt F k p q+((if (F k).1=p/\(F k).2.1=q then 1 else 0)+(if (F k).2.1=p/\(F k).2.2=q then 1 else 0)+(if (F k).2.2=p/\(F k).1=q then 1 else 0)):Nat):Int)
  by_cases h1:(F k).1=p/\(F k).2.1=q<;>by_cases h2:(F k).2.1=p/\(F k).2.2=q<;>by_cases h3:(F k).2.2=p/\(F k).1=q
  all_goals
    first|rw [if_pos h1,if_pos h1]|rw [if_neg h1,if_neg h1]
    first|rw [if_pos h2,if_pos h2]|rw [if_neg h2,if_neg h2]
    first|rw [if_pos h3,if_pos h3]|rw [if_neg h3,if_neg h3]
    omega
theorem part_bd (f:P3) (p q:Int) (j:Nat):0<=part f p q j/\part f p q j<=3:=by
  unfold part
  split
  · omega
  · split<;>omega
  · split<;>split<;>omega
  · split<;>split<;>split<;>omega
def comp (f:P3):Nat->Int
 |0=>f.1
 |1=>f.2.1
 |_=>f.2.2
theorem part_succ (f:P3) (p q:Int) (j:Nat) (h:j<3):part f p q (j+1)=part f p q j+(if comp f j=p/\comp f ((j+1) % 3)=q then 1 else 0):=by
  match j,h with
 |0,_=>simp [part,comp]
 |1,_=>simp [part,comp]
 |2,_=>simp [part,comp]
theorem part_zero (f:P3) (p q:Int):part f p q 0=0:=rfl
def EdRel (n0:Int) (f:P3) (p q:Int) (W:World) (nv jv:Value) (wx:World):Prop:=∃ j:Nat,j<=3/\jv=.int .i64 j/\nv=.int .i64 (n0+part f p q j)/\wx=W
theorem ed_cases {n0:Int} {f:P3} {p q:Int} {W wx:World} {nv jv:Value} (h:EdRel n0 f p q W nv jv wx) :
    (jv=.int .i64 0/\nv=.int .i64 (n0+part f p q 0)/\wx=W)∨(jv=.int .i64 1/\nv=.int .i64 (n0+part f p q 1)/\wx=W)∨(jv=.int .i64 2/\nv=.int .i64 (n0+part f p q 2)/\wx=W)∨(jv=.int .i64 3/\nv=.int .i64 (n0+part f p q 3)/\wx=W):=by
  obtain ⟨j,hj,h1,h2,h3⟩:=h
  match j,hj with
 |0,_=>exact Or.inl ⟨h1,h2,h3⟩
 |1,_=>exact Or.inr (Or.inl ⟨h1,h2,h3⟩)
 |2,_=>exact Or.inr (Or.inr (Or.inl ⟨h1,h2,h3⟩))
 |3,_=>exact Or.inr (Or.inr (Or.inr ⟨h1,h2,h3⟩))
theorem edges_row (a:Option Addr) (np c b' off' nf c':Nat) (F:Nat->P3) (p q:Int) (w:World) (r:Row3 w b' off' nf F) (hm:nf<=1000000) :
    Calls Tryz.prog 94 #[msv a np c (some ⟨b',off',none⟩) nf c',.int .i64 p,.int .i64 q] w fun e w'=>e=.returned (.int .i64 ((cnt F nf p q:Nat):Int))/\Below w.heap.size w w':=by
  have hb1:b'<w.heap.size:=r.1
  have R:=hid r
  have hm':(nf:Int)<=1000000:=by omega
  clear r
  go_enter Tryz.func94,Tryz.ntmps94
  go_wp2
  go_loopw [7,8] (fun nv kv wr=>∃ k:Nat,k<=nf/\kv=.int .i64 k/\nv=.int .i64 ((cnt F k p q:Nat):Int)/\wr=w.alloc (msc a np c (some ⟨b',off',none⟩) nf c' 25)) (fun _ kv _=>nf - (intOf kv).toNat)
  case atStart=>exact ⟨0,Nat.zero_le _,rfl,rfl,rfl⟩
  case round =>
    obtain ⟨k,hk,rfl,rfl,rfl⟩:=hrel
    by_cases hlt:k<nf
    · obtain ⟨c1,c2,c3⟩:=R.out.2 k hlt
      have hk1:(k:Int)<(nf:Int):=by omega
      have E:=hid (part_end F k p q)
      have cb:=cnt_bd F k p q
      have PB:=hid (part_bd (F k) p q)
      have PS:=hid (part_succ (F k) p q)
      generalize F k=f at *
      obtain ⟨n0,hn0⟩:∃ n,((cnt F k p q:Nat):Int)=n:=⟨_,rfl⟩
      have nb:0<=n0/\n0<=3000000:=by omega
      rw [hn0] at E ⊢
      clear hn0 cb
      obtain ⟨nb1,nb2⟩:=nb
      go_wp2
      go_loopw [7,9] (fun nv jv wx=>EdRel n0 f p q (w.alloc (msc a np c (some ⟨b',off',none⟩) nf c' 25)) nv jv wx) (fun _ jv _=>3 - (intOf jv).toNat)
      case atStart=>exact ⟨0,by omega,rfl,by rw [part_zero,Int.add_zero],rfl⟩
      case round =>
        rcases ed_cases hrel with ⟨rfl,rfl,rfl⟩|⟨rfl,rfl,rfl⟩|⟨rfl,rfl,rfl⟩|⟨rfl,rfl,rfl⟩
        rotate_left 3
        · rw [E.out]
          go_wp2
          go_roundw
          case rel=>exact ⟨k+1,by omega,by go_num,rfl,trivial⟩
          case measure=>simp [intOf];omega
        · have bd:=PB.out 0
          obtain ⟨s,hs⟩:∃ s,n0+part f p q 0=s:=⟨_,rfl⟩
          have S:=hid (show n0+part f p q 1=s+(if f.1=p/\f.2.1=q then 1 else 0) by rw [PS.out 0 (by decide),← hs,Int.add_assoc];rfl)
          have s1:0<=s:=by omega
          have s2:s<=3000003:=by omega
          rw [hs]
          clear hs bd hrel
          by_cases h1:f.1=p
          · have t1:(f.1 == p)=true:=beq_iff_eq.2 h1
            by_cases h2:f.2.1=q
            · have t2:(f.2.1 == q)=true:=beq_iff_eq.2 h2
              have S2:=hid (show n0+part f p q 1=s+1 by rw [S.out,if_pos ⟨h1,h2⟩])
              clear h1 h2
              go_wp2
              go_roundw
              case rel=>exact ⟨1,by omega,rfl,by rw [S2.out],rfl⟩
              case measure=>simp [intOf]
            · have t2:(f.2.1 == q)=false:=beq_eq_false_iff_ne.2 h2
              have S2:=hid (show n0+part f p q 1=s by rw [S.out,if_neg (fun e=>h2 e.2),Int.add_zero])
              clear h1 h2
              go_wp2
              go_roundw
              case rel=>exact ⟨1,by omega,rfl,by rw [S2.out],rfl⟩
              case measure=>simp [intOf]
          · have t1:(f.1 == p)=false:=beq_eq_false_iff_ne.2 h1
            have S2:=hid (show n0+part f p q 1=s by rw [S.out,if_neg (fun e=>h1 e.1),Int.add_zero])
            clear h1
            go_wp2
            go_roundw
            case rel=>exact ⟨1,by omega,rfl,by rw [S2.out],rfl⟩
            case measure=>simp [intOf]
        · have bd:=PB.out 1
          obtain ⟨s,hs⟩:∃ s,n0+part f p q 1=s:=⟨_,rfl⟩
          have S:=hid (show n0+part f p q 2=s+(if f.2.1=p/\f.2.2=q then 1 else 0) by rw [PS.out 1 (by decide),← hs,Int.add_assoc];rfl)
          have s1:0<=s:=by omega
          have s2:s<=3000003:=by omega
          rw [hs]
          clear hs bd hrel
          by_cases h1:f.2.1=p
          · have t1:(f.2.1 == p)=true:=beq_iff_eq.2 h1
            by_cases h2:f.2.2=q
            · have t2:(f.2.2 == q)=true:=beq_iff_eq.2 h2
              have S2:=hid (show n0+part f p q 2=s+1 by rw [S.out,if_pos ⟨h1,h2⟩])
              clear h1 h2
              go_wp2
              go_roundw
              case rel=>exact ⟨2,by omega,rfl,by rw [S2.out],rfl⟩
              case measure=>simp [intOf]
            · have t2:(f.2.2 == q)=false:=beq_eq_false_iff_ne.2 h2
              have S2:=hid (show n0+part f p q 2=s by rw [S.out,if_neg (fun e=>h2 e.2),Int.add_zero])
              clear h1 h2
              go_wp2
              go_roundw
              case rel=>exact ⟨2,by omega,rfl,by rw [S2.out],rfl⟩
              case measure=>simp [intOf]
          · have t1:(f.2.1 == p)=false:=beq_eq_false_iff_ne.2 h1
            have S2:=hid (show n0+part f p q 2=s by rw [S.out,if_neg (fun e=>h1 e.1),Int.add_zero])
            clear h1
            go_wp2
            go_roundw
            case rel=>exact ⟨2,by omega,rfl,by rw [S2.out],rfl⟩
            case measure=>simp [intOf]
        · have bd:=PB.out 2
          obtain ⟨s,hs⟩:∃ s,n0+part f p q 2=s:=⟨_,rfl⟩
          have S:=hid (show n0+part f p q 3=s+(if f.2.2=p/\f.1=q then 1 else 0) by rw [PS.out 2 (by decide),← hs,Int.add_assoc];rfl)
          have s1:0<=s:=by omega
          have s2:s<=3000003:=by omega
          rw [hs]
          clear hs bd hrel
          by_cases h1:f.2.2=p
          · have t1:(f.2.2 == p)=true:=beq_iff_eq.2 h1
            by_cases h2:f.1=q
            · have t2:(f.1 == q)=true:=beq_iff_eq.2 h2
              have S2:=hid (show n0+part f p q 3=s+1 by rw [S.out,if_pos ⟨h1,h2⟩])
              clear h1 h2
              go_wp2
              go_roundw
              case rel=>exact ⟨3,by omega,rfl,by rw [S2.out],rfl⟩
              case measure=>simp [intOf]
            · have t2:(f.1 == q)=false:=beq_eq_false_iff_ne.2 h2
              have S2:=hid (show n0+part f p q 3=s by rw [S.out,if_neg (fun e=>h2 e.2),Int.add_zero])
              clear h1 h2
              go_wp2
              go_roundw
              case rel=>exact ⟨3,by omega,rfl,by rw [S2.out],rfl⟩
              case measure=>simp [intOf]
          · have t1:(f.2.2 == p)=false:=beq_eq_false_iff_ne.2 h1
            have S2:=hid (show n0+part f p q 3=s by rw [S.out,if_neg (fun e=>h1 e.1),Int.add_zero])
            clear h1
            go_wp2
            go_roundw
            case rel=>exact ⟨3,by omega,rfl,by rw [S2.out],rfl⟩
            case measure=>simp [intOf]
    · obtain rfl:k=nf:=by omega
      go_wp2
      go_ret
      exact ⟨rfl,by (repeat' (first|exact Below.refl _ _|refine Below.setCell ?_ (by simp<;>omega) _|refine balloc ?_ _|refine Below.drew ?_|refine bdrewN ?_ _))⟩
theorem det_fit' {a b c:P3} (h:BdP 64 a) (k:BdP 64 b) (l:BdP 64 c):BdP 1152921504606846976 (pw a (vec b c)):=det_fit (h.mono (by decide)) (k.mono (by decide)) (l.mono (by decide))
theorem mes_drew {w:World} {q:Nat} {a:Option Addr} {n c:Nat} {a':Option Addr} {n' c':Nat} (h:Mes w q a n c a' n' c'):Mes w.drew q a n c a' n' c':=h
theorem rvol_row (b off np c b' off' nf c':Nat) (P F:Nat->P3) (w:World) (rp:Row3 w b off np P) (r:Row3 w b' off' nf F) (hn:np<=1000000) (hm:nf<=1000000) (nr:∀ k,k<nf->Fok np (F k)) (tb:TrB P F nf) :
    Calls Tryz.prog 95 #[msv (some ⟨b,off,none⟩) np c (some ⟨b',off',none⟩) nf c'] w fun e w'=>e=.returned (.int .i64 (vol P F nf))/\Below w.heap.size w w':=by
  have NR:=hid nr
  have TB:=hid tb
  have RP:=hid rp
  have RF:=hid r
  have hm':(nf:Int)<=1000000:=by omega
  clear rp r nr tb
  go_enter Tryz.func95,Tryz.ntmps95
  go_wp2
  go_loopw [3,4] (fun sv kv wr=>∃ k:Nat,k<=nf/\kv=.int .i64 k/\sv=.int .i64 (vol P F k)/\Mes wr w.heap.size (some ⟨b,off,none⟩) np c (some ⟨b',off',none⟩) nf c'/\Below w.heap.size w wr) (fun _ kv _=>nf - (intOf kv).toNat)
  case atStart=>exact ⟨0,Nat.zero_le _,rfl,rfl,mes_new _ _ _ _ _ _ _ _,by (repeat' (first|exact Below.refl _ _|refine Below.setCell ?_ (by simp<;>omega) _|refine balloc ?_ _|refine Below.drew ?_|refine bdrewN ?_ _))⟩
  case round =>
    obtain ⟨k,hk,rfl,rfl,me,BB⟩:=hrel
    have B0:=hid BB
    have ME:=hid me
    obtain ⟨m1,m2,m3⟩:=me
    clear BB
    by_cases hlt:k<nf
    · have hk1:(k:Int)<(nf:Int):=by omega
      obtain ⟨x,y,z,hp,hx,hy,hz⟩:=fok_nat (NR.out k hlt)
      have CN:=hid (fun W (B:Below w.heap.size w W)=>corners_nat b off np c b' off' nf c' k x y z P F W (row3_below RP.out B) (row3_below RF.out B) hlt hx hy hz hn hm hp)
      have T:=hid (TB.out k hlt)
      have vb:=vol_bd (P:=P) (F:=F) (n:=k) (fun i hi=>TB.out i (by omega))
      have db:=det_bd T.out.1 T.out.2.1 T.out.2.2
      have E:=hid (show vol P F (k+1)=vol P F k+det (Tr P F k).1 (Tr P F k).2.1 (Tr P F k).2.2 from rfl)
      have hT:Tr P F k=(P x,P y,P z):=by unfold Tr;rw [hp];rfl
      rw [hT] at T db E
      clear hT hp
      generalize P x=p at *
      generalize P y=q at *
      generalize P z=s at *
      have A1:=hid (T.out.2.1.mono (by decide):BdP 1048576 q)
      have A2:=hid (T.out.2.2.mono (by decide):BdP 1048576 s)
      have A3:=hid (det_fit' T.out.1 T.out.2.1 T.out.2.2)
      go_wp2_with fail
      refine (CN.out _ (by have hB:=B0.out;(repeat' (first|exact Below.refl _ _|refine bstep ?_ hB|refine Below.setCell ?_ (by simp<;>omega) _|refine balloc ?_ _|refine Below.drew ?_|refine bdrewN ?_ _)))).mono ?_
      rintro e w1 ⟨rfl,hb1⟩
      have me1:=hid (mes_alloc (mes_below ME.out hb1) (.cells #[.int .i64 p.1,.int .i64 p.2.1,.int .i64 p.2.2,.int .i64 q.1,.int .i64 q.2.1,.int .i64 q.2.2,.int .i64 s.1,.int .i64 s.2.1,.int .i64 s.2.2] 77))
      have B1:=hid (balloc (bstep B0.out hb1) (.cells #[.int .i64 p.1,.int .i64 p.2.1,.int .i64 p.2.2,.int .i64 q.1,.int .i64 q.2.1,.int .i64 q.2.2,.int .i64 s.1,.int .i64 s.2.1,.int .i64 s.2.2] 77))
      have i0:=pan_drew (pan_new w1 p q s 77)
      clear m1 m2 m3 hb1
      have wq:IntKind.i64.wrap (vol P F k+dot p (vec q s))=vol P F k+dot p (vec q s):=IntWalk.i64_in _ (by have d1:dot p (vec q s)=det p q s:=rfl;rw [d1];omega)
      go_wp2_with fail
      go_region_held3 (fun w'=>w'.cell? ⟨w1.heap.size,0,none⟩=some (.int .i64 p.1)/\w'.cell? ⟨w1.heap.size,1,none⟩=some (.int .i64 p.2.1)/\w'.cell? ⟨w1.heap.size,2,none⟩=some (.int .i64 p.2.2)/\w'.cell? ⟨w1.heap.size,3,none⟩=some (.int .i64 q.1)/\w'.cell? ⟨w1.heap.size,4,none⟩=some (.int .i64 q.2.1)/\w'.cell? ⟨w1.heap.size,5,none⟩=some (.int .i64 q.2.2)/\w'.cell? ⟨w1.heap.size,6,none⟩=some (.int .i64 s.1)/\w'.cell? ⟨w1.heap.size,7,none⟩=some (.int .i64 s.2.1)/\w'.cell? ⟨w1.heap.size,8,none⟩=some (.int .i64 s.2.2))
        (first|exact pan_cells i0|exact pan_cells i1|exact pan_cells i2|fail)
        (first|(go_at_call 138;(with_reducible refine (cross_any q s _ A1.out A2.out).mono ?_);rintro e v1 ⟨rfl,hv1⟩;have i1:=pan_below i0 hv1)|(go_at_call 140;(with_reducible refine (rdot_any p (vec q s) _ A3.out).mono ?_);rintro e v2 ⟨rfl,hv2⟩;have i2:=pan_below i1 hv2)|fail)
      all_goals
        clear wq
        go_wp2
        go_roundw
        case rel=>exact ⟨k+1,by omega,by go_num,by rw [E.out];rfl,mes_below (mes_below (mes_drew me1.out) hv1) hv2,bstep (bstep (Below.drew B1.out) hv1) hv2⟩
        case measure=>simp [intOf];omega
    · obtain rfl:k=nf:=by omega
      go_wp2
      go_ret
      exact ⟨rfl,B0.out⟩
theorem mes_set {w:World} {q r o:Nat} {v:Value} {a:Option Addr} {n c:Nat} {a':Option Addr} {n' c':Nat} (h:Mes w q a n c a' n' c') (k:r ≠ q):Mes (w.setCell ⟨r,o,none⟩ v) q a n c a' n' c':=by
  obtain ⟨h1,h2,h3⟩:=h
  have k':¬ r=q:=k
  have k2:¬ q=r:=fun e=>k e.symm
  exact ⟨by go_simp,by go_simp,by simpa using h3⟩
theorem ne3 {p0 p1 p2 q0 q1 q2:Int} (h:¬ ((q0,q1,q2):P3)=(p0,p1,p2)):¬ p0=q0∨(p0=q0/\¬ p1=q1)∨(p0=q0/\p1=q1/\¬ p2=q2):=by
  by_cases h0:p0=q0
  · by_cases h1:p1=q1
    · by_cases h2:p2=q2
      · exact absurd (by rw [h0,h1,h2]) h
      · exact Or.inr (Or.inr ⟨h0,h1,h2⟩)
    · exact Or.inr (Or.inl ⟨h0,h1⟩)
  · exact Or.inl h0
theorem below_set1 {a w:World} {r o:Nat} {v:Value} (h:Below a.heap.size a w) (n:a.heap.size<=r):Below a.heap.size a (w.setCell ⟨r,o,none⟩ v):=h.setCell n _
theorem row3_setc {w:World} {b off n q o:Nat} {f:Nat->P3} {v:Value} (r:Row3 w b off n f) (h:q ≠ b):Row3 (w.setCell ⟨q,o,none⟩ v) b off n f:=by
  refine ⟨by simpa using r.1,fun k hk=>?_⟩
  obtain ⟨h1,h2,h3⟩:=r.2 k hk
  have n1:¬ q=b:=h
  have n2:¬ b=q:=fun e=>h e.symm
  exact ⟨by go_simp,by go_simp,by go_simp⟩
section
variable {np nf:Nat} {P F:Nat->P3}
theorem vc_pts (g:¬ (64<np∨nf=0∨96<nf)) (h:ptsB P np=false):vcode ⟨np,nf,P,F⟩=1:=by
  unfold vcode;dsimp only;rw [if_neg g,if_pos h]
theorem vc_face (g:¬ (64<np∨nf=0∨96<nf)) (h:ptsB P np=true) {k:Nat} (hk:k<nf) (z:∀ i,i<k->fcode np P (F i)=0) (ne:fcode np P (F k) ≠ 0):vcode ⟨np,nf,P,F⟩=fcode np P (F k):=by
  unfold vcode;dsimp only;rw [if_neg g,if_neg (by rw [h];decide),fcodes_bad hk ne z,if_pos ne]
theorem vc_open (g:¬ (64<np∨nf=0∨96<nf)) (h:ptsB P np=true) (z:∀ i,i<nf->fcode np P (F i)=0) (o:closedB F nf=false):vcode ⟨np,nf,P,F⟩=7:=by
  unfold vcode;dsimp only;rw [if_neg g,if_neg (by rw [h];decide),fcodes_zero z,if_neg (by decide),if_pos o]
theorem vc_used (g:¬ (64<np∨nf=0∨96<nf)) (h:ptsB P np=true) (z:∀ i,i<nf->fcode np P (F i)=0) (o:closedB F nf=true) (u:allB F nf np=false):vcode ⟨np,nf,P,F⟩=5:=by
  unfold vcode;dsimp only;rw [if_neg g,if_neg (by rw [h];decide),fcodes_zero z,if_neg (by decide),if_neg (by rw [o];decide),if_pos u]
theorem vc_turn (g:¬ (64<np∨nf=0∨96<nf)) (h:ptsB P np=true) (z:∀ i,i<nf->fcode np P (F i)=0) (o:closedB F nf=true) (u:allB F nf np=true) (v:vol P F nf<=0):vcode ⟨np,nf,P,F⟩=8:=by
  unfold vcode;dsimp only;rw [if_neg g,if_neg (by rw [h];decide),fcodes_zero z,if_neg (by decide),if_neg (by rw [o];decide),if_neg (by rw [u];decide),if_pos v]
theorem vc_fine (g:¬ (64<np∨nf=0∨96<nf)) (h:ptsB P np=true) (z:∀ i,i<nf->fcode np P (F i)=0) (o:closedB F nf=true) (u:allB F nf np=true) (v:¬ vol P F nf<=0):vcode ⟨np,nf,P,F⟩=0:=by
  unfold vcode;dsimp only;rw [if_neg g,if_neg (by rw [h];decide),fcodes_zero z,if_neg (by decide),if_neg (by rw [o];decide),if_neg (by rw [u];decide),if_neg v]
theorem ptB_no {k:Nat} (h:inP 64 (P k)=false):ptB P k=false:=by unfold ptB;rw [h];rfl
theorem ptB_eq {k j:Nat} (hj:j<k) (h:P j=P k):ptB P k=false:=by
  unfold ptB
  rw [Bool.and_eq_false_iff]
  exact Or.inr (List.all_eq_false.2 ⟨j,List.mem_range.2 hj,by simp [h]⟩)
theorem ptB_yes {k:Nat} (h:inP 64 (P k)=true) (g:∀ j,j<k->P j ≠ P k):ptB P k=true:=by
  unfold ptB
  rw [h,Bool.true_and,List.all_eq_true]
  exact fun j hj=>decide_eq_true (g j (List.mem_range.1 hj))
theorem fcode_no {p:P3} (h:¬ Fok np p):fcode np P p=5:=by unfold fcode;exact if_neg h
theorem fcode_flat {x y z:Nat} (hx:x<np) (hy:y<np) (hz:z<np) (h:nrm (P x) (P y) (P z)=(0,0,0)):fcode np P ((x:Int),(y:Int),(z:Int))=6:=by
  unfold fcode
  rw [if_pos (show 0<=(x:Int)/\(x:Int)<np/\0<=(y:Int)/\(y:Int)<np/\0<=(z:Int)/\(z:Int)<np by omega)]
  exact if_pos h
theorem fcode_yes {x y z:Nat} (hx:x<np) (hy:y<np) (hz:z<np) (h:nrm (P x) (P y) (P z) ≠ (0,0,0)):fcode np P ((x:Int),(y:Int),(z:Int))=0:=by
  unfold fcode
  rw [if_pos (show 0<=(x:Int)/\(x:Int)<np/\0<=(y:Int)/\(y:Int)<np/\0<=(z:Int)/\(z:Int)<np by omega)]
  exact if_neg h
theorem face_yes {p:P3} (a1:cnt F nf p.1 p.2.1=1) (a2:cnt F nf p.2.1 p.1=1) (b1:cnt F nf p.2.1 p.2.2=1) (b2:cnt F nf p.2.2 p.2.1=1) (c1:cnt F nf p.2.2 p.1=1) (c2:cnt F nf p.1 p.2.2=1):faceB F nf p=true:=by
  unfold faceB sideB
  simp [a1,a2,b1,b2,c1,c2]
theorem face_no {p:P3} {x y:Int} (hx:(x,y)=(p.1,p.2.1)∨(x,y)=(p.2.1,p.1)∨(x,y)=(p.2.1,p.2.2)∨(x,y)=(p.2.2,p.2.1)∨(x,y)=(p.2.2,p.1)∨(x,y)=(p.1,p.2.2)) (h:((cnt F nf x y:Nat):Int) ≠ 1):faceB F nf p=false :=
  face_bad hx (by show ((cnt F nf x y:Nat):Int) ≠ 1;exact h)
end
theorem rval_big1 (a:Option Addr) (np c:Nat) (a':Option Addr) (nf c':Nat) (w:World) (h:64<np) (l:np<=1000000) :
    Calls Tryz.prog 46 #[msv a np c a' nf c'] w fun e w'=>e=.returned (.int .i64 4)/\Below w.heap.size w w':=by
  have t1:(64:Int)<(np:Int):=by omega
  clear h
  go_enter Tryz.func46,Tryz.ntmps46
  go_wp2
  go_ret
  exact ⟨rfl,by (repeat' (first|exact Below.refl _ _|refine Below.setCell ?_ (by simp<;>omega) _|refine balloc ?_ _|refine Below.drew ?_|refine bdrewN ?_ _))⟩
theorem rval_big2 (a:Option Addr) (np c:Nat) (a':Option Addr) (nf c':Nat) (w:World) (h:np<=64) (k:nf=0∨96<nf) (l2:nf<=1000000) :
    Calls Tryz.prog 46 #[msv a np c a' nf c'] w fun e w'=>e=.returned (.int .i64 4)/\Below w.heap.size w w':=by
  have t1:decide ((64:Int)<(np:Int))=false:=decide_eq_false (by omega)
  have WI:=hid (fun W=>((show decide ((1:Int)<=(nf:Int)/\(nf:Int)<=96)=false from decide_eq_false (by omega)) ▸ rwithin_any (nf:Int) 1 96 W:Calls Tryz.prog 90 #[.int .i64 (nf:Int),.int .i64 1,.int .i64 96] W fun e w'=>e=.returned (.bool false)/\W=w'))
  clear h k
  go_enter Tryz.func46,Tryz.ntmps46
  go_wp2_with fail
  refine (WI.out _).mono ?_
  rintro e w' ⟨rfl,rfl⟩
  go_wp2
  go_ret
  exact ⟨rfl,by (repeat' (first|exact Below.refl _ _|refine Below.setCell ?_ (by simp<;>omega) _|refine balloc ?_ _|refine Below.drew ?_|refine bdrewN ?_ _))⟩
theorem rval_row (b off np c b' off' nf c':Nat) (P F:Nat->P3) (w:World) (rp:Row3 w b off np P) (rf:Row3 w b' off' nf F) (h1:0<np) (h2:np<=64) (h3:0<nf) (h4:nf<=96) :
    Calls Tryz.prog 46 #[msv (some ⟨b,off,none⟩) np c (some ⟨b',off',none⟩) nf c'] w fun e w'=>e=.returned (.int .i64 (vcode ⟨np,nf,P,F⟩))/\Below w.heap.size w w':=by
  have RP:=hid rp
  have RF:=hid rf
  have hb:b<w.heap.size:=rp.1
  have hb':b'<w.heap.size:=rf.1
  have G:=hid (show ¬ (64<np∨nf=0∨96<nf) by omega)
  have nn:(np:Int)<=64:=by omega
  have mm:(nf:Int)<=96:=by omega
  have L1:=hid (show np<=1000000 by omega)
  have L2:=hid (show nf<=1000000 by omega)
  have t1:decide ((64:Int)<(np:Int))=false:=decide_eq_false (by omega)
  obtain ⟨res,hres⟩:∃ res,vcode ⟨np,nf,P,F⟩=res:=⟨_,rfl⟩
  have RES:=hid hres
  rw [hres]
  clear rp rf hres h3 h4
  have WI:=hid (fun W=>((show decide ((1:Int)<=(nf:Int)/\(nf:Int)<=96)=true from decide_eq_true (by have:=G.out;omega)) ▸ rwithin_any (nf:Int) 1 96 W:Calls Tryz.prog 90 #[.int .i64 (nf:Int),.int .i64 1,.int .i64 96] W fun e w'=>e=.returned (.bool true)/\W=w'))
  go_enter Tryz.func46,Tryz.ntmps46
  go_wp2_with fail
  refine (WI.out _).mono ?_
  rintro e w' ⟨rfl,rfl⟩
  go_wp2
  go_loopw [3] (fun kv wr=>∃ k:Nat,k<=np/\kv=.int .i64 k/\(∀ i,i<k->ptB P i=true)/\Mes wr w.heap.size (some ⟨b,off,none⟩) np c (some ⟨b',off',none⟩) nf c'/\Below w.heap.size w wr) (fun kv _=>np - (intOf kv).toNat)
  case atStart=>exact ⟨0,Nat.zero_le _,rfl,fun i hi=>absurd hi (Nat.not_lt_zero i),mes_new _ _ _ _ _ _ _ _,by (repeat' (first|exact Below.refl _ _|refine Below.setCell ?_ (by simp<;>omega) _|refine balloc ?_ _|refine Below.drew ?_|refine bdrewN ?_ _))⟩
  case round =>
    obtain ⟨k,hk,rfl,good,hme,BB⟩:=hrel
    have GOOD:=hid good
    have ME:=hid hme
    have B0:=hid BB
    clear good hme BB
    obtain ⟨m1,m2,m3⟩:=ME.out
    by_cases hlt:k<np
    · have k1:(k:Int)<(np:Int):=by omega
      have r2:=row3_in RP.out B0.out hb
      obtain ⟨c1,c2,c3⟩:=r2.2 k hlt
      have r5:=r2.1
      clear r2
      have PBAD:=hid (fun h:ptB P k=false=>ptsB_bad hlt h)
      have PEQ:=hid (fun j (hj:j<k) (h:P j=P k)=>PBAD.out (ptB_eq hj h))
      have PNO:=hid (fun h:inP 64 (P k)=false=>PBAD.out (ptB_no h))
      have PYES:=hid (fun (h:inP 64 (P k)=true) (g:∀ j,j<k->P j ≠ P k)=>ptB_yes h g)
      obtain ⟨p,hp⟩:∃ p,P k=p:=⟨_,rfl⟩
      rw [hp] at c1 c2 c3 PEQ PNO PYES
      have HP:=hid hp
      clear hp
      have NE:=hid (fun W=>near_any p 64 W (by decide) (by decide))
      cases hin:inP 64 p with
     |false =>
        rw [hin] at NE
        have hf:res=1:=by rw [← RES.out];exact vc_pts G.out (PNO.out hin)
        clear hin
        subst hf
        go_wp2_with fail
        refine (NE.out _).mono ?_
        rintro e w2 ⟨rfl,hb2⟩
        go_wp2
        go_ret
        exact ⟨rfl,by have hB:=B0.out;(repeat' (first|exact Below.refl _ _|refine bstep ?_ hb2|refine bstep ?_ hB|refine Below.setCell ?_ (by simp<;>omega) _|refine balloc ?_ _|refine Below.drew ?_|refine bdrewN ?_ _))⟩
     |true =>
        rw [hin] at NE
        have HIN:=hid hin
        clear hin
        go_wp2_with fail
        refine (NE.out _).mono ?_
        rintro e w2 ⟨rfl,hb2⟩
        have B2:=hid (show Below w.heap.size w w2 by have hB:=B0.out;(repeat' (first|exact Below.refl _ _|refine bstep ?_ hb2|refine bstep ?_ hB|refine Below.setCell ?_ (by simp<;>omega) _|refine balloc ?_ _|refine Below.drew ?_|refine bdrewN ?_ _)))
        have ME2:=hid (mes_below ME.out hb2)
        clear c1 c2 c3 m1 m2 m3 hb2 r5
        go_wp2
        go_loopw [4] (fun jv wx=>∃ j:Nat,j<=k/\jv=.int .i64 j/\(∀ i,i<j->P i ≠ p)/\Mes wx w.heap.size (some ⟨b,off,none⟩) np c (some ⟨b',off',none⟩) nf c'/\Below w.heap.size w wx) (fun jv _=>k - (intOf jv).toNat)
        case atStart=>exact ⟨0,Nat.zero_le _,rfl,fun i hi=>absurd hi (Nat.not_lt_zero i),ME2.out,B2.out⟩
        case round =>
          obtain ⟨j,hj,rfl,diff,hme,BB⟩:=hrel
          have DIFF:=hid diff
          have ME3:=hid hme
          have B3:=hid BB
          clear diff hme BB
          obtain ⟨m1,m2,m3⟩:=ME3.out
          by_cases hjt:j<k
          · have j1:(j:Int)<(k:Int):=by omega
            have r2:=row3_in RP.out B3.out hb
            obtain ⟨c1,c2,c3⟩:=r2.2 k hlt
            obtain ⟨d1,d2,d3⟩:=r2.2 j (by omega)
            have r5:=r2.1
            have PE:=hid (PEQ.out j hjt)
            rw [HP.out] at c1 c2 c3
            have DJ:=hid (DIFF.out)
            obtain ⟨q,hq⟩:∃ q,P j=q:=⟨_,rfl⟩
            rw [hq] at d1 d2 d3 PE
            have HQ:=hid hq
            clear r2 hq
            by_cases eq:q=p
            · have hf:res=1:=by rw [← RES.out];exact vc_pts G.out (PE.out eq)
              subst hf
              subst eq
              clear PE
              go_wp2
              go_region
              go_wp2
              go_ret
              exact ⟨rfl,by have hB:=B3.out;(repeat' (first|exact Below.refl _ _|refine bstep ?_ hB|refine Below.setCell ?_ (by simp<;>omega) _|refine balloc ?_ _|refine Below.drew ?_|refine bdrewN ?_ _))⟩
            · have EQ:=hid eq
              obtain ⟨p0,p1,p2⟩:=p
              obtain ⟨q0,q1,q2⟩:=q
              dsimp only at c1 c2 c3 d1 d2 d3
              clear PE
              rcases ne3 eq with hx|⟨rfl,hx⟩|⟨rfl,rfl,hx⟩
              all_goals
                have hx':=beq_eq_false_iff_ne.2 hx
                clear eq
                go_wp2
                go_region
                go_wp2
                go_roundw
                case rel=>exact ⟨j+1,by omega,by go_num,fun i hi=>by
                    by_cases c:i=j
                    · subst c;rw [HQ.out];exact EQ.out
                    · exact DIFF.out i (by omega),mes_drew ME3.out,Below.drew B3.out⟩
                case measure=>simp [intOf];omega
          · obtain rfl:j=k:=by omega
            have PT:=hid (PYES.out HIN.out (fun i hi=>DIFF.out i hi))
            go_wp2
            go_roundw
            case rel=>exact ⟨j+1,by omega,by go_num,fun i hi=>by
                by_cases c:i=j
                · subst c;exact PT.out
                · exact GOOD.out i (by omega),ME3.out,B3.out⟩
            case measure=>simp [intOf];omega
    · obtain rfl:k=np:=by omega
      have PTS:=hid (ptsB_good GOOD.out)
      obtain ⟨w1,hmk,hB1,hg⟩:=bools_make wr k L1.out
      have M:=hid hB1
      have B1:=hid (B0.out.grown hg (Nat.le_of_lt m3) (fun k hk=>by cases hk))
      have ME1:=hid (grown_mes ME.out hg (fun q=>by cases q))
      have hBw:w.heap.size<wr.heap.size:=m3
      obtain ⟨B,hBB⟩:∃ B,wr.heap.size=B:=⟨_,rfl⟩
      rw [hBB] at M hmk hBw
      have n1:B ≠ w.heap.size:=by omega
      have n2:B ≠ b':=by omega
      have n3:B ≠ b:=by omega
      have N:=hid (And.intro n1 (And.intro n2 n3))
      clear n1 n2 n3 hB1 hg hBB
      go_wp2
      clear hmk m1 m2 m3
      go_loopw [6] (fun kv wr=>∃ i:Nat,i<=nf/\kv=.int .i64 i/\(∀ t,t<i->fcode k P (F t)=0)/\Bools wr B k (usedB F i)/\Mes wr w.heap.size (some ⟨b,off,none⟩) k c (some ⟨b',off',none⟩) nf c'/\Below w.heap.size w wr) (fun kv _=>nf - (intOf kv).toNat)
      case atStart=>exact ⟨0,Nat.zero_le _,rfl,fun t ht=>absurd ht (Nat.not_lt_zero t),bools_eq M.out (fun i _=>rfl),ME1.out,B1.out⟩
      case round =>
        clear M ME1 B1 ME B0
        obtain ⟨i,hi,rfl,zero,hbo,hme,BB⟩:=hrel
        have ZERO:=hid zero
        have M0:=hid hbo
        have ME:=hid hme
        have B0:=hid BB
        clear zero hbo hme BB
        obtain ⟨m1,m2,m3⟩:=ME.out
        by_cases hlt:i<nf
        · have i1:(i:Int)<(nf:Int):=by omega
          have RR0:=hid (row3_in RF.out B0.out hb')
          obtain ⟨c1,c2,c3⟩:=RR0.out.2 i hlt
          have r5:=RR0.out.1
          have VB:=hid (fun ne=>vc_face G.out PTS.out hlt ZERO.out ne)
          have S1:=hid (fun x y z h q=>usedB_succ F i q x y z h)
          have HF:=hid (show F i=F i from rfl)
          have BU0:=hid B0.out
          obtain ⟨p,hp⟩:∃ p,F i=p:=⟨_,rfl⟩
          rw [hp] at c1 c2 c3 VB S1
          have HP:=hid hp
          clear hp HF
          obtain ⟨p0,p1,p2⟩:=p
          dsimp only at c1 c2 c3
          go_wp2
          refine wp_loop_rounds 4 ?_
          rcases Int.lt_or_le p0 0 with g0|g0
          · have NF:¬ Fok k (p0,p1,p2):=(fun h=>by unfold Fok at h;dsimp only at h;omega)
            have hf:res=5:=by rw [← RES.out];exact (VB.out (by rw [fcode_no NF];decide)).trans (fcode_no NF)
            subst hf
            clear NF VB
            rw [rounds_succ]
            go_wp2
            go_ret
            exact ⟨rfl,by have hB:=BU0.out;(repeat' (first|exact Below.refl _ _|refine bstep ?_ hB|refine Below.setCell ?_ (by simp<;>omega) _|refine balloc ?_ _|refine Below.drew ?_|refine bdrewN ?_ _))⟩
          rcases Int.lt_or_le p0 (k:Int) with f0|f0
          rotate_left
          · have NF:¬ Fok k (p0,p1,p2):=(fun h=>by unfold Fok at h;dsimp only at h;omega)
            have hf:res=5:=by rw [← RES.out];exact (VB.out (by rw [fcode_no NF];decide)).trans (fcode_no NF)
            subst hf
            clear NF VB
            have g0':decide (p0<0)=false:=decide_eq_false (by omega)
            clear g0
            rw [rounds_succ]
            go_wp2
            go_ret
            exact ⟨rfl,by have hB:=BU0.out;(repeat' (first|exact Below.refl _ _|refine bstep ?_ hB|refine Below.setCell ?_ (by simp<;>omega) _|refine balloc ?_ _|refine Below.drew ?_|refine bdrewN ?_ _))⟩
          obtain ⟨x,rfl⟩:=Int.eq_ofNat_of_zero_le g0
          have hx:x<k:=by omega
          obtain ⟨d1,d2⟩:=M0.out.2 x hx
          have l1:=M0.out.1
          have M1:=hid (bools_set M0.out hx)
          rw [rounds_succ]
          go_wp2
          clear d1 d2 l1 c1 c2 c3 m1 m2 m3 r5
          have BU1:=hid (below_set1 (o:=x) (v:=.bool true) BU0.out (Nat.le_of_lt hBw))
          have ME1:=hid (mes_set (o:=x) (v:=.bool true) ME.out N.out.1)
          have RR1:=hid (row3_setc (o:=x) (v:=.bool true) RR0.out N.out.2.1)
          obtain ⟨m1,m2,m3⟩:=ME1.out
          obtain ⟨c1,c2,c3⟩:=RR1.out.2 i hlt
          rw [HP.out] at c1 c2 c3
          dsimp only at c1 c2 c3
          have r5:=RR1.out.1
          rcases Int.lt_or_le p1 0 with g1|g1
          · have NF:¬ Fok k ((x:Int),p1,p2):=(fun h=>by unfold Fok at h;dsimp only at h;omega)
            have hf:res=5:=by rw [← RES.out];exact (VB.out (by rw [fcode_no NF];decide)).trans (fcode_no NF)
            subst hf
            clear NF VB
            rw [rounds_succ]
            go_wp2
            go_ret
            exact ⟨rfl,by have hB:=BU1.out;(repeat' (first|exact Below.refl _ _|refine bstep ?_ hB|refine Below.setCell ?_ (by simp<;>omega) _|refine balloc ?_ _|refine Below.drew ?_|refine bdrewN ?_ _))⟩
          rcases Int.lt_or_le p1 (k:Int) with f1|f1
          rotate_left
          · have NF:¬ Fok k ((x:Int),p1,p2):=(fun h=>by unfold Fok at h;dsimp only at h;omega)
            have hf:res=5:=by rw [← RES.out];exact (VB.out (by rw [fcode_no NF];decide)).trans (fcode_no NF)
            subst hf
            clear NF VB
            have g1':decide (p1<0)=false:=decide_eq_false (by omega)
            clear g1
            rw [rounds_succ]
            go_wp2
            go_ret
            exact ⟨rfl,by have hB:=BU1.out;(repeat' (first|exact Below.refl _ _|refine bstep ?_ hB|refine Below.setCell ?_ (by simp<;>omega) _|refine balloc ?_ _|refine Below.drew ?_|refine bdrewN ?_ _))⟩
          obtain ⟨y,rfl⟩:=Int.eq_ofNat_of_zero_le g1
          have hy:y<k:=by omega
          obtain ⟨d1,d2⟩:=M1.out.2 y hy
          have l1:=M1.out.1
          have M2:=hid (bools_set M1.out hy)
          rw [rounds_succ]
          go_wp2
          clear d1 d2 l1 c1 c2 c3 m1 m2 m3 r5
          have BU2:=hid (below_set1 (o:=y) (v:=.bool true) BU1.out (Nat.le_of_lt hBw))
          have ME2:=hid (mes_set (o:=y) (v:=.bool true) ME1.out N.out.1)
          have RR2:=hid (row3_setc (o:=y) (v:=.bool true) RR1.out N.out.2.1)
          obtain ⟨m1,m2,m3⟩:=ME2.out
          obtain ⟨c1,c2,c3⟩:=RR2.out.2 i hlt
          rw [HP.out] at c1 c2 c3
          dsimp only at c1 c2 c3
          have r5:=RR2.out.1
          rcases Int.lt_or_le p2 0 with g2|g2
          · have NF:¬ Fok k ((x:Int),(y:Int),p2):=(fun h=>by unfold Fok at h;dsimp only at h;omega)
            have hf:res=5:=by rw [← RES.out];exact (VB.out (by rw [fcode_no NF];decide)).trans (fcode_no NF)
            subst hf
            clear NF VB
            rw [rounds_succ]
            go_wp2
            go_ret
            exact ⟨rfl,by have hB:=BU2.out;(repeat' (first|exact Below.refl _ _|refine bstep ?_ hB|refine Below.setCell ?_ (by simp<;>omega) _|refine balloc ?_ _|refine Below.drew ?_|refine bdrewN ?_ _))⟩
          rcases Int.lt_or_le p2 (k:Int) with f2|f2
          rotate_left
          · have NF:¬ Fok k ((x:Int),(y:Int),p2):=(fun h=>by unfold Fok at h;dsimp only at h;omega)
            have hf:res=5:=by rw [← RES.out];exact (VB.out (by rw [fcode_no NF];decide)).trans (fcode_no NF)
            subst hf
            clear NF VB
            have g2':decide (p2<0)=false:=decide_eq_false (by omega)
            clear g2
            rw [rounds_succ]
            go_wp2
            go_ret
            exact ⟨rfl,by have hB:=BU2.out;(repeat' (first|exact Below.refl _ _|refine bstep ?_ hB|refine Below.setCell ?_ (by simp<;>omega) _|refine balloc ?_ _|refine Below.drew ?_|refine bdrewN ?_ _))⟩
          obtain ⟨z,rfl⟩:=Int.eq_ofNat_of_zero_le g2
          have hz:z<k:=by omega
          obtain ⟨d1,d2⟩:=M2.out.2 z hz
          have l1:=M2.out.1
          have M3:=hid (bools_set M2.out hz)
          rw [rounds_succ]
          go_wp2
          clear d1 d2 l1 c1 c2 c3 m1 m2 m3 r5
          have BU3:=hid (below_set1 (o:=z) (v:=.bool true) BU2.out (Nat.le_of_lt hBw))
          have ME3:=hid (mes_set (o:=z) (v:=.bool true) ME2.out N.out.1)
          have RR3:=hid (row3_setc (o:=z) (v:=.bool true) RR2.out N.out.2.1)
          obtain ⟨m1,m2,m3⟩:=ME3.out
          obtain ⟨c1,c2,c3⟩:=RR3.out.2 i hlt
          rw [HP.out] at c1 c2 c3
          dsimp only at c1 c2 c3
          have r5:=RR3.out.1
          clear c1 c2 c3
          rw [rounds_succ]
          have TB:=hid (pts_in PTS.out)
          have CN:=hid (fun W (Bw:Below w.heap.size w W)=>corners_nat b off k c b' off' nf c' i x y z P F W (row3_in RP.out Bw hb) (row3_in RF.out Bw hb') hlt hx hy hz L1.out L2.out HP.out)
          have AX:=hid (fun W=>across_any (P x) (P y) (P z) W (w16 (TB.out x hx)) (w16 (TB.out y hy)) (w16 (TB.out z hz)))
          have FY:=hid (fun h=>fcode_yes (P:=P) hx hy hz h)
          have FL:=hid (fun h=>fcode_flat (P:=P) hx hy hz h)
          obtain ⟨px,hpx⟩:∃ q,P x=q:=⟨_,rfl⟩
          obtain ⟨py,hpy⟩:∃ q,P y=q:=⟨_,rfl⟩
          obtain ⟨pz,hpz⟩:∃ q,P z=q:=⟨_,rfl⟩
          rw [hpx,hpy,hpz] at CN AX FY FL
          clear hpx hpy hpz
          go_wp2_with fail
          refine (CN.out _ BU3.out).mono ?_
          rintro e w2 ⟨rfl,hb2⟩
          have BU4:=hid (show Below w.heap.size w w2 by have hB:=BU3.out;(repeat' (first|exact Below.refl _ _|refine bstep ?_ hb2|refine bstep ?_ hB|refine Below.setCell ?_ (by simp<;>omega) _|refine balloc ?_ _|refine Below.drew ?_|refine bdrewN ?_ _)))
          have M4:=hid (bools_below M3.out hb2)
          have ME4:=hid (mes_below ME3.out hb2)
          clear hb2 m1 m2 m3
          obtain ⟨m1,m2,m3⟩:=ME4.out
          go_wp2_with fail
          refine (AX.out _).mono ?_
          rintro e w3 ⟨rfl,hb3⟩
          have BU5:=hid (show Below w.heap.size w w3 by have hB:=BU4.out;(repeat' (first|exact Below.refl _ _|refine bstep ?_ hb3|refine bstep ?_ hB|refine Below.setCell ?_ (by simp<;>omega) _|refine balloc ?_ _|refine Below.drew ?_|refine bdrewN ?_ _)))
          have M5:=hid (bools_below M4.out hb3)
          have ME5:=hid (mes_below ME4.out hb3)
          clear hb3 m1 m2 m3
          obtain ⟨m1,m2,m3⟩:=ME5.out
          obtain ⟨nv,hnv⟩:∃ q,nrm px py pz=q:=⟨_,rfl⟩
          rw [hnv] at FY FL ⊢
          clear hnv
          by_cases hn:nv=(0,0,0)
          · have hf:res=6:=by rw [← RES.out];exact (VB.out (by rw [FL.out hn];decide)).trans (FL.out hn)
            subst hf
            subst hn
            clear VB
            go_wp2
            go_ret
            exact ⟨rfl,by have hB:=BU5.out;(repeat' (first|exact Below.refl _ _|refine bstep ?_ hB|refine Below.setCell ?_ (by simp<;>omega) _|refine balloc ?_ _|refine Below.drew ?_|refine bdrewN ?_ _))⟩
          · have HN:=hid hn
            clear hn VB
            go_wp2
            all_goals first
             |exact absurd (p3_zero (by assumption) (by assumption) (by assumption)) HN.out
              | (go_roundw
                 case rel=>exact ⟨i+1,by omega,by go_num,fun t ht=>by
                    by_cases c:t=i
                    · subst c;rw [HP.out];exact FY.out HN.out
                    · exact ZERO.out t (by omega),bools_eq M5.out (fun q _=>S1.out x y z rfl q),ME5.out,BU5.out⟩
                 case measure=>simp [intOf];omega)
        · obtain rfl:i=nf:=by omega
          go_wp2
          clear m1 m2 m3
          go_loopw [9] (fun kv wr=>∃ t:Nat,t<=i/\kv=.int .i64 t/\(∀ q,q<t->faceB F i (F q)=true)/\Bools wr B k (usedB F i)/\Mes wr w.heap.size (some ⟨b,off,none⟩) k c (some ⟨b',off',none⟩) i c'/\Below w.heap.size w wr) (fun kv _=>i - (intOf kv).toNat)
          case atStart=>exact ⟨0,Nat.zero_le _,rfl,fun t ht=>absurd ht (Nat.not_lt_zero t),M0.out,ME.out,B0.out⟩
          case round =>
            clear M0 ME B0
            obtain ⟨t,ht,rfl,good,hbo,hme,BB⟩:=hrel
            have GF:=hid good
            have M0:=hid hbo
            have ME:=hid hme
            have B0:=hid BB
            clear good hbo hme BB
            by_cases hlt:t<i
            · have t1':(t:Int)<(i:Int):=by omega
              have RR0:=hid (row3_in RF.out B0.out hb')
              obtain ⟨m1,m2,m3⟩:=ME.out
              obtain ⟨c1,c2,c3⟩:=RR0.out.2 t hlt
              have r5:=RR0.out.1
              have OPEN:=hid (fun h:faceB F i (F t)=false=>vc_open (nf:=i) (P:=P) (F:=F) G.out PTS.out ZERO.out (closed_bad hlt h))
              have ED:=hid (fun p q W (Bw:Below w.heap.size w W)=>edges_row (some ⟨b,off,none⟩) k c b' off' i c' F p q W (row3_in RF.out Bw hb') L2.out)
              obtain ⟨p,hp⟩:∃ p,F t=p:=⟨_,rfl⟩
              rw [hp] at c1 c2 c3 OPEN
              have HP:=hid hp
              clear hp
              have ME0:=ME
              have BU0:=B0
              go_wp2
              clear m1 m2 m3
              refine wp_loop_rounds 4 ?_
              obtain ⟨m1,m2,m3⟩:=ME0.out
              rw [rounds_succ]
              go_wp2
              go_region
              go_wp2_with fail
              refine (ED.out p.1 p.2.1 _ (by have hB:=BU0.out;(repeat' (first|exact Below.refl _ _|refine bstep ?_ hB|refine Below.setCell ?_ (by simp<;>omega) _|refine balloc ?_ _|refine Below.drew ?_|refine bdrewN ?_ _)))).mono ?_
              rintro e v0a ⟨rfl,hv⟩
              have BU0a:=hid (show Below w.heap.size w v0a by have hB:=BU0.out;(repeat' (first|exact Below.refl _ _|refine bstep ?_ hv|refine bstep ?_ hB|refine Below.setCell ?_ (by simp<;>omega) _|refine balloc ?_ _|refine Below.drew ?_|refine bdrewN ?_ _)))
              have ME0a:=hid (mes_below (mes_drew ME0.out) hv)
              have M0a:=hid (bools_below (show Bools (World.drew _) B k (usedB F i) from M0.out) hv)
              clear hv m1 m2 m3
              obtain ⟨m1,m2,m3⟩:=ME0a.out
              obtain ⟨n,hn⟩:∃ n,((cnt F i p.1 p.2.1:Nat):Int)=n:=⟨_,rfl⟩
              rw [hn]
              by_cases hc:n=1
              case neg =>
                have hf:res=7:=by rw [← RES.out];exact OPEN.out (face_no (.inl rfl) (by rw [hn];exact hc))
                have t2:(n != 1)=true:=bne_iff_ne.2 hc
                clear hc hn
                subst hf
                go_wp2
                go_ret
                exact ⟨rfl,by have hB:=BU0a.out;(repeat' (first|exact Below.refl _ _|refine bstep ?_ hB|refine Below.setCell ?_ (by simp<;>omega) _|refine balloc ?_ _|refine Below.drew ?_|refine bdrewN ?_ _))⟩
              case pos =>
                rw [hc] at hn
                subst hc
                have C0a:=hid (show cnt F i p.1 p.2.1=1 by omega)
                clear hn
                go_wp2_with fail
                refine (ED.out p.2.1 p.1 _ (by have hB:=BU0a.out;(repeat' (first|exact Below.refl _ _|refine bstep ?_ hB|refine Below.setCell ?_ (by simp<;>omega) _|refine balloc ?_ _|refine Below.drew ?_|refine bdrewN ?_ _)))).mono ?_
                rintro e v0b ⟨rfl,hv⟩
                have BU0b:=hid (show Below w.heap.size w v0b by have hB:=BU0a.out;(repeat' (first|exact Below.refl _ _|refine bstep ?_ hv|refine bstep ?_ hB|refine Below.setCell ?_ (by simp<;>omega) _|refine balloc ?_ _|refine Below.drew ?_|refine bdrewN ?_ _)))
                have ME0b:=hid (mes_below ME0a.out hv)
                have M0b:=hid (bools_below M0a.out hv)
                clear hv m1 m2 m3
                obtain ⟨m1,m2,m3⟩:=ME0b.out
                obtain ⟨n,hn⟩:∃ n,((cnt F i p.2.1 p.1:Nat):Int)=n:=⟨_,rfl⟩
                rw [hn]
                by_cases hc:n=1
                case neg =>
                  have hf:res=7:=by rw [← RES.out];exact OPEN.out (face_no (.inr (.inl rfl)) (by rw [hn];exact hc))
                  have t2:(n != 1)=true:=bne_iff_ne.2 hc
                  clear hc hn
                  subst hf
                  go_wp2
                  go_ret
                  exact ⟨rfl,by have hB:=BU0b.out;(repeat' (first|exact Below.refl _ _|refine bstep ?_ hB|refine Below.setCell ?_ (by simp<;>omega) _|refine balloc ?_ _|refine Below.drew ?_|refine bdrewN ?_ _))⟩
                case pos =>
                  rw [hc] at hn
                  subst hc
                  have C0b:=hid (show cnt F i p.2.1 p.1=1 by omega)
                  clear hn
                  go_wp2
                  clear c1 c2 c3 r5
                  have RR1:=hid (row3_in RF.out BU0b.out hb')
                  obtain ⟨c1,c2,c3⟩:=RR1.out.2 t hlt
                  rw [HP.out] at c1 c2 c3
                  have r5:=RR1.out.1
                  rw [rounds_succ]
                  go_wp2
                  go_region
                  go_wp2_with fail
                  refine (ED.out p.2.1 p.2.2 _ (by have hB:=BU0b.out;(repeat' (first|exact Below.refl _ _|refine bstep ?_ hB|refine Below.setCell ?_ (by simp<;>omega) _|refine balloc ?_ _|refine Below.drew ?_|refine bdrewN ?_ _)))).mono ?_
                  rintro e v1a ⟨rfl,hv⟩
                  have BU1a:=hid (show Below w.heap.size w v1a by have hB:=BU0b.out;(repeat' (first|exact Below.refl _ _|refine bstep ?_ hv|refine bstep ?_ hB|refine Below.setCell ?_ (by simp<;>omega) _|refine balloc ?_ _|refine Below.drew ?_|refine bdrewN ?_ _)))
                  have ME1a:=hid (mes_below (mes_drew ME0b.out) hv)
                  have M1a:=hid (bools_below (show Bools (World.drew _) B k (usedB F i) from M0b.out) hv)
                  clear hv m1 m2 m3
                  obtain ⟨m1,m2,m3⟩:=ME1a.out
                  obtain ⟨n,hn⟩:∃ n,((cnt F i p.2.1 p.2.2:Nat):Int)=n:=⟨_,rfl⟩
                  rw [hn]
                  by_cases hc:n=1
                  case neg =>
                    have hf:res=7:=by rw [← RES.out];exact OPEN.out (face_no (.inr (.inr (.inl rfl))) (by rw [hn];exact hc))
                    have t2:(n != 1)=true:=bne_iff_ne.2 hc
                    clear hc hn
                    subst hf
                    go_wp2
                    go_ret
                    exact ⟨rfl,by have hB:=BU1a.out;(repeat' (first|exact Below.refl _ _|refine bstep ?_ hB|refine Below.setCell ?_ (by simp<;>omega) _|refine balloc ?_ _|refine Below.drew ?_|refine bdrewN ?_ _))⟩
                  case pos =>
                    rw [hc] at hn
                    subst hc
                    have C1a:=hid (show cnt F i p.2.1 p.2.2=1 by omega)
                    clear hn
                    go_wp2_with fail
                    refine (ED.out p.2.2 p.2.1 _ (by have hB:=BU1a.out;(repeat' (first|exact Below.refl _ _|refine bstep ?_ hB|refine Below.setCell ?_ (by simp<;>omega) _|refine balloc ?_ _|refine Below.drew ?_|refine bdrewN ?_ _)))).mono ?_
                    rintro e v1b ⟨rfl,hv⟩
                    have BU1b:=hid (show Below w.heap.size w v1b by have hB:=BU1a.out;(repeat' (first|exact Below.refl _ _|refine bstep ?_ hv|refine bstep ?_ hB|refine Below.setCell ?_ (by simp<;>omega) _|refine balloc ?_ _|refine Below.drew ?_|refine bdrewN ?_ _)))
                    have ME1b:=hid (mes_below ME1a.out hv)
                    have M1b:=hid (bools_below M1a.out hv)
                    clear hv m1 m2 m3
                    obtain ⟨m1,m2,m3⟩:=ME1b.out
                    obtain ⟨n,hn⟩:∃ n,((cnt F i p.2.2 p.2.1:Nat):Int)=n:=⟨_,rfl⟩
                    rw [hn]
                    by_cases hc:n=1
                    case neg =>
                      have hf:res=7:=by rw [← RES.out];exact OPEN.out (face_no (.inr (.inr (.inr (.inl rfl)))) (by rw [hn];exact hc))
                      have t2:(n != 1)=true:=bne_iff_ne.2 hc
                      clear hc hn
                      subst hf
                      go_wp2
                      go_ret
                      exact ⟨rfl,by have hB:=BU1b.out;(repeat' (first|exact Below.refl _ _|refine bstep ?_ hB|refine Below.setCell ?_ (by simp<;>omega) _|refine balloc ?_ _|refine Below.drew ?_|refine bdrewN ?_ _))⟩
                    case pos =>
                      rw [hc] at hn
                      subst hc
                      have C1b:=hid (show cnt F i p.2.2 p.2.1=1 by omega)
                      clear hn
                      go_wp2
                      clear c1 c2 c3 r5
                      have RR2:=hid (row3_in RF.out BU1b.out hb')
                      obtain ⟨c1,c2,c3⟩:=RR2.out.2 t hlt
                      rw [HP.out] at c1 c2 c3
                      have r5:=RR2.out.1
                      rw [rounds_succ]
                      go_wp2
                      go_region
                      go_wp2_with fail
                      refine (ED.out p.2.2 p.1 _ (by have hB:=BU1b.out;(repeat' (first|exact Below.refl _ _|refine bstep ?_ hB|refine Below.setCell ?_ (by simp<;>omega) _|refine balloc ?_ _|refine Below.drew ?_|refine bdrewN ?_ _)))).mono ?_
                      rintro e v2a ⟨rfl,hv⟩
                      have BU2a:=hid (show Below w.heap.size w v2a by have hB:=BU1b.out;(repeat' (first|exact Below.refl _ _|refine bstep ?_ hv|refine bstep ?_ hB|refine Below.setCell ?_ (by simp<;>omega) _|refine balloc ?_ _|refine Below.drew ?_|refine bdrewN ?_ _)))
                      have ME2a:=hid (mes_below (mes_drew ME1b.out) hv)
                      have M2a:=hid (bools_below (show Bools (World.drew _) B k (usedB F i) from M1b.out) hv)
                      clear hv m1 m2 m3
                      obtain ⟨m1,m2,m3⟩:=ME2a.out
                      obtain ⟨n,hn⟩:∃ n,((cnt F i p.2.2 p.1:Nat):Int)=n:=⟨_,rfl⟩
                      rw [hn]
                      by_cases hc:n=1
                      case neg =>
                        have hf:res=7:=by rw [← RES.out];exact OPEN.out (face_no (.inr (.inr (.inr (.inr (.inl rfl))))) (by rw [hn];exact hc))
                        have t2:(n != 1)=true:=bne_iff_ne.2 hc
                        clear hc hn
                        subst hf
                        go_wp2
                        go_ret
                        exact ⟨rfl,by have hB:=BU2a.out;(repeat' (first|exact Below.refl _ _|refine bstep ?_ hB|refine Below.setCell ?_ (by simp<;>omega) _|refine balloc ?_ _|refine Below.drew ?_|refine bdrewN ?_ _))⟩
                      case pos =>
                        rw [hc] at hn
                        subst hc
                        have C2a:=hid (show cnt F i p.2.2 p.1=1 by omega)
                        clear hn
                        go_wp2_with fail
                        refine (ED.out p.1 p.2.2 _ (by have hB:=BU2a.out;(repeat' (first|exact Below.refl _ _|refine bstep ?_ hB|refine Below.setCell ?_ (by simp<;>omega) _|refine balloc ?_ _|refine Below.drew ?_|refine bdrewN ?_ _)))).mono ?_
                        rintro e v2b ⟨rfl,hv⟩
                        have BU2b:=hid (show Below w.heap.size w v2b by have hB:=BU2a.out;(repeat' (first|exact Below.refl _ _|refine bstep ?_ hv|refine bstep ?_ hB|refine Below.setCell ?_ (by simp<;>omega) _|refine balloc ?_ _|refine Below.drew ?_|refine bdrewN ?_ _)))
                        have ME2b:=hid (mes_below ME2a.out hv)
                        have M2b:=hid (bools_below M2a.out hv)
                        clear hv m1 m2 m3
                        obtain ⟨m1,m2,m3⟩:=ME2b.out
                        obtain ⟨n,hn⟩:∃ n,((cnt F i p.1 p.2.2:Nat):Int)=n:=⟨_,rfl⟩
                        rw [hn]
                        by_cases hc:n=1
                        case neg =>
                          have hf:res=7:=by rw [← RES.out];exact OPEN.out (face_no (.inr (.inr (.inr (.inr (.inr rfl))))) (by rw [hn];exact hc))
                          have t2:(n != 1)=true:=bne_iff_ne.2 hc
                          clear hc hn
                          subst hf
                          go_wp2
                          go_ret
                          exact ⟨rfl,by have hB:=BU2b.out;(repeat' (first|exact Below.refl _ _|refine bstep ?_ hB|refine Below.setCell ?_ (by simp<;>omega) _|refine balloc ?_ _|refine Below.drew ?_|refine bdrewN ?_ _))⟩
                        case pos =>
                          rw [hc] at hn
                          subst hc
                          have C2b:=hid (show cnt F i p.1 p.2.2=1 by omega)
                          clear hn
                          go_wp2
                          clear c1 c2 c3 r5
                          rw [rounds_succ]
                          go_wp2
                          go_roundw
                          case rel=>exact ⟨t+1,by omega,by go_num,fun q hq=>by
                              by_cases c:q=t
                              · subst c;rw [HP.out];exact face_yes C0a.out C0b.out C1a.out C1b.out C2a.out C2b.out
                              · exact GF.out q (by omega),M2b.out,ME2b.out,BU2b.out⟩
                          case measure=>simp [intOf];omega
            · obtain rfl:t=i:=by omega
              have CLO:=hid (closed_good GF.out)
              obtain ⟨m1,m2,m3⟩:=ME.out
              go_wp2
              clear m1 m2 m3
              go_loopw [13] (fun kv wx=>∃ j:Nat,j<=k/\kv=.int .i64 j/\(∀ q,q<j->usedB F t q=true)/\wx=wr) (fun kv _=>k - (intOf kv).toNat)
              case atStart=>exact ⟨0,Nat.zero_le _,rfl,fun q hq=>absurd hq (Nat.not_lt_zero q),rfl⟩
              case round =>
                obtain ⟨j,hj,rfl,good,rfl⟩:=hrel
                have GU:=hid good
                clear good
                by_cases hjt:j<k
                · obtain ⟨d1,_⟩:=M0.out.2 j hjt
                  have l1:=M0.out.1
                  have j1:(j:Int)<(k:Int):=by omega
                  cases hu:usedB F t j with
                 |false =>
                    rw [hu] at d1
                    have hf:res=5:=by rw [← RES.out];exact vc_used (P:=P) (F:=F) G.out PTS.out ZERO.out CLO.out (all_bad hjt hu)
                    clear hu
                    subst hf
                    go_wp2
                    go_ret
                    exact ⟨rfl,B0.out⟩
                 |true =>
                    rw [hu] at d1
                    have HU:=hid hu
                    clear hu
                    go_wp2
                    go_roundw
                    case rel=>exact ⟨j+1,by omega,by go_num,fun q hq=>by
                        by_cases c:q=j
                        · subst c;exact HU.out
                        · exact GU.out q (by omega),trivial⟩
                    case measure=>simp [intOf];omega
                · obtain rfl:j=k:=by omega
                  have ALL:=hid (all_good (F:=F) GU.out)
                  obtain ⟨m1,m2,m3⟩:=ME.out
                  have fo:∀ q,q<t->Fok j (F q):=fun q hq=>sh_fcode_ok (ZERO.out q hq)
                  have VO:=hid (rvol_row b off j c b' off' t c' P F wr (row3_in RP.out B0.out hb) (row3_in RF.out B0.out hb') L1.out L2.out fo (trB_of (fun q h=>inP_iff.1 (pts_in PTS.out q h)) fo))
                  clear fo
                  go_wp2_with fail
                  refine VO.out.mono ?_
                  rintro e w4 ⟨rfl,hb4⟩
                  by_cases hv:vol P F t<=0
                  · have hf:res=8:=by rw [← RES.out];exact vc_turn (P:=P) (F:=F) G.out PTS.out ZERO.out CLO.out ALL.out hv
                    subst hf
                    go_wp2
                    go_ret
                    exact ⟨rfl,by have hB:=B0.out;(repeat' (first|exact Below.refl _ _|refine bstep ?_ hb4|refine bstep ?_ hB|refine Below.setCell ?_ (by simp<;>omega) _|refine balloc ?_ _|refine Below.drew ?_|refine bdrewN ?_ _))⟩
                  · have hf:res=0:=by rw [← RES.out];exact vc_fine (P:=P) (F:=F) G.out PTS.out ZERO.out CLO.out ALL.out hv
                    have hv':decide (vol P F t<=0)=false:=decide_eq_false hv
                    clear hv
                    subst hf
                    go_wp2
                    go_ret
                    exact ⟨rfl,by have hB:=B0.out;(repeat' (first|exact Below.refl _ _|refine bstep ?_ hb4|refine bstep ?_ hB|refine Below.setCell ?_ (by simp<;>omega) _|refine balloc ?_ _|refine Below.drew ?_|refine bdrewN ?_ _))⟩
def Lst9 (w:World) (a:Option Addr) (n:Nat) (T:Nat->P3 × P3 × P3):Prop:=0<n->∃ g,a=some ⟨g,0,none⟩/\Row9 w g n T
def Pans (T:Nat->P3 × P3 × P3) (nf:Nat) (code:Int) (w:World) (e:Ending) (w':World):Prop :=
  ∃ a n cap,e=.returned (.tuple #[.slice a n cap,.int .i64 code])/\n=(if code=0 then nf else 0)/\Lst9 w' a n T/\Below w.heap.size w w'
theorem sh_int_ne0 {x:Int} (h:x ≠ 0):(x != 0)=true:=bne_iff_ne.2 h
theorem spans_no (a:Option Addr) (np c:Nat) (a':Option Addr) (nf c':Nat) (code:Int) (w:World) (V:Hid (∀ W,Below w.heap.size w W->Calls Tryz.prog 48 #[msv a np c a' nf c'] W fun e w'=>e=.returned (.int .i64 code)/\Below W.heap.size W w')) (z:code ≠ 0) :
    Calls Tryz.prog 103 #[msv a np c a' nf c'] w fun e w'=>e=.returned (.tuple #[.slice none 0 0,.int .i64 code])/\Below w.heap.size w w':=by
  have z1:=sh_int_ne0 z
  clear z
  go_enter Tryz.func103,Tryz.ntmps103
  go_wp2_with fail
  refine (V.out _ (by (repeat' (first|exact Below.refl _ _|refine Below.setCell ?_ (by simp<;>omega) _|refine balloc ?_ _|refine Below.drew ?_|refine bdrewN ?_ _)))).mono ?_
  rintro e w1 ⟨rfl,hb1⟩
  go_wp2
  go_ret2
  exact ⟨rfl,by (repeat' (first|exact Below.refl _ _|refine bstep ?_ hb1|refine Below.setCell ?_ (by simp<;>omega) _|refine balloc ?_ _|refine Below.drew ?_|refine bdrewN ?_ _))⟩
theorem spans_row (a:Option Addr) (np c:Nat) (a':Option Addr) (nf c':Nat) (T:Nat->P3 × P3 × P3) (w:World) (V:Hid (∀ W,Below w.heap.size w W->Calls Tryz.prog 48 #[msv a np c a' nf c'] W fun e w'=>e=.returned (.int .i64 0)/\Below W.heap.size W w')) (PC:Hid (∀ W,Below w.heap.size w W->Calls Tryz.prog 147 #[msv a np c a' nf c'] W (Paneled T nf W))) :
    Calls Tryz.prog 103 #[msv a np c a' nf c'] w (Pans T nf 0 w):=by
  go_enter Tryz.func103,Tryz.ntmps103
  go_wp2_with fail
  refine (V.out _ (by (repeat' (first|exact Below.refl _ _|refine Below.setCell ?_ (by simp<;>omega) _|refine balloc ?_ _|refine Below.drew ?_|refine bdrewN ?_ _)))).mono ?_
  rintro e w1 ⟨rfl,hb1⟩
  have B1:=hid (bstep (balloc (Below.refl _ w) _) hb1)
  have ME:=mes_below (mes_new w a np c a' nf c' 25) hb1
  obtain ⟨m1,m2,m3⟩:=ME
  clear hb1
  go_wp2_with fail
  refine (PC.out _ (by have hB:=B1.out;(repeat' (first|exact Below.refl _ _|refine bstep ?_ hB|refine Below.setCell ?_ (by simp<;>omega) _|refine balloc ?_ _|refine Below.drew ?_|refine bdrewN ?_ _)))).mono ?_
  rintro e w2 ⟨g,cap,rfl,hg,r9,hb2⟩
  have R9:=hid r9
  clear hg r9
  go_wp2
  go_ret2
  exact ⟨some ⟨g,0,none⟩,nf,cap,rfl,rfl,fun _=>⟨g,rfl,R9.out⟩,by have hB:=B1.out;(repeat' (first|exact Below.refl _ _|refine bstep ?_ hb2|refine bstep ?_ hB|refine Below.setCell ?_ (by simp<;>omega) _|refine balloc ?_ _|refine Below.drew ?_|refine bdrewN ?_ _))⟩
attribute [local go_sem 1000000] run_min_mn run_max_mx
theorem sh_own_put {w:World} {b:Nat} {a:P3} (h:Own w b a) (c:P3):Own (((w.setCell ⟨b,0,none⟩ (.int .i64 c.1)).setCell ⟨b,1,none⟩ (.int .i64 c.2.1)).setCell ⟨b,2,none⟩ (.int .i64 c.2.2)) b c:=by
  obtain ⟨h1,h2,h3,h4,h5,h6,h7⟩:=h
  exact ⟨by go_simp,by go_simp,by go_simp,by go_simp,by go_simp,by go_simp,by simpa using h7⟩
theorem own_put3 {w:World} {q r:Nat} {x y z:Value} {a:P3} (h:Own w q a) (n:q ≠ r):Own (((w.setCell ⟨r,0,none⟩ x).setCell ⟨r,1,none⟩ y).setCell ⟨r,2,none⟩ z) q a:=own_set (own_set (own_set h n) n) n
theorem below_put3 {a w:World} {r:Nat} {x y z:Value} (h:Below a.heap.size a w) (n:a.heap.size<=r):Below a.heap.size a (((w.setCell ⟨r,0,none⟩ x).setCell ⟨r,1,none⟩ y).setCell ⟨r,2,none⟩ z):=((h.setCell n _).setCell n _).setCell n _
def lo3 (P:Nat->P3):Nat->P3
 |0=>P 0
 |k+1=>(Sp.mn (lo3 P k).1 (P k).1,Sp.mn (lo3 P k).2.1 (P k).2.1,Sp.mn (lo3 P k).2.2 (P k).2.2)
def hi3 (P:Nat->P3):Nat->P3
 |0=>P 0
 |k+1=>(Sp.mx (hi3 P k).1 (P k).1,Sp.mx (hi3 P k).2.1 (P k).2.1,Sp.mx (hi3 P k).2.2 (P k).2.2)
def sh_mn3 (a p:P3):P3:=(Sp.mn a.1 p.1,Sp.mn a.2.1 p.2.1,Sp.mn a.2.2 p.2.2)
def sh_mx3 (a p:P3):P3:=(Sp.mx a.1 p.1,Sp.mx a.2.1 p.2.1,Sp.mx a.2.2 p.2.2)
theorem results_cct {fn:Func} {p q u:Tmp} {ty ty':TypeId} (h:fn.results=#[.cell p ty,.cell q ty',.tmp u]) (tmps:Array Value) (P:Program) (w:World) :
    (results fn tmps).run P w =
      ((asAddr (tmps.getD p undef)).run P w).andThen fun a w₁=>((loadVar ty a).run P w₁).andThen fun x w₂ =>
      ((asAddr (tmps.getD q undef)).run P w₂).andThen fun a' w₃=>((loadVar ty' a').run P w₃).andThen fun x' w₄=>.ok (.tuple #[x,x',tmps.getD u undef]) w₄:=by
  simp only [results,h]
  simp [Sem.run_bind,Result.andThen]
theorem sbox_no (a:Option Addr) (np c:Nat) (a':Option Addr) (nf c':Nat) (code:Int) (w:World) (V:Hid (∀ W,Below w.heap.size w W->Calls Tryz.prog 48 #[msv a np c a' nf c'] W fun e w'=>e=.returned (.int .i64 code)/\Below W.heap.size W w')) (z:code ≠ 0) :
    Calls Tryz.prog 127 #[msv a np c a' nf c'] w fun e w'=>e=.returned (.tuple #[ptv (0,0,0),ptv (0,0,0),.int .i64 code])/\Below w.heap.size w w':=by
  have z1:=bne_iff_ne.2 z
  clear z
  go_enter Tryz.func127,Tryz.ntmps127
  go_wp2_with fail
  refine (V.out _ (by (repeat' (first|exact Below.refl _ _|refine Below.setCell ?_ (by simp<;>omega) _|refine balloc ?_ _|refine Below.drew ?_|refine bdrewN ?_ _)))).mono ?_
  rintro e w1 ⟨rfl,hb1⟩
  have B1:=hid (show Below w.heap.size w w1 by (repeat' (first|exact Below.refl _ _|refine bstep ?_ hb1|refine Below.setCell ?_ (by simp<;>omega) _|refine balloc ?_ _|refine Below.drew ?_|refine bdrewN ?_ _)))
  obtain ⟨g1,g2,g3,g4,g5,g6,g7⟩:=own_below (own_alloc (own_new (w.alloc (msc a np c a' nf c' 25)) (0,0,0) 44) (.cells #[.int .i64 0,.int .i64 0,.int .i64 0] 44)) hb1
  obtain ⟨k1,k2,k3,k4,k5,k6,k7⟩:=own_below (own_new ((w.alloc (msc a np c a' nf c' 25)).alloc (.cells #[.int .i64 0,.int .i64 0,.int .i64 0] 44)) (0,0,0) 44) hb1
  simp only [World.size_alloc] at g1 g2 g3 g4 g5 g6 g7 k1 k2 k3 k4 k5 k6 k7
  go_wp2
  refine bodyPost_ret (v:=.tuple #[ptv (0,0,0),ptv (0,0,0),.int .i64 code]) (by rw [results_cct rfl];go_simp) rfl ⟨rfl,?_⟩
  exact below_put3 (below_put3 B1.out (by omega)) (by omega)
theorem sbox_row (b off np c:Nat) (a':Option Addr) (nf c':Nat) (P:Nat->P3) (w:World) (V:Hid (∀ W,Below w.heap.size w W->Calls Tryz.prog 48 #[msv (some ⟨b,off,none⟩) np c a' nf c'] W fun e w'=>e=.returned (.int .i64 0)/\Below W.heap.size W w')) (rp:Row3 w b off np P) (h0:0<np) (hn:np<=1000000) :
    Calls Tryz.prog 127 #[msv (some ⟨b,off,none⟩) np c a' nf c'] w fun e w'=>e=.returned (.tuple #[ptv (lo3 P np),ptv (hi3 P np),.int .i64 0])/\Below w.heap.size w w':=by
  have hb:b<w.heap.size:=rp.1
  have RP:=hid rp
  have hn':(np:Int)<=1000000:=by omega
  have p0:(0:Int)<(np:Int):=by omega
  have HP:=hid h0
  clear rp h0
  go_enter Tryz.func127,Tryz.ntmps127
  go_wp2_with fail
  refine (V.out _ (by (repeat' (first|exact Below.refl _ _|refine Below.setCell ?_ (by simp<;>omega) _|refine balloc ?_ _|refine Below.drew ?_|refine bdrewN ?_ _)))).mono ?_
  rintro e w1 ⟨rfl,hb1⟩
  have G:=hid (own_below (own_alloc (own_new (w.alloc (msc (some ⟨b,off,none⟩) np c a' nf c' 25)) (0,0,0) 44) (.cells #[.int .i64 0,.int .i64 0,.int .i64 0] 44)) hb1)
  have K:=hid (own_below (own_new ((w.alloc (msc (some ⟨b,off,none⟩) np c a' nf c' 25)).alloc (.cells #[.int .i64 0,.int .i64 0,.int .i64 0] 44)) (0,0,0) 44) hb1)
  have ME:=hid (mes_below (mes_alloc (mes_alloc (mes_new w (some ⟨b,off,none⟩) np c a' nf c' 25) (.cells #[.int .i64 0,.int .i64 0,.int .i64 0] 44)) (.cells #[.int .i64 0,.int .i64 0,.int .i64 0] 44)) hb1)
  have B1:=hid (show Below w.heap.size w w1 by (repeat' (first|exact Below.refl _ _|refine bstep ?_ hb1|refine Below.setCell ?_ (by simp<;>omega) _|refine balloc ?_ _|refine Below.drew ?_|refine bdrewN ?_ _)))
  simp only [World.size_alloc] at G K
  clear hb1
  obtain ⟨g1,g2,g3,g4,g5,g6,g7⟩:=G.out
  obtain ⟨k1,k2,k3,k4,k5,k6,k7⟩:=K.out
  obtain ⟨m1,m2,m3⟩:=ME.out
  obtain ⟨c1,c2,c3⟩:=(row3_in RP.out B1.out hb).2 0 HP.out
  have r5:=(row3_in RP.out B1.out hb).1
  simp only [Nat.zero_mul,Nat.add_zero] at c1 c2 c3
  obtain ⟨q,hq⟩:∃ q,P 0=q:=⟨_,rfl⟩
  rw [hq] at c1 c2 c3
  have HQ:=hid hq
  clear hq
  go_wp2
  go_region
  go_wp2
  go_loopw [25] (fun kv wr=>∃ k:Nat,k<=np/\kv=.int .i64 k/\Own wr (w.heap.size+1) (lo3 P k)/\Own wr (w.heap.size+1+1) (hi3 P k)/\Below w.heap.size w wr) (fun kv _=>np - (intOf kv).toNat)
  case atStart=>exact ⟨0,Nat.zero_le _,rfl,by rw [show lo3 P 0=P 0 from rfl,HQ.out];exact own_drew (own_put3 (sh_own_put G.out q) (by omega)),by rw [show hi3 P 0=P 0 from rfl,HQ.out];exact own_drew (sh_own_put (own_put3 K.out (by omega)) q),Below.drew (below_put3 (below_put3 B1.out (by omega)) (by omega))⟩
  case round =>
    clear g1 g2 g3 g4 g5 g6 g7 k1 k2 k3 k4 k5 k6 k7 m1 m2 m3 c1 c2 c3 r5
    obtain ⟨k,hk,rfl,hg,hh,BB⟩:=hrel
    have G0:=hid hg
    have K0:=hid hh
    have B0:=hid BB
    clear hg hh BB
    by_cases hlt:k<np
    · have k1':(k:Int)<(np:Int):=by omega
      have r2:=row3_in RP.out B0.out hb
      obtain ⟨c1,c2,c3⟩:=r2.2 k hlt
      have r5:=r2.1
      clear r2
      have E1:=hid (show lo3 P (k+1)=sh_mn3 (lo3 P k) (P k) from rfl)
      have E2:=hid (show hi3 P (k+1)=sh_mx3 (hi3 P k) (P k) from rfl)
      generalize lo3 P k=l at *
      generalize hi3 P k=h at *
      generalize P k=p at *
      obtain ⟨g1,g2,g3,g4,g5,g6,g7⟩:=G0.out
      obtain ⟨k1,k2,k3,k4,k5,k6,k7⟩:=K0.out
      go_wp2
      go_roundw
      case rel =>
        refine ⟨k+1,by omega,by go_num,?_,?_,?_⟩
        · rw [E1.out];exact own_alloc (own_put3 (sh_own_put G0.out (sh_mn3 l p)) (by omega)) _
        · rw [E2.out];exact own_alloc (sh_own_put (own_put3 K0.out (by omega)) (sh_mx3 h p)) _
        · exact balloc (below_put3 (below_put3 B0.out (by omega)) (by omega)) _
      case measure=>simp [intOf];omega
    · obtain rfl:k=np:=by omega
      obtain ⟨g1,g2,g3,g4,g5,g6,g7⟩:=G0.out
      obtain ⟨k1,k2,k3,k4,k5,k6,k7⟩:=K0.out
      go_wp2
      go_region
      go_wp2
      refine bodyPost_ret (v:=.tuple #[ptv (lo3 P k),ptv (hi3 P k),.int .i64 0]) (by rw [results_cct rfl];go_simp) rfl ⟨rfl,?_⟩
      exact Below.drew (below_put3 (below_put3 B0.out (by omega)) (by omega))
end Go.Proofs.YtbcjiigmbcfkeaaGreat
namespace Go.Proofs.YtbcjiigmbcfkeaaGreat
open Go.Lib (hid)
set_option maxRecDepth 100000
set_option maxHeartbeats 8000000
open Go.ChangeShapes Go.WideShapes Go.RowKit
open Sh
theorem sh_own_set3 {w:World} {q r:Nat} {x y z:Value} {a:P3} (h:Own w q a) (n:q ≠ r):Own (((w.setCell ⟨r,0,none⟩ x).setCell ⟨r,1,none⟩ y).setCell ⟨r,2,none⟩ z) q a:=own_set (own_set (own_set h n) n) n
theorem sh_below_set3 {a w:World} {r:Nat} {x y z:Value} (h:Below a.heap.size a w) (n:a.heap.size<=r):Below a.heap.size a (((w.setCell ⟨r,0,none⟩ x).setCell ⟨r,1,none⟩ y).setCell ⟨r,2,none⟩ z):=((h.setCell n _).setCell n _).setCell n _
theorem vcode_ok {np nf:Nat} {P F:Nat->P3} (h:vcode ⟨np,nf,P,F⟩=0):np<=64/\0<nf/\nf<=96/\ptsB P np=true/\(∀ k,k<nf->fcode np P (F k)=0):=by
  unfold vcode at h
  dsimp only at h
  split at h
  · exact absurd h (by decide)
  rename_i h1
  split at h
  · exact absurd h (by decide)
  rename_i h2
  split at h
  · rename_i h3;exact absurd h h3
  rename_i h3
  refine ⟨by omega,by omega,by omega,by simpa using h2,?_⟩
  rcases first_bad3 (fun k=>fcode np P (F k)) nf with z|⟨k0,hk0,ne,z⟩
  · exact z
  · rw [fcodes_bad hk0 ne z] at h3;exact absurd ne h3
theorem rval_zero (a:Option Addr) (c b' off' nf c':Nat) (F:Nat->P3) (w:World) (rf:Row3 w b' off' nf F) (h3:0<nf) (h4:nf<=96) :
    Calls Tryz.prog 46 #[msv a 0 c (some ⟨b',off',none⟩) nf c'] w fun e w'=>e=.returned (.int .i64 5)/\Below w.heap.size w w':=by
  obtain ⟨w1,hmk,hB,hg⟩:=bools_make (w.alloc (msc a 0 c (some ⟨b',off',none⟩) nf c' 25)) 0 (by omega)
  have B1:=hid (((Below.refl w.heap.size w).alloc (Nat.le_refl _) (msc a 0 c (some ⟨b',off',none⟩) nf c' 25)).grown hg (by simp) (fun k hk=>by cases hk))
  have ME:=(mes_in (mes_new w a 0 c (some ⟨b',off',none⟩) nf c' 25) (((Below.refl (w.heap.size+1) _).grown hg (by simp) (fun k hk=>by cases hk)):Below (w.heap.size+1) _ w1) (by omega))
  obtain ⟨c1,c2,c3⟩:=(row3_in rf B1.out rf.1).2 0 h3
  have r5:=(row3_in rf B1.out rf.1).1
  simp only [Nat.zero_mul,Nat.add_zero] at c1 c2 c3
  simp only [World.size_alloc] at hmk
  have hmk:(Instr.makeSlice 117 (.int .i64 0) (.int .i64 0)).run Tryz.prog (w.alloc (msc a 0 c (some ⟨b',off',none⟩) nf c' 25))=.ok (.slice (some ⟨w.heap.size+1,0,none⟩) 0 0) w1:=hmk
  obtain ⟨m1,m2,m3⟩:=ME
  have p0:(0:Int)<(nf:Int):=by omega
  have mm:(nf:Int)<=96:=by omega
  have WI:=hid (fun W=>((show decide ((1:Int)<=(nf:Int)/\(nf:Int)<=96)=true from decide_eq_true (by omega)) ▸ rwithin_any (nf:Int) 1 96 W:Calls Tryz.prog 90 #[.int .i64 (nf:Int),.int .i64 1,.int .i64 96] W fun e w'=>e=.returned (.bool true)/\W=w'))
  generalize F 0=p at *
  clear rf hB hg h3 h4
  rcases Int.lt_or_le p.1 0 with g|g
  · have g':=g
    go_enter Tryz.func46,Tryz.ntmps46
    go_wp2_with fail
    refine (WI.out _).mono ?_
    rintro e w' ⟨rfl,rfl⟩
    go_wp2
    refine wp_loop_rounds 1 ?_
    rw [rounds_succ]
    go_wp2
    clear hmk
    refine wp_loop_rounds 1 ?_
    rw [rounds_succ]
    go_wp2
    refine wp_loop_rounds 1 ?_
    rw [rounds_succ]
    go_wp2
    go_ret
    exact ⟨rfl,B1.out⟩
  · have g':decide (p.1<0)=false:=decide_eq_false (by omega)
    go_enter Tryz.func46,Tryz.ntmps46
    go_wp2_with fail
    refine (WI.out _).mono ?_
    rintro e w' ⟨rfl,rfl⟩
    go_wp2
    refine wp_loop_rounds 1 ?_
    rw [rounds_succ]
    go_wp2
    clear hmk
    refine wp_loop_rounds 1 ?_
    rw [rounds_succ]
    go_wp2
    refine wp_loop_rounds 1 ?_
    rw [rounds_succ]
    go_wp2
    go_ret
    exact ⟨rfl,B1.out⟩
theorem rval_any (a:Option Addr) (np c:Nat) (a':Option Addr) (nf c':Nat) (P F:Nat->P3) (w:World) (rp:Lst w a np P) (rf:Lst w a' nf F) (hn:np<=1000000) (hm:nf<=1000000) :
    Calls Tryz.prog 46 #[msv a np c a' nf c'] w fun e w'=>e=.returned (.int .i64 (vcode ⟨np,nf,P,F⟩))/\Below w.heap.size w w':=by
  by_cases g:64<np∨nf=0∨96<nf
  · have e:vcode ⟨np,nf,P,F⟩=4:=by unfold vcode;exact if_pos g
    rw [e]
    by_cases h:64<np
    · exact rval_big1 a np c a' nf c' w h hn
    · exact rval_big2 a np c a' nf c' w (by omega) (by omega) hm
  · obtain ⟨b',off',rfl,rF⟩:=rf (by omega)
    by_cases h:np=0
    · subst h
      have nf0:0<nf:=by omega
      have no:¬ Fok 0 (F 0):=fun x=>by unfold Fok at x;omega
      have e:vcode ⟨0,nf,P,F⟩=5:=(vc_face (P:=P) (F:=F) g rfl nf0 (fun i hi=>absurd hi (Nat.not_lt_zero i)) (by rw [fcode_no no];decide)).trans (fcode_no no)
      rw [e]
      exact rval_zero a c b' off' nf c' F w rF nf0 (by omega)
    · obtain ⟨b,off,rfl,rP⟩:=rp (by omega)
      exact rval_row b off np c b' off' nf c' P F w rP rF (by omega) (by omega) (by omega) (by omega)
theorem vcode_rows {np nf:Nat} {P F:Nat->P3} (z:vcode ⟨np,nf,P,F⟩=0):0<np/\np<=64/\0<nf/\nf<=96/\(∀ k,k<nf->Fok np (F k))/\TrB P F nf:=by
  obtain ⟨h1,h2,h3,h4,h5⟩:=vcode_ok z
  have fo:∀ k,k<nf->Fok np (F k):=fun k hk=>sh_fcode_ok (h5 k hk)
  have hnp:0<np:=by have:=fo 0 h2;unfold Fok at this;omega
  exact ⟨hnp,h1,h2,h3,fo,trB_of (fun i hi=>inP_iff.1 (pts_in h4 i hi)) fo⟩
theorem spans_any (a:Option Addr) (np c:Nat) (a':Option Addr) (nf c':Nat) (P F:Nat->P3) (w:World) (rp:Lst w a np P) (rf:Lst w a' nf F) (hn:np<=1000000) (hm:nf<=1000000) :
    Calls Tryz.prog 103 #[msv a np c a' nf c'] w (Pans (Tr P F) nf (vcode ⟨np,nf,P,F⟩) w):=by
  have V:=fun W (B:Below w.heap.size w W)=>val_any a np c a' nf c' P F W (lst_below rp B) (lst_below rf B) hn hm
  by_cases z:vcode ⟨np,nf,P,F⟩=0
  · obtain ⟨h1,h2,h3,h4,h5,_⟩:=vcode_rows z
    obtain ⟨b',off',rfl,rF⟩:=rf h3
    obtain ⟨b,off,rfl,rP⟩:=rp h1
    rw [z] at V ⊢
    exact spans_row _ np c _ nf c' (Tr P F) w (hid V) (hid fun W B=>panels_row b off np c b' off' nf c' P F W (row3_below rP B) (row3_below rF B) (by omega) (by omega) h3 h5)
  · exact (spans_no a np c a' nf c' _ w (hid V) z).mono fun e w' ⟨q1,q2⟩=>⟨none,0,0,q1,(if_neg z).symm,fun h=>absurd h (Nat.not_lt_zero 0),q2⟩
theorem sbox_any (a:Option Addr) (np c:Nat) (a':Option Addr) (nf c':Nat) (P F:Nat->P3) (w:World) (rp:Lst w a np P) (rf:Lst w a' nf F) (hn:np<=1000000) (hm:nf<=1000000) :
    Calls Tryz.prog 127 #[msv a np c a' nf c'] w fun e w'=>e=.returned (.tuple #[ptv (if vcode ⟨np,nf,P,F⟩=0 then lo3 P np else (0,0,0)),ptv (if vcode ⟨np,nf,P,F⟩=0 then hi3 P np else (0,0,0)),.int .i64 (vcode ⟨np,nf,P,F⟩)])/\Below w.heap.size w w':=by
  have V:=fun W (B:Below w.heap.size w W)=>val_any a np c a' nf c' P F W (lst_below rp B) (lst_below rf B) hn hm
  by_cases z:vcode ⟨np,nf,P,F⟩=0
  · obtain ⟨h1,h2,h3,h4,h5,_⟩:=vcode_rows z
    obtain ⟨b,off,rfl,rP⟩:=rp h1
    rw [z] at V
    rw [if_pos z,if_pos z,z]
    exact sbox_row b off np c a' nf c' P w (hid V) rP h1 (by omega)
  · rw [if_neg z,if_neg z]
    exact sbox_no a np c a' nf c' _ w (hid V) z
end Go.Proofs.YtbcjiigmbcfkeaaGreat
