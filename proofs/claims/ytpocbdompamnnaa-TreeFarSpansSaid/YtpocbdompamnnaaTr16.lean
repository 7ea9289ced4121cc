import Derived.Test.YtpocbdompamnnaaTr15
namespace Go.Proofs.Ytpocbdompamnnaa
open Go.ChangeShapes Go.WideShapes Go.RowKit
open Sh
set_option maxRecDepth 100000 in
set_option maxHeartbeats 4000000 in
theorem tmin_any (a b:P3) (w:World) (ha:BdP 100000 a) (hb:BdP 100000 b):Calls Try.prog 92 #[ptv a,ptv b] w fun e w'=>e=.returned (ptv (sub a b))∧Grw w w':=by
  obtain ⟨a1,a2,a3⟩:=a
  obtain ⟨b1,b2,b3⟩:=b
  unfold BdP at ha hb
  dsimp only at ha hb
  obtain ⟨h1,h2,h3,h4,h5,h6⟩:=ha
  obtain ⟨k1,k2,k3,k4,k5,k6⟩:=hb
  go_enter Try.func92,Try.ntmps92
  go_wp2
  refine bodyPost_ret (v:=ptv (a1 - b1,a2 - b2,a3 - b3)) (by rw [results_cell rfl];go_simp) rfl ⟨rfl,?_⟩
  (repeat' (first | exact grw_refl _ | refine grw_set ?_ (by simp <;> omega) _ | refine grw_alloc ?_ _ | refine grw_drew ?_))
def sqS (u:P3):Nat→Int
  | 0=>0
  | j + 1=>sqS u j + axC j u * axC j u
theorem sqS3 (u:P3):sqS u 3=sq u:=by
  show 0 + axC 0 u * axC 0 u + axC 1 u * axC 1 u + axC 2 u * axC 2 u=dot u u
  unfold dot axC
  simp
theorem sqS_bd {u:P3} (h:BdP 200000 u):∀ j:Nat,0≤sqS u j∧sqS u j≤(j:Int) * 40000000000
  | 0=>⟨Int.le_refl 0,Int.le_refl 0⟩
  | j + 1=>by
    have a:=sqS_bd h j
    have b:=axC_bd h j
    have c:=Sh.mul_bd (A:=200000) (B:=200000) b.1 b.2 b.1 b.2
    have d:0≤axC j u * axC j u:=by
      rcases Int.le_total 0 (axC j u) with e | e
      · exact Int.mul_nonneg e e
      · exact Int.mul_nonneg_of_nonpos_of_nonpos e e
    show 0≤sqS u j + axC j u * axC j u∧sqS u j + axC j u * axC j u≤((j + 1:Nat):Int) * 40000000000
    omega
set_option maxRecDepth 100000 in
set_option maxHeartbeats 4000000 in
theorem dst_any (a b:P3) (w:World) (ha:BdP 100000 a) (hb:BdP 100000 b):Calls Try.prog 63 #[ptv a,ptv b] w fun e w'=>e=.returned (.int .i64 (sq (sub a b)))∧Grw w w':=by
  have MM:=Lib.hid (fun W=>tmin_any a b W ha hb)
  have BU:=Lib.hid (show BdP 200000 (sub a b) by unfold BdP sub at *;dsimp only;omega)
  rw [← sqS3]
  obtain ⟨a1,a2,a3⟩:=a
  obtain ⟨b1,b2,b3⟩:=b
  have AXX:=Lib.hid (fun W=>axes_any (sub (a1,a2,a3) (b1,b2,b3)) W)
  generalize sub (a1,a2,a3) (b1,b2,b3)=u at *
  have SB:=Lib.hid (sqS_bd BU.out)
  have I3:=Lib.hid (fun k (h:k < 3) (W:World)=>ix3_any u (k:=k) h W)
  have G0:=Lib.hid (grw_alloc (grw_alloc (grw_refl w) (ptc (a1,a2,a3) 38)) (ptc (b1,b2,b3) 38))
  clear ha hb
  go_enter Try.func63,Try.ntmps63
  go_wp2_with fail
  with_reducible refine (MM.out _).mono ?_
  rintro e w1 ⟨rfl,g1⟩
  have G1:=Lib.hid (grw_step G0.out g1)
  clear g1 G0
  obtain ⟨u1,u2,u3⟩:=u
  go_wp2_with fail
  with_reducible refine (AXX.out _).mono ?_
  rintro e w2 ⟨rfl,g2⟩
  have G2:=Lib.hid (grw_step G1.out g2)
  clear g2 G1
  go_wp2
  go_loopw [5,12] (fun sv kv wr=>∃ j:Nat,j≤3∧kv=.int .i64 j∧sv=.int .i64 (sqS (u1,u2,u3) j)∧wr=w2) (fun _ kv _=>3 - (intOf kv).toNat)
  case atStart=>exact ⟨0,Nat.zero_le _,rfl,rfl,rfl⟩
  case round =>
    obtain ⟨j,hj,rfl,rfl,rfl⟩:=hrel
    by_cases hlt:j < 3
    · have hj1:(j:Int) < 3:=by omega
      have X:=I3.out j hlt
      have sb:=SB.out j
      have ab:=axC_bd BU.out j
      have c:=Sh.mul_bd (A:=200000) (B:=200000) ab.1 ab.2 ab.1 ab.2
      have NX:=Lib.hid (show sqS (u1,u2,u3) (j + 1)=sqS (u1,u2,u3) j + axC j (u1,u2,u3) * axC j (u1,u2,u3) from rfl)
      generalize sqS (u1,u2,u3) j=s at *
      generalize axC j (u1,u2,u3)=v at *
      obtain ⟨vv,ev⟩:∃ vv,v * v=vv:=⟨_,rfl⟩
      rw [ev] at c NX
      have wv:IntKind.i64.wrap (v * v)=vv:=by rw [ev];exact wrap9 (by omega) (by omega)
      go_wp2
      go_roundw
      case rel=>exact ⟨j + 1,by omega,by go_num,by rw [NX.out,← ev],by first | rfl | trivial⟩
      case measure=>simp [intOf];omega
    · obtain rfl:j=3:=by omega
      go_wp2
      go_ret
      exact ⟨rfl,G2.out⟩
set_option maxRecDepth 100000 in
set_option maxHeartbeats 4000000 in
theorem wth_any (p:P3) (lim:Int) (w:World) (h0:0≤lim) (h1:lim≤1000000):Calls Try.prog 58 #[ptv p,.int .i64 lim] w fun e w'=>e=.returned (.bool (inP lim p))∧Below w.heap.size w w':=by
  have AXX:=Lib.hid (fun W=>axes_any p W)
  have I3:=Lib.hid (fun k (h:k < 3) (W:World)=>ix3_any p (k:=k) h W)
  have B0:=Lib.hid (show Below w.heap.size w (w.alloc (ptc p 38)) from (Below.refl _ _).alloc (Nat.le_refl _) _)
  have YES:=Lib.hid (fun (h:∀ i,i < 3→rngB (axC i p) (-lim) lim=true)=>(show inP lim p=true by
    have z0:=rngB_iff.1 (h 0 (by decide))
    have z1:=rngB_iff.1 (h 1 (by decide))
    have z2:=rngB_iff.1 (h 2 (by decide))
    exact inP_iff.2 ⟨z0.1,z0.2,z1.1,z1.2,z2.1,z2.2⟩))
  have NO:=Lib.hid (fun j (h:rngB (axC j p) (-lim) lim=false)=>(show inP lim p=false by
    cases e:inP lim p with
    | false=>rfl
    | true =>
      have z:=axC_bd (inP_iff.1 e) j
      rw [rngB_iff.2 z] at h
      cases h))
  have TI:=Lib.hid (fun k W=>tir_any (axC k p) (-lim) lim W)
  generalize inP lim p=res at *
  obtain ⟨p1,p2,p3⟩:=p
  go_enter Try.func58,Try.ntmps58
  go_wp2_with fail
  with_reducible refine (AXX.out _).mono ?_
  rintro e w1 ⟨rfl,g1⟩
  have B1:=Lib.hid (bstep B0.out g1.1)
  clear g1 B0
  go_wp2
  go_loopw [9] (fun kv wr=>∃ j:Nat,j≤3∧kv=.int .i64 j∧(∀ i,i < j→rngB (axC i (p1,p2,p3)) (-lim) lim=true)∧Below w1.heap.size w1 wr) (fun kv _=>3 - (intOf kv).toNat)
  case atStart=>exact ⟨0,Nat.zero_le _,rfl,fun i h=>absurd h (Nat.not_lt_zero i),Below.refl _ _⟩
  case round =>
    obtain ⟨j,hj,rfl,all,hb⟩:=hrel
    have ALL:=Lib.hid all
    have BB:=Lib.hid hb
    clear all hb
    by_cases hlt:j < 3
    · have hj1:(j:Int) < 3:=by omega
      have X:=I3.out j hlt
      have TJ:=Lib.hid (TI.out j)
      have NJ:=Lib.hid (NO.out j)
      have AN:=Lib.hid (fun (h:rngB (axC j (p1,p2,p3)) (-lim) lim=true) i (hi:i < j + 1)=>(show rngB (axC i (p1,p2,p3)) (-lim) lim=true by
        rcases Nat.lt_succ_iff_lt_or_eq.1 hi with hi | hi
        · exact ALL.out i hi
        · rw [hi];exact h))
      generalize axC j (p1,p2,p3)=v at *
      cases hr:rngB v (-lim) lim with
      | true =>
        rw [hr] at TJ
        have AN2:=Lib.hid (AN.out hr)
        clear hr AN NJ
        go_wp2_with fail
        with_reducible refine (TJ.out _).mono ?_
        rintro e w2 ⟨rfl,hb2⟩
        have hB:=bstep BB.out (hb2)
        clear hb2
        go_wp2
        go_roundw
        case rel=>exact ⟨j + 1,by omega,by go_num,AN2.out,hB⟩
        case measure=>simp [intOf];omega
      | false =>
        rw [hr] at TJ
        have rf:=NJ.out hr
        subst rf
        clear hr AN NJ
        go_wp2_with fail
        with_reducible refine (TJ.out _).mono ?_
        rintro e w2 ⟨rfl,hb2⟩
        have hB:=B1.out.trans ((bstep BB.out hb2).mono B1.out.size)
        clear hb2
        go_wp2
        go_ret
        exact ⟨rfl,hB⟩
    · obtain rfl:j=3:=by omega
      have rf:=YES.out ALL.out
      subst rf
      have hB:=B1.out.trans (BB.out.mono B1.out.size)
      clear BB
      go_wp2
      go_ret
      exact ⟨rfl,hB⟩
def ballB (x:Ni):Bool:=rngB x.2.2.2.2.2 0 131072 && inP 64 x.2.2.2.2.1
set_option maxRecDepth 100000 in
set_option maxHeartbeats 4000000 in
theorem ball_any (x:Ni) (w:World):Calls Try.prog 36 #[niv x] w fun e w'=>e=.returned (.bool (ballB x))∧Below w.heap.size w w':=by
  have T:=Lib.hid (fun W=>tir_any x.2.2.2.2.2 0 131072 W)
  have P:=Lib.hid (fun W=>wth_any x.2.2.2.2.1 64 W (by decide) (by decide))
  have BB:ballB x=(rngB x.2.2.2.2.2 0 131072 && inP 64 x.2.2.2.2.1):=rfl
  have B0:=Lib.hid (show Below w.heap.size w (w.alloc (nib x 44)) from (Below.refl _ _).alloc (Nat.le_refl _) _)
  rw [BB]
  clear BB
  obtain ⟨x1,x2,x3,x4,⟨x5,x6,x7⟩,x8⟩:=x
  dsimp only at T P ⊢
  generalize inP 64 (x5,x6,x7)=ib at *
  cases hr:rngB x8 0 131072 with
  | true =>
    rw [hr] at T
    rw [Bool.true_and]
    clear hr
    have c0:(w.alloc (nib (x1,x2,x3,x4,(x5,x6,x7),x8) 44)).cell? ⟨w.heap.size,4,none⟩=some (.int .i64 x5)∧(w.alloc (nib (x1,x2,x3,x4,(x5,x6,x7),x8) 44)).cell? ⟨w.heap.size,5,none⟩=some (.int .i64 x6)∧(w.alloc (nib (x1,x2,x3,x4,(x5,x6,x7),x8) 44)).cell? ⟨w.heap.size,6,none⟩=some (.int .i64 x7):=⟨by go_simp,by go_simp,by go_simp⟩
    have C0:=Lib.hid c0
    have lt0:w.heap.size < (w.alloc (nib (x1,x2,x3,x4,(x5,x6,x7),x8) 44)).heap.size:=by simp
    clear c0
    go_enter Try.func36,Try.ntmps36
    go_wp2_with fail
    with_reducible refine (T.out _).mono ?_
    rintro e w1 ⟨rfl,hb1⟩
    have k4:=(hb1.cell (p:=⟨w.heap.size,4,none⟩) lt0).trans C0.out.1
    have k5:=(hb1.cell (p:=⟨w.heap.size,5,none⟩) lt0).trans C0.out.2.1
    have k6:=(hb1.cell (p:=⟨w.heap.size,6,none⟩) lt0).trans C0.out.2.2
    have B1:=Lib.hid (bstep B0.out hb1)
    clear hb1 lt0
    go_wp2_with fail
    with_reducible refine (P.out _).mono ?_
    rintro e w2 ⟨rfl,hb2⟩
    have hB:=bstep B1.out hb2
    clear hb2
    go_wp2
    go_ret
    exact ⟨rfl,hB⟩
  | false =>
    rw [hr] at T
    rw [Bool.false_and]
    clear hr
    go_enter Try.func36,Try.ntmps36
    go_wp2_with fail
    with_reducible refine (T.out _).mono ?_
    rintro e w1 ⟨rfl,hb1⟩
    have hB:=bstep B0.out hb1
    clear hb1
    go_wp2
    go_ret
    exact ⟨rfl,hB⟩
end Go.Proofs.Ytpocbdompamnnaa
