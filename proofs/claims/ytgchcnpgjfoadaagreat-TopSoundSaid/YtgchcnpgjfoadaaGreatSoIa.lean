import Derived.Test.YtgchcnpgjfoadaaGreatSoMd
import Derived.Test.YtgchcnpgjfoadaaGreatSoMb
namespace Go.Proofs.YtgchcnpgjfoadaaGreat
open Go.ChangeShapes Go.WideShapes Go.RowKit
open Sh
attribute [local go_sem high] run_max3' run_min3'
def mir (a:P3):P3:=(a.1,a.2.1,-a.2.2)
def mir9 (t:P9):P9:=(mir t.1,mir t.2.1,mir t.2.2)
def img (s:Bool) (p:Pu):Pu:=(mir9 p.1,p.2.1,if s then -p.2.2 else p.2.2)
def bhB (p:Pu):Bool:=decide (Sp.mn (Sp.mn p.1.1.2.2 p.1.2.1.2.2) p.1.2.2.2.2 < 0)
def anyB (Q:Nat→Pu):Nat→Bool
  | 0=>false
  | n + 1=>anyB Q n || bhB (Q n)
theorem anyB_hit {Q:Nat→Pu} {k:Nat} (h:bhB (Q k)=true):∀ {n:Nat},k < n→anyB Q n=true
  | 0,hk=>absurd hk (Nat.not_lt_zero k)
  | n + 1,hk=>by
    show (anyB Q n || _)=_
    by_cases e:k=n
    · subst e;rw [h,Bool.or_true]
    · rw [anyB_hit h (n:=n) (by omega)];rfl
theorem anyB_next {Q:Nat→Pu} {k:Nat} (e:anyB Q k=false) (h:bhB (Q k)=false):anyB Q (k + 1)=false:=by
  show (anyB Q k || _)=_
  rw [e,h];rfl
def bth (s:Bool) (Q:Nat→Pu) (n i:Nat):Pu:=if i < n then Q i else img s (Q (i - n))
theorem bth_zero (s:Bool) (Q:Nat→Pu) (n:Nat):pucs (bth s Q n) n=pucs Q n:=pucs_eq fun k hk=>by unfold bth;rw [if_pos hk]
theorem bth_next (s:Bool) (Q:Nat→Pu) (n k:Nat):pucs (bth s Q n) (n + k + 1)=pucs (bth s Q n) (n + k) ++ pucl (img s (Q k)):=by
  show pucs _ (n + k) ++ pucl (bth s Q n (n + k))=_
  unfold bth
  rw [if_neg (by omega),show n + k - n=k by omega]
def icode (n:Nat) (Q:Nat→Pu):Int:=if vpcode n Q=0 then (if anyB Q n then 1 else if 8 < n then 4 else 0) else vpcode n Q
theorem mir_any (a:P3) (w:World) (h1:-4611686018427387904≤a.2.2) (h2:a.2.2≤4611686018427387904):Calls Tryz.prog 98 #[ptv a] w fun e w'=>e=.returned (ptv (mir a))∧Below w.heap.size w w':=by
  go_enter Tryz.func98,Tryz.ntmps98
  go_wp2
  refine bodyPost_ret (v:=ptv (mir a)) (by rw [results_cell rfl];go_simp;exact ⟨rfl,rfl,rfl⟩) rfl ⟨rfl,?_⟩
  (repeat' (first | exact Below.refl _ _ | refine Below.setCell ?_ (by simp <;> omega) _ | refine balloc ?_ _ | refine Below.drew ?_ | refine bdrewN ?_ _))
theorem isb_any (p:Pu) (w:World):Calls Tryz.prog 68 #[puv p] w fun e w'=>e=.returned (.bool (bhB p))∧Below w.heap.size w w':=by
  go_enter Tryz.func68,Tryz.ntmps68
  go_wp2
  go_ret
  exact ⟨rfl,by (repeat' (first | exact Below.refl _ _ | refine Below.setCell ?_ (by simp <;> omega) _ | refine balloc ?_ _ | refine Below.drew ?_ | refine bdrewN ?_ _))⟩
set_option maxRecDepth 100000 in
set_option maxHeartbeats 2000000 in
theorem ixf_row (b off n c:Nat) (Q:Nat→Pu) (w:World) (r:RowU w b off n Q) (hn:n≤1000) (C:Hid (∀ (p:Pu) W,Calls Tryz.prog 68 #[puv p] W fun e w'=>e=.returned (.bool (bhB p))∧Below W.heap.size W w')):Calls Tryz.prog 97 #[.slice (some ⟨b,off,none⟩) n c,.func (.func 68) #[] #[]] w fun e w'=>∃ r:Int,e=.returned (.int .i64 r)∧-1≤r∧r≤1000∧anyB Q n=decide (0≤r)∧Below w.heap.size w w':=by
  have hn':(n:Int)≤1000:=by omega
  have R:=Lib.hid r
  have hb1:=r.1
  clear r
  go_enter Tryz.func97,Tryz.ntmps97
  go_wp2
  go_loopw [8] (fun kv wr=>∃ k:Nat,k≤n∧kv=.int .i64 k∧anyB Q k=false∧Below w.heap.size w wr) (fun kv _=>n - (intOf kv).toNat)
  case atStart=>exact ⟨0,Nat.zero_le _,rfl,rfl,Below.refl _ _⟩
  case round =>
    obtain ⟨k,hk,rfl,good,BB⟩:=hrel
    have B0:=Lib.hid BB
    have GOOD:=Lib.hid good
    clear BB good
    by_cases hlt:k < n
    · have hk1:(k:Int) < (n:Int):=by omega
      have q1:=rowU_in R.out B0.out hb1
      obtain ⟨c0,c1,c2,c3,c4,c5,c6,c7,c8,c9,c10⟩:=q1.2 k hlt
      have s1:=q1.1
      have HIT:=Lib.hid (fun h:bhB (Q k)=true=>anyB_hit h hlt)
      have NEXT:=Lib.hid (fun h:bhB (Q k)=false=>anyB_next GOOD.out h)
      clear q1
      generalize Q k=q at *
      go_wp2_with fail
      go_at_call 68
      refine (C.out q _).mono ?_
      rintro e w1 ⟨rfl,hb⟩
      have B1:=Lib.hid (bstep B0.out hb)
      cases z:bhB q with
      | true =>
        have A1:=Lib.hid (HIT.out z)
        clear HIT NEXT
        go_wp2
        go_ret
        exact ⟨_,rfl,by omega,by omega,by rw [A1.out];exact (decide_eq_true (by omega)).symm,B1.out⟩
      | false =>
        have A1:=Lib.hid (NEXT.out z)
        clear HIT NEXT
        go_wp2
        go_roundw
        case rel=>exact ⟨k + 1,by omega,by go_num,A1.out,B1.out⟩
        case measure=>simp [intOf];omega
    · obtain rfl:k=n:=by omega
      go_wp2
      go_ret
      exact ⟨-1,rfl,by omega,by omega,by rw [GOOD.out];rfl,B0.out⟩
theorem ixf_zero (a:Option Addr) (c:Nat) (w:World):Calls Tryz.prog 97 #[.slice a 0 c,.func (.func 68) #[] #[]] w fun e w'=>∃ r:Int,e=.returned (.int .i64 r)∧-1≤r∧r≤1000∧false=decide (0≤r)∧Below w.heap.size w w':=by
  go_enter Tryz.func97,Tryz.ntmps97
  go_wp2
  refine wp_loop_rounds 1 ?_
  rw [rounds_succ]
  go_wp2
  go_ret
  exact ⟨-1,rfl,by omega,by omega,rfl,Below.refl _ _⟩
theorem ctf_any (a:Option Addr) (n c:Nat) (v:Bool) (w:World) (C:Hid (∀ W,Below w.heap.size w W→Calls Tryz.prog 97 #[.slice a n c,.func (.func 68) #[] #[]] W fun e w'=>∃ r:Int,e=.returned (.int .i64 r)∧-1≤r∧r≤1000∧v=decide (0≤r)∧Below W.heap.size W w')):Calls Tryz.prog 67 #[.slice a n c,.func (.func 68) #[] #[]] w fun e w'=>e=.returned (.bool v)∧Below w.heap.size w w':=by
  go_enter Tryz.func67,Tryz.ntmps67
  go_wp2_with fail
  refine (C.out _ (Below.refl _ w)).mono ?_
  rintro e w1 ⟨r,rfl,r1,r2,hv,hb⟩
  by_cases z:0≤r
  · obtain rfl:v=true:=by rw [hv];exact decide_eq_true z
    clear hv
    go_wp2
    go_ret
    exact ⟨by first | rfl | simp [z],hb⟩
  · obtain rfl:v=false:=by rw [hv];exact decide_eq_false z
    clear hv
    go_wp2
    go_ret
    exact ⟨by first | rfl | simp [z],hb⟩
theorem cfn_any (a:Option Addr) (n c:Nat) (Q:Nat→Pu) (w:World) (r:LstU w a n Q) (hn:n≤1000):Calls Tryz.prog 67 #[.slice a n c,.func (.func 68) #[] #[]] w fun e w'=>e=.returned (.bool (anyB Q n))∧Below w.heap.size w w':=by
  by_cases m:n=0
  · subst m
    exact ctf_any a 0 c false w (Lib.hid fun W _=>ixf_zero a c W)
  · obtain ⟨b,off,rfl,rr⟩:=r (by omega)
    exact ctf_any _ n c _ w (Lib.hid fun W B=>ixf_row b off n c Q W (rowU_below rr B) hn (Lib.hid fun p W=>isb_any p W))
end Go.Proofs.YtgchcnpgjfoadaaGreat
namespace Go.Proofs.YtgchcnpgjfoadaaGreat
open Go.ChangeShapes Go.WideShapes Go.RowKit
open Sh
def OPF (w:World) (b:Nat) (p:Pu):Prop:=OwnPu w b p∧∀ o,o < 11→w.frozen? ⟨b,o,none⟩=false
theorem opf_new (w:World) (p:Pu) (t:TypeId):OPF (w.alloc (pub p t)) w.heap.size p:=⟨ownPu_new w p t,fun _ _=>World.frozen?_alloc_at _ _ _ _ rfl⟩
theorem opf_in {W W':World} {b N:Nat} {p:Pu} (h:OPF W b p) (hb:Below N W W') (hN:b < N):OPF W' b p:=by
  obtain ⟨⟨⟨h0,h1,h2,h3,h4,h5,h6,h7,h8,h9,h10⟩,l⟩,z⟩:=h
  exact ⟨⟨⟨(hb.cell (p:=⟨b,0,none⟩) hN).trans h0,(hb.cell (p:=⟨b,1,none⟩) hN).trans h1,(hb.cell (p:=⟨b,2,none⟩) hN).trans h2,(hb.cell (p:=⟨b,3,none⟩) hN).trans h3,(hb.cell (p:=⟨b,4,none⟩) hN).trans h4,(hb.cell (p:=⟨b,5,none⟩) hN).trans h5,(hb.cell (p:=⟨b,6,none⟩) hN).trans h6,(hb.cell (p:=⟨b,7,none⟩) hN).trans h7,(hb.cell (p:=⟨b,8,none⟩) hN).trans h8,(hb.cell (p:=⟨b,9,none⟩) hN).trans h9,(hb.cell (p:=⟨b,10,none⟩) hN).trans h10⟩,Nat.lt_of_lt_of_le l hb.size⟩,fun o ho=>(hb.frozen (p:=⟨b,o,none⟩) hN).trans (z o ho)⟩
theorem opf_drew {w:World} {b:Nat} {p:Pu} (h:OPF w b p):OPF w.drew b p:=h
theorem opf_put {w:World} {b:Nat} {p:Pu} (h:OPF w b p):OPF (((((((((w.setCell ⟨b,0,none⟩ (.int .i64 (mir9 p.1).1.1)).setCell ⟨b,1,none⟩ (.int .i64 (mir9 p.1).1.2.1)).setCell ⟨b,2,none⟩ (.int .i64 (mir9 p.1).1.2.2)).setCell ⟨b,3,none⟩ (.int .i64 (mir9 p.1).2.1.1)).setCell ⟨b,4,none⟩ (.int .i64 (mir9 p.1).2.1.2.1)).setCell ⟨b,5,none⟩ (.int .i64 (mir9 p.1).2.1.2.2)).setCell ⟨b,6,none⟩ (.int .i64 (mir9 p.1).2.2.1)).setCell ⟨b,7,none⟩ (.int .i64 (mir9 p.1).2.2.2.1)).setCell ⟨b,8,none⟩ (.int .i64 (mir9 p.1).2.2.2.2)) b (mir9 p.1,p.2):=by
  obtain ⟨⟨⟨h0,h1,h2,h3,h4,h5,h6,h7,h8,h9,h10⟩,l⟩,z⟩:=h
  refine ⟨⟨⟨?_,?_,?_,?_,?_,?_,?_,?_,?_,?_,?_⟩,by simpa using l⟩,fun o ho=>?_⟩
  rotate_right 1
  · have:=z o ho
    go_simp
  all_goals go_simp
theorem below_put9 {N:Nat} {w:World} {b:Nat} {p:Pu} (h:N≤b):Below N w (((((((((w.setCell ⟨b,0,none⟩ (.int .i64 (mir9 p.1).1.1)).setCell ⟨b,1,none⟩ (.int .i64 (mir9 p.1).1.2.1)).setCell ⟨b,2,none⟩ (.int .i64 (mir9 p.1).1.2.2)).setCell ⟨b,3,none⟩ (.int .i64 (mir9 p.1).2.1.1)).setCell ⟨b,4,none⟩ (.int .i64 (mir9 p.1).2.1.2.1)).setCell ⟨b,5,none⟩ (.int .i64 (mir9 p.1).2.1.2.2)).setCell ⟨b,6,none⟩ (.int .i64 (mir9 p.1).2.2.1)).setCell ⟨b,7,none⟩ (.int .i64 (mir9 p.1).2.2.2.1)).setCell ⟨b,8,none⟩ (.int .i64 (mir9 p.1).2.2.2.2)):=((((((((((((((((((Below.refl _ _).setCell h _)).setCell h _)).setCell h _)).setCell h _)).setCell h _)).setCell h _)).setCell h _)).setCell h _)).setCell h _)
theorem opf_other {w:World} {b b':Nat} {p q:Pu} (h:OPF w b' q) (n:b' ≠ b):OPF (((((((((w.setCell ⟨b,0,none⟩ (.int .i64 (mir9 p.1).1.1)).setCell ⟨b,1,none⟩ (.int .i64 (mir9 p.1).1.2.1)).setCell ⟨b,2,none⟩ (.int .i64 (mir9 p.1).1.2.2)).setCell ⟨b,3,none⟩ (.int .i64 (mir9 p.1).2.1.1)).setCell ⟨b,4,none⟩ (.int .i64 (mir9 p.1).2.1.2.1)).setCell ⟨b,5,none⟩ (.int .i64 (mir9 p.1).2.1.2.2)).setCell ⟨b,6,none⟩ (.int .i64 (mir9 p.1).2.2.1)).setCell ⟨b,7,none⟩ (.int .i64 (mir9 p.1).2.2.2.1)).setCell ⟨b,8,none⟩ (.int .i64 (mir9 p.1).2.2.2.2)) b' q:=by
  obtain ⟨⟨⟨h0,h1,h2,h3,h4,h5,h6,h7,h8,h9,h10⟩,l⟩,z⟩:=h
  have n':¬ b=b':=fun e=>n e.symm
  refine ⟨⟨⟨?_,?_,?_,?_,?_,?_,?_,?_,?_,?_,?_⟩,by simpa using l⟩,fun o ho=>?_⟩
  rotate_right 1
  · have:=z o ho
    go_simp
  all_goals go_simp
theorem getD_flip {l:Array Bool} {i:Nat} (h:l.getD i true=false) (k:l.getD i false=true):False:=by
  rw [Array.getD_eq_getD_getElem?] at h k
  cases e:l[i]? with
  | none=>rw [e] at k;cases k
  | some v=>rw [e] at h k;cases v <;> simp at h k
theorem gs_any {l:Array Bool} {i j:Nat} (k:l.getD j false=true):(l.setIfInBounds i true).getD j false=true:=by
  by_cases e:i=j
  · subst e
    refine gs_i ?_
    rw [Array.getD_eq_getD_getElem?] at k
    cases e:l[i]? with
    | none=>rw [e] at k;cases k
    | some v=>exact (Array.getElem?_eq_some_iff.1 e).1
  · exact gs_t e k
def Cl (l:Array Bool) (j k:Nat):Prop:=l.getD j false=true→l.getD k false=true
theorem Cl.nought {n j k:Nat}:Cl (Array.replicate n false) j k:=fun h=>(rep_no h).elim
theorem Cl.keep {l:Array Bool} {i j k:Nat} (h:Cl l j k) (ne:i ≠ j):Cl (l.setIfInBounds i true) j k:=fun e=>gs_any (h (gs ne e))
theorem Cl.made {l:Array Bool} {i j k:Nat} (h:l.getD k false=true):Cl (l.setIfInBounds i true) j k:=fun _=>gs_any h
def MG (l:Array Bool) (W:World) (B:Nat) (p:Pu):Prop:=(l.getD 14 false=true→OPF W B (mir9 p.1,p.2))∧(l.getD 14 false=false→OPF W B p)
theorem MG.keep {l:Array Bool} {W W':World} {B i:Nat} {p:Pu} (h:MG l W B p) (ne:i ≠ 14) (tr:∀ q,OPF W B q→OPF W' B q):MG (l.setIfInBounds i true) W' B p :=
  ⟨fun e=>tr _ (h.1 (gs ne e)),fun e=>tr _ (h.2 (by rwa [getD_set_ne false ne] at e))⟩
theorem MG.put {l:Array Bool} {W':World} {B:Nat} {p:Pu} (hl:14 < l.size) (o:OPF W' B (mir9 p.1,p.2)):MG (l.setIfInBounds 14 true) W' B p :=
  ⟨fun _=>o,fun e=>by rw [gs_i hl] at e;cases e⟩
theorem MG.nought {W:World} {B:Nat} {p:Pu} (o:OPF W B p):MG (Array.replicate 15 false) W B p:=⟨fun h=>(rep_no h).elim,fun _=>o⟩
theorem MG.there {l:Array Bool} {W:World} {B:Nat} {p:Pu} (h:MG l W B p) (n:l.getD 14 false=true→False):OPF W B p:=h.2 (by
  cases e:l.getD 14 false with
  | false=>rfl
  | true=>exact (n e).elim)
end Go.Proofs.YtgchcnpgjfoadaaGreat
namespace Go.Proofs.YtgchcnpgjfoadaaGreat
open Go.ChangeShapes Go.WideShapes Go.RowKit
open Sh
def zPu:Pu:=(((0,0,0),(0,0,0),(0,0,0)),0,0)
def regI:Option Code→Code
  | some (.seq _ (.seq _ r))=>r
  | _=>.ret
theorem infoPu9:(Tryz.prog.info? 61).map (·.size)=some 11:=by kernel_rfl
theorem below_cells8 (N b:Nat):∀ (cs:List Value) (o:Nat) {w:World},N≤b→Below N w (w.setCells b o cs)
  | [],_,_,_=>Below.refl _ _
  | v :: r,o,w,h=>by
    rw [World.setCells]
    exact ((Below.refl N w).setCell (p:=⟨b,o,none⟩) h v).trans (below_cells8 N b r (o + 1) h)
theorem there_set {w:World} {b b' o n:Nat} {v:Value} (h:w.there b 0 n) (ne:b' ≠ b):(w.setCell ⟨b',o,none⟩ v).there b 0 n:=fun j hj=>by
  obtain ⟨h1,h2⟩:=h j hj
  rw [Nat.zero_add] at h1 h2
  exact ⟨by rw [Nat.zero_add];first | (go_simp;done) | (go_simp;assumption),by rw [Nat.zero_add];first | (go_simp;done) | (go_simp;assumption)⟩
set_option maxRecDepth 100000 in
set_option maxHeartbeats 2000000 in
theorem im_rest (q:Pu) (s:Bool) (w W:World) (v0 x5 x6 x7 x8 x9 x10 x11 x12 x13 x14 x15 x16 x17 x18:Value) (O:OPF W w.heap.size q) (O2:OPF W (w.heap.size + 1) zPu) (HB:Below w.heap.size w W) (q1:-4611686018427387904≤q.2.2) (q2:q.2.2≤4611686018427387904) :
    Code.wp Tryz.prog (regI Tryz.f70.body) (bodyPost Tryz.prog Tryz.f70 fun e w'=>e=.returned (puv (q.1,q.2.1,if s then -q.2.2 else q.2.2))∧Below w.heap.size w w') { tmps:=#[v0,.bool s,.pointer (some ⟨w.heap.size,0,none⟩),undef,.pointer (some ⟨w.heap.size + 1,0,none⟩),x5,x6,x7,x8,x9,x10,x11,x12,x13,x14,x15,x16,x17,x18,undef,undef,undef,undef,undef,undef],defers:=[] } W:=by
  have HB2:=HB
  have hHB:=Lib.hid HB
  clear HB
  obtain ⟨⟨⟨c0,c1,c2,c3,c4,c5,c6,c7,c8,c9,c10⟩,cl⟩,cz⟩:=O
  obtain ⟨⟨⟨e0,e1,e2,e3,e4,e5,e6,e7,e8,e9,e10⟩,el⟩,ez⟩:=O2
  have f10:=cz 10 (by decide)
  have ht0:W.there (w.heap.size + 1) 0 11:=fun j hj=>by
    rw [Nat.zero_add]
    refine ⟨?_,ez j hj⟩
    have:j=0∨j=1∨j=2∨j=3∨j=4∨j=5∨j=6∨j=7∨j=8∨j=9∨j=10:=by omega
    rcases this with rfl | rfl | rfl | rfl | rfl | rfl | rfl | rfl | rfl | rfl | rfl
    · rw [e0];rfl
    · rw [e1];rfl
    · rw [e2];rfl
    · rw [e3];rfl
    · rw [e4];rfl
    · rw [e5];rfl
    · rw [e6];rfl
    · rw [e7];rfl
    · rw [e8];rfl
    · rw [e9];rfl
    · rw [e10];rfl
  clear e0 e1 e2 e3 e4 e5 e6 e7 e8 e9 e10 ez cz
  obtain ⟨cd,hcd⟩:∃ cd,regI Tryz.f70.body=cd:=⟨_,rfl⟩
  rw [hcd]
  unfold regI at hcd
  simp only [Tryz.f70] at hcd
  subst hcd
  cases s
  · go_upto_region 4 with (fail)
    go_step
    (try dsimp only)
    refine wpList_plain rfl (fun K hK=>?_);go_simp;refine hK _ _ ?_;clear hK K
    have ht:W.there (w.heap.size + 1) 0 11:=ht0
    refine wpList_store_mid rfl 61 (.tmp 4) (.tmp 24) rfl (w.heap.size + 1) 0 #[.int .i64 q.1.1.1,.int .i64 q.1.1.2.1,.int .i64 q.1.1.2.2,.int .i64 q.1.2.1.1,.int .i64 q.1.2.1.2.1,.int .i64 q.1.2.1.2.2,.int .i64 q.1.2.2.1,.int .i64 q.1.2.2.2.1,.int .i64 q.1.2.2.2.2,.int .i64 q.2.1,.int .i64 q.2.2] rfl rfl ht infoPu9 (by simp [Value.oneCell']) ?_
    have L:=run_loadVar_mid (P:=Tryz.prog) _ (w.heap.size + 1) 0 61 _ _ (World.rangeAt_setCells_same W (w.heap.size + 1) 0 (#[.int .i64 q.1.1.1,.int .i64 q.1.1.2.1,.int .i64 q.1.1.2.2,.int .i64 q.1.2.1.1,.int .i64 q.1.2.1.2.1,.int .i64 q.1.2.1.2.2,.int .i64 q.1.2.2.1,.int .i64 q.1.2.2.2.1,.int .i64 q.1.2.2.2.2,.int .i64 q.2.1,.int .i64 q.2.2]:Array Value).toList ht) Tryz.underlying61 rfl infoPu9
    have B:Below w.heap.size w (W.setCells (w.heap.size + 1) 0 (#[.int .i64 q.1.1.1,.int .i64 q.1.1.2.1,.int .i64 q.1.1.2.2,.int .i64 q.1.2.1.1,.int .i64 q.1.2.1.2.1,.int .i64 q.1.2.1.2.2,.int .i64 q.1.2.2.1,.int .i64 q.1.2.2.2.1,.int .i64 q.1.2.2.2.2,.int .i64 q.2.1,.int .i64 q.2.2]:Array Value).toList):=HB2.trans (below_cells8 _ _ _ _ (by omega))
    clear c0 c1 c2 c3 c4 c5 c6 c7 c8 c9 c10 f10 ht ht0
    generalize W.setCells (w.heap.size + 1) 0 (#[.int .i64 q.1.1.1,.int .i64 q.1.1.2.1,.int .i64 q.1.1.2.2,.int .i64 q.1.2.1.1,.int .i64 q.1.2.1.2.1,.int .i64 q.1.2.1.2.2,.int .i64 q.1.2.2.1,.int .i64 q.1.2.2.2.1,.int .i64 q.1.2.2.2.2,.int .i64 q.2.1,.int .i64 q.2.2]:Array Value).toList=W9 at *
    go_wp2
    have e:(asAddr (.pointer (some ⟨w.heap.size + 1,0,none⟩))).run Tryz.prog W9=.ok ⟨w.heap.size + 1,0,none⟩ W9:=by clear L;go_simp
    refine bodyPost_ret (v:=.agg #[.int .i64 q.1.1.1,.int .i64 q.1.1.2.1,.int .i64 q.1.1.2.2,.int .i64 q.1.2.1.1,.int .i64 q.1.2.1.2.1,.int .i64 q.1.2.1.2.2,.int .i64 q.1.2.2.1,.int .i64 q.1.2.2.2.1,.int .i64 q.1.2.2.2.2,.int .i64 q.2.1,.int .i64 q.2.2]) (by
      rw [results_cell rfl]
      refine (congrArg (fun r=>Result.andThen r (fun a w₁=>(loadVar 61 a).run Tryz.prog w₁)) (show _=Result.ok ⟨w.heap.size + 1,0,none⟩ W9 from e)).trans ?_
      exact L) rfl ⟨rfl,B⟩
  · go_upto_region 4 with (fail)
    go_step
    (try dsimp only)
    refine wpList_plain rfl (fun K hK=>?_);go_simp;refine hK _ _ ?_;clear hK K
    have ht:(W.setCell ⟨w.heap.size,10,none⟩ (.int .i64 (-q.2.2))).there (w.heap.size + 1) 0 11:=there_set (ht0) (by omega)
    refine wpList_store_mid rfl 61 (.tmp 4) (.tmp 24) rfl (w.heap.size + 1) 0 #[.int .i64 q.1.1.1,.int .i64 q.1.1.2.1,.int .i64 q.1.1.2.2,.int .i64 q.1.2.1.1,.int .i64 q.1.2.1.2.1,.int .i64 q.1.2.1.2.2,.int .i64 q.1.2.2.1,.int .i64 q.1.2.2.2.1,.int .i64 q.1.2.2.2.2,.int .i64 q.2.1,.int .i64 (-q.2.2)] rfl rfl ht infoPu9 (by simp [Value.oneCell']) ?_
    have L:=run_loadVar_mid (P:=Tryz.prog) _ (w.heap.size + 1) 0 61 _ _ (World.rangeAt_setCells_same (W.setCell ⟨w.heap.size,10,none⟩ (.int .i64 (-q.2.2))) (w.heap.size + 1) 0 (#[.int .i64 q.1.1.1,.int .i64 q.1.1.2.1,.int .i64 q.1.1.2.2,.int .i64 q.1.2.1.1,.int .i64 q.1.2.1.2.1,.int .i64 q.1.2.1.2.2,.int .i64 q.1.2.2.1,.int .i64 q.1.2.2.2.1,.int .i64 q.1.2.2.2.2,.int .i64 q.2.1,.int .i64 (-q.2.2)]:Array Value).toList ht) Tryz.underlying61 rfl infoPu9
    have B:Below w.heap.size w ((W.setCell ⟨w.heap.size,10,none⟩ (.int .i64 (-q.2.2))).setCells (w.heap.size + 1) 0 (#[.int .i64 q.1.1.1,.int .i64 q.1.1.2.1,.int .i64 q.1.1.2.2,.int .i64 q.1.2.1.1,.int .i64 q.1.2.1.2.1,.int .i64 q.1.2.1.2.2,.int .i64 q.1.2.2.1,.int .i64 q.1.2.2.2.1,.int .i64 q.1.2.2.2.2,.int .i64 q.2.1,.int .i64 (-q.2.2)]:Array Value).toList):=(HB2.setCell (p:=⟨w.heap.size,10,none⟩) (Nat.le_refl _) _).trans (below_cells8 _ _ _ _ (by omega))
    clear c0 c1 c2 c3 c4 c5 c6 c7 c8 c9 c10 f10 ht ht0
    generalize (W.setCell ⟨w.heap.size,10,none⟩ (.int .i64 (-q.2.2))).setCells (w.heap.size + 1) 0 (#[.int .i64 q.1.1.1,.int .i64 q.1.1.2.1,.int .i64 q.1.1.2.2,.int .i64 q.1.2.1.1,.int .i64 q.1.2.1.2.1,.int .i64 q.1.2.1.2.2,.int .i64 q.1.2.2.1,.int .i64 q.1.2.2.2.1,.int .i64 q.1.2.2.2.2,.int .i64 q.2.1,.int .i64 (-q.2.2)]:Array Value).toList=W9 at *
    go_wp2
    have e:(asAddr (.pointer (some ⟨w.heap.size + 1,0,none⟩))).run Tryz.prog W9=.ok ⟨w.heap.size + 1,0,none⟩ W9:=by clear L;go_simp
    refine bodyPost_ret (v:=.agg #[.int .i64 q.1.1.1,.int .i64 q.1.1.2.1,.int .i64 q.1.1.2.2,.int .i64 q.1.2.1.1,.int .i64 q.1.2.1.2.1,.int .i64 q.1.2.1.2.2,.int .i64 q.1.2.2.1,.int .i64 q.1.2.2.2.1,.int .i64 q.1.2.2.2.2,.int .i64 q.2.1,.int .i64 (-q.2.2)]) (by
      rw [results_cell rfl]
      refine (congrArg (fun r=>Result.andThen r (fun a w₁=>(loadVar 61 a).run Tryz.prog w₁)) (show _=Result.ok ⟨w.heap.size + 1,0,none⟩ W9 from e)).trans ?_
      exact L) rfl ⟨rfl,B⟩
end Go.Proofs.YtgchcnpgjfoadaaGreat
namespace Go.Proofs.YtgchcnpgjfoadaaGreat
open Go.ChangeShapes Go.WideShapes Go.RowKit
open Sh
def imT (p:Pu) (s:Bool) (B:Nat) (X:Nat→Value):Array Value:=#[puv p,.bool s,.pointer (some ⟨B,0,none⟩),undef,.pointer (some ⟨B + 1,0,none⟩),X 5,X 6,X 7,X 8,X 9,X 10,X 11,X 12,X 13,X 14,X 15,X 16,X 17,X 18,undef,undef,undef,undef,undef,undef]
def imI (G:World→Prop) (N:Nat) (p:Pu) (s:Bool) (B:Nat) (l:Array Bool) (A:Act) (W:World):Prop :=
  l.size=15∧∃ X:Nat→Value,A={ tmps:=imT p s B X,defers:=[] }∧N≤W.heap.size∧G W∧MG l W B p∧PV l 0 (X 5) (.pointer (some ⟨B,0,none⟩))∧PV l 1 (X 6) (.pointer (some ⟨B,0,none⟩))∧PV l 2 (X 7) (ptv p.1.1)∧PV l 3 (X 8) (ptv (mir p.1.1))∧PV l 4 (X 9) (.pointer (some ⟨B,0,none⟩))∧PV l 5 (X 10) (.pointer (some ⟨B,3,none⟩))∧PV l 6 (X 11) (ptv p.1.2.1)∧PV l 7 (X 12) (ptv (mir p.1.2.1))∧PV l 8 (X 13) (.pointer (some ⟨B,0,none⟩))∧PV l 9 (X 14) (.pointer (some ⟨B,6,none⟩))∧PV l 10 (X 15) (ptv p.1.2.2)∧PV l 11 (X 16) (ptv (mir p.1.2.2))∧PV l 12 (X 17) (pnv (mir p.1.1) (mir p.1.2.1) (mir p.1.2.2))∧PV l 13 (X 18) (.pointer (some ⟨B,0,none⟩))∧Cl l 3 2∧Cl l 7 6∧Cl l 11 10∧Cl l 12 3∧Cl l 12 7∧Cl l 12 11∧Cl l 14 12
def GIm (w W:World):Prop:=Below w.heap.size w W∧OPF W (w.heap.size + 1) zPu
theorem gim_in {w W W':World} (h:GIm w W) (hb:Below (w.heap.size + 2) W W'):GIm w W':=⟨h.1.trans (hb.mono (by omega)),opf_in h.2 hb (by omega)⟩
theorem gim_set {w W:World} {p:Pu} (h:GIm w W):GIm w (((((((((W.setCell ⟨w.heap.size,0,none⟩ (.int .i64 (mir9 p.1).1.1)).setCell ⟨w.heap.size,1,none⟩ (.int .i64 (mir9 p.1).1.2.1)).setCell ⟨w.heap.size,2,none⟩ (.int .i64 (mir9 p.1).1.2.2)).setCell ⟨w.heap.size,3,none⟩ (.int .i64 (mir9 p.1).2.1.1)).setCell ⟨w.heap.size,4,none⟩ (.int .i64 (mir9 p.1).2.1.2.1)).setCell ⟨w.heap.size,5,none⟩ (.int .i64 (mir9 p.1).2.1.2.2)).setCell ⟨w.heap.size,6,none⟩ (.int .i64 (mir9 p.1).2.2.1)).setCell ⟨w.heap.size,7,none⟩ (.int .i64 (mir9 p.1).2.2.2.1)).setCell ⟨w.heap.size,8,none⟩ (.int .i64 (mir9 p.1).2.2.2.2)):=⟨h.1.trans (below_put9 (Nat.le_refl _)),opf_other h.2 (by omega)⟩
theorem gim_new (w:World) (p:Pu) (t u:TypeId):GIm w ((w.alloc (pub p t)).alloc (pub zPu u)).drew :=
  ⟨Below.drew (((Below.refl _ w).alloc (Nat.le_refl _) _).alloc (by simp) _),opf_drew (by have z:=opf_new (w.alloc (pub p t)) zPu u;simp only [World.size_alloc] at z;exact z)⟩
set_option maxRecDepth 100000 in
set_option maxHeartbeats 4000000 in
theorem image_any (p:Pu) (s:Bool) (w:World) (Z0:Hid (-4611686018427387904≤p.1.1.2.2∧p.1.1.2.2≤4611686018427387904)) (Z1:Hid (-4611686018427387904≤p.1.2.1.2.2∧p.1.2.1.2.2≤4611686018427387904)) (Z2:Hid (-4611686018427387904≤p.1.2.2.2.2∧p.1.2.2.2.2≤4611686018427387904)) (q1:-4611686018427387904≤p.2.2) (q2:p.2.2≤4611686018427387904):Calls Tryz.prog 70 #[puv p,.bool s] w fun e w'=>e=.returned (puv (img s p))∧Below w.heap.size w w':=by
  go_enter Tryz.func70,Tryz.ntmps70
  go_wp2_with fail
  rename_i K1 hK1
  have HB:Hid (w.heap.size < w.heap.size + 2):=Lib.hid (by omega)
  have GI:=Lib.hid (fun W W' (hb:Below (w.heap.size + 2) W W') (h:GIm w W)=>gim_in h hb)
  have GS:=Lib.hid (fun W (h:GIm w W)=>gim_set (p:=p) h)
  refine wp_region_inv (imI (GIm w) (w.heap.size + 2) p s w.heap.size) (by kernel_rfl) ?_ ?_ ?_
  · exact ⟨by simp,fun _=>undef,rfl,by simp,gim_new w p _ _,MG.nought (opf_drew (opf_in (opf_new w p _) ((Below.refl _ _).alloc (Nat.le_refl _) _) (by simp))),PV.nought,PV.nought,PV.nought,PV.nought,PV.nought,PV.nought,PV.nought,PV.nought,PV.nought,PV.nought,PV.nought,PV.nought,PV.nought,PV.nought,Cl.nought,Cl.nought,Cl.nought,Cl.nought,Cl.nought,Cl.nought,Cl.nought⟩
  · simp only [allOps]
    refine ⟨?_,?_,?_,?_,?_,?_,?_,?_,?_,?_,?_,?_,?_,?_,?_,trivial⟩
    · rintro l A W ⟨hl,X,rfl,hN,bw,g,p0,p1,p2,p3,p4,p5,p6,p7,p8,p9,p10,p11,p12,p13,k0,k1,k2,k3,k4,k5,k6⟩ h1 hp K hK
      have hT:∀ X:Nat→Value,imT p s w.heap.size X=#[puv p,.bool s,.pointer (some ⟨w.heap.size,0,none⟩),undef,.pointer (some ⟨w.heap.size + 1,0,none⟩),X 5,X 6,X 7,X 8,X 9,X 10,X 11,X 12,X 13,X 14,X 15,X 16,X 17,X 18,undef,undef,undef,undef,undef,undef]:=fun _=>rfl
      rw [hT]
      have p0':=Lib.hid p0
      have p1':=Lib.hid p1
      have p2':=Lib.hid p2
      have p3':=Lib.hid p3
      have p4':=Lib.hid p4
      have p5':=Lib.hid p5
      have p6':=Lib.hid p6
      have p7':=Lib.hid p7
      have p8':=Lib.hid p8
      have p9':=Lib.hid p9
      have p10':=Lib.hid p10
      have p11':=Lib.hid p11
      have p12':=Lib.hid p12
      have p13':=Lib.hid p13
      have k0':=Lib.hid k0
      have k1':=Lib.hid k1
      have k2':=Lib.hid k2
      have k3':=Lib.hid k3
      have k4':=Lib.hid k4
      have k5':=Lib.hid k5
      have k6':=Lib.hid k6
      have g':=Lib.hid g
      have bw':=Lib.hid bw
      clear k6 k5 k4 k3 k2 k1 k0 p13 p12 p11 p10 p9 p8 p7 p6 p5 p4 p3 p2 p1 p0 g bw
      have hN':=Lib.hid hN;clear hN;have hl':=Lib.hid hl;clear hl;have h1':=Lib.hid h1;clear h1;have hp':=Lib.hid hp;clear hp;have hK':=Lib.hid hK;clear hK
      go_simp
      have hK:=hK'.out;have hN:=hN'.out;have hl:=hl'.out;have h1:=h1'.out;have hp:=hp'.out
      have p0:=p0'.out
      have p1:=p1'.out
      have p2:=p2'.out
      have p3:=p3'.out
      have p4:=p4'.out
      have p5:=p5'.out
      have p6:=p6'.out
      have p7:=p7'.out
      have p8:=p8'.out
      have p9:=p9'.out
      have p10:=p10'.out
      have p11:=p11'.out
      have p12:=p12'.out
      have p13:=p13'.out
      have k0:=k0'.out
      have k1:=k1'.out
      have k2:=k2'.out
      have k3:=k3'.out
      have k4:=k4'.out
      have k5:=k5'.out
      have k6:=k6'.out
      have g:=g'.out
      have bw:=bw'.out
      refine hK _ _ ⟨by simpa using hl,(upd X 5 (.pointer (some ⟨w.heap.size,0,none⟩))),rfl,hN,bw,g.keep (by decide) (fun _ h=>h),PV.made rfl,p1.keep (by decide),p2.keep (by decide),p3.keep (by decide),p4.keep (by decide),p5.keep (by decide),p6.keep (by decide),p7.keep (by decide),p8.keep (by decide),p9.keep (by decide),p10.keep (by decide),p11.keep (by decide),p12.keep (by decide),p13.keep (by decide),k0.keep (by decide),k1.keep (by decide),k2.keep (by decide),k3.keep (by decide),k4.keep (by decide),k5.keep (by decide),k6.keep (by decide)⟩
    · rintro l A W ⟨hl,X,rfl,hN,bw,g,p0,p1,p2,p3,p4,p5,p6,p7,p8,p9,p10,p11,p12,p13,k0,k1,k2,k3,k4,k5,k6⟩ h1 hp K hK
      have e0:=p0 (hp ⟨0,.data⟩ (by simp) rfl)
      have hT:∀ X:Nat→Value,imT p s w.heap.size X=#[puv p,.bool s,.pointer (some ⟨w.heap.size,0,none⟩),undef,.pointer (some ⟨w.heap.size + 1,0,none⟩),X 5,X 6,X 7,X 8,X 9,X 10,X 11,X 12,X 13,X 14,X 15,X 16,X 17,X 18,undef,undef,undef,undef,undef,undef]:=fun _=>rfl
      rw [hT]
      have p0':=Lib.hid p0
      have p1':=Lib.hid p1
      have p2':=Lib.hid p2
      have p3':=Lib.hid p3
      have p4':=Lib.hid p4
      have p5':=Lib.hid p5
      have p6':=Lib.hid p6
      have p7':=Lib.hid p7
      have p8':=Lib.hid p8
      have p9':=Lib.hid p9
      have p10':=Lib.hid p10
      have p11':=Lib.hid p11
      have p12':=Lib.hid p12
      have p13':=Lib.hid p13
      have k0':=Lib.hid k0
      have k1':=Lib.hid k1
      have k2':=Lib.hid k2
      have k3':=Lib.hid k3
      have k4':=Lib.hid k4
      have k5':=Lib.hid k5
      have k6':=Lib.hid k6
      have g':=Lib.hid g
      have bw':=Lib.hid bw
      clear k6 k5 k4 k3 k2 k1 k0 p13 p12 p11 p10 p9 p8 p7 p6 p5 p4 p3 p2 p1 p0 g bw
      have hN':=Lib.hid hN;clear hN;have hl':=Lib.hid hl;clear hl;have h1':=Lib.hid h1;clear h1;have hp':=Lib.hid hp;clear hp;have hK':=Lib.hid hK;clear hK
      go_simp
      have hK:=hK'.out;have hN:=hN'.out;have hl:=hl'.out;have h1:=h1'.out;have hp:=hp'.out
      have p0:=p0'.out
      have p1:=p1'.out
      have p2:=p2'.out
      have p3:=p3'.out
      have p4:=p4'.out
      have p5:=p5'.out
      have p6:=p6'.out
      have p7:=p7'.out
      have p8:=p8'.out
      have p9:=p9'.out
      have p10:=p10'.out
      have p11:=p11'.out
      have p12:=p12'.out
      have p13:=p13'.out
      have k0:=k0'.out
      have k1:=k1'.out
      have k2:=k2'.out
      have k3:=k3'.out
      have k4:=k4'.out
      have k5:=k5'.out
      have k6:=k6'.out
      have g:=g'.out
      have bw:=bw'.out
      refine hK _ _ ⟨by simpa using hl,(upd (upd X 5 (.pointer (some ⟨w.heap.size,0,none⟩))) 6 (.pointer (some ⟨w.heap.size,0,none⟩))),rfl,hN,bw,g.keep (by decide) (fun _ h=>h),PV.made rfl,PV.made rfl,p2.keep (by decide),p3.keep (by decide),p4.keep (by decide),p5.keep (by decide),p6.keep (by decide),p7.keep (by decide),p8.keep (by decide),p9.keep (by decide),p10.keep (by decide),p11.keep (by decide),p12.keep (by decide),p13.keep (by decide),k0.keep (by decide),k1.keep (by decide),k2.keep (by decide),k3.keep (by decide),k4.keep (by decide),k5.keep (by decide),k6.keep (by decide)⟩
    · rintro l A W ⟨hl,X,rfl,hN,bw,g,p0,p1,p2,p3,p4,p5,p6,p7,p8,p9,p10,p11,p12,p13,k0,k1,k2,k3,k4,k5,k6⟩ h1 hp K hK
      have e1:=p1 (hp ⟨1,.data⟩ (by simp) rfl)
      obtain ⟨⟨⟨d0,d1,d2,d3,d4,d5,d6,d7,d8,d9,d10⟩,ol⟩,_⟩:=g.there (fun z=>getD_flip h1 (k0 (k3 (k6 z))))
      have hT:∀ X:Nat→Value,imT p s w.heap.size X=#[puv p,.bool s,.pointer (some ⟨w.heap.size,0,none⟩),undef,.pointer (some ⟨w.heap.size + 1,0,none⟩),X 5,X 6,X 7,X 8,X 9,X 10,X 11,X 12,X 13,X 14,X 15,X 16,X 17,X 18,undef,undef,undef,undef,undef,undef]:=fun _=>rfl
      rw [hT]
      have p0':=Lib.hid p0
      have p1':=Lib.hid p1
      have p2':=Lib.hid p2
      have p3':=Lib.hid p3
      have p4':=Lib.hid p4
      have p5':=Lib.hid p5
      have p6':=Lib.hid p6
      have p7':=Lib.hid p7
      have p8':=Lib.hid p8
      have p9':=Lib.hid p9
      have p10':=Lib.hid p10
      have p11':=Lib.hid p11
      have p12':=Lib.hid p12
      have p13':=Lib.hid p13
      have k0':=Lib.hid k0
      have k1':=Lib.hid k1
      have k2':=Lib.hid k2
      have k3':=Lib.hid k3
      have k4':=Lib.hid k4
      have k5':=Lib.hid k5
      have k6':=Lib.hid k6
      have g':=Lib.hid g
      have bw':=Lib.hid bw
      clear k6 k5 k4 k3 k2 k1 k0 p13 p12 p11 p10 p9 p8 p7 p6 p5 p4 p3 p2 p1 p0 g bw
      have hN':=Lib.hid hN;clear hN;have hl':=Lib.hid hl;clear hl;have h1':=Lib.hid h1;clear h1;have hp':=Lib.hid hp;clear hp;have hK':=Lib.hid hK;clear hK
      go_simp
      have hK:=hK'.out;have hN:=hN'.out;have hl:=hl'.out;have h1:=h1'.out;have hp:=hp'.out
      have p0:=p0'.out
      have p1:=p1'.out
      have p2:=p2'.out
      have p3:=p3'.out
      have p4:=p4'.out
      have p5:=p5'.out
      have p6:=p6'.out
      have p7:=p7'.out
      have p8:=p8'.out
      have p9:=p9'.out
      have p10:=p10'.out
      have p11:=p11'.out
      have p12:=p12'.out
      have p13:=p13'.out
      have k0:=k0'.out
      have k1:=k1'.out
      have k2:=k2'.out
      have k3:=k3'.out
      have k4:=k4'.out
      have k5:=k5'.out
      have k6:=k6'.out
      have g:=g'.out
      have bw:=bw'.out
      refine hK _ _ ⟨by simpa using hl,(upd (upd X 6 (.pointer (some ⟨w.heap.size,0,none⟩))) 7 (ptv p.1.1)),rfl,hN,bw,g.keep (by decide) (fun _ h=>h),p0.keep (by decide),PV.made rfl,PV.made rfl,p3.keep (by decide),p4.keep (by decide),p5.keep (by decide),p6.keep (by decide),p7.keep (by decide),p8.keep (by decide),p9.keep (by decide),p10.keep (by decide),p11.keep (by decide),p12.keep (by decide),p13.keep (by decide),k0.keep (by decide),k1.keep (by decide),k2.keep (by decide),k3.keep (by decide),k4.keep (by decide),k5.keep (by decide),k6.keep (by decide)⟩
    · rintro l A W ⟨hl,X,rfl,hN,bw,g,p0,p1,p2,p3,p4,p5,p6,p7,p8,p9,p10,p11,p12,p13,k0,k1,k2,k3,k4,k5,k6⟩ h1 hp K hK
      have e2:=p2 (hp ⟨2,.data⟩ (by simp) rfl)
      have hT:∀ X:Nat→Value,imT p s w.heap.size X=#[puv p,.bool s,.pointer (some ⟨w.heap.size,0,none⟩),undef,.pointer (some ⟨w.heap.size + 1,0,none⟩),X 5,X 6,X 7,X 8,X 9,X 10,X 11,X 12,X 13,X 14,X 15,X 16,X 17,X 18,undef,undef,undef,undef,undef,undef]:=fun _=>rfl
      rw [hT]
      have p0':=Lib.hid p0
      have p1':=Lib.hid p1
      have p2':=Lib.hid p2
      have p3':=Lib.hid p3
      have p4':=Lib.hid p4
      have p5':=Lib.hid p5
      have p6':=Lib.hid p6
      have p7':=Lib.hid p7
      have p8':=Lib.hid p8
      have p9':=Lib.hid p9
      have p10':=Lib.hid p10
      have p11':=Lib.hid p11
      have p12':=Lib.hid p12
      have p13':=Lib.hid p13
      have k0':=Lib.hid k0
      have k1':=Lib.hid k1
      have k2':=Lib.hid k2
      have k3':=Lib.hid k3
      have k4':=Lib.hid k4
      have k5':=Lib.hid k5
      have k6':=Lib.hid k6
      have g':=Lib.hid g
      have bw':=Lib.hid bw
      clear k6 k5 k4 k3 k2 k1 k0 p13 p12 p11 p10 p9 p8 p7 p6 p5 p4 p3 p2 p1 p0 g bw
      have hN':=Lib.hid hN;clear hN;have hl':=Lib.hid hl;clear hl;have h1':=Lib.hid h1;clear h1;have hp':=Lib.hid hp;clear hp;have hK':=Lib.hid hK;clear hK
      go_simp
      go_at_call 98
      refine (mir_any p.1.1 _ Z0.out.1 Z0.out.2).mono ?_
      rintro e W1 ⟨rfl,hb⟩
      (try dsimp only)
      have hK:=hK'.out;have hN:=hN'.out;have hl:=hl'.out;have h1:=h1'.out;have hp:=hp'.out
      have p0:=p0'.out
      have p1:=p1'.out
      have p2:=p2'.out
      have p3:=p3'.out
      have p4:=p4'.out
      have p5:=p5'.out
      have p6:=p6'.out
      have p7:=p7'.out
      have p8:=p8'.out
      have p9:=p9'.out
      have p10:=p10'.out
      have p11:=p11'.out
      have p12:=p12'.out
      have p13:=p13'.out
      have k0:=k0'.out
      have k1:=k1'.out
      have k2:=k2'.out
      have k3:=k3'.out
      have k4:=k4'.out
      have k5:=k5'.out
      have k6:=k6'.out
      have g:=g'.out
      have bw:=bw'.out
      refine hK _ _ ⟨by simpa using hl,(upd (upd X 7 (ptv p.1.1)) 8 (ptv (mir p.1.1))),rfl,Nat.le_trans hN hb.size,GI.out _ _ (hb.mono hN) bw,g.keep (by decide) (fun _ h=>opf_in h (hb.mono hN) HB.out),p0.keep (by decide),p1.keep (by decide),PV.made rfl,PV.made rfl,p4.keep (by decide),p5.keep (by decide),p6.keep (by decide),p7.keep (by decide),p8.keep (by decide),p9.keep (by decide),p10.keep (by decide),p11.keep (by decide),p12.keep (by decide),p13.keep (by decide),Cl.made (hp ⟨2,.data⟩ (by simp) rfl),k1.keep (by decide),k2.keep (by decide),k3.keep (by decide),k4.keep (by decide),k5.keep (by decide),k6.keep (by decide)⟩
    · rintro l A W ⟨hl,X,rfl,hN,bw,g,p0,p1,p2,p3,p4,p5,p6,p7,p8,p9,p10,p11,p12,p13,k0,k1,k2,k3,k4,k5,k6⟩ h1 hp K hK
      have hT:∀ X:Nat→Value,imT p s w.heap.size X=#[puv p,.bool s,.pointer (some ⟨w.heap.size,0,none⟩),undef,.pointer (some ⟨w.heap.size + 1,0,none⟩),X 5,X 6,X 7,X 8,X 9,X 10,X 11,X 12,X 13,X 14,X 15,X 16,X 17,X 18,undef,undef,undef,undef,undef,undef]:=fun _=>rfl
      rw [hT]
      have p0':=Lib.hid p0
      have p1':=Lib.hid p1
      have p2':=Lib.hid p2
      have p3':=Lib.hid p3
      have p4':=Lib.hid p4
      have p5':=Lib.hid p5
      have p6':=Lib.hid p6
      have p7':=Lib.hid p7
      have p8':=Lib.hid p8
      have p9':=Lib.hid p9
      have p10':=Lib.hid p10
      have p11':=Lib.hid p11
      have p12':=Lib.hid p12
      have p13':=Lib.hid p13
      have k0':=Lib.hid k0
      have k1':=Lib.hid k1
      have k2':=Lib.hid k2
      have k3':=Lib.hid k3
      have k4':=Lib.hid k4
      have k5':=Lib.hid k5
      have k6':=Lib.hid k6
      have g':=Lib.hid g
      have bw':=Lib.hid bw
      clear k6 k5 k4 k3 k2 k1 k0 p13 p12 p11 p10 p9 p8 p7 p6 p5 p4 p3 p2 p1 p0 g bw
      have hN':=Lib.hid hN;clear hN;have hl':=Lib.hid hl;clear hl;have h1':=Lib.hid h1;clear h1;have hp':=Lib.hid hp;clear hp;have hK':=Lib.hid hK;clear hK
      go_simp
      have hK:=hK'.out;have hN:=hN'.out;have hl:=hl'.out;have h1:=h1'.out;have hp:=hp'.out
      have p0:=p0'.out
      have p1:=p1'.out
      have p2:=p2'.out
      have p3:=p3'.out
      have p4:=p4'.out
      have p5:=p5'.out
      have p6:=p6'.out
      have p7:=p7'.out
      have p8:=p8'.out
      have p9:=p9'.out
      have p10:=p10'.out
      have p11:=p11'.out
      have p12:=p12'.out
      have p13:=p13'.out
      have k0:=k0'.out
      have k1:=k1'.out
      have k2:=k2'.out
      have k3:=k3'.out
      have k4:=k4'.out
      have k5:=k5'.out
      have k6:=k6'.out
      have g:=g'.out
      have bw:=bw'.out
      refine hK _ _ ⟨by simpa using hl,(upd X 9 (.pointer (some ⟨w.heap.size,0,none⟩))),rfl,hN,bw,g.keep (by decide) (fun _ h=>h),p0.keep (by decide),p1.keep (by decide),p2.keep (by decide),p3.keep (by decide),PV.made rfl,p5.keep (by decide),p6.keep (by decide),p7.keep (by decide),p8.keep (by decide),p9.keep (by decide),p10.keep (by decide),p11.keep (by decide),p12.keep (by decide),p13.keep (by decide),k0.keep (by decide),k1.keep (by decide),k2.keep (by decide),k3.keep (by decide),k4.keep (by decide),k5.keep (by decide),k6.keep (by decide)⟩
    · rintro l A W ⟨hl,X,rfl,hN,bw,g,p0,p1,p2,p3,p4,p5,p6,p7,p8,p9,p10,p11,p12,p13,k0,k1,k2,k3,k4,k5,k6⟩ h1 hp K hK
      have e4:=p4 (hp ⟨4,.data⟩ (by simp) rfl)
      have hT:∀ X:Nat→Value,imT p s w.heap.size X=#[puv p,.bool s,.pointer (some ⟨w.heap.size,0,none⟩),undef,.pointer (some ⟨w.heap.size + 1,0,none⟩),X 5,X 6,X 7,X 8,X 9,X 10,X 11,X 12,X 13,X 14,X 15,X 16,X 17,X 18,undef,undef,undef,undef,undef,undef]:=fun _=>rfl
      rw [hT]
      have p0':=Lib.hid p0
      have p1':=Lib.hid p1
      have p2':=Lib.hid p2
      have p3':=Lib.hid p3
      have p4':=Lib.hid p4
      have p5':=Lib.hid p5
      have p6':=Lib.hid p6
      have p7':=Lib.hid p7
      have p8':=Lib.hid p8
      have p9':=Lib.hid p9
      have p10':=Lib.hid p10
      have p11':=Lib.hid p11
      have p12':=Lib.hid p12
      have p13':=Lib.hid p13
      have k0':=Lib.hid k0
      have k1':=Lib.hid k1
      have k2':=Lib.hid k2
      have k3':=Lib.hid k3
      have k4':=Lib.hid k4
      have k5':=Lib.hid k5
      have k6':=Lib.hid k6
      have g':=Lib.hid g
      have bw':=Lib.hid bw
      clear k6 k5 k4 k3 k2 k1 k0 p13 p12 p11 p10 p9 p8 p7 p6 p5 p4 p3 p2 p1 p0 g bw
      have hN':=Lib.hid hN;clear hN;have hl':=Lib.hid hl;clear hl;have h1':=Lib.hid h1;clear h1;have hp':=Lib.hid hp;clear hp;have hK':=Lib.hid hK;clear hK
      go_simp
      have hK:=hK'.out;have hN:=hN'.out;have hl:=hl'.out;have h1:=h1'.out;have hp:=hp'.out
      have p0:=p0'.out
      have p1:=p1'.out
      have p2:=p2'.out
      have p3:=p3'.out
      have p4:=p4'.out
      have p5:=p5'.out
      have p6:=p6'.out
      have p7:=p7'.out
      have p8:=p8'.out
      have p9:=p9'.out
      have p10:=p10'.out
      have p11:=p11'.out
      have p12:=p12'.out
      have p13:=p13'.out
      have k0:=k0'.out
      have k1:=k1'.out
      have k2:=k2'.out
      have k3:=k3'.out
      have k4:=k4'.out
      have k5:=k5'.out
      have k6:=k6'.out
      have g:=g'.out
      have bw:=bw'.out
      refine hK _ _ ⟨by simpa using hl,(upd (upd X 9 (.pointer (some ⟨w.heap.size,0,none⟩))) 10 (.pointer (some ⟨w.heap.size,3,none⟩))),rfl,hN,bw,g.keep (by decide) (fun _ h=>h),p0.keep (by decide),p1.keep (by decide),p2.keep (by decide),p3.keep (by decide),PV.made rfl,PV.made rfl,p6.keep (by decide),p7.keep (by decide),p8.keep (by decide),p9.keep (by decide),p10.keep (by decide),p11.keep (by decide),p12.keep (by decide),p13.keep (by decide),k0.keep (by decide),k1.keep (by decide),k2.keep (by decide),k3.keep (by decide),k4.keep (by decide),k5.keep (by decide),k6.keep (by decide)⟩
    · rintro l A W ⟨hl,X,rfl,hN,bw,g,p0,p1,p2,p3,p4,p5,p6,p7,p8,p9,p10,p11,p12,p13,k0,k1,k2,k3,k4,k5,k6⟩ h1 hp K hK
      have e5:=p5 (hp ⟨5,.data⟩ (by simp) rfl)
      obtain ⟨⟨⟨d0,d1,d2,d3,d4,d5,d6,d7,d8,d9,d10⟩,ol⟩,_⟩:=g.there (fun z=>getD_flip h1 (k1 (k4 (k6 z))))
      have hT:∀ X:Nat→Value,imT p s w.heap.size X=#[puv p,.bool s,.pointer (some ⟨w.heap.size,0,none⟩),undef,.pointer (some ⟨w.heap.size + 1,0,none⟩),X 5,X 6,X 7,X 8,X 9,X 10,X 11,X 12,X 13,X 14,X 15,X 16,X 17,X 18,undef,undef,undef,undef,undef,undef]:=fun _=>rfl
      rw [hT]
      have p0':=Lib.hid p0
      have p1':=Lib.hid p1
      have p2':=Lib.hid p2
      have p3':=Lib.hid p3
      have p4':=Lib.hid p4
      have p5':=Lib.hid p5
      have p6':=Lib.hid p6
      have p7':=Lib.hid p7
      have p8':=Lib.hid p8
      have p9':=Lib.hid p9
      have p10':=Lib.hid p10
      have p11':=Lib.hid p11
      have p12':=Lib.hid p12
      have p13':=Lib.hid p13
      have k0':=Lib.hid k0
      have k1':=Lib.hid k1
      have k2':=Lib.hid k2
      have k3':=Lib.hid k3
      have k4':=Lib.hid k4
      have k5':=Lib.hid k5
      have k6':=Lib.hid k6
      have g':=Lib.hid g
      have bw':=Lib.hid bw
      clear k6 k5 k4 k3 k2 k1 k0 p13 p12 p11 p10 p9 p8 p7 p6 p5 p4 p3 p2 p1 p0 g bw
      have hN':=Lib.hid hN;clear hN;have hl':=Lib.hid hl;clear hl;have h1':=Lib.hid h1;clear h1;have hp':=Lib.hid hp;clear hp;have hK':=Lib.hid hK;clear hK
      go_simp
      have hK:=hK'.out;have hN:=hN'.out;have hl:=hl'.out;have h1:=h1'.out;have hp:=hp'.out
      have p0:=p0'.out
      have p1:=p1'.out
      have p2:=p2'.out
      have p3:=p3'.out
      have p4:=p4'.out
      have p5:=p5'.out
      have p6:=p6'.out
      have p7:=p7'.out
      have p8:=p8'.out
      have p9:=p9'.out
      have p10:=p10'.out
      have p11:=p11'.out
      have p12:=p12'.out
      have p13:=p13'.out
      have k0:=k0'.out
      have k1:=k1'.out
      have k2:=k2'.out
      have k3:=k3'.out
      have k4:=k4'.out
      have k5:=k5'.out
      have k6:=k6'.out
      have g:=g'.out
      have bw:=bw'.out
      refine hK _ _ ⟨by simpa using hl,(upd (upd X 10 (.pointer (some ⟨w.heap.size,3,none⟩))) 11 (ptv p.1.2.1)),rfl,hN,bw,g.keep (by decide) (fun _ h=>h),p0.keep (by decide),p1.keep (by decide),p2.keep (by decide),p3.keep (by decide),p4.keep (by decide),PV.made rfl,PV.made rfl,p7.keep (by decide),p8.keep (by decide),p9.keep (by decide),p10.keep (by decide),p11.keep (by decide),p12.keep (by decide),p13.keep (by decide),k0.keep (by decide),k1.keep (by decide),k2.keep (by decide),k3.keep (by decide),k4.keep (by decide),k5.keep (by decide),k6.keep (by decide)⟩
    · rintro l A W ⟨hl,X,rfl,hN,bw,g,p0,p1,p2,p3,p4,p5,p6,p7,p8,p9,p10,p11,p12,p13,k0,k1,k2,k3,k4,k5,k6⟩ h1 hp K hK
      have e6:=p6 (hp ⟨6,.data⟩ (by simp) rfl)
      have hT:∀ X:Nat→Value,imT p s w.heap.size X=#[puv p,.bool s,.pointer (some ⟨w.heap.size,0,none⟩),undef,.pointer (some ⟨w.heap.size + 1,0,none⟩),X 5,X 6,X 7,X 8,X 9,X 10,X 11,X 12,X 13,X 14,X 15,X 16,X 17,X 18,undef,undef,undef,undef,undef,undef]:=fun _=>rfl
      rw [hT]
      have p0':=Lib.hid p0
      have p1':=Lib.hid p1
      have p2':=Lib.hid p2
      have p3':=Lib.hid p3
      have p4':=Lib.hid p4
      have p5':=Lib.hid p5
      have p6':=Lib.hid p6
      have p7':=Lib.hid p7
      have p8':=Lib.hid p8
      have p9':=Lib.hid p9
      have p10':=Lib.hid p10
      have p11':=Lib.hid p11
      have p12':=Lib.hid p12
      have p13':=Lib.hid p13
      have k0':=Lib.hid k0
      have k1':=Lib.hid k1
      have k2':=Lib.hid k2
      have k3':=Lib.hid k3
      have k4':=Lib.hid k4
      have k5':=Lib.hid k5
      have k6':=Lib.hid k6
      have g':=Lib.hid g
      have bw':=Lib.hid bw
      clear k6 k5 k4 k3 k2 k1 k0 p13 p12 p11 p10 p9 p8 p7 p6 p5 p4 p3 p2 p1 p0 g bw
      have hN':=Lib.hid hN;clear hN;have hl':=Lib.hid hl;clear hl;have h1':=Lib.hid h1;clear h1;have hp':=Lib.hid hp;clear hp;have hK':=Lib.hid hK;clear hK
      go_simp
      go_at_call 98
      refine (mir_any p.1.2.1 _ Z1.out.1 Z1.out.2).mono ?_
      rintro e W1 ⟨rfl,hb⟩
      (try dsimp only)
      have hK:=hK'.out;have hN:=hN'.out;have hl:=hl'.out;have h1:=h1'.out;have hp:=hp'.out
      have p0:=p0'.out
      have p1:=p1'.out
      have p2:=p2'.out
      have p3:=p3'.out
      have p4:=p4'.out
      have p5:=p5'.out
      have p6:=p6'.out
      have p7:=p7'.out
      have p8:=p8'.out
      have p9:=p9'.out
      have p10:=p10'.out
      have p11:=p11'.out
      have p12:=p12'.out
      have p13:=p13'.out
      have k0:=k0'.out
      have k1:=k1'.out
      have k2:=k2'.out
      have k3:=k3'.out
      have k4:=k4'.out
      have k5:=k5'.out
      have k6:=k6'.out
      have g:=g'.out
      have bw:=bw'.out
      refine hK _ _ ⟨by simpa using hl,(upd (upd X 11 (ptv p.1.2.1)) 12 (ptv (mir p.1.2.1))),rfl,Nat.le_trans hN hb.size,GI.out _ _ (hb.mono hN) bw,g.keep (by decide) (fun _ h=>opf_in h (hb.mono hN) HB.out),p0.keep (by decide),p1.keep (by decide),p2.keep (by decide),p3.keep (by decide),p4.keep (by decide),p5.keep (by decide),PV.made rfl,PV.made rfl,p8.keep (by decide),p9.keep (by decide),p10.keep (by decide),p11.keep (by decide),p12.keep (by decide),p13.keep (by decide),k0.keep (by decide),Cl.made (hp ⟨6,.data⟩ (by simp) rfl),k2.keep (by decide),k3.keep (by decide),k4.keep (by decide),k5.keep (by decide),k6.keep (by decide)⟩
    · rintro l A W ⟨hl,X,rfl,hN,bw,g,p0,p1,p2,p3,p4,p5,p6,p7,p8,p9,p10,p11,p12,p13,k0,k1,k2,k3,k4,k5,k6⟩ h1 hp K hK
      have hT:∀ X:Nat→Value,imT p s w.heap.size X=#[puv p,.bool s,.pointer (some ⟨w.heap.size,0,none⟩),undef,.pointer (some ⟨w.heap.size + 1,0,none⟩),X 5,X 6,X 7,X 8,X 9,X 10,X 11,X 12,X 13,X 14,X 15,X 16,X 17,X 18,undef,undef,undef,undef,undef,undef]:=fun _=>rfl
      rw [hT]
      have p0':=Lib.hid p0
      have p1':=Lib.hid p1
      have p2':=Lib.hid p2
      have p3':=Lib.hid p3
      have p4':=Lib.hid p4
      have p5':=Lib.hid p5
      have p6':=Lib.hid p6
      have p7':=Lib.hid p7
      have p8':=Lib.hid p8
      have p9':=Lib.hid p9
      have p10':=Lib.hid p10
      have p11':=Lib.hid p11
      have p12':=Lib.hid p12
      have p13':=Lib.hid p13
      have k0':=Lib.hid k0
      have k1':=Lib.hid k1
      have k2':=Lib.hid k2
      have k3':=Lib.hid k3
      have k4':=Lib.hid k4
      have k5':=Lib.hid k5
      have k6':=Lib.hid k6
      have g':=Lib.hid g
      have bw':=Lib.hid bw
      clear k6 k5 k4 k3 k2 k1 k0 p13 p12 p11 p10 p9 p8 p7 p6 p5 p4 p3 p2 p1 p0 g bw
      have hN':=Lib.hid hN;clear hN;have hl':=Lib.hid hl;clear hl;have h1':=Lib.hid h1;clear h1;have hp':=Lib.hid hp;clear hp;have hK':=Lib.hid hK;clear hK
      go_simp
      have hK:=hK'.out;have hN:=hN'.out;have hl:=hl'.out;have h1:=h1'.out;have hp:=hp'.out
      have p0:=p0'.out
      have p1:=p1'.out
      have p2:=p2'.out
      have p3:=p3'.out
      have p4:=p4'.out
      have p5:=p5'.out
      have p6:=p6'.out
      have p7:=p7'.out
      have p8:=p8'.out
      have p9:=p9'.out
      have p10:=p10'.out
      have p11:=p11'.out
      have p12:=p12'.out
      have p13:=p13'.out
      have k0:=k0'.out
      have k1:=k1'.out
      have k2:=k2'.out
      have k3:=k3'.out
      have k4:=k4'.out
      have k5:=k5'.out
      have k6:=k6'.out
      have g:=g'.out
      have bw:=bw'.out
      refine hK _ _ ⟨by simpa using hl,(upd X 13 (.pointer (some ⟨w.heap.size,0,none⟩))),rfl,hN,bw,g.keep (by decide) (fun _ h=>h),p0.keep (by decide),p1.keep (by decide),p2.keep (by decide),p3.keep (by decide),p4.keep (by decide),p5.keep (by decide),p6.keep (by decide),p7.keep (by decide),PV.made rfl,p9.keep (by decide),p10.keep (by decide),p11.keep (by decide),p12.keep (by decide),p13.keep (by decide),k0.keep (by decide),k1.keep (by decide),k2.keep (by decide),k3.keep (by decide),k4.keep (by decide),k5.keep (by decide),k6.keep (by decide)⟩
    · rintro l A W ⟨hl,X,rfl,hN,bw,g,p0,p1,p2,p3,p4,p5,p6,p7,p8,p9,p10,p11,p12,p13,k0,k1,k2,k3,k4,k5,k6⟩ h1 hp K hK
      have e8:=p8 (hp ⟨8,.data⟩ (by simp) rfl)
      have hT:∀ X:Nat→Value,imT p s w.heap.size X=#[puv p,.bool s,.pointer (some ⟨w.heap.size,0,none⟩),undef,.pointer (some ⟨w.heap.size + 1,0,none⟩),X 5,X 6,X 7,X 8,X 9,X 10,X 11,X 12,X 13,X 14,X 15,X 16,X 17,X 18,undef,undef,undef,undef,undef,undef]:=fun _=>rfl
      rw [hT]
      have p0':=Lib.hid p0
      have p1':=Lib.hid p1
      have p2':=Lib.hid p2
      have p3':=Lib.hid p3
      have p4':=Lib.hid p4
      have p5':=Lib.hid p5
      have p6':=Lib.hid p6
      have p7':=Lib.hid p7
      have p8':=Lib.hid p8
      have p9':=Lib.hid p9
      have p10':=Lib.hid p10
      have p11':=Lib.hid p11
      have p12':=Lib.hid p12
      have p13':=Lib.hid p13
      have k0':=Lib.hid k0
      have k1':=Lib.hid k1
      have k2':=Lib.hid k2
      have k3':=Lib.hid k3
      have k4':=Lib.hid k4
      have k5':=Lib.hid k5
      have k6':=Lib.hid k6
      have g':=Lib.hid g
      have bw':=Lib.hid bw
      clear k6 k5 k4 k3 k2 k1 k0 p13 p12 p11 p10 p9 p8 p7 p6 p5 p4 p3 p2 p1 p0 g bw
      have hN':=Lib.hid hN;clear hN;have hl':=Lib.hid hl;clear hl;have h1':=Lib.hid h1;clear h1;have hp':=Lib.hid hp;clear hp;have hK':=Lib.hid hK;clear hK
      go_simp
      have hK:=hK'.out;have hN:=hN'.out;have hl:=hl'.out;have h1:=h1'.out;have hp:=hp'.out
      have p0:=p0'.out
      have p1:=p1'.out
      have p2:=p2'.out
      have p3:=p3'.out
      have p4:=p4'.out
      have p5:=p5'.out
      have p6:=p6'.out
      have p7:=p7'.out
      have p8:=p8'.out
      have p9:=p9'.out
      have p10:=p10'.out
      have p11:=p11'.out
      have p12:=p12'.out
      have p13:=p13'.out
      have k0:=k0'.out
      have k1:=k1'.out
      have k2:=k2'.out
      have k3:=k3'.out
      have k4:=k4'.out
      have k5:=k5'.out
      have k6:=k6'.out
      have g:=g'.out
      have bw:=bw'.out
      refine hK _ _ ⟨by simpa using hl,(upd (upd X 13 (.pointer (some ⟨w.heap.size,0,none⟩))) 14 (.pointer (some ⟨w.heap.size,6,none⟩))),rfl,hN,bw,g.keep (by decide) (fun _ h=>h),p0.keep (by decide),p1.keep (by decide),p2.keep (by decide),p3.keep (by decide),p4.keep (by decide),p5.keep (by decide),p6.keep (by decide),p7.keep (by decide),PV.made rfl,PV.made rfl,p10.keep (by decide),p11.keep (by decide),p12.keep (by decide),p13.keep (by decide),k0.keep (by decide),k1.keep (by decide),k2.keep (by decide),k3.keep (by decide),k4.keep (by decide),k5.keep (by decide),k6.keep (by decide)⟩
    · rintro l A W ⟨hl,X,rfl,hN,bw,g,p0,p1,p2,p3,p4,p5,p6,p7,p8,p9,p10,p11,p12,p13,k0,k1,k2,k3,k4,k5,k6⟩ h1 hp K hK
      have e9:=p9 (hp ⟨9,.data⟩ (by simp) rfl)
      obtain ⟨⟨⟨d0,d1,d2,d3,d4,d5,d6,d7,d8,d9,d10⟩,ol⟩,_⟩:=g.there (fun z=>getD_flip h1 (k2 (k5 (k6 z))))
      have hT:∀ X:Nat→Value,imT p s w.heap.size X=#[puv p,.bool s,.pointer (some ⟨w.heap.size,0,none⟩),undef,.pointer (some ⟨w.heap.size + 1,0,none⟩),X 5,X 6,X 7,X 8,X 9,X 10,X 11,X 12,X 13,X 14,X 15,X 16,X 17,X 18,undef,undef,undef,undef,undef,undef]:=fun _=>rfl
      rw [hT]
      have p0':=Lib.hid p0
      have p1':=Lib.hid p1
      have p2':=Lib.hid p2
      have p3':=Lib.hid p3
      have p4':=Lib.hid p4
      have p5':=Lib.hid p5
      have p6':=Lib.hid p6
      have p7':=Lib.hid p7
      have p8':=Lib.hid p8
      have p9':=Lib.hid p9
      have p10':=Lib.hid p10
      have p11':=Lib.hid p11
      have p12':=Lib.hid p12
      have p13':=Lib.hid p13
      have k0':=Lib.hid k0
      have k1':=Lib.hid k1
      have k2':=Lib.hid k2
      have k3':=Lib.hid k3
      have k4':=Lib.hid k4
      have k5':=Lib.hid k5
      have k6':=Lib.hid k6
      have g':=Lib.hid g
      have bw':=Lib.hid bw
      clear k6 k5 k4 k3 k2 k1 k0 p13 p12 p11 p10 p9 p8 p7 p6 p5 p4 p3 p2 p1 p0 g bw
      have hN':=Lib.hid hN;clear hN;have hl':=Lib.hid hl;clear hl;have h1':=Lib.hid h1;clear h1;have hp':=Lib.hid hp;clear hp;have hK':=Lib.hid hK;clear hK
      go_simp
      have hK:=hK'.out;have hN:=hN'.out;have hl:=hl'.out;have h1:=h1'.out;have hp:=hp'.out
      have p0:=p0'.out
      have p1:=p1'.out
      have p2:=p2'.out
      have p3:=p3'.out
      have p4:=p4'.out
      have p5:=p5'.out
      have p6:=p6'.out
      have p7:=p7'.out
      have p8:=p8'.out
      have p9:=p9'.out
      have p10:=p10'.out
      have p11:=p11'.out
      have p12:=p12'.out
      have p13:=p13'.out
      have k0:=k0'.out
      have k1:=k1'.out
      have k2:=k2'.out
      have k3:=k3'.out
      have k4:=k4'.out
      have k5:=k5'.out
      have k6:=k6'.out
      have g:=g'.out
      have bw:=bw'.out
      refine hK _ _ ⟨by simpa using hl,(upd (upd X 14 (.pointer (some ⟨w.heap.size,6,none⟩))) 15 (ptv p.1.2.2)),rfl,hN,bw,g.keep (by decide) (fun _ h=>h),p0.keep (by decide),p1.keep (by decide),p2.keep (by decide),p3.keep (by decide),p4.keep (by decide),p5.keep (by decide),p6.keep (by decide),p7.keep (by decide),p8.keep (by decide),PV.made rfl,PV.made rfl,p11.keep (by decide),p12.keep (by decide),p13.keep (by decide),k0.keep (by decide),k1.keep (by decide),k2.keep (by decide),k3.keep (by decide),k4.keep (by decide),k5.keep (by decide),k6.keep (by decide)⟩
    · rintro l A W ⟨hl,X,rfl,hN,bw,g,p0,p1,p2,p3,p4,p5,p6,p7,p8,p9,p10,p11,p12,p13,k0,k1,k2,k3,k4,k5,k6⟩ h1 hp K hK
      have e10:=p10 (hp ⟨10,.data⟩ (by simp) rfl)
      have hT:∀ X:Nat→Value,imT p s w.heap.size X=#[puv p,.bool s,.pointer (some ⟨w.heap.size,0,none⟩),undef,.pointer (some ⟨w.heap.size + 1,0,none⟩),X 5,X 6,X 7,X 8,X 9,X 10,X 11,X 12,X 13,X 14,X 15,X 16,X 17,X 18,undef,undef,undef,undef,undef,undef]:=fun _=>rfl
      rw [hT]
      have p0':=Lib.hid p0
      have p1':=Lib.hid p1
      have p2':=Lib.hid p2
      have p3':=Lib.hid p3
      have p4':=Lib.hid p4
      have p5':=Lib.hid p5
      have p6':=Lib.hid p6
      have p7':=Lib.hid p7
      have p8':=Lib.hid p8
      have p9':=Lib.hid p9
      have p10':=Lib.hid p10
      have p11':=Lib.hid p11
      have p12':=Lib.hid p12
      have p13':=Lib.hid p13
      have k0':=Lib.hid k0
      have k1':=Lib.hid k1
      have k2':=Lib.hid k2
      have k3':=Lib.hid k3
      have k4':=Lib.hid k4
      have k5':=Lib.hid k5
      have k6':=Lib.hid k6
      have g':=Lib.hid g
      have bw':=Lib.hid bw
      clear k6 k5 k4 k3 k2 k1 k0 p13 p12 p11 p10 p9 p8 p7 p6 p5 p4 p3 p2 p1 p0 g bw
      have hN':=Lib.hid hN;clear hN;have hl':=Lib.hid hl;clear hl;have h1':=Lib.hid h1;clear h1;have hp':=Lib.hid hp;clear hp;have hK':=Lib.hid hK;clear hK
      go_simp
      go_at_call 98
      refine (mir_any p.1.2.2 _ Z2.out.1 Z2.out.2).mono ?_
      rintro e W1 ⟨rfl,hb⟩
      (try dsimp only)
      have hK:=hK'.out;have hN:=hN'.out;have hl:=hl'.out;have h1:=h1'.out;have hp:=hp'.out
      have p0:=p0'.out
      have p1:=p1'.out
      have p2:=p2'.out
      have p3:=p3'.out
      have p4:=p4'.out
      have p5:=p5'.out
      have p6:=p6'.out
      have p7:=p7'.out
      have p8:=p8'.out
      have p9:=p9'.out
      have p10:=p10'.out
      have p11:=p11'.out
      have p12:=p12'.out
      have p13:=p13'.out
      have k0:=k0'.out
      have k1:=k1'.out
      have k2:=k2'.out
      have k3:=k3'.out
      have k4:=k4'.out
      have k5:=k5'.out
      have k6:=k6'.out
      have g:=g'.out
      have bw:=bw'.out
      refine hK _ _ ⟨by simpa using hl,(upd (upd X 15 (ptv p.1.2.2)) 16 (ptv (mir p.1.2.2))),rfl,Nat.le_trans hN hb.size,GI.out _ _ (hb.mono hN) bw,g.keep (by decide) (fun _ h=>opf_in h (hb.mono hN) HB.out),p0.keep (by decide),p1.keep (by decide),p2.keep (by decide),p3.keep (by decide),p4.keep (by decide),p5.keep (by decide),p6.keep (by decide),p7.keep (by decide),p8.keep (by decide),p9.keep (by decide),PV.made rfl,PV.made rfl,p12.keep (by decide),p13.keep (by decide),k0.keep (by decide),k1.keep (by decide),Cl.made (hp ⟨10,.data⟩ (by simp) rfl),k3.keep (by decide),k4.keep (by decide),k5.keep (by decide),k6.keep (by decide)⟩
    · rintro l A W ⟨hl,X,rfl,hN,bw,g,p0,p1,p2,p3,p4,p5,p6,p7,p8,p9,p10,p11,p12,p13,k0,k1,k2,k3,k4,k5,k6⟩ h1 hp K hK
      have e3:=p3 (hp ⟨3,.data⟩ (by simp) rfl)
      have e7:=p7 (hp ⟨7,.data⟩ (by simp) rfl)
      have e11:=p11 (hp ⟨11,.data⟩ (by simp) rfl)
      have hT:∀ X:Nat→Value,imT p s w.heap.size X=#[puv p,.bool s,.pointer (some ⟨w.heap.size,0,none⟩),undef,.pointer (some ⟨w.heap.size + 1,0,none⟩),X 5,X 6,X 7,X 8,X 9,X 10,X 11,X 12,X 13,X 14,X 15,X 16,X 17,X 18,undef,undef,undef,undef,undef,undef]:=fun _=>rfl
      rw [hT]
      have p0':=Lib.hid p0
      have p1':=Lib.hid p1
      have p2':=Lib.hid p2
      have p3':=Lib.hid p3
      have p4':=Lib.hid p4
      have p5':=Lib.hid p5
      have p6':=Lib.hid p6
      have p7':=Lib.hid p7
      have p8':=Lib.hid p8
      have p9':=Lib.hid p9
      have p10':=Lib.hid p10
      have p11':=Lib.hid p11
      have p12':=Lib.hid p12
      have p13':=Lib.hid p13
      have k0':=Lib.hid k0
      have k1':=Lib.hid k1
      have k2':=Lib.hid k2
      have k3':=Lib.hid k3
      have k4':=Lib.hid k4
      have k5':=Lib.hid k5
      have k6':=Lib.hid k6
      have g':=Lib.hid g
      have bw':=Lib.hid bw
      clear k6 k5 k4 k3 k2 k1 k0 p13 p12 p11 p10 p9 p8 p7 p6 p5 p4 p3 p2 p1 p0 g bw
      have hN':=Lib.hid hN;clear hN;have hl':=Lib.hid hl;clear hl;have h1':=Lib.hid h1;clear h1;have hp':=Lib.hid hp;clear hp;have hK':=Lib.hid hK;clear hK
      go_simp
      have hK:=hK'.out;have hN:=hN'.out;have hl:=hl'.out;have h1:=h1'.out;have hp:=hp'.out
      have p0:=p0'.out
      have p1:=p1'.out
      have p2:=p2'.out
      have p3:=p3'.out
      have p4:=p4'.out
      have p5:=p5'.out
      have p6:=p6'.out
      have p7:=p7'.out
      have p8:=p8'.out
      have p9:=p9'.out
      have p10:=p10'.out
      have p11:=p11'.out
      have p12:=p12'.out
      have p13:=p13'.out
      have k0:=k0'.out
      have k1:=k1'.out
      have k2:=k2'.out
      have k3:=k3'.out
      have k4:=k4'.out
      have k5:=k5'.out
      have k6:=k6'.out
      have g:=g'.out
      have bw:=bw'.out
      refine hK _ _ ⟨by simpa using hl,(upd (upd (upd (upd X 8 (ptv (mir p.1.1))) 12 (ptv (mir p.1.2.1))) 16 (ptv (mir p.1.2.2))) 17 (pnv (mir p.1.1) (mir p.1.2.1) (mir p.1.2.2))),rfl,hN,bw,g.keep (by decide) (fun _ h=>h),p0.keep (by decide),p1.keep (by decide),p2.keep (by decide),PV.made rfl,p4.keep (by decide),p5.keep (by decide),p6.keep (by decide),PV.made rfl,p8.keep (by decide),p9.keep (by decide),p10.keep (by decide),PV.made rfl,PV.made rfl,p13.keep (by decide),k0.keep (by decide),k1.keep (by decide),k2.keep (by decide),Cl.made (hp ⟨3,.data⟩ (by simp) rfl),Cl.made (hp ⟨7,.data⟩ (by simp) rfl),Cl.made (hp ⟨11,.data⟩ (by simp) rfl),k6.keep (by decide)⟩
    · rintro l A W ⟨hl,X,rfl,hN,bw,g,p0,p1,p2,p3,p4,p5,p6,p7,p8,p9,p10,p11,p12,p13,k0,k1,k2,k3,k4,k5,k6⟩ h1 hp K hK
      have hT:∀ X:Nat→Value,imT p s w.heap.size X=#[puv p,.bool s,.pointer (some ⟨w.heap.size,0,none⟩),undef,.pointer (some ⟨w.heap.size + 1,0,none⟩),X 5,X 6,X 7,X 8,X 9,X 10,X 11,X 12,X 13,X 14,X 15,X 16,X 17,X 18,undef,undef,undef,undef,undef,undef]:=fun _=>rfl
      rw [hT]
      have p0':=Lib.hid p0
      have p1':=Lib.hid p1
      have p2':=Lib.hid p2
      have p3':=Lib.hid p3
      have p4':=Lib.hid p4
      have p5':=Lib.hid p5
      have p6':=Lib.hid p6
      have p7':=Lib.hid p7
      have p8':=Lib.hid p8
      have p9':=Lib.hid p9
      have p10':=Lib.hid p10
      have p11':=Lib.hid p11
      have p12':=Lib.hid p12
      have p13':=Lib.hid p13
      have k0':=Lib.hid k0
      have k1':=Lib.hid k1
      have k2':=Lib.hid k2
      have k3':=Lib.hid k3
      have k4':=Lib.hid k4
      have k5':=Lib.hid k5
      have k6':=Lib.hid k6
      have g':=Lib.hid g
      have bw':=Lib.hid bw
      clear k6 k5 k4 k3 k2 k1 k0 p13 p12 p11 p10 p9 p8 p7 p6 p5 p4 p3 p2 p1 p0 g bw
      have hN':=Lib.hid hN;clear hN;have hl':=Lib.hid hl;clear hl;have h1':=Lib.hid h1;clear h1;have hp':=Lib.hid hp;clear hp;have hK':=Lib.hid hK;clear hK
      go_simp
      have hK:=hK'.out;have hN:=hN'.out;have hl:=hl'.out;have h1:=h1'.out;have hp:=hp'.out
      have p0:=p0'.out
      have p1:=p1'.out
      have p2:=p2'.out
      have p3:=p3'.out
      have p4:=p4'.out
      have p5:=p5'.out
      have p6:=p6'.out
      have p7:=p7'.out
      have p8:=p8'.out
      have p9:=p9'.out
      have p10:=p10'.out
      have p11:=p11'.out
      have p12:=p12'.out
      have p13:=p13'.out
      have k0:=k0'.out
      have k1:=k1'.out
      have k2:=k2'.out
      have k3:=k3'.out
      have k4:=k4'.out
      have k5:=k5'.out
      have k6:=k6'.out
      have g:=g'.out
      have bw:=bw'.out
      refine hK _ _ ⟨by simpa using hl,(upd X 18 (.pointer (some ⟨w.heap.size,0,none⟩))),rfl,hN,bw,g.keep (by decide) (fun _ h=>h),p0.keep (by decide),p1.keep (by decide),p2.keep (by decide),p3.keep (by decide),p4.keep (by decide),p5.keep (by decide),p6.keep (by decide),p7.keep (by decide),p8.keep (by decide),p9.keep (by decide),p10.keep (by decide),p11.keep (by decide),p12.keep (by decide),PV.made rfl,k0.keep (by decide),k1.keep (by decide),k2.keep (by decide),k3.keep (by decide),k4.keep (by decide),k5.keep (by decide),k6.keep (by decide)⟩
    · rintro l A W ⟨hl,X,rfl,hN,bw,g,p0,p1,p2,p3,p4,p5,p6,p7,p8,p9,p10,p11,p12,p13,k0,k1,k2,k3,k4,k5,k6⟩ h1 hp K hK
      have e12:=p12 (hp ⟨12,.data⟩ (by simp) rfl)
      have e13:=p13 (hp ⟨13,.data⟩ (by simp) rfl)
      have gg:=g.there (getD_flip h1)
      obtain ⟨⟨⟨d0,d1,d2,d3,d4,d5,d6,d7,d8,d9,d10⟩,ol⟩,oz⟩:=id gg
      have z0:=oz 0 (by decide)
      have z1:=oz 1 (by decide)
      have z2:=oz 2 (by decide)
      have z3:=oz 3 (by decide)
      have z4:=oz 4 (by decide)
      have z5:=oz 5 (by decide)
      have z6:=oz 6 (by decide)
      have z7:=oz 7 (by decide)
      have z8:=oz 8 (by decide)
      clear oz
      have hT:∀ X:Nat→Value,imT p s w.heap.size X=#[puv p,.bool s,.pointer (some ⟨w.heap.size,0,none⟩),undef,.pointer (some ⟨w.heap.size + 1,0,none⟩),X 5,X 6,X 7,X 8,X 9,X 10,X 11,X 12,X 13,X 14,X 15,X 16,X 17,X 18,undef,undef,undef,undef,undef,undef]:=fun _=>rfl
      rw [hT]
      have p0':=Lib.hid p0
      have p1':=Lib.hid p1
      have p2':=Lib.hid p2
      have p3':=Lib.hid p3
      have p4':=Lib.hid p4
      have p5':=Lib.hid p5
      have p6':=Lib.hid p6
      have p7':=Lib.hid p7
      have p8':=Lib.hid p8
      have p9':=Lib.hid p9
      have p10':=Lib.hid p10
      have p11':=Lib.hid p11
      have p12':=Lib.hid p12
      have p13':=Lib.hid p13
      have k0':=Lib.hid k0
      have k1':=Lib.hid k1
      have k2':=Lib.hid k2
      have k3':=Lib.hid k3
      have k4':=Lib.hid k4
      have k5':=Lib.hid k5
      have k6':=Lib.hid k6
      have g':=Lib.hid g
      have bw':=Lib.hid bw
      clear k6 k5 k4 k3 k2 k1 k0 p13 p12 p11 p10 p9 p8 p7 p6 p5 p4 p3 p2 p1 p0 g bw
      have hN':=Lib.hid hN;clear hN;have hl':=Lib.hid hl;clear hl;have h1':=Lib.hid h1;clear h1;have hp':=Lib.hid hp;clear hp;have hK':=Lib.hid hK;clear hK
      have gg':=Lib.hid gg;clear gg
      go_simp
      have hK:=hK'.out;have hN:=hN'.out;have hl:=hl'.out;have h1:=h1'.out;have hp:=hp'.out
      have p0:=p0'.out
      have p1:=p1'.out
      have p2:=p2'.out
      have p3:=p3'.out
      have p4:=p4'.out
      have p5:=p5'.out
      have p6:=p6'.out
      have p7:=p7'.out
      have p8:=p8'.out
      have p9:=p9'.out
      have p10:=p10'.out
      have p11:=p11'.out
      have p12:=p12'.out
      have p13:=p13'.out
      have k0:=k0'.out
      have k1:=k1'.out
      have k2:=k2'.out
      have k3:=k3'.out
      have k4:=k4'.out
      have k5:=k5'.out
      have k6:=k6'.out
      have g:=g'.out
      have bw:=bw'.out
      have gg:=gg'.out
      refine hK _ _ ⟨by simpa using hl,(upd (upd X 17 (pnv (mir p.1.1) (mir p.1.2.1) (mir p.1.2.2))) 18 (.pointer (some ⟨w.heap.size,0,none⟩))),rfl,(by simpa using hN),GS.out _ bw,MG.put (by rw [hl];decide) (opf_put gg),p0.keep (by decide),p1.keep (by decide),p2.keep (by decide),p3.keep (by decide),p4.keep (by decide),p5.keep (by decide),p6.keep (by decide),p7.keep (by decide),p8.keep (by decide),p9.keep (by decide),p10.keep (by decide),p11.keep (by decide),PV.made rfl,PV.made rfl,k0.keep (by decide),k1.keep (by decide),k2.keep (by decide),k3.keep (by decide),k4.keep (by decide),k5.keep (by decide),Cl.made (hp ⟨12,.data⟩ (by simp) rfl)⟩
  · rintro l A W ⟨hl,X,rfl,hN,bw,g,p0,p1,p2,p3,p4,p5,p6,p7,p8,p9,p10,p11,p12,p13,k0,k1,k2,k3,k4,k5,k6⟩ hr
    have l0:=ready_end hr 0 (by rw [hl];decide) rfl (fun e he _=>by
      simp at he
      (try (repeat (rcases he with rfl | he;· assumption)))
      (try (first | (subst he;assumption) | exact he.elim)))
    have l1:=ready_end hr 1 (by rw [hl];decide) rfl (fun e he _=>by
      simp at he
      (try (repeat (rcases he with rfl | he;· assumption)))
      (try (first | (subst he;assumption) | exact he.elim)))
    have l2:=ready_end hr 2 (by rw [hl];decide) rfl (fun e he _=>by
      simp at he
      (try (repeat (rcases he with rfl | he;· assumption)))
      (try (first | (subst he;assumption) | exact he.elim)))
    have l3:=ready_end hr 3 (by rw [hl];decide) rfl (fun e he _=>by
      simp at he
      (try (repeat (rcases he with rfl | he;· assumption)))
      (try (first | (subst he;assumption) | exact he.elim)))
    have l4:=ready_end hr 4 (by rw [hl];decide) rfl (fun e he _=>by
      simp at he
      (try (repeat (rcases he with rfl | he;· assumption)))
      (try (first | (subst he;assumption) | exact he.elim)))
    have l5:=ready_end hr 5 (by rw [hl];decide) rfl (fun e he _=>by
      simp at he
      (try (repeat (rcases he with rfl | he;· assumption)))
      (try (first | (subst he;assumption) | exact he.elim)))
    have l6:=ready_end hr 6 (by rw [hl];decide) rfl (fun e he _=>by
      simp at he
      (try (repeat (rcases he with rfl | he;· assumption)))
      (try (first | (subst he;assumption) | exact he.elim)))
    have l7:=ready_end hr 7 (by rw [hl];decide) rfl (fun e he _=>by
      simp at he
      (try (repeat (rcases he with rfl | he;· assumption)))
      (try (first | (subst he;assumption) | exact he.elim)))
    have l8:=ready_end hr 8 (by rw [hl];decide) rfl (fun e he _=>by
      simp at he
      (try (repeat (rcases he with rfl | he;· assumption)))
      (try (first | (subst he;assumption) | exact he.elim)))
    have l9:=ready_end hr 9 (by rw [hl];decide) rfl (fun e he _=>by
      simp at he
      (try (repeat (rcases he with rfl | he;· assumption)))
      (try (first | (subst he;assumption) | exact he.elim)))
    have l10:=ready_end hr 10 (by rw [hl];decide) rfl (fun e he _=>by
      simp at he
      (try (repeat (rcases he with rfl | he;· assumption)))
      (try (first | (subst he;assumption) | exact he.elim)))
    have l11:=ready_end hr 11 (by rw [hl];decide) rfl (fun e he _=>by
      simp at he
      (try (repeat (rcases he with rfl | he;· assumption)))
      (try (first | (subst he;assumption) | exact he.elim)))
    have l12:=ready_end hr 12 (by rw [hl];decide) rfl (fun e he _=>by
      simp at he
      (try (repeat (rcases he with rfl | he;· assumption)))
      (try (first | (subst he;assumption) | exact he.elim)))
    have l13:=ready_end hr 13 (by rw [hl];decide) rfl (fun e he _=>by
      simp at he
      (try (repeat (rcases he with rfl | he;· assumption)))
      (try (first | (subst he;assumption) | exact he.elim)))
    have l14:=ready_end hr 14 (by rw [hl];decide) rfl (fun e he _=>by
      simp at he
      (try (repeat (rcases he with rfl | he;· assumption)))
      (try (first | (subst he;assumption) | exact he.elim)))
    have O:=g.1 l14
    have hT:∀ X:Nat→Value,imT p s w.heap.size X=#[puv p,.bool s,.pointer (some ⟨w.heap.size,0,none⟩),undef,.pointer (some ⟨w.heap.size + 1,0,none⟩),X 5,X 6,X 7,X 8,X 9,X 10,X 11,X 12,X 13,X 14,X 15,X 16,X 17,X 18,undef,undef,undef,undef,undef,undef]:=fun _=>rfl
    rw [hT]
    have O2:=bw.2
    have GB:=bw.1
    clear hT bw g p0 p1 p2 p3 p4 p5 p6 p7 p8 p9 p10 p11 p12 p13 k0 k1 k2 k3 k4 k5 k6 l0 l1 l2 l3 l4 l5 l6 l7 l8 l9 l10 l11 l12 l13 l14 hr hl GI GS
    exact hK1 _ _ (im_rest (mir9 p.1,p.2) s w W _ _ _ _ _ _ _ _ _ _ _ _ _ _ _ O O2 GB q1 q2)
end Go.Proofs.YtgchcnpgjfoadaaGreat
