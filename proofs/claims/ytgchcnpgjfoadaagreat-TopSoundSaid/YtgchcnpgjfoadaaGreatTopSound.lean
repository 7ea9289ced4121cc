import Derived.Test.YtgchcnpgjfoadaaGreatSo67
import Derived.Test.YtgchcnpgjfoadaaGreatSoMd
import Derived.Test.YtgchcnpgjfoadaaGreatRows
import Derived.ProofKit
import Derived.OpenShut
import Derived.Carry
import Derived.Deep.Slices
import Derived.Deep.Fields
import Derived.Deep.Strs
import Derived.ChangeSame
import Derived.Lib.SmallJoins
namespace Go.Proofs.YtgchcnpgjfoadaaGreat
namespace topSound
open Go.ChangeShapes Go.WideShapes Go.ChangeAt Go.RowKit Go.Joins Go.Deep Sh
theorem own:ownKnob Tryz.prog.godebug=none:=by kernel_rfl
theorem laid:laidOutB Tryz.prog=true:=by kernel_rfl
theorem cellsInt:Tryz.prog.cellsOf 3=1:=by kernel_rfl
theorem cellsPoint:Tryz.prog.cellsOf 24=3:=by kernel_rfl
theorem cellsPanel9:Tryz.prog.cellsOf 59=9:=by kernel_rfl
theorem cellsPulse:Tryz.prog.cellsOf 61=11:=by kernel_rfl
theorem cell_flat {w:World} {a:Addr} {v:Value} (h:w.cell? a=some v):a=⟨a.block,a.off,none⟩∧a.block < w.heap.size:=by
  obtain ⟨b,o,sp⟩:=a
  unfold World.cell? at h
  split at h
  · rename_i e
    cases sp with
    | none=>exact ⟨rfl,(Array.getElem?_eq_some_iff.1 e).1⟩
    | some x=>simp at h
  · cases h
theorem add_flat (b o n:Nat):(⟨b,o,none⟩:Addr).add n=⟨b,o + n,none⟩:=by
  unfold Addr.add
  split
  · rename_i e;subst e;rfl
  · rfl
section
variable {H:Type} {enc:TypeId × Value→H} {w:World} {base:Nat} {spare:Nat→Bool} {held:Bool}
theorem read_point {n:Nat} {c0 c1 c2:Value} {x:DataW H × List MemPlace} (h:DataW.trod enc Tryz.prog w base spare held n 24 [c0,c1,c2]=some x) :
    ∃ a:P3,c0=.int .i64 a.1∧c1=.int .i64 a.2.1∧c2=.int .i64 a.2.2:=by
  obtain ⟨y0,y1,y2,m,_,_,g0,g1,g2⟩:=trod_struct3 Tryz.underlying24 h
  simp only [cellsInt] at g0 g1 g2
  obtain ⟨l,e0,_,_⟩:=DataW.trod_int Tryz.underlying3 g0
  obtain ⟨u,e1,_,_⟩:=DataW.trod_int Tryz.underlying3 g1
  obtain ⟨v,e2,_,_⟩:=DataW.trod_int Tryz.underlying3 g2
  simp at e0 e1 e2
  exact ⟨(l,u,v),e0,e1,e2⟩
theorem read_panel9 {n:Nat} {c0 c1 c2 c3 c4 c5 c6 c7 c8:Value} {x:DataW H × List MemPlace} (h:DataW.trod enc Tryz.prog w base spare held n 59 [c0,c1,c2,c3,c4,c5,c6,c7,c8]=some x) :
    ∃ t:P9,c0=.int .i64 t.1.1∧c1=.int .i64 t.1.2.1∧c2=.int .i64 t.1.2.2∧c3=.int .i64 t.2.1.1∧c4=.int .i64 t.2.1.2.1∧c5=.int .i64 t.2.1.2.2∧c6=.int .i64 t.2.2.1∧c7=.int .i64 t.2.2.2.1∧c8=.int .i64 t.2.2.2.2:=by
  obtain ⟨y0,y1,y2,m,_,_,g0,g1,g2⟩:=trod_struct3 Tryz.underlying59 h
  simp only [cellsPoint] at g0 g1 g2
  obtain ⟨a,rfl,rfl,rfl⟩:=read_point g0
  obtain ⟨b,rfl,rfl,rfl⟩:=read_point g1
  obtain ⟨c,rfl,rfl,rfl⟩:=read_point g2
  exact ⟨(a,b,c),rfl,rfl,rfl,rfl,rfl,rfl,rfl,rfl,rfl⟩
theorem read_pulse {n:Nat} {c0 c1 c2 c3 c4 c5 c6 c7 c8 c9 c10:Value} {x:DataW H × List MemPlace} (h:DataW.trod enc Tryz.prog w base spare held n 61 [c0,c1,c2,c3,c4,c5,c6,c7,c8,c9,c10]=some x) :
    ∃ p:Pu,[c0,c1,c2,c3,c4,c5,c6,c7,c8,c9,c10]=[.int .i64 p.1.1.1,.int .i64 p.1.1.2.1,.int .i64 p.1.1.2.2,.int .i64 p.1.2.1.1,.int .i64 p.1.2.1.2.1,.int .i64 p.1.2.1.2.2,.int .i64 p.1.2.2.1,.int .i64 p.1.2.2.2.1,.int .i64 p.1.2.2.2.2,.int .i64 p.2.1,.int .i64 p.2.2]:=by
  obtain ⟨y0,y1,y2,m,_,_,g0,g1,g2⟩:=trod_struct3 Tryz.underlying61 h
  simp only [cellsPanel9,cellsInt] at g0 g1 g2
  obtain ⟨t,rfl,rfl,rfl,rfl,rfl,rfl,rfl,rfl,rfl⟩:=read_panel9 g0
  obtain ⟨u,e1,_,_⟩:=DataW.trod_int Tryz.underlying3 g1
  obtain ⟨v,e2,_,_⟩:=DataW.trod_int Tryz.underlying3 g2
  simp at e1 e2
  subst e1 e2
  exact ⟨(t,u,v),rfl⟩
theorem open_pulses {fuel:Nat} {cs:List Value} {x:DataW H × List MemPlace} (h:DataW.trod enc Tryz.prog w base spare held fuel 22 cs=some x) :
    ∃ (a:Option Addr) (n cap:Nat) (f:Nat→Pu),cs=[.slice a n cap]∧n≤maxLen∧((a=none→cap=0)∧n≤cap)∧LstU w a n f:=by
  rcases open_slice Tryz.underlying22 h with ⟨h0,_⟩ | ⟨a,len,cap,m,n,D,Pl,hcs,hb,hl,hm,hmm,hx,hi⟩
  · exact ⟨none,0,0,fun _=>(((0,0,0),(0,0,0),(0,0,0)),0,0),h0,Nat.zero_le _,⟨fun _=>rfl,Nat.le_refl _⟩,fun h=>absurd h (Nat.not_lt_zero 0)⟩
  · have hlm:len≤m:=by rw [hmm];split <;> omega
    have key:∀ k,∃ p:Pu,k < len→∀ j,j < 11→w.cell? ((a.add (k * 11)).add j)=(pucl p)[j]?:=by
      intro k
      by_cases hk:k < len
      · obtain ⟨cs',hc,ht⟩:=hi k (by omega)
        rw [cellsPulse] at hc
        obtain ⟨_,hcl,hat⟩:=World.cells?_some hc
        match cs',hcl with
        | [c0,c1,c2,c3,c4,c5,c6,c7,c8,c9,c10],_ =>
          obtain ⟨p,q⟩:=read_pulse ht
          refine ⟨p,fun _ j hj=>?_⟩
          have e:=hat j (by simpa using hj)
          rw [e,List.getElem?_eq_getElem (by simpa using hj)] at *
          rw [show pucl p=_ from q.symm,List.getElem?_eq_getElem (by simpa using hj)]
      · exact ⟨(((0,0,0),(0,0,0),(0,0,0)),0,0),fun h=>absurd h hk⟩
    obtain ⟨g,hg⟩:=Classical.axiomOfChoice key
    refine ⟨some a,len,cap,g,hcs,Nat.le_trans hl hm,⟨(fun h=>by cases h),hl⟩,fun hpos=>?_⟩
    have z:=hg 0 hpos 0 (by decide)
    rw [show 0 * 11=0 from rfl,show (a.add 0).add 0=a from rfl] at z
    obtain ⟨fl,hlt⟩:=cell_flat (z.trans rfl)
    refine ⟨a.block,a.off,congrArg some fl,hlt,fun k hk=>?_⟩
    have cc:∀ j,j < 11→w.cell? ⟨a.block,a.off + k * 11 + j,none⟩=(pucl (g k))[j]?:=fun j hj=>by
      have y:=hg k hk j hj
      rw [fl,add_flat,add_flat] at y
      exact y
    exact ⟨cc 0 (by decide),cc 1 (by decide),cc 2 (by decide),cc 3 (by decide),cc 4 (by decide),cc 5 (by decide),cc 6 (by decide),cc 7 (by decide),cc 8 (by decide),cc 9 (by decide),cc 10 (by decide)⟩
theorem cellsEar:Tryz.prog.cellsOf 26=6:=by kernel_rfl
theorem open_fieldsEar {t:TypeId} {f0 f1 f2 f3:Field} {fuel:Nat} {cs:List Value} {x:DataW H × List MemPlace} (ht:Tryz.prog.underlying t=some (.struct #[f0,f1,f2,f3])) (h:DataW.trod enc Tryz.prog w base spare held fuel t cs=some x) :
    ∃ (n:Nat) (y0 y1 y2 y3:DataW H × List MemPlace),DataW.trod enc Tryz.prog w base spare held n f0.type ((cs.drop f0.offset).take (Tryz.prog.cellsOf f0.type))=some y0∧DataW.trod enc Tryz.prog w base spare held n f1.type ((cs.drop f1.offset).take (Tryz.prog.cellsOf f1.type))=some y1∧DataW.trod enc Tryz.prog w base spare held n f2.type ((cs.drop f2.offset).take (Tryz.prog.cellsOf f2.type))=some y2∧DataW.trod enc Tryz.prog w base spare held n f3.type ((cs.drop f3.offset).take (Tryz.prog.cellsOf f3.type))=some y3:=by
  obtain ⟨xs,n,_,_,_,hlen,hf⟩:=DataW.trod_struct ht h
  match xs,hlen with
  | [y0,y1,y2,y3],_=>exact ⟨n,y0,y1,y2,y3,by simpa using hf 0 f0 rfl,by simpa using hf 1 f1 rfl,by simpa using hf 2 f2 rfl,by simpa using hf 3 f3 rfl⟩
set_option maxRecDepth 100000 in
theorem open_Ear {r:Reach} {b0:Nat} {v:Value} {d:DataW H} {p:List MemPlace} (hv:Value.okWide Tryz.prog w r b0 26 v) (h:DataW.Trod enc Tryz.prog w base spare held 26 v d p):∃ (x:P3) (s t d:Int),v=.agg #[.int .i64 x.1,.int .i64 x.2.1,.int .i64 x.2.2,.int .i64 s,.int .i64 t,.int .i64 d]:=by
  obtain ⟨cs,rfl,hsz⟩:=okWide_struct Tryz.underlying26 hv
  obtain ⟨l⟩:=cs
  match l,hsz.trans cellsEar with
  | [c0,c1,c2,c3,c4,c5],_ =>
    obtain ⟨fuel,hf⟩:=h
    obtain ⟨m,y0,y1,y2,y3,g0,g1,g2,g3⟩:=open_fieldsEar Tryz.underlying26 hf
    simp only [cellsPoint,cellsInt] at g0 g1 g2 g3
    obtain ⟨x,rfl,rfl,rfl⟩:=read_point g0
    obtain ⟨s,e0,_,_⟩:=DataW.trod_int Tryz.underlying3 g1
    obtain ⟨t,e1,_,_⟩:=DataW.trod_int Tryz.underlying3 g2
    obtain ⟨d,e2,_,_⟩:=DataW.trod_int Tryz.underlying3 g3
    simp [Value.cells] at e0 e1 e2
    subst e0 e1 e2
    exact ⟨x,s,t,d,rfl⟩
end
set_option maxRecDepth 100000 in
theorem lifted (os:Os) (started:os.Started) (H:Type) (enc:TypeId × Value→H) :
    ReturnsInHanded {} Tryz.checked os 3 .any (Rows.topSoundSpec.pre6 enc Tryz.prog Tryz.f3 Rows.topSoundRow.domain false) (Rows.topSoundSpec.post enc Tryz.prog Tryz.f3 false true false false):=by
  refine returnsInHanded_of_change (C:=Tryz.checked) own started (by kernel_rfl) Tryz.func3
    (ChangeSpec.witness6 (enc:=enc) (C:=Tryz.checked) false ⟨#[],#[.slice none 0 0,.agg #[.int .i64 0,.int .i64 0,.int .i64 0,.int .i64 0,.int .i64 0,.int .i64 0]],[]⟩ 8 (by kernel_rfl) (by kernel_rfl) (by kernel_rfl) (by kernel_rfl)) ?_
  intro W base args ds gs before hval0 hW hcnd _
  have hval:∀ (j:Nat) t v,Tryz.f3.params[j]?=some t→args[j]?=some v→Value.okWide Tryz.prog W .any base t v:=hval0
  have hW':=hW
  obtain ⟨p,q,hA0,hV,rfl,hfz,hnd⟩:=hW
  have hA:DataW.TrodAll enc Tryz.prog W 0 (fun _=>true) true Tryz.f3.params.toList args.toList ds p:=hA0
  rw [Tryz.params3] at hA hval
  obtain ⟨v0,vs0,d0,ds0,p0,q0,_hargs,rfl,rfl,h0,r0⟩:=trodAll_cons hA
  obtain ⟨v1,vs1,d1,ds1,p1,q1,rfl,rfl,rfl,h1,r1⟩:=trodAll_cons r0
  obtain ⟨rfl,rfl,rfl⟩:=trodAll_nil r1
  obtain rfl:args=#[v0,v1]:=by cases args;simp_all
  obtain ⟨rfl,rfl⟩:=trodVars_none hV
  obtain ⟨b0,m0,e0,rfl⟩:=okWide_slice Tryz.underlying22 (hval 0 22 v0 rfl rfl)
  have h0k:=h0
  obtain ⟨fl0,hf0⟩:=h0
  obtain ⟨a0,n0,c0,Q0,eq0,l0,z0,r0'⟩:=open_pulses hf0
  simp [Value.cells] at eq0
  obtain ⟨rfl,rfl,rfl⟩:=eq0
  have h1k:=h1
  obtain ⟨a1,s1x,t1x,d1x,rfl⟩:=open_Ear (hval 1 26 v1 rfl rfl) h1
  clear hA0 hval0
  simp only [List.append_nil] at hW'
  have hlt:=fun x hx=>hW'.lt x hx
  refine (tops_walk b0 m0 e0 Q0 a1 s1x t1x d1x W l0 z0 r0').mono fun e W' ⟨he,bel⟩=>?_
  subst he
  exact ⟨_,rfl,_,_,_,[],_,[],hW',trodAll_mk1 (shut_bool Tryz.underlying4 _),(trodAll_cons_mk (Below.trod laid (by kernel_rfl) (of_decide_eq_true (by kernel_rfl)) h0k bel (fun x hx=>hlt x (by simp [hx]))) (trodAll_cons_mk (Below.trod laid (by kernel_rfl) (of_decide_eq_true (by kernel_rfl)) h1k bel (fun x hx=>hlt x (by simp [hx]))) trodAll_mk0)),rfl,bel.frame _,fun h=>by cases h⟩
set_option maxRecDepth 100000 in
theorem proved:Rows.TopSoundSaid :=
  OpenClaim.holds_of_wide 3 Tryz.f3 rfl rfl rfl rfl rfl rfl rfl ⟨rfl,rfl,rfl,rfl,rfl⟩ rfl rfl rfl rfl rfl (by kernel_rfl) Tryz.func3 (by kernel_rfl)
    (of_decide_eq_true (by kernel_rfl)) (by unfold Func.isWrapper;first | (rw [if_pos (by decide +kernel)];kernel_rfl) | (rw [if_neg (by decide +kernel)];exact ⟨rfl,rfl⟩))
    (fun os started H enc _=>lifted os started H enc)
#print axioms proved
end topSound
end Go.Proofs.YtgchcnpgjfoadaaGreat
