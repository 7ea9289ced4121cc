import Derived.Test.YtpocbdompamnnaaTr27
import Derived.Test.YtpocbdompamnnaaRows
import Derived.ProofKit
import Derived.OpenShut
import Derived.Carry
import Derived.Deep.Slices
import Derived.Deep.Fields
import Derived.Deep.Strs
import Derived.ChangeSame
import Derived.Lib.SmallJoins
namespace Go.Proofs.Ytpocbdompamnnaa
namespace treeFarSpans
open Go.ChangeShapes Go.WideShapes Go.ChangeAt Go.RowKit Go.Joins Go.Deep Sh
theorem own:ownKnob Try.prog.godebug=none:=by kernel_rfl
theorem laid:laidOutB Try.prog=true:=by kernel_rfl
theorem cellsInt:Try.prog.cellsOf 3=1:=by kernel_rfl
theorem cellsPoint:Try.prog.cellsOf 38=3:=by kernel_rfl
section
variable {H:Type} {enc:TypeId × Value→H} {w:World} {base:Nat} {spare:Nat→Bool} {held:Bool}
theorem read_point {n:Nat} {c0 c1 c2:Value} {x:DataW H × List MemPlace} (h:DataW.trod enc Try.prog w base spare held n 38 [c0,c1,c2]=some x) :
    ∃ a:P3,c0=.int .i64 a.1∧c1=.int .i64 a.2.1∧c2=.int .i64 a.2.2:=by
  obtain ⟨y0,y1,y2,m,_,_,g0,g1,g2⟩:=trod_struct3 Try.underlying38 h
  simp only [cellsInt] at g0 g1 g2
  obtain ⟨l,e0,_,_⟩:=DataW.trod_int Try.underlying3 g0
  obtain ⟨u,e1,_,_⟩:=DataW.trod_int Try.underlying3 g1
  obtain ⟨v,e2,_,_⟩:=DataW.trod_int Try.underlying3 g2
  simp at e0 e1 e2
  exact ⟨(l,u,v),e0,e1,e2⟩
theorem cellsNode:Try.prog.cellsOf 44=8:=by kernel_rfl
theorem open_fieldsN {t:TypeId} {f0 f1 f2 f3 f4 f5:Field} {fuel:Nat} {cs:List Value} {x:DataW H × List MemPlace} (ht:Try.prog.underlying t=some (.struct #[f0,f1,f2,f3,f4,f5])) (h:DataW.trod enc Try.prog w base spare held fuel t cs=some x) :
    ∃ (n:Nat) (y0 y1 y2 y3 y4 y5:DataW H × List MemPlace),DataW.trod enc Try.prog w base spare held n f0.type ((cs.drop f0.offset).take (Try.prog.cellsOf f0.type))=some y0∧DataW.trod enc Try.prog w base spare held n f1.type ((cs.drop f1.offset).take (Try.prog.cellsOf f1.type))=some y1∧DataW.trod enc Try.prog w base spare held n f2.type ((cs.drop f2.offset).take (Try.prog.cellsOf f2.type))=some y2∧DataW.trod enc Try.prog w base spare held n f3.type ((cs.drop f3.offset).take (Try.prog.cellsOf f3.type))=some y3∧DataW.trod enc Try.prog w base spare held n f4.type ((cs.drop f4.offset).take (Try.prog.cellsOf f4.type))=some y4∧DataW.trod enc Try.prog w base spare held n f5.type ((cs.drop f5.offset).take (Try.prog.cellsOf f5.type))=some y5:=by
  obtain ⟨xs,n,_,_,_,hlen,hf⟩:=DataW.trod_struct ht h
  match xs,hlen with
  | [y0,y1,y2,y3,y4,y5],_=>exact ⟨n,y0,y1,y2,y3,y4,y5,by simpa using hf 0 f0 rfl,by simpa using hf 1 f1 rfl,by simpa using hf 2 f2 rfl,by simpa using hf 3 f3 rfl,by simpa using hf 4 f4 rfl,by simpa using hf 5 f5 rfl⟩
theorem read_node {n:Nat} {c0 c1 c2 c3 c4 c5 c6 c7:Value} {x:DataW H × List MemPlace} (h:DataW.trod enc Try.prog w base spare held n 44 [c0,c1,c2,c3,c4,c5,c6,c7]=some x) :
    ∃ q:Ni,[c0,c1,c2,c3,c4,c5,c6,c7]=[.int .i64 q.1,.int .i64 q.2.1,.int .i64 q.2.2.1,.int .i64 q.2.2.2.1,.int .i64 q.2.2.2.2.1.1,.int .i64 q.2.2.2.2.1.2.1,.int .i64 q.2.2.2.2.1.2.2,.int .i64 q.2.2.2.2.2]:=by
  obtain ⟨m,y0,y1,y2,y3,y4,y5,g0,g1,g2,g3,g4,g5⟩:=open_fieldsN Try.underlying44 h
  simp only [cellsPoint,cellsInt] at g0 g1 g2 g3 g4 g5
  obtain ⟨p,rfl,rfl,rfl⟩:=read_point g4
  obtain ⟨z0,e0,_,_⟩:=DataW.trod_int Try.underlying3 g0
  obtain ⟨z1,e1,_,_⟩:=DataW.trod_int Try.underlying3 g1
  obtain ⟨z2,e2,_,_⟩:=DataW.trod_int Try.underlying3 g2
  obtain ⟨z3,e3,_,_⟩:=DataW.trod_int Try.underlying3 g3
  obtain ⟨z5,e5,_,_⟩:=DataW.trod_int Try.underlying3 g5
  simp at e0 e1 e2 e3 e5
  subst e0 e1 e2 e3 e5
  exact ⟨(z0,z1,z2,z3,p,z5),rfl⟩
set_option maxRecDepth 100000 in
theorem open_node {r:Reach} {b0:Nat} {v:Value} {d:DataW H} {p:List MemPlace} (hv:Value.okWide Try.prog w r b0 44 v) (h:DataW.Trod enc Try.prog w base spare held 44 v d p):∃ a:Ni,v=niv a:=by
  obtain ⟨cs,rfl,hsz⟩:=okWide_struct Try.underlying44 hv
  obtain ⟨l⟩:=cs
  match l,hsz.trans cellsNode with
  | [c0,c1,c2,c3,c4,c5,c6,c7],_ =>
    obtain ⟨fuel,hf⟩:=h
    obtain ⟨a,e⟩:=read_node hf
    exact ⟨a,congrArg (fun l=>Value.agg (List.toArray l)) e⟩
end
set_option maxRecDepth 100000 in
theorem lifted (os:Os) (started:os.Started) (H:Type) (enc:TypeId × Value→H) :
    ReturnsInHanded {} Try.checked os 6 .any (Rows.treeFarSpansSpec.pre6 enc Try.prog Try.f6 Rows.treeFarSpansRow.domain false) (Rows.treeFarSpansSpec.post enc Try.prog Try.f6 false true false false):=by
  refine returnsInHanded_of_change (C:=Try.checked) own started (by kernel_rfl) Try.func6
    (ChangeSpec.witness6 (enc:=enc) (C:=Try.checked) false ⟨#[],#[.agg #[.int .i64 0,.int .i64 0,.int .i64 0,.int .i64 0,.int .i64 0,.int .i64 0,.int .i64 0,.int .i64 0],.agg #[.int .i64 0,.int .i64 0,.int .i64 0,.int .i64 0,.int .i64 0,.int .i64 0,.int .i64 0,.int .i64 0]],[]⟩ 8 (by kernel_rfl) (by kernel_rfl) (by kernel_rfl) (by kernel_rfl)) ?_
  intro W base args ds gs before hval0 hW hcnd _
  have hval:∀ (j:Nat) t v,Try.f6.params[j]?=some t→args[j]?=some v→Value.okWide Try.prog W .any base t v:=hval0
  have hW':=hW
  obtain ⟨p,q,hA0,hV,rfl,hfz,hnd⟩:=hW
  have hA:DataW.TrodAll enc Try.prog W 0 (fun _=>true) true Try.f6.params.toList args.toList ds p:=hA0
  rw [Try.params6] at hA hval
  obtain ⟨v0,vs0,d0,ds0,p0,q0,_hargs,rfl,rfl,h0,r0⟩:=trodAll_cons hA
  obtain ⟨v1,vs1,d1,ds1,p1,q1,rfl,rfl,rfl,h1,r1⟩:=trodAll_cons r0
  obtain ⟨rfl,rfl,rfl⟩:=trodAll_nil r1
  obtain rfl:args=#[v0,v1]:=by cases args;simp_all
  obtain ⟨rfl,rfl⟩:=trodVars_none hV
  have h0k:=h0
  obtain ⟨a0,rfl⟩:=open_node (hval 0 44 v0 rfl rfl) h0
  have h1k:=h1
  obtain ⟨a1,rfl⟩:=open_node (hval 1 44 v1 rfl rfl) h1
  clear hA0 hval0
  simp only [List.append_nil] at hW'
  have hlt:=fun x hx=>hW'.lt x hx
  refine (farspans_walk a0 a1 W ).mono fun e W' ⟨he,bel⟩=>?_
  subst he
  exact ⟨_,rfl,_,_,_,[],_,[],hW',trodAll_mk1 (shut_bool Try.underlying4 _),(trodAll_cons_mk (Below.trod laid (by kernel_rfl) (of_decide_eq_true (by kernel_rfl)) h0k bel (fun x hx=>hlt x (by simp [hx]))) (trodAll_cons_mk (Below.trod laid (by kernel_rfl) (of_decide_eq_true (by kernel_rfl)) h1k bel (fun x hx=>hlt x (by simp [hx]))) trodAll_mk0)),rfl,bel.frame _,fun h=>by cases h⟩
set_option maxRecDepth 100000 in
theorem proved:Rows.TreeFarSpansSaid :=
  OpenClaim.holds_of_wide 6 Try.f6 rfl rfl rfl rfl rfl rfl rfl ⟨rfl,rfl,rfl,rfl,rfl⟩ rfl rfl rfl rfl rfl (by kernel_rfl) Try.func6 (by kernel_rfl)
    (of_decide_eq_true (by kernel_rfl)) (by unfold Func.isWrapper;first | (rw [if_pos (by decide +kernel)];kernel_rfl) | (rw [if_neg (by decide +kernel)];exact ⟨rfl,rfl⟩))
    (fun os started H enc _=>lifted os started H enc)
#print axioms proved
end treeFarSpans
end Go.Proofs.Ytpocbdompamnnaa
