import Derived.Test.YtbcjiigmbcfkeaaGreatVecM
import Derived.DeepKeys4
import Derived.WideKeyEntry
import Derived.Maps.OwnOps
import Derived.Maps.Views
import Derived.Deep.DeepFit
import Derived.RegionTactic
import Derived.ChangeAlike
import Derived.BigRegion
import Derived.Laws.OwnMore
import Derived.IntWalk
import Derived.OwnWalk
import Derived.BigGuardPart
namespace Go.Proofs.YtbcjiigmbcfkeaaGreat
set_option maxRecDepth 100000
set_option maxHeartbeats 4000000
open Go.ChangeShapes Go.WideShapes Go.RowKit Go.Maps Sh
open Go.ChangeMaps (setBlock heap_setBlock_same heap_setBlock_other)
open Go.WideElems (Fit entry_then_store)
open Go.WideMaps (KeyLaw)
abbrev sdv (s:Int × Int):Value:=.agg #[.int .i64 s.1,.int .i64 s.2]
theorem laidOut:laidOutB Tryz.prog=true:=by kernel_rfl
theorem cellsInt':Tryz.prog.cellsOf 3=1:=by kernel_rfl
theorem cellsPt:Tryz.prog.cellsOf 44=3:=by kernel_rfl
theorem cellsSd:Tryz.prog.cellsOf 176=2:=by kernel_rfl
theorem keyInt (d:Nat) {n:Int} (h:(Lit.int .i64 n).wf=true):Tryz.prog.keyLits (d+1) 3 [.int .i64 n]=some [.int .i64 n]:=by
  unfold Program.keyLits
  simp [Tryz.underlying3,h]
theorem keyPt {p:P3} (h1:(Lit.int .i64 p.1).wf=true) (h2:(Lit.int .i64 p.2.1).wf=true) (h3:(Lit.int .i64 p.2.2).wf=true):∃ kl,keyOf Tryz.prog 44 (ptv p)=some kl:=by
  have hk:Tryz.prog.keyType 44=true:=by kernel_rfl
  have hf:Value.formed Tryz.prog 44 (ptv p)=true:=by simp [Value.formed,Tryz.underlying44,cellsPt]
  have hl (d:Nat):∃ ls,Tryz.prog.keyLits (d+1+1) 44 (ptv p).cells.toList=some ls:=by
    unfold Program.keyLits
    simp [Tryz.underlying44,cellsPt,cellsInt',Value.cells,keyInt d h1,keyInt d h2,keyInt d h3]
  obtain ⟨ls,hl⟩:=hl (Tryz.prog.types.size - 1)
  rw [show Tryz.prog.types.size - 1+1+1=Tryz.prog.types.size+1 by decide +kernel] at hl
  exact ⟨.string (keyBytes ls),by unfold keyOf;rw [Tryz.underlying44];dsimp only;rw [hk,hf,hl];rfl⟩
theorem keySd {s:Int × Int} (h1:(Lit.int .i64 s.1).wf=true) (h2:(Lit.int .i64 s.2).wf=true):∃ kl,keyOf Tryz.prog 176 (sdv s)=some kl:=by
  have hk:Tryz.prog.keyType 176=true:=by kernel_rfl
  have hf:Value.formed Tryz.prog 176 (sdv s)=true:=by simp [Value.formed,Tryz.underlying176,cellsSd]
  have hl (d:Nat):∃ ls,Tryz.prog.keyLits (d+1+1) 176 (sdv s).cells.toList=some ls:=by
    unfold Program.keyLits
    simp [Tryz.underlying176,cellsSd,cellsInt',Value.cells,List.range,List.range.loop,keyInt d h1,keyInt d h2]
  obtain ⟨ls,hl⟩:=hl (Tryz.prog.types.size - 1)
  rw [show Tryz.prog.types.size - 1+1+1=Tryz.prog.types.size+1 by decide +kernel] at hl
  exact ⟨.string (keyBytes ls),by unfold keyOf;rw [Tryz.underlying176];dsimp only;rw [hk,hf,hl];rfl⟩
theorem lawPt:WideMaps.KeyLaw Tryz.prog 44:=deep_law_laid laidOut (m:=2) (by omega) (of_decide_eq_true (by kernel_rfl)) (by kernel_rfl) (by rw [Tryz.underlying44])
theorem lawSd:WideMaps.KeyLaw Tryz.prog 176:=deep_law_laid laidOut (m:=2) (by omega) (of_decide_eq_true (by kernel_rfl)) (by kernel_rfl) (by rw [Tryz.underlying176])
theorem zeroB (w:World):(zeroValue 4).run Tryz.prog w=.ok (.bool false) w:=by kernel_rfl
theorem zeroI (w:World):(zeroValue 3).run Tryz.prog w=.ok (.int .i64 0) w:=by kernel_rfl
theorem ptv_inj {p q:P3} (h:ptv p=ptv q):p=q:=by
  obtain ⟨a,b,c⟩:=p
  obtain ⟨d,e,f⟩:=q
  simp only [ptv,Value.agg.injEq,Array.mk.injEq,List.cons.injEq,Value.int.injEq,true_and,and_true] at h
  rw [h.1,h.2.1,h.2.2]
theorem sdv_inj {p q:Int × Int} (h:sdv p=sdv q):p=q:=by
  obtain ⟨a,b⟩:=p
  obtain ⟨d,e⟩:=q
  simp only [sdv,Value.agg.injEq,Array.mk.injEq,List.cons.injEq,Value.int.injEq,true_and,and_true] at h
  rw [h.1,h.2]
def MapOf {α:Type} (K E:TypeId) (mk:α→Value) (z:Lit) (g:α→Lit) (w:World) (b n:Nat):Prop :=
  ∃ D:DataW Unit,w.ownsMap Tryz.prog K (plainElem Tryz.prog E) b n D∧IsMap D∧∀ a kl,keyOf Tryz.prog K (mk a)=some kl→D.atKey kl (.lit z)=.lit (g a)
theorem mapOf_made {α:Type} (K E:TypeId) (mk:α→Value) (z:Lit) (w:World):MapOf K E mk z (fun _=>z) (w.alloc (.map #[] 0)) w.heap.size 0 :=
  ⟨.map [],World.ownsMap_made w _ _ _,isMap_empty,fun _ _ _=>rfl⟩
theorem mapOf_lt {α:Type} {K E:TypeId} {mk:α→Value} {z:Lit} {g:α→Lit} {w:World} {b n:Nat} (h:MapOf K E mk z g w b n):b<w.heap.size:=by
  obtain ⟨D,h,_⟩:=h;exact h.lt
theorem mapOf_below {α:Type} {K E:TypeId} {mk:α→Value} {z:Lit} {g:α→Lit} {w w1:World} {b n:Nat} (h:MapOf K E mk z g w b n) (hb:Below w.heap.size w w1):MapOf K E mk z g w1 b n:=by
  have hlt:=mapOf_lt h
  obtain ⟨D,⟨es,clock,h1,h2,h3,h4⟩,r⟩:=h
  exact ⟨D,⟨es,clock,(hb.block b hlt).trans h1,h2,h3,h4⟩,r⟩
theorem mapOf_alloc {α:Type} {K E:TypeId} {mk:α→Value} {z:Lit} {g:α→Lit} {w:World} {b n:Nat} (h:MapOf K E mk z g w b n) (o:Obj):MapOf K E mk z g (w.alloc o) b n :=
  mapOf_below h ((Below.refl _ _).alloc (Nat.le_refl _) _)
theorem mapOf_mono {α:Type} {K E:TypeId} {mk:α→Value} {z:Lit} {g:α→Lit} {w:World} {b n m:Nat} (h:MapOf K E mk z g w b n) (k:n≤m):MapOf K E mk z g w b m:=by
  obtain ⟨D,h,r⟩:=h;exact ⟨D,h.mono k,r⟩
theorem mapOf_eq {α:Type} {K E:TypeId} {mk:α→Value} {z:Lit} {g g':α→Lit} {w:World} {b n:Nat} (h:MapOf K E mk z g w b n) (e:∀ a,g a=g' a):MapOf K E mk z g' w b n:=by
  obtain rfl:g=g':=funext e
  exact h
theorem put_reads {α:Type} {K:TypeId} (law:WideMaps.KeyLaw Tryz.prog K) {mk:α→Value} (inj:∀ a c,mk a=mk c→a=c) {z d:Lit} {g:α→Lit} {D:DataW Unit} (hD:IsMap D) {a:α} {kl:Lit} (hkey:keyOf Tryz.prog K (mk a)=some kl)
    (r:∀ a kl,keyOf Tryz.prog K (mk a)=some kl→D.atKey kl (.lit z)=.lit (g a)) [DecidableEq α]:∀ c kl',keyOf Tryz.prog K (mk c)=some kl'→(D.put kl (.lit d)).atKey kl' (.lit z)=.lit (if c=a then d else g c):=by
  intro c kl' hc
  have L:=Keyed.of_law law
  by_cases e:c=a
  · subst e
    obtain rfl:kl'=kl:=by rw [hkey] at hc;exact (Option.some.inj hc).symm
    rw [if_pos rfl]
    exact atKey_put_same hD (L.key hkey) _ _
  · rw [if_neg e,atKey_put_other (fun e1:kl'=kl=>e (inj _ _ (L.inj hc (by rw [e1];exact hkey)))) _ _]
    exact r c kl' hc
theorem setBlock_twice {w:World} {b:Nat} {o o':Obj}:setBlock (setBlock w b o) b o'=setBlock w b o':=by
  simp [setBlock]
theorem bool_inv {v:Value} {x:Bool} {ps:List MemPlace} (h:plainElem (H:=Unit) Tryz.prog 4 v=some (.lit (.bool x),ps)):v=.bool x:=by
  unfold plainElem at h
  simp only [Tryz.underlying4] at h
  cases v with
 |bool y =>
    simp only [Option.some.injEq,Prod.mk.injEq,DataW.lit.injEq,Lit.bool.injEq] at h
    rw [h.1]
 |_=>exact absurd h (by simp)
theorem look_bool {α:Type} {K T:TypeId} {mk:α→Value} {g:α→Bool} {w:World} {b n:Nat} (law:WideMaps.KeyLaw Tryz.prog K) (ht:Tryz.prog.underlying T=some (.map K 4)) (h:MapOf K 4 mk (.bool false) (fun a=>.bool (g a)) w b n) {a:α} {kl:Lit} (hkey:keyOf Tryz.prog K (mk a)=some kl) :
    (Instr.lookup T (.map (some b)) (mk a) false).run Tryz.prog w=.ok (.bool (g a)) w:=by
  obtain ⟨D,hD,_,r⟩:=h
  obtain ⟨v,ps,hrun,hv⟩:=hD.lookup (Keyed.of_law law) ht (zeroB w) (plainElem_bool Tryz.underlying4 false) hkey
  rw [r a kl hkey] at hv
  rw [hrun,bool_inv hv]
theorem look_int {α:Type} {K T:TypeId} {mk:α→Value} {g:α→Int} {w:World} {b n:Nat} (law:WideMaps.KeyLaw Tryz.prog K) (ht:Tryz.prog.underlying T=some (.map K 3)) (h:MapOf K 3 mk (.int .i64 0) (fun a=>.int .i64 (g a)) w b n) {a:α} {kl:Lit} (hkey:keyOf Tryz.prog K (mk a)=some kl) :
    (Instr.lookup T (.map (some b)) (mk a) false).run Tryz.prog w=.ok (.int .i64 (g a)) w:=by
  obtain ⟨D,hD,_,r⟩:=h
  obtain ⟨c,hrun,hat,_⟩:=hD.lookup_int (Keyed.of_law law) ht Tryz.underlying3 (zeroI w) hkey
  rw [r a kl hkey] at hat
  rw [hrun]
  simp only [DataW.lit.injEq,Lit.int.injEq,true_and] at hat
  rw [hat]
theorem store_of {α:Type} [DecidableEq α] {K T E:TypeId} {mk:α→Value} (inj:∀ a c,mk a=mk c→a=c) {z d:Lit} {g:α→Lit} {w:World} {b n:Nat} (law:WideMaps.KeyLaw Tryz.prog K) (ht:Tryz.prog.underlying T=some (.map K E)) (h:MapOf K E mk z g w b n) (hn:n<maxLen) {a:α} {kl:Lit} (hkey:keyOf Tryz.prog K (mk a)=some kl)
    {val:Value} {ps:List MemPlace} (hv:plainElem (H:=Unit) Tryz.prog E val=some (.lit d,ps)) :
    ∃ w',(Instr.mapUpdate T (.map (some b)) (mk a) val).run Tryz.prog w=.ok () w'∧MapOf K E mk z (fun c=>if c=a then d else g c) w' b (n+1)∧w.grownBy w' (some b):=by
  obtain ⟨D,hD,hm,r⟩:=h
  obtain ⟨w',h1,h2,h3⟩:=hD.update (Keyed.of_law law) ht hn hkey hv
  exact ⟨w',h1,⟨_,h2,hm.put _ _,put_reads law inj hm hkey r⟩,h3⟩
theorem entry_of {α:Type} [DecidableEq α] {K T E:TypeId} {mk:α→Value} (inj:∀ a c,mk a=mk c→a=c) {z:Lit} {g:α→Lit} {w:World} {b n:Nat} (law:WideMaps.KeyLaw Tryz.prog K) (ht:Tryz.prog.underlying T=some (.map K E)) {zv:Value} (hz:∀ u:World,(zeroValue E).run Tryz.prog u=.ok zv u) (h:MapOf K E mk z g w b n) (hn:n<maxLen) {a:α} {kl:Lit} (hkey:keyOf Tryz.prog K (mk a)=some kl) :
    ∃ (v0:Value) (st:Nat) (w1:World),(Instr.mapEntry T (.map (some b)) (mk a)).run Tryz.prog w=.ok (.tuple #[v0,.int .i64 (st:Int)]) w1∧w.grownBy w1 (some b) ∧
      ∀ (val:Value) (d:Lit) (ps:List MemPlace),plainElem (H:=Unit) Tryz.prog E val=some (.lit d,ps)→∃ w2,(Instr.entryStore T (.map (some b)) (.int .i64 (st:Int)) val).run Tryz.prog w1=.ok () w2∧MapOf K E mk z (fun c=>if c=a then d else g c) w2 b (n+1)∧w.grownBy w2 (some b):=by
  have h0:=h
  obtain ⟨D,⟨es,clock,hb,F,hs,hD⟩,_,_⟩:=h
  obtain ⟨v0,st,es1,clock1,h1,_,h3⟩:=entry_then_store law ht hz hb F hkey
  refine ⟨v0,st,setBlock w b (.map es1 clock1),h1,⟨rfl,rfl,rfl,by simp [setBlock],fun i _ hi=>heap_setBlock_other hb _ (fun e=>hi (by rw [e]))⟩,fun val d ps hv=>?_⟩
  obtain ⟨es',clock',h4,h5⟩:=h3 (setBlock w b (.map es1 clock1)) val (heap_setBlock_same hb _)
  obtain ⟨w',h6,h7,h8⟩:=store_of inj law ht h0 hn hkey hv
  rw [h5] at h6
  simp only [Result.ok.injEq,true_and] at h6
  rw [setBlock_twice,h6] at h4
  exact ⟨w',h4,h7,h8⟩
theorem entry_look {α:Type} {K T:TypeId} {mk:α→Value} {g:α→Int} {w:World} {b n:Nat} (law:WideMaps.KeyLaw Tryz.prog K) (ht:Tryz.prog.underlying T=some (.map K 3)) (h:MapOf K 3 mk (.int .i64 0) (fun a=>.int .i64 (g a)) w b n) {a:α} {kl:Lit} (hkey:keyOf Tryz.prog K (mk a)=some kl)
    {u:Value} {w1:World} (e:(Instr.mapEntry T (.map (some b)) (mk a)).run Tryz.prog w=.ok u w1):(Instr.lookup T (.map (some b)) (mk a) false).run Tryz.prog w1=.ok (.int .i64 (g a)) w1:=by
  have L0:=look_int law ht h hkey
  obtain ⟨D,⟨es,clock,hb,F,hs,hD⟩,hm,r⟩:=h
  rcases law.find w hkey es.toList F.keys with ⟨h1,h2⟩|⟨j,e0,h1,h2,h3⟩
  · simp [Instr.mapEntry,run_underlying ht,MapKept.run_getObj_map hb,law.check w false hkey,h1,MapKept.run_setObj_map _ hb,Result.andThen] at e
    simp [Instr.lookup,run_underlying ht,MapKept.run_getObj_map hb,law.check w es.isEmpty hkey,h1,Result.andThen] at L0
    have hw:w1=setBlock w b (.map (es.push ⟨mk a,.int .i64 0,clock⟩) (clock+1)):=e.2.symm
    rw [← L0]
    have hb1:w1.heap[b]?=some (.map (es.push ⟨mk a,.int .i64 0,clock⟩) (clock+1)):=by rw [hw];exact heap_setBlock_same hb _
    clear hw e
    have ks:∀ x ∈ (es.push ⟨mk a,.int .i64 0,clock⟩).toList,∃ l,keyOf Tryz.prog K x.key=some l:=by
      intro x hx
      rw [Array.toList_push,List.mem_append] at hx
      rcases hx with hx|hx
      · exact F.keys x hx
      · rw [List.mem_singleton] at hx;subst hx;exact ⟨kl,hkey⟩
    rcases law.find w1 hkey _ ks with ⟨q1,q2⟩|⟨i,e1,q1,q2,q3⟩
    · exact absurd rfl (q2 ⟨mk a,.int .i64 0,clock⟩ (by rw [Array.toList_push];exact List.mem_append_right _ (List.mem_singleton.2 rfl)))
    · have hv:e1.val=.int .i64 0:=by
        have hm:e1 ∈ (es.push ⟨mk a,.int .i64 0,clock⟩).toList:=List.mem_of_getElem? q2
        rw [Array.toList_push,List.mem_append] at hm
        rcases hm with hm|hm
        · exact absurd q3 (h2 e1 hm)
        · rw [List.mem_singleton] at hm;rw [hm]
      rw [hv] at q1
      generalize es.push ⟨mk a,.int .i64 0,clock⟩=es1 at *
      simp [Instr.lookup,run_underlying ht,MapKept.run_getObj_map hb1,law.check w1 es1.isEmpty hkey,q1,Result.andThen]
  · have hj:es[j]?=some e0:=by simpa using h2
    simp [Instr.mapEntry,run_underlying ht,MapKept.run_getObj_map hb,law.check w false hkey,h1,hj,h3,law.stays w hkey,MapKept.run_setObj_map _ hb,Result.andThen] at e
    have hsame:(es.modify j fun e=>{ key:=mk a,val:=e.val,born:=e.born })=es:=by
      apply Array.ext_getElem?
      intro i
      rw [Array.getElem?_modify]
      split
      · rename_i c
        subst c
        rw [hj,← h3];rfl
      · rfl
    rw [hsame] at e
    have hb1:w1.heap[b]?=some (.map es clock):=by rw [← e.2];exact heap_setBlock_same hb _
    exact look_int law ht ⟨D,⟨es,clock,hb1,F,hs,hD⟩,hm,r⟩ hkey
open Go.ChangeShapes Go.WideShapes Go.RowKit
open Sh
def Row3 (w:World) (b off n:Nat) (f:Nat→P3):Prop :=
  b<w.heap.size∧∀ k,k<n→w.cell? ⟨b,off+k*3,none⟩=some (.int .i64 (f k).1)∧w.cell? ⟨b,off+k*3+1,none⟩=some (.int .i64 (f k).2.1)∧w.cell? ⟨b,off+k*3+2,none⟩=some (.int .i64 (f k).2.2)
theorem row3_below {w w1:World} {b off n:Nat} {f:Nat→P3} (r:Row3 w b off n f) (hb:Below w.heap.size w w1):Row3 w1 b off n f :=
  ⟨Nat.lt_of_lt_of_le r.1 hb.size,fun k hk=>⟨(hb.cell (p:=⟨b,off+k*3,none⟩) r.1).trans (r.2 k hk).1,(hb.cell (p:=⟨b,off+k*3+1,none⟩) r.1).trans (r.2 k hk).2.1,(hb.cell (p:=⟨b,off+k*3+2,none⟩) r.1).trans (r.2 k hk).2.2⟩⟩
theorem row3_in {w wr:World} {B b off n:Nat} {f:Nat→P3} (r:Row3 w b off n f) (hb:Below B w wr) (h:b<B):Row3 wr b off n f :=
  ⟨Nat.lt_of_lt_of_le r.1 hb.size,fun k hk=>⟨(hb.cell (p:=⟨b,off+k*3,none⟩) h).trans (r.2 k hk).1,(hb.cell (p:=⟨b,off+k*3+1,none⟩) h).trans (r.2 k hk).2.1,(hb.cell (p:=⟨b,off+k*3+2,none⟩) h).trans (r.2 k hk).2.2⟩⟩
def anyP (f:Nat→P3) (k:Nat) (p:P3):Bool:=(List.range k).any fun i=>decide (f i=p)
theorem anyP_succ (f:Nat→P3) (k:Nat) (p:P3):anyP f (k+1) p=if p=f k then true else anyP f k p:=by
  unfold anyP
  rw [List.range_succ,List.any_append]
  by_cases h:p=f k
  · simp [h]
  · rw [if_neg h];simp [Ne.symm h]
theorem ptB_of (f:Nat→P3) (k:Nat):ptB f k=(inP 64 (f k) && !anyP f k (f k)):=by
  unfold ptB anyP
  congr 1
  rw [Bool.eq_iff_iff]
  simp
theorem ptsB_bad {f:Nat→P3} {n k:Nat} (h:k<n) (b:ptB f k=false):ptsB f n=false:=by
  unfold ptsB
  rw [List.all_eq_false]
  exact ⟨k,List.mem_range.2 h,by simp [b]⟩
theorem ptsB_good {f:Nat→P3} {n:Nat} (h:∀ k,k<n→ptB f k=true):ptsB f n=true:=by
  unfold ptsB
  rw [List.all_eq_true]
  exact fun k hk=>h k (List.mem_range.1 hk)
theorem bdp_wf {p:P3} (h:inP 64 p=true):∃ kl,keyOf Tryz.prog 44 (ptv p)=some kl:=by
  obtain ⟨h1,h2,h3,h4,h5,h6⟩:=inP_iff.1 h
  exact keyPt (WalkArith.wf_i64 (by omega)) (WalkArith.wf_i64 (by omega)) (WalkArith.wf_i64 (by omega))
abbrev PtsM (g:P3→Bool) (w:World) (b n:Nat):Prop:=MapOf 44 4 ptv (.bool false) (fun p=>.bool (g p)) w b n
theorem pts_store {g:P3→Bool} {w:World} {b n:Nat} (h:PtsM g w b n) (hn:n<maxLen) {p:P3} (hp:inP 64 p=true) :
    ∃ w',(Instr.mapUpdate 170 (.map (some b)) (ptv p) (.bool true)).run Tryz.prog w=.ok () w'∧PtsM (fun q=>if q=p then true else g q) w' b (n+1)∧w.grownBy w' (some b):=by
  obtain ⟨kl,hkey⟩:=bdp_wf hp
  obtain ⟨w',h1,h2,h3⟩:=store_of (fun _ _=>ptv_inj) lawPt Tryz.underlying170 h hn hkey (plainElem_bool Tryz.underlying4 true)
  exact ⟨w',h1,mapOf_eq h2 (fun q=>by by_cases c:q=p<;>simp [c]),h3⟩
theorem pts_look {g:P3→Bool} {w:World} {b n:Nat} (h:PtsM g w b n) {p:P3} (hp:inP 64 p=true) :
    (Instr.lookup 170 (.map (some b)) (ptv p) false).run Tryz.prog w=.ok (.bool (g p)) w:=by
  obtain ⟨kl,hkey⟩:=bdp_wf hp
  exact look_bool lawPt Tryz.underlying170 h hkey
theorem vpts_zero (a:Option Addr) (cap:Nat) (w:World) :
    Calls Tryz.prog 96 #[.slice a 0 cap] w fun e w'=>e=.returned (.bool true)∧Below w.heap.size w w':=by
  have hmm:=@run_makeMap Tryz.prog
  go_enter Tryz.func96,Tryz.ntmps96
  go_wp2
  refine wp_loop_rounds 1 ?_
  rw [rounds_succ]
  go_wp2
  go_ret
  exact ⟨rfl,by (repeat' (first|exact Below.refl _ _|refine Below.setCell ?_ (by simp<;>omega) _|refine balloc ?_ _|refine Below.drew ?_|refine bdrewN ?_ _))⟩
theorem vpts_row (b off n cap:Nat) (f:Nat→P3) (w:World) (r:Row3 w b off n f) (hn:n≤1000000) :
    Calls Tryz.prog 96 #[.slice (some ⟨b,off,none⟩) n cap] w fun e w'=>e=.returned (.bool (ptsB f n))∧Below w.heap.size w w':=by
  have hb1:b<w.heap.size:=r.1
  have R:=Lib.hid r
  have hn':(n:Int)≤1000000:=by omega
  have hmm:=@run_makeMap Tryz.prog
  obtain ⟨res,hres⟩:∃ res,ptsB f n=res:=⟨_,rfl⟩
  have RES:=Lib.hid hres
  rw [hres]
  clear r hres
  go_enter Tryz.func96,Tryz.ntmps96
  go_wp2
  go_loopw [9] (fun kv wr=>∃ k:Nat,k≤n∧kv=.int .i64 k∧(∀ i,i<k→ptB f i=true)∧PtsM (anyP f k) wr w.heap.size k∧Below w.heap.size w wr) (fun kv _=>n - (intOf kv).toNat)
  case atStart=>exact ⟨0,Nat.zero_le _,rfl,fun i hi=>absurd hi (Nat.not_lt_zero i),mapOf_made _ _ _ _ _,by (repeat' (first|exact Below.refl _ _|refine Below.setCell ?_ (by simp<;>omega) _|refine balloc ?_ _|refine Below.drew ?_|refine bdrewN ?_ _))⟩
  case round =>
    obtain ⟨k,hk,rfl,good,hm,B⟩:=hrel
    have GOOD:=Lib.hid good
    clear good
    by_cases hlt:k<n
    · have r2:=row3_in R.out B hb1
      obtain ⟨c1,c2,c3⟩:=r2.2 k hlt
      have r5:=r2.1
      clear r2
      have HM:=Lib.hid hm
      have HB:=Lib.hid B
      have S1:=Lib.hid (anyP_succ f k)
      have PB:=Lib.hid (ptB_of f k)
      have PBAD:=Lib.hid (fun h:ptB f k=false=>ptsB_bad hlt h)
      clear hm B
      have hk1:(k:Int)<(n:Int):=by omega
      obtain ⟨p,hp⟩:∃ p,f k=p:=⟨_,rfl⟩
      rw [hp] at c1 c2 c3 S1 PB
      have HP:=Lib.hid hp
      clear hp
      cases hin:inP 64 p with
     |false =>
        have W:=Lib.hid (fun W=>(hin ▸ within_any p 64 W (by decide) (by decide):Calls Tryz.prog 141 #[ptv p,.int .i64 64] W fun e w'=>e=.returned (.bool false)∧Below W.heap.size W w'))
        have hf:res=false:=by rw [← RES.out];exact PBAD.out (by rw [PB.out,hin];rfl)
        subst hf
        clear hin
        go_wp2_with fail
        with_reducible refine (W.out _).mono ?_
        rintro e w2 ⟨rfl,hb2⟩
        go_wp2
        go_ret
        exact ⟨rfl,by have hB:=HB.out;(repeat' (first|exact Below.refl _ _|refine bstep ?_ hb2|refine bstep ?_ hB|refine Below.setCell ?_ (by simp<;>omega) _|refine balloc ?_ _|refine Below.drew ?_|refine bdrewN ?_ _))⟩
     |true =>
        have W:=Lib.hid (fun W=>(hin ▸ within_any p 64 W (by decide) (by decide):Calls Tryz.prog 141 #[ptv p,.int .i64 64] W fun e w'=>e=.returned (.bool true)∧Below W.heap.size W w'))
        cases hg:anyP f k p with
       |true =>
          have hf:res=false:=by rw [← RES.out];exact PBAD.out (by rw [PB.out,hin,hg];rfl)
          subst hf
          have HIN:=Lib.hid hin
          have HG:=Lib.hid hg
          clear hin hg
          go_wp2_with fail
          with_reducible refine (W.out _).mono ?_
          rintro e w2 ⟨rfl,hb2⟩
          have lk:=pts_look (mapOf_below (mapOf_alloc HM.out _) hb2) HIN.out
          rw [HG.out] at lk
          obtain ⟨o1,o2,o3,o4,o5,o6,o7⟩:=own_below (own_new wr p _) hb2
          go_wp2
          go_ret
          exact ⟨rfl,by have hB:=HB.out;(repeat' (first|exact Below.refl _ _|refine bstep ?_ hb2|refine bstep ?_ hB|refine Below.setCell ?_ (by simp<;>omega) _|refine balloc ?_ _|refine Below.drew ?_|refine bdrewN ?_ _))⟩
       |false =>
          have HIN:=Lib.hid hin
          have HG:=Lib.hid hg
          clear hin hg
          go_wp2_with fail
          with_reducible refine (W.out _).mono ?_
          rintro e w2 ⟨rfl,hb2⟩
          have hm2:=mapOf_below (mapOf_alloc HM.out (.cells #[.int .i64 p.1,.int .i64 p.2.1,.int .i64 p.2.2] 44)) hb2
          have lk:=pts_look hm2 HIN.out
          rw [HG.out] at lk
          obtain ⟨w3,st,hm3,gr⟩:=pts_store hm2 (by unfold maxLen;omega) HIN.out
          have HM3:=Lib.hid hm3
          have GR:=Lib.hid gr
          clear hm2 hm3 gr
          obtain ⟨o1,o2,o3,o4,o5,o6,o7⟩:=own_below (own_new wr p _) hb2
          go_wp2
          go_roundw
          case rel=>exact ⟨k+1,by omega,by go_num,fun i hi=>by
              by_cases c:i=k
              · subst c;rw [PB.out,HIN.out,HG.out];rfl
              · exact GOOD.out i (by omega),mapOf_eq HM3.out (fun q=>by rw [S1.out]),by
              have hB:=HB.out
              have b2:Below w.heap.size w w2:=by (repeat' (first|exact Below.refl _ _|refine bstep ?_ hb2|refine bstep ?_ hB|refine Below.setCell ?_ (by simp<;>omega) _|refine balloc ?_ _|refine Below.drew ?_|refine bdrewN ?_ _))
              exact b2.grown GR.out b2.size (fun j hj=>by cases hj;exact Nat.le_refl _)⟩
          case measure=>simp [intOf];omega
    · obtain rfl:k=n:=by omega
      have hf:res=true:=by rw [← RES.out];exact ptsB_good GOOD.out
      subst hf
      go_wp2
      go_ret
      exact ⟨rfl,B⟩
abbrev msv (a:Option Addr) (n c:Nat) (a':Option Addr) (n' c':Nat):Value:=.agg #[.slice a n c,.slice a' n' c']
abbrev msc (a:Option Addr) (n c:Nat) (a':Option Addr) (n' c':Nat) (t:TypeId):Obj:=.cells #[.slice a n c,.slice a' n' c'] t
theorem row3_alloc {w:World} {b off n:Nat} {f:Nat→P3} (r:Row3 w b off n f) (o:Obj):Row3 (w.alloc o) b off n f:=row3_below r ((Below.refl _ _).alloc (Nat.le_refl _) _)
theorem row3_drew {w:World} {b off n:Nat} {f:Nat→P3} (r:Row3 w b off n f):Row3 w.drew b off n f:=r
theorem panel_nat (b off np c:Nat) (a':Option Addr) (nf c' i j k:Nat) (P:Nat→P3) (w:World) (r:Row3 w b off np P) (hi:i<np) (hj:j<np) (hk:k<np) (hn:np≤1000000) :
    Calls Tryz.prog 143 #[msv (some ⟨b,off,none⟩) np c a' nf c',.agg #[.int .i64 (i:Int),.int .i64 (j:Int),.int .i64 (k:Int)]] w fun e w'=>e=.returned (pnv (P i) (P j) (P k))∧Below w.heap.size w w':=by
  have q:Row3 (((w.alloc (msc (some ⟨b,off,none⟩) np c a' nf c' 25)).alloc (.cells #[.int .i64 (i:Int),.int .i64 (j:Int),.int .i64 (k:Int)] 116)).alloc (.cells #[.int .i64 0,.int .i64 0,.int .i64 0,.int .i64 0,.int .i64 0,.int .i64 0,.int .i64 0,.int .i64 0,.int .i64 0] 77)).drew b off np P:=row3_drew (row3_alloc (row3_alloc (row3_alloc r _) _) _)
  obtain ⟨x1,x2,x3⟩:=q.2 i hi
  obtain ⟨y1,y2,y3⟩:=q.2 j hj
  obtain ⟨z1,z2,z3⟩:=q.2 k hk
  clear q
  have hn':(np:Int)≤1000000:=by omega
  have i1:(i:Int)<(np:Int):=by omega
  have j1:(j:Int)<(np:Int):=by omega
  have k1:(k:Int)<(np:Int):=by omega
  have hb:=r.1
  clear r
  generalize P i=p at *
  generalize P j=q at *
  generalize P k=s at *
  go_enter Tryz.func143,Tryz.ntmps143
  go_wp2
  go_region
  go_wp2
  refine bodyPost_ret (v:=pnv p q s) (by rw [results_cell rfl];go_simp) rfl ⟨rfl,?_⟩
  (repeat' (first|exact Below.refl _ _|refine Below.setCell ?_ (by simp<;>omega) _|refine balloc ?_ _|refine Below.drew ?_|refine bdrewN ?_ _))
def Mes (w:World) (q:Nat) (a:Option Addr) (n c:Nat) (a':Option Addr) (n' c':Nat):Prop:=w.cell? ⟨q,0,none⟩=some (.slice a n c)∧w.cell? ⟨q,1,none⟩=some (.slice a' n' c')∧q<w.heap.size
theorem mes_new (w:World) (a:Option Addr) (n c:Nat) (a':Option Addr) (n' c':Nat) (t:TypeId):Mes (w.alloc (msc a n c a' n' c' t)) w.heap.size a n c a' n' c':=⟨by go_simp,by go_simp,by simp⟩
theorem mes_in {w w1:World} {B q:Nat} {a:Option Addr} {n c:Nat} {a':Option Addr} {n' c':Nat} (h:Mes w q a n c a' n' c') (hb:Below B w w1) (k:q<B):Mes w1 q a n c a' n' c' :=
  ⟨(hb.cell (p:=⟨q,0,none⟩) k).trans h.1,(hb.cell (p:=⟨q,1,none⟩) k).trans h.2.1,Nat.lt_of_lt_of_le h.2.2 hb.size⟩
theorem mes_below {w w1:World} {q:Nat} {a:Option Addr} {n c:Nat} {a':Option Addr} {n' c':Nat} (h:Mes w q a n c a' n' c') (hb:Below w.heap.size w w1):Mes w1 q a n c a' n' c':=mes_in h hb h.2.2
theorem mes_alloc {w:World} {q:Nat} {a:Option Addr} {n c:Nat} {a':Option Addr} {n' c':Nat} (h:Mes w q a n c a' n' c') (o:Obj):Mes (w.alloc o) q a n c a' n' c':=mes_below h ((Below.refl _ _).alloc (Nat.le_refl _) _)
def Bools (w:World) (B n:Nat) (g:Nat→Bool):Prop:=B<w.heap.size∧∀ i,i<n→w.cell? ⟨B,i,none⟩=some (.bool (g i))∧w.frozen? ⟨B,i,none⟩=false
theorem bools_below {w w1:World} {B n:Nat} {g:Nat→Bool} (h:Bools w B n g) (hb:Below w.heap.size w w1):Bools w1 B n g :=
  ⟨Nat.lt_of_lt_of_le h.1 hb.size,fun i hi=>⟨(hb.cell (p:=⟨B,i,none⟩) h.1).trans (h.2 i hi).1,(hb.frozen (p:=⟨B,i,none⟩) h.1).trans (h.2 i hi).2⟩⟩
theorem bools_alloc {w:World} {B n:Nat} {g:Nat→Bool} (h:Bools w B n g) (o:Obj):Bools (w.alloc o) B n g:=bools_below h ((Below.refl _ _).alloc (Nat.le_refl _) _)
theorem bools_eq {w:World} {B n:Nat} {g g':Nat→Bool} (h:Bools w B n g) (e:∀ i,i<n→g i=g' i):Bools w B n g' :=
  ⟨h.1,fun i hi=>by rw [← e i hi];exact h.2 i hi⟩
theorem bools_set {w:World} {B n:Nat} {g:Nat→Bool} (h:Bools w B n g) {x:Nat} (hx:x<n):Bools (w.setCell ⟨B,x,none⟩ (.bool true)) B n (fun i=>if i=x then true else g i):=by
  refine ⟨by simpa using h.1,fun i hi=>?_⟩
  obtain ⟨c1,f1⟩:=h.2 i hi
  obtain ⟨c2,f2⟩:=h.2 x hx
  by_cases e:i=x
  · subst e
    dsimp only
    rw [if_pos rfl]
    exact ⟨by go_simp,by go_simp⟩
  · dsimp only
    rw [if_neg e]
    have e':¬ x=i:=fun k=>e k.symm
    exact ⟨by go_simp,by go_simp⟩
theorem infoB:(Tryz.prog.info? 4).map (fun i=>(i.zero,i.size,i.bytes))=some (some (.bool false),1,1):=by kernel_rfl
theorem bools_make (w:World) (n:Nat) (hn:n≤1000000):∃ w',(Instr.makeSlice 117 (.int .i64 (n:Int)) (.int .i64 (n:Int))).run Tryz.prog w=.ok (.slice (some ⟨w.heap.size,0,none⟩) n n) w'∧Bools w' w.heap.size n (fun _=>false)∧w.grownBy w' none:=by
  obtain ⟨i0,hi,hz0,hz1,hz2⟩:=info_parts infoB
  obtain ⟨w',h1,h2,h3⟩:=run_make_full (P:=Tryz.prog) w 0 117 4 i0 (.bool false) 1 Tryz.underlying117 hi hz0 hz1 .i64 .i64 n (by rw [hz2];omega) (by unfold maxLen;omega) (Nat.zero_le _)
  have hlt:w.heap.size<w'.heap.size:=by
    rcases h2.2 with ⟨h',_⟩|⟨g',cap',cur,h',_,hg,_⟩
    · simp at h'
    · simp only [Value.slice.injEq,Option.some.injEq,Addr.mk.injEq,and_true] at h'
      obtain ⟨rfl,_⟩:=h'
      exact (Array.getElem?_eq_some_iff.1 hg).1
  refine ⟨w',h1,⟨hlt,fun i hi'=>⟨?_,h2.frozenAt i⟩⟩,h3⟩
  rw [h2.cellAt i (by omega)]
  simp [madeCells,Value.cells,hi',Nat.mod_one]
theorem usedB_succ (F:Nat→P3) (k i:Nat) (x y z:Nat) (h:F k=((x:Int),(y:Int),(z:Int))):(if i=z then true else if i=y then true else if i=x then true else usedB F k i)=usedB F (k+1) i:=by
  unfold usedB
  rw [List.range_succ,List.any_append]
  simp only [List.any_cons,List.any_nil,Bool.or_false,h]
  by_cases c1:i=z
  · subst c1;simp
  · by_cases c2:i=y
    · subst c2;simp
    · by_cases c3:i=x
      · subst c3;simp
      · rw [if_neg c1,if_neg c2,if_neg c3]
        have:decide ((x:Int)=(i:Int)∨(y:Int)=(i:Int)∨(z:Int)=(i:Int))=false:=by
          rw [decide_eq_false_iff_not];omega
        rw [this,Bool.or_false]
def Fok (np:Nat) (p:P3):Prop:=0≤p.1∧p.1<np∧0≤p.2.1∧p.2.1<np∧0≤p.2.2∧p.2.2<np
theorem fok_nat {np:Nat} {p:P3} (h:Fok np p):∃ x y z:Nat,p=((x:Int),(y:Int),(z:Int))∧x<np∧y<np∧z<np:=by
  obtain ⟨a,b,c⟩:=p
  obtain ⟨h1,h2,h3,h4,h5,h6⟩:=h
  dsimp only at h1 h2 h3 h4 h5 h6
  exact ⟨a.toNat,b.toNat,c.toNat,by rw [Int.toNat_of_nonneg h1,Int.toNat_of_nonneg h3,Int.toNat_of_nonneg h5],by omega,by omega,by omega⟩
theorem all_good {F:Nat→P3} {nf np:Nat} (h:∀ k,k<np→usedB F nf k=true):allB F nf np=true:=by
  unfold allB
  rw [List.all_eq_true]
  exact fun k hk=>h k (List.mem_range.1 hk)
theorem all_bad {F:Nat→P3} {nf np k:Nat} (h:k<np) (b:usedB F nf k=false):allB F nf np=false:=by
  unfold allB
  rw [List.all_eq_false]
  exact ⟨k,List.mem_range.2 h,by simp [b]⟩
theorem used_row (b off np c b' off' nf c':Nat) (F:Nat→P3) (w:World) (r:Row3 w b' off' nf F) (hn:np≤1000000) (hm:nf≤1000000) (nr:∀ k,k<nf→Fok np (F k)) :
    Calls Tryz.prog 99 #[msv (some ⟨b,off,none⟩) np c (some ⟨b',off',none⟩) nf c'] w fun e w'=>e=.returned (.bool (allB F nf np))∧Below w.heap.size w w':=by
  have hb1:b'<w.heap.size:=r.1
  have R:=Lib.hid r
  have NR:=Lib.hid nr
  have hn':(np:Int)≤1000000:=by omega
  have hm':(nf:Int)≤1000000:=by omega
  obtain ⟨res,hres⟩:∃ res,allB F nf np=res:=⟨_,rfl⟩
  have RES:=Lib.hid hres
  rw [hres]
  obtain ⟨w1,hmk,hB,hg⟩:=bools_make (w.alloc (msc (some ⟨b,off,none⟩) np c (some ⟨b',off',none⟩) nf c' 25)) np hn
  have M:=Lib.hid hB
  have B1:=Lib.hid (((Below.refl w.heap.size w).alloc (Nat.le_refl _) (msc (some ⟨b,off,none⟩) np c (some ⟨b',off',none⟩) nf c' 25)).grown hg (by simp) (fun k hk=>by cases hk))
  have ME:=Lib.hid (mes_in (mes_new w (some ⟨b,off,none⟩) np c (some ⟨b',off',none⟩) nf c' 25) (((Below.refl (w.heap.size+1) _).grown hg (by simp) (fun k hk=>by cases hk)):Below (w.heap.size+1) _ w1) (by omega))
  simp only [World.size_alloc] at hmk
  have sz:=World.size_alloc w (msc (some ⟨b,off,none⟩) np c (some ⟨b',off',none⟩) nf c' 25)
  rw [sz] at M
  clear r nr hres hB hg sz
  obtain ⟨e1,e2,e3⟩:=ME.out
  go_enter Tryz.func99,Tryz.ntmps99
  go_wp2
  clear e1 e2 e3 hmk
  go_loopw [17] (fun kv wr=>∃ k:Nat,k≤nf∧kv=.int .i64 k∧Bools wr (w.heap.size+1) np (usedB F k)∧Below w.heap.size w wr) (fun kv _=>nf - (intOf kv).toNat)
  case atStart=>exact ⟨0,Nat.zero_le _,rfl,bools_eq M.out (fun i _=>rfl),B1.out⟩
  case round =>
    obtain ⟨k,hk,rfl,hm0,BB⟩:=hrel
    have HM:=Lib.hid hm0
    have B0:=Lib.hid BB
    clear hm0 BB
    by_cases hlt:k<nf
    · have r2:=row3_in R.out B0.out hb1
      obtain ⟨c1,c2,c3⟩:=r2.2 k hlt
      have r5:=r2.1
      clear r2
      have hk1:(k:Int)<(nf:Int):=by omega
      obtain ⟨x,y,z,hp,hx,hy,hz⟩:=fok_nat (NR.out k hlt)
      have S1:=Lib.hid (fun i=>usedB_succ F k i x y z hp)
      rw [hp] at c1 c2 c3
      dsimp only at c1 c2 c3
      clear hp
      have x1:(x:Int)<(np:Int):=by omega
      have y1:(y:Int)<(np:Int):=by omega
      have z1:(z:Int)<(np:Int):=by omega
      have M0:=Lib.hid (bools_alloc HM.out (.cells #[.int .i64 (x:Int),.int .i64 (y:Int),.int .i64 (z:Int)] 116))
      have i0:∀ w,(Instr.index 116 (.agg #[.int .i64 (x:Int),.int .i64 (y:Int),.int .i64 (z:Int)]) (.int .i64 0)).run Tryz.prog w=.ok (.int .i64 (x:Int)) w:=fun _=>by kernel_rfl
      have i1:∀ w,(Instr.index 116 (.agg #[.int .i64 (x:Int),.int .i64 (y:Int),.int .i64 (z:Int)]) (.int .i64 1)).run Tryz.prog w=.ok (.int .i64 (y:Int)) w:=fun _=>by kernel_rfl
      have i2:∀ w,(Instr.index 116 (.agg #[.int .i64 (x:Int),.int .i64 (y:Int),.int .i64 (z:Int)]) (.int .i64 2)).run Tryz.prog w=.ok (.int .i64 (z:Int)) w:=fun _=>by kernel_rfl
      go_wp2
      clear c1 c2 c3
      refine wp_loop_rounds 4 ?_
      obtain ⟨d1,d2⟩:=M0.out.2 x hx
      have l1:=M0.out.1
      have M1:=Lib.hid (bools_set M0.out hx)
      rw [rounds_succ]
      go_wp2
      clear d1 d2 l1
      obtain ⟨d1,d2⟩:=M1.out.2 y hy
      have l1:=M1.out.1
      have M2:=Lib.hid (bools_set M1.out hy)
      rw [rounds_succ]
      go_wp2
      clear d1 d2 l1
      obtain ⟨d1,d2⟩:=M2.out.2 z hz
      have l1:=M2.out.1
      have M3:=Lib.hid (bools_set M2.out hz)
      rw [rounds_succ]
      go_wp2
      clear d1 d2 l1
      rw [rounds_succ]
      go_wp2
      go_roundw
      case rel=>exact ⟨k+1,by omega,by go_num,bools_eq M3.out (fun i _=>by rw [← S1.out i]),by have hB:=B0.out;(repeat' (first|exact Below.refl _ _|refine bstep ?_ hB|refine Below.setCell ?_ (by simp<;>omega) _|refine balloc ?_ _|refine Below.drew ?_|refine bdrewN ?_ _))⟩
      case measure=>simp [intOf];omega
    · obtain rfl:k=nf:=by omega
      go_wp2
      go_loopw [32] (fun kv wx=>∃ j:Nat,j≤np∧kv=.int .i64 j∧(∀ i,i<j→usedB F k i=true)∧wx=wr) (fun kv _=>np - (intOf kv).toNat)
      case atStart=>exact ⟨0,Nat.zero_le _,rfl,fun i hi=>absurd hi (Nat.not_lt_zero i),rfl⟩
      case round =>
        obtain ⟨j,hj,rfl,good,rfl⟩:=hrel
        have GOOD:=Lib.hid good
        clear good
        by_cases hjt:j<np
        · obtain ⟨d1,_⟩:=HM.out.2 j hjt
          have l1:=HM.out.1
          have j1:(j:Int)<(np:Int):=by omega
          cases hu:usedB F k j with
         |false =>
            rw [hu] at d1
            have hf:res=false:=by rw [← RES.out];exact all_bad hjt hu
            clear hu
            subst hf
            go_wp2
            go_ret
            exact ⟨rfl,B0.out⟩
         |true =>
            rw [hu] at d1
            have HU:=Lib.hid hu
            clear hu
            go_wp2
            go_roundw
            case rel=>exact ⟨j+1,by omega,by go_num,fun i hi=>by
                by_cases c:i=j
                · subst c;exact HU.out
                · exact GOOD.out i (by omega),trivial⟩
            case measure=>simp [intOf];omega
        · obtain rfl:j=np:=by omega
          have hf:res=true:=by rw [← RES.out];exact all_good GOOD.out
          subst hf
          go_wp2
          go_ret
          exact ⟨rfl,B0.out⟩
abbrev sds (f:P3):Value:=.agg #[.int .i64 f.1,.int .i64 f.2.1,.int .i64 f.2.1,.int .i64 f.2.2,.int .i64 f.2.2,.int .i64 f.1]
theorem sides_any (f:P3) (w:World) :
    Calls Tryz.prog 145 #[ptv f] w fun e w'=>e=.returned (sds f)∧Below w.heap.size w w':=by
  go_enter Tryz.func145,Tryz.ntmps145
  go_wp2
  refine bodyPost_ret (v:=sds f) (by rw [results_cell rfl];go_simp) rfl ⟨rfl,?_⟩
  (repeat' (first|exact Below.refl _ _|refine Below.setCell ?_ (by simp<;>omega) _|refine balloc ?_ _|refine Below.drew ?_|refine bdrewN ?_ _))
theorem back_any (s:Int × Int) (w:World) :
    Calls Tryz.prog 146 #[sdv s] w fun e w'=>e=.returned (sdv (s.2,s.1))∧Below w.heap.size w w':=by
  go_enter Tryz.func146,Tryz.ntmps146
  go_wp2
  refine bodyPost_ret (v:=sdv (s.2,s.1)) (by rw [results_cell rfl];go_simp) rfl ⟨rfl,?_⟩
  (repeat' (first|exact Below.refl _ _|refine Below.setCell ?_ (by simp<;>omega) _|refine balloc ?_ _|refine Below.drew ?_|refine bdrewN ?_ _))
abbrev SdM (g:Int × Int→Int) (w:World) (b n:Nat):Prop:=MapOf 176 3 sdv (.int .i64 0) (fun p=>.int .i64 (g p)) w b n
def bump (g:Int × Int→Int) (t:Int × Int) (s:Int × Int):Int:=if s=t then g t+1 else g s
def cntS (f:Nat→P3) (k:Nat) (s:Int × Int):Int:=(cnt f k s.1 s.2:Nat)
theorem cnt1_bd (f:P3) (p q:Int):cnt1 f p q≤3:=by unfold cnt1;split<;>split<;>split<;>omega
theorem cnt_bd (f:Nat→P3) (k:Nat) (p q:Int):cnt f k p q≤3*k:=by
  induction k with
 |zero=>simp [cnt]
 |succ k ih=>have:=cnt1_bd (f k) p q;show cnt f k p q+cnt1 (f k) p q≤_;omega
theorem bump_bd {g:Int × Int→Int} {N:Int} (h:∀ s,0≤g s∧g s≤N) (t:Int × Int):∀ s,0≤bump g t s∧bump g t s≤N+1:=by
  intro s
  unfold bump
  have:=h s
  have:=h t
  split<;>omega
theorem bump_is (g:Int × Int→Int) (t s:Int × Int):bump g t s=g s+if t.1=s.1∧t.2=s.2 then 1 else 0:=by
  unfold bump
  by_cases c:s=t
  · subst c;rw [if_pos rfl,if_pos ⟨rfl,rfl⟩]
  · rw [if_neg c,if_neg (fun h=>c (Prod.ext h.1.symm h.2.symm))];omega
theorem cntS_succ (f:Nat→P3) (k:Nat) (s:Int × Int):bump (bump (bump (cntS f k) ((f k).1,(f k).2.1)) ((f k).2.1,(f k).2.2)) ((f k).2.2,(f k).1) s=cntS f (k+1) s:=by
  rw [bump_is,bump_is,bump_is]
  show _=((cnt f k s.1 s.2+cnt1 (f k) s.1 s.2:Nat):Int)
  unfold cnt1 cntS
  split<;>split<;>split<;>simp_all<;>omega
theorem cntS_bd (f:Nat→P3) (k:Nat):∀ s,0≤cntS f k s∧cntS f k s≤3*(k:Int):=by
  intro s
  have:=cnt_bd f k s.1 s.2
  unfold cntS
  omega
def Nr (x:Int):Prop:=0≤x∧x≤1000000
theorem nr_wf {x:Int} (h:Nr x):(Lit.int .i64 x).wf=true:=WalkArith.wf_i64 (by unfold Nr at h;omega)
theorem sd_step {g:Int × Int→Int} {w:World} {b n:Nat} (h:SdM g w b n) (hn:n<maxLen) {t:Int × Int} (h1:Nr t.1) (h2:Nr t.2) (hb:∀ s,0≤g s∧g s≤1000000000) :
    (Instr.lookup 173 (.map (some b)) (sdv t) false).run Tryz.prog w=.ok (.int .i64 (g t)) w ∧
    ∃ (v0:Value) (st:Nat) (w1 w2:World),(Instr.mapEntry 173 (.map (some b)) (sdv t)).run Tryz.prog w=.ok (.tuple #[v0,.int .i64 (st:Int)]) w1 ∧
      (Instr.lookup 173 (.map (some b)) (sdv t) false).run Tryz.prog w1=.ok (.int .i64 (g t)) w1∧(Instr.entryStore 173 (.map (some b)) (.int .i64 (st:Int)) (.int .i64 (g t+1))).run Tryz.prog w1=.ok () w2∧SdM (bump g t) w2 b (n+1)∧w.grownBy w1 (some b)∧w.grownBy w2 (some b):=by
  obtain ⟨kl,hkey⟩:=keySd (s:=t) (nr_wf h1) (nr_wf h2)
  refine ⟨look_int lawSd Tryz.underlying173 h hkey,?_⟩
  obtain ⟨v0,st,w1,e1,e2,e3⟩:=entry_of (fun _ _=>sdv_inj) lawSd Tryz.underlying173 zeroI h hn hkey
  have:=hb t
  obtain ⟨w2,e4,e5,e6⟩:=e3 (.int .i64 (g t+1)) _ _ (plainElem_int Tryz.underlying3 (WalkArith.wf_i64 (by omega)))
  exact ⟨v0,st,w1,w2,e1,entry_look lawSd Tryz.underlying173 h hkey e1,e4,mapOf_eq e5 (fun q=>by unfold bump;by_cases c:q=t<;>simp [c]),e2,e6⟩
theorem sd_drew {g:Int × Int→Int} {w:World} {b n:Nat} (h:SdM g w b n):SdM g w.drew b n:=h
def Tr (P F:Nat→P3) (k:Nat):P3 × P3 × P3:=(P (F k).1.toNat,P (F k).2.1.toNat,P (F k).2.2.toNat)
def pcell (t:P3 × P3 × P3):Nat→Value
 |0=>.int .i64 t.1.1
 |1=>.int .i64 t.1.2.1
 |2=>.int .i64 t.1.2.2
 |3=>.int .i64 t.2.1.1
 |4=>.int .i64 t.2.1.2.1
 |5=>.int .i64 t.2.1.2.2
 |6=>.int .i64 t.2.2.1
 |7=>.int .i64 t.2.2.2.1
 |_=>.int .i64 t.2.2.2.2
def sh_pcs (T:Nat→P3 × P3 × P3) (k:Nat):List Value:=(List.range (k*9)).map fun m=>pcell (T (m / 9)) (m % 9)
theorem pcs_succ (T:Nat→P3 × P3 × P3) (k:Nat):sh_pcs T (k+1)=sh_pcs T k ++ [.int .i64 (T k).1.1,.int .i64 (T k).1.2.1,.int .i64 (T k).1.2.2,.int .i64 (T k).2.1.1,.int .i64 (T k).2.1.2.1,.int .i64 (T k).2.1.2.2,.int .i64 (T k).2.2.1,.int .i64 (T k).2.2.2.1,.int .i64 (T k).2.2.2.2]:=by
  unfold sh_pcs
  have d (j:Nat) (h:j<9):(k*9+j) / 9=k∧(k*9+j) % 9=j:=⟨by omega,by omega⟩
  rw [show (k+1)*9=k*9+1+1+1+1+1+1+1+1+1 by omega]
  simp only [List.range_succ,List.map_append,List.map_cons,List.map_nil,List.append_assoc,List.cons_append,List.nil_append]
  have e0:=d 0 (by omega);have e1:=d 1 (by omega);have e2:=d 2 (by omega);have e3:=d 3 (by omega);have e4:=d 4 (by omega)
  have e5:=d 5 (by omega);have e6:=d 6 (by omega);have e7:=d 7 (by omega);have e8:=d 8 (by omega)
  simp only [Nat.add_zero] at e0
  rw [e0.1,e0.2,e1.1,e1.2,e2.1,e2.2,e3.1,e3.2,e4.1,e4.2,e5.1,e5.2,e6.1,e6.2,e7.1,e7.2,e8.1,e8.2]
  rfl
theorem pcs_at (T:Nat→P3 × P3 × P3) (n k j:Nat) (hk:k<n) (hj:j<9):(sh_pcs T n)[k*9+j]?=some (pcell (T k) j):=by
  unfold sh_pcs
  rw [List.getElem?_map,List.getElem?_range (by omega)]
  have d1:(k*9+j) / 9=k:=by omega
  have d2:(k*9+j) % 9=j:=by omega
  simp [d1,d2]
def Row9 (w:World) (g n:Nat) (T:Nat→P3 × P3 × P3):Prop :=
  g<w.heap.size∧∀ k,k<n→w.cell? ⟨g,k*9,none⟩=some (.int .i64 (T k).1.1)∧w.cell? ⟨g,k*9+1,none⟩=some (.int .i64 (T k).1.2.1)∧w.cell? ⟨g,k*9+2,none⟩=some (.int .i64 (T k).1.2.2) ∧
    w.cell? ⟨g,k*9+3,none⟩=some (.int .i64 (T k).2.1.1)∧w.cell? ⟨g,k*9+4,none⟩=some (.int .i64 (T k).2.1.2.1)∧w.cell? ⟨g,k*9+5,none⟩=some (.int .i64 (T k).2.1.2.2) ∧
    w.cell? ⟨g,k*9+6,none⟩=some (.int .i64 (T k).2.2.1)∧w.cell? ⟨g,k*9+7,none⟩=some (.int .i64 (T k).2.2.2.1)∧w.cell? ⟨g,k*9+8,none⟩=some (.int .i64 (T k).2.2.2.2)
theorem row9_in {w wr:World} {B g n:Nat} {T:Nat→P3 × P3 × P3} (r:Row9 w g n T) (hb:Below B w wr) (h:g<B):Row9 wr g n T:=by
  refine ⟨Nat.lt_of_lt_of_le r.1 hb.size,fun k hk=>?_⟩
  obtain ⟨h1,h2,h3,h4,h5,h6,h7,h8,h9⟩:=r.2 k hk
  exact ⟨(hb.cell (p:=⟨g,_,none⟩) h).trans h1,(hb.cell (p:=⟨g,_,none⟩) h).trans h2,(hb.cell (p:=⟨g,_,none⟩) h).trans h3,(hb.cell (p:=⟨g,_,none⟩) h).trans h4,(hb.cell (p:=⟨g,_,none⟩) h).trans h5,(hb.cell (p:=⟨g,_,none⟩) h).trans h6,(hb.cell (p:=⟨g,_,none⟩) h).trans h7,(hb.cell (p:=⟨g,_,none⟩) h).trans h8,(hb.cell (p:=⟨g,_,none⟩) h).trans h9⟩
theorem row9_below {w w1:World} {g n:Nat} {T:Nat→P3 × P3 × P3} (r:Row9 w g n T) (hb:Below w.heap.size w w1):Row9 w1 g n T:=row9_in r hb r.1
theorem row9_of {w:World} {base n:Nat} {v:Value} {T:Nat→P3 × P3 × P3} (h:w.ownsRow base 77 9 v n (sh_pcs T n)) (h0:0<n):∃ g cap,v=.slice (some ⟨g,0,none⟩) n cap∧base≤g∧Row9 w g n T:=by
  rcases h.2 with ⟨_,h'⟩|⟨g,cap,cur,rfl,hb,hg,_⟩
  · omega
  · refine ⟨g,cap,rfl,hb,(Array.getElem?_eq_some_iff.1 hg).1,fun k hk=>?_⟩
    have q (j:Nat) (hj:j<9):w.cell? ⟨g,k*9+j,none⟩=some (pcell (T k) j):=by rw [h.cellAt (k*9+j) (by omega)];exact pcs_at T n k j hk hj
    exact ⟨q 0 (by omega),q 1 (by omega),q 2 (by omega),q 3 (by omega),q 4 (by omega),q 5 (by omega),q 6 (by omega),q 7 (by omega),q 8 (by omega)⟩
theorem infoP:(Tryz.prog.info? 77).map (fun i=>(i.zero,i.size,i.bytes))=some (some (.agg #[.int .i64 0,.int .i64 0,.int .i64 0,.int .i64 0,.int .i64 0,.int .i64 0,.int .i64 0,.int .i64 0,.int .i64 0]),9,72):=by kernel_rfl
theorem cells9 (w:World) (c0 c1 c2 c3 c4 c5 c6 c7 c8:Int) (t:TypeId):∀ j u,[Value.int .i64 c0,.int .i64 c1,.int .i64 c2,.int .i64 c3,.int .i64 c4,.int .i64 c5,.int .i64 c6,.int .i64 c7,.int .i64 c8][j]?=some u →
    (w.alloc (.cells #[.int .i64 c0,.int .i64 c1,.int .i64 c2,.int .i64 c3,.int .i64 c4,.int .i64 c5,.int .i64 c6,.int .i64 c7,.int .i64 c8] t)).cell? ((⟨w.heap.size,0,none⟩:Addr).add j)=some u:=by
  intro j u h
  match j,h with
 |0,h|1,h|2,h|3,h|4,h|5,h|6,h|7,h|8,h=>(simp at h;subst h;simp only [Addr.add];go_simp)
 |j+9,h=>simp at h
theorem one9 (c0 c1 c2 c3 c4 c5 c6 c7 c8:Int):∀ u ∈ [Value.int .i64 c0,.int .i64 c1,.int .i64 c2,.int .i64 c3,.int .i64 c4,.int .i64 c5,.int .i64 c6,.int .i64 c7,.int .i64 c8],u.oneCell'=true:=by
  intro u h
  simp only [List.mem_cons,List.not_mem_nil,or_false] at h
  rcases h with h|h|h|h|h|h|h|h|h<;>(subst h;rfl)
theorem ownsRow_below {w w1:World} {base:Nat} {e:TypeId} {size n:Nat} {v:Value} {xs:List Value} (h:w.ownsRow base e size v n xs) (hb:Below w.heap.size w w1):w1.ownsRow base e size v n xs:=by
  refine ⟨h.1,?_⟩
  rcases h.2 with h'|⟨g,cap,cur,h1,h2,h3,h4⟩
  · exact .inl h'
  · exact .inr ⟨g,cap,cur,h1,h2,(hb.block g (Array.getElem?_eq_some_iff.1 h3).1).trans h3,h4⟩
theorem ownsRow_block {w:World} {base:Nat} {e:TypeId} {size n:Nat} {v:Value} {xs:List Value} (h:w.ownsRow base e size v n xs):∀ g,v.ownBlock=some g→base≤g:=by
  intro g hg
  rcases h.2 with ⟨h',_⟩|⟨g',cap,cur,h1,h2,_⟩
  · subst h';cases hg
  · subst h1;cases hg;exact h2
theorem grown_mes {w w1:World} {row:Option Nat} {q:Nat} {a:Option Addr} {n c:Nat} {a':Option Addr} {n' c':Nat} (h:Mes w q a n c a' n' c') (hg:w.grownBy w1 row) (hr:row ≠ some q):Mes w1 q a n c a' n' c':=by
  have e:=hg.block q h.2.2 (fun e=>hr e.symm)
  exact ⟨(World.cell?_of_block (w:=w) (a:=⟨q,0,none⟩) e).trans h.1,(World.cell?_of_block (w:=w) (a:=⟨q,1,none⟩) e).trans h.2.1,Nat.lt_of_lt_of_le h.2.2 hg.size⟩
def Paneled (T:Nat→P3 × P3 × P3) (n:Nat) (w:World) (e:Ending) (w':World):Prop :=
  ∃ g cap,e=.returned (.slice (some ⟨g,0,none⟩) n cap)∧w.heap.size≤g∧Row9 w' g n T∧Below w.heap.size w w'
theorem panels_row (b off np c b' off' nf c':Nat) (P F:Nat→P3) (w:World) (rp:Row3 w b off np P) (r:Row3 w b' off' nf F) (hn:np≤1000000) (hm:nf≤1000000) (h0:0<nf) (nr:∀ k,k<nf→Fok np (F k)) :
    Calls Tryz.prog 147 #[msv (some ⟨b,off,none⟩) np c (some ⟨b',off',none⟩) nf c'] w (Paneled (Tr P F) nf w):=by
  have hb1:b'<w.heap.size:=r.1
  have hb2:b<w.heap.size:=rp.1
  have R:=Lib.hid r
  have RP:=Lib.hid rp
  have NR:=Lib.hid nr
  have hn':(np:Int)≤1000000:=by omega
  have hm':(nf:Int)≤1000000:=by omega
  obtain ⟨i0,hi,hz0,hz1,hz2⟩:=info_parts infoP
  clear r rp nr
  go_enter Tryz.func147,Tryz.ntmps147
  go_wp2
  go_loopw [3,9] (fun v kv wr=>∃ k:Nat,k≤nf∧kv=.int .i64 k∧wr.ownsRow (w.heap.size+1) 77 9 v k (sh_pcs (Tr P F) k)∧Mes wr w.heap.size (some ⟨b,off,none⟩) np c (some ⟨b',off',none⟩) nf c'∧Below w.heap.size w wr) (fun _ kv _=>nf - (intOf kv).toNat)
  case atStart=>exact ⟨0,Nat.zero_le _,rfl,World.ownsRow_nil _ _ _ _,mes_new _ _ _ _ _ _ _ _,by (repeat' (first|exact Below.refl _ _|refine Below.setCell ?_ (by simp<;>omega) _|refine balloc ?_ _|refine Below.drew ?_|refine bdrewN ?_ _))⟩
  case round =>
    obtain ⟨k,hk,rfl,hown,hme,BB⟩:=hrel
    have B0:=Lib.hid BB
    have HO:=Lib.hid hown
    have ME:=Lib.hid hme
    clear BB hown hme
    by_cases hlt:k<nf
    · have r2:=row3_in R.out B0.out hb1
      obtain ⟨c1,c2,c3⟩:=r2.2 k hlt
      have r5:=r2.1
      have hk1:(k:Int)<(nf:Int):=by omega
      obtain ⟨x,y,z,hp,hx,hy,hz⟩:=fok_nat (NR.out k hlt)
      have S1:=Lib.hid (show sh_pcs (Tr P F) (k+1)=sh_pcs (Tr P F) k ++ [.int .i64 (P x).1,.int .i64 (P x).2.1,.int .i64 (P x).2.2,.int .i64 (P y).1,.int .i64 (P y).2.1,.int .i64 (P y).2.2,.int .i64 (P z).1,.int .i64 (P z).2.1,.int .i64 (P z).2.2] by rw [pcs_succ];unfold Tr;rw [hp];rfl)
      rw [hp] at c1 c2 c3
      dsimp only at c1 c2 c3
      clear hp r2
      obtain ⟨m1,m2,m3⟩:=ME.out
      have RPr:=Lib.hid (row3_alloc (row3_in RP.out B0.out hb2) (.cells #[.int .i64 (x:Int),.int .i64 (y:Int),.int .i64 (z:Int)] 116))
      go_wp2_with fail
      refine (panel_nat b off np c (some ⟨b',off',none⟩) nf c' x y z P _ RPr.out hx hy hz hn).mono ?_
      rintro e u0 ⟨rfl,hb0⟩
      have O1:=Lib.hid (ownsRow_below (HO.out.alloc (.cells #[.int .i64 (x:Int),.int .i64 (y:Int),.int .i64 (z:Int)] 116)) hb0)
      have ME1:=Lib.hid (mes_below (mes_alloc ME.out (.cells #[.int .i64 (x:Int),.int .i64 (y:Int),.int .i64 (z:Int)] 116)) hb0)
      have B1:=Lib.hid (bstep (balloc B0.out _) hb0)
      have Z:=Lib.hid (show w.heap.size+1≤u0.heap.size by have:=ME1.out.2.2;omega)
      clear hb0 m1 m2 m3 c1 c2 c3 RPr
      generalize P x=px at *
      generalize P y=py at *
      generalize P z=pz at *
      go_wp2_with (at_builtin;refine wpList_append_own _ rfl _ _ 74 rfl (w.heap.size+1) 77 i0 _ 9 72 Tryz.underlying74 hi hz0 hz1 hz2 rfl (by decide) _ _ _ rfl (O1.out.alloc _) ⟨u0.heap.size,0,none⟩ 1 1 [.int .i64 px.1,.int .i64 px.2.1,.int .i64 px.2.2,.int .i64 py.1,.int .i64 py.2.1,.int .i64 py.2.2,.int .i64 pz.1,.int .i64 pz.2.1,.int .i64 pz.2.2] rfl rfl (cells9 _ _ _ _ _ _ _ _ _ _ _) (one9 _ _ _ _ _ _ _ _ _) (by unfold maxLen;omega) (by omega) (by have:=Z.out;simp;omega) ?_;intro v' w3 hown' hgrow hnil)
      have OB:=ownsRow_block O1.out
      go_roundw
      case rel=>exact ⟨k+1,by omega,by go_num,by rw [S1.out];exact hown',grown_mes (mes_alloc ME1.out _) hgrow (fun q=>by have:=OB _ q;omega),(balloc B1.out _).grown hgrow (by have:=ME1.out.2.2;simp;omega) (fun i hi=>by have:=OB i hi;omega)⟩
      case measure=>simp [intOf];omega
    · obtain rfl:k=nf:=by omega
      go_wp2
      go_ret
      obtain ⟨g,cap,hv,hg,r9⟩:=row9_of HO.out h0
      exact ⟨g,cap,by rw [hv];rfl,by omega,r9,B0.out⟩
theorem vol_bd {P F:Nat→P3} {n:Nat} (h:∀ k,k<n→BdP 64 (Tr P F k).1∧BdP 64 (Tr P F k).2.1∧BdP 64 (Tr P F k).2.2):-((n:Int)*1572864)≤vol P F n∧vol P F n≤(n:Int)*1572864:=by
  induction n with
 |zero=>simp [vol]
 |succ n ih =>
    have a:=ih (fun k hk=>h k (by omega))
    have c:=h n (by omega)
    have d:=det_bd c.1 c.2.1 c.2.2
    show _≤vol P F n+det (Tr P F n).1 (Tr P F n).2.1 (Tr P F n).2.2∧vol P F n+det (Tr P F n).1 (Tr P F n).2.1 (Tr P F n).2.2≤_
    omega
def TrB (P F:Nat→P3) (n:Nat):Prop:=∀ k,k<n→BdP 64 (Tr P F k).1∧BdP 64 (Tr P F k).2.1∧BdP 64 (Tr P F k).2.2
theorem trB_of {P F:Nat→P3} {np nf:Nat} (h:∀ i,i<np→BdP 64 (P i)) (k:∀ k,k<nf→Fok np (F k)):TrB P F nf:=by
  intro i hi
  obtain ⟨h1,h2,h3,h4,h5,h6⟩:=k i hi
  exact ⟨h _ (by omega),h _ (by omega),h _ (by omega)⟩
theorem vol_row (b off np c b' off' nf c':Nat) (P F:Nat→P3) (w:World) (rp:Row3 w b off np P) (r:Row3 w b' off' nf F) (hn:np≤1000000) (hm:nf≤1000000) (h0:0<nf) (nr:∀ k,k<nf→Fok np (F k)) (tb:TrB P F nf) :
    Calls Tryz.prog 100 #[msv (some ⟨b,off,none⟩) np c (some ⟨b',off',none⟩) nf c'] w fun e w'=>e=.returned (.int .i64 (vol P F nf))∧Below w.heap.size w w':=by
  have PC:=Lib.hid (fun W (B:Below w.heap.size w W)=>panels_row b off np c b' off' nf c' P F W (row3_below rp B) (row3_below r B) hn hm h0 nr)
  have TB:=Lib.hid tb
  have hm':(nf:Int)≤1000000:=by omega
  clear rp r nr tb
  go_enter Tryz.func100,Tryz.ntmps100
  go_wp2_with fail
  refine (PC.out _ (by (repeat' (first|exact Below.refl _ _|refine Below.setCell ?_ (by simp<;>omega) _|refine balloc ?_ _|refine Below.drew ?_|refine bdrewN ?_ _)))).mono ?_
  rintro e w1 ⟨g,cap,rfl,hg,r9,bb⟩
  have R9:=Lib.hid r9
  have HG:=Lib.hid hg
  have gl:=r9.1
  have B1:=Lib.hid (bstep (balloc (Below.refl _ w) _) bb)
  clear r9 hg bb
  go_wp2
  go_loopw [3,9] (fun sv kv wr=>∃ k:Nat,k≤nf∧kv=.int .i64 k∧sv=.int .i64 (vol P F k)∧Below w1.heap.size w1 wr) (fun _ kv _=>nf - (intOf kv).toNat)
  case atStart=>exact ⟨0,Nat.zero_le _,rfl,rfl,Below.refl _ _⟩
  case round =>
    obtain ⟨k,hk,rfl,rfl,BB⟩:=hrel
    have B0:=Lib.hid BB
    clear BB
    by_cases hlt:k<nf
    · have r2:=row9_below R9.out B0.out
      obtain ⟨c1,c2,c3,c4,c5,c6,c7,c8,c9⟩:=r2.2 k hlt
      have r5:=r2.1
      clear r2
      have hk1:(k:Int)<(nf:Int):=by omega
      have T:=Lib.hid (TB.out k hlt)
      have vb:=vol_bd (P:=P) (F:=F) (n:=k) (fun i hi=>TB.out i (by omega))
      have db:=det_bd T.out.1 T.out.2.1 T.out.2.2
      have E:=Lib.hid (show vol P F (k+1)=vol P F k+det (Tr P F k).1 (Tr P F k).2.1 (Tr P F k).2.2 from rfl)
      generalize (Tr P F k).1=p at *
      generalize (Tr P F k).2.1=q at *
      generalize (Tr P F k).2.2=s at *
      go_wp2_with fail
      refine (product_any p q s _ (T.out.1.mono (by decide)) (T.out.2.1.mono (by decide)) (T.out.2.2.mono (by decide))).mono ?_
      rintro e w2 ⟨rfl,hb2⟩
      clear c1 c2 c3 c4 c5 c6 c7 c8 c9
      generalize det p q s=d at *
      generalize vol P F k=v at *
      go_wp2
      go_roundw
      case rel=>exact ⟨k+1,by omega,by go_num,by rw [E.out],by have hB:=B0.out;(repeat' (first|exact Below.refl _ _|refine bstep ?_ hb2|refine bstep ?_ hB|refine Below.setCell ?_ (by simp<;>omega) _|refine balloc ?_ _|refine Below.drew ?_|refine bdrewN ?_ _))⟩
      case measure=>simp [intOf];omega
    · obtain rfl:k=nf:=by omega
      go_wp2
      go_ret
      exact ⟨rfl,bstep B1.out B0.out⟩
theorem vf_lo0 (a:Option Addr) (np c:Nat) (a':Option Addr) (nf c':Nat) (p:P3) (w:World) (hn:np≤1000000) (n:p.1<0) :
    Calls Tryz.prog 97 #[msv a np c a' nf c',ptv p] w fun e w'=>e=.returned (.int .i64 5)∧Below w.heap.size w w':=by
  have hn':(np:Int)≤1000000:=by omega
  have i0:∀ w,(Instr.index 116 (.agg #[.int .i64 p.1,.int .i64 p.2.1,.int .i64 p.2.2]) (.int .i64 0)).run Tryz.prog w=.ok (.int .i64 p.1) w:=fun _=>by kernel_rfl
  have i1:∀ w,(Instr.index 116 (.agg #[.int .i64 p.1,.int .i64 p.2.1,.int .i64 p.2.2]) (.int .i64 1)).run Tryz.prog w=.ok (.int .i64 p.2.1) w:=fun _=>by kernel_rfl
  have i2:∀ w,(Instr.index 116 (.agg #[.int .i64 p.1,.int .i64 p.2.1,.int .i64 p.2.2]) (.int .i64 2)).run Tryz.prog w=.ok (.int .i64 p.2.2) w:=fun _=>by kernel_rfl
  go_enter Tryz.func97,Tryz.ntmps97
  go_wp2
  refine wp_loop_rounds 1 ?_
  rw [rounds_succ]
  go_wp2
  go_ret
  exact ⟨rfl,by (repeat' (first|exact Below.refl _ _|refine Below.setCell ?_ (by simp<;>omega) _|refine balloc ?_ _|refine Below.drew ?_|refine bdrewN ?_ _))⟩
theorem vf_hi0 (a:Option Addr) (np c:Nat) (a':Option Addr) (nf c':Nat) (p:P3) (w:World) (hn:np≤1000000) (m:0≤p.1) (n:(np:Int)≤p.1) :
    Calls Tryz.prog 97 #[msv a np c a' nf c',ptv p] w fun e w'=>e=.returned (.int .i64 5)∧Below w.heap.size w w':=by
  have hn':(np:Int)≤1000000:=by omega
  have nl0:decide (p.1<0)=false:=decide_eq_false (by omega)
  clear m
  have i0:∀ w,(Instr.index 116 (.agg #[.int .i64 p.1,.int .i64 p.2.1,.int .i64 p.2.2]) (.int .i64 0)).run Tryz.prog w=.ok (.int .i64 p.1) w:=fun _=>by kernel_rfl
  have i1:∀ w,(Instr.index 116 (.agg #[.int .i64 p.1,.int .i64 p.2.1,.int .i64 p.2.2]) (.int .i64 1)).run Tryz.prog w=.ok (.int .i64 p.2.1) w:=fun _=>by kernel_rfl
  have i2:∀ w,(Instr.index 116 (.agg #[.int .i64 p.1,.int .i64 p.2.1,.int .i64 p.2.2]) (.int .i64 2)).run Tryz.prog w=.ok (.int .i64 p.2.2) w:=fun _=>by kernel_rfl
  go_enter Tryz.func97,Tryz.ntmps97
  go_wp2
  refine wp_loop_rounds 1 ?_
  rw [rounds_succ]
  go_wp2
  go_ret
  exact ⟨rfl,by (repeat' (first|exact Below.refl _ _|refine Below.setCell ?_ (by simp<;>omega) _|refine balloc ?_ _|refine Below.drew ?_|refine bdrewN ?_ _))⟩
theorem vf_lo1 (a:Option Addr) (np c:Nat) (a':Option Addr) (nf c':Nat) (p:P3) (w:World) (hn:np≤1000000) (l0:0≤p.1) (u0:p.1<np) (n:p.2.1<0) :
    Calls Tryz.prog 97 #[msv a np c a' nf c',ptv p] w fun e w'=>e=.returned (.int .i64 5)∧Below w.heap.size w w':=by
  have hn':(np:Int)≤1000000:=by omega
  have nl0:decide (p.1<0)=false:=decide_eq_false (by omega)
  have nu0:decide ((np:Int)≤p.1)=false:=decide_eq_false (by omega)
  clear l0 u0
  have i0:∀ w,(Instr.index 116 (.agg #[.int .i64 p.1,.int .i64 p.2.1,.int .i64 p.2.2]) (.int .i64 0)).run Tryz.prog w=.ok (.int .i64 p.1) w:=fun _=>by kernel_rfl
  have i1:∀ w,(Instr.index 116 (.agg #[.int .i64 p.1,.int .i64 p.2.1,.int .i64 p.2.2]) (.int .i64 1)).run Tryz.prog w=.ok (.int .i64 p.2.1) w:=fun _=>by kernel_rfl
  have i2:∀ w,(Instr.index 116 (.agg #[.int .i64 p.1,.int .i64 p.2.1,.int .i64 p.2.2]) (.int .i64 2)).run Tryz.prog w=.ok (.int .i64 p.2.2) w:=fun _=>by kernel_rfl
  go_enter Tryz.func97,Tryz.ntmps97
  go_wp2
  refine wp_loop_rounds 2 ?_
  rw [rounds_succ]
  go_wp2
  rw [rounds_succ]
  go_wp2
  go_ret
  exact ⟨rfl,by (repeat' (first|exact Below.refl _ _|refine Below.setCell ?_ (by simp<;>omega) _|refine balloc ?_ _|refine Below.drew ?_|refine bdrewN ?_ _))⟩
theorem vf_hi1 (a:Option Addr) (np c:Nat) (a':Option Addr) (nf c':Nat) (p:P3) (w:World) (hn:np≤1000000) (l0:0≤p.1) (u0:p.1<np) (m:0≤p.2.1) (n:(np:Int)≤p.2.1) :
    Calls Tryz.prog 97 #[msv a np c a' nf c',ptv p] w fun e w'=>e=.returned (.int .i64 5)∧Below w.heap.size w w':=by
  have hn':(np:Int)≤1000000:=by omega
  have nl0:decide (p.1<0)=false:=decide_eq_false (by omega)
  have nl1:decide (p.2.1<0)=false:=decide_eq_false (by omega)
  have nu0:decide ((np:Int)≤p.1)=false:=decide_eq_false (by omega)
  clear l0 u0 m
  have i0:∀ w,(Instr.index 116 (.agg #[.int .i64 p.1,.int .i64 p.2.1,.int .i64 p.2.2]) (.int .i64 0)).run Tryz.prog w=.ok (.int .i64 p.1) w:=fun _=>by kernel_rfl
  have i1:∀ w,(Instr.index 116 (.agg #[.int .i64 p.1,.int .i64 p.2.1,.int .i64 p.2.2]) (.int .i64 1)).run Tryz.prog w=.ok (.int .i64 p.2.1) w:=fun _=>by kernel_rfl
  have i2:∀ w,(Instr.index 116 (.agg #[.int .i64 p.1,.int .i64 p.2.1,.int .i64 p.2.2]) (.int .i64 2)).run Tryz.prog w=.ok (.int .i64 p.2.2) w:=fun _=>by kernel_rfl
  go_enter Tryz.func97,Tryz.ntmps97
  go_wp2
  refine wp_loop_rounds 2 ?_
  rw [rounds_succ]
  go_wp2
  rw [rounds_succ]
  go_wp2
  go_ret
  exact ⟨rfl,by (repeat' (first|exact Below.refl _ _|refine Below.setCell ?_ (by simp<;>omega) _|refine balloc ?_ _|refine Below.drew ?_|refine bdrewN ?_ _))⟩
theorem vf_lo2 (a:Option Addr) (np c:Nat) (a':Option Addr) (nf c':Nat) (p:P3) (w:World) (hn:np≤1000000) (l0:0≤p.1) (u0:p.1<np) (l1:0≤p.2.1) (u1:p.2.1<np) (n:p.2.2<0) :
    Calls Tryz.prog 97 #[msv a np c a' nf c',ptv p] w fun e w'=>e=.returned (.int .i64 5)∧Below w.heap.size w w':=by
  have hn':(np:Int)≤1000000:=by omega
  have nl0:decide (p.1<0)=false:=decide_eq_false (by omega)
  have nl1:decide (p.2.1<0)=false:=decide_eq_false (by omega)
  have nu0:decide ((np:Int)≤p.1)=false:=decide_eq_false (by omega)
  have nu1:decide ((np:Int)≤p.2.1)=false:=decide_eq_false (by omega)
  clear l0 u0 l1 u1
  have i0:∀ w,(Instr.index 116 (.agg #[.int .i64 p.1,.int .i64 p.2.1,.int .i64 p.2.2]) (.int .i64 0)).run Tryz.prog w=.ok (.int .i64 p.1) w:=fun _=>by kernel_rfl
  have i1:∀ w,(Instr.index 116 (.agg #[.int .i64 p.1,.int .i64 p.2.1,.int .i64 p.2.2]) (.int .i64 1)).run Tryz.prog w=.ok (.int .i64 p.2.1) w:=fun _=>by kernel_rfl
  have i2:∀ w,(Instr.index 116 (.agg #[.int .i64 p.1,.int .i64 p.2.1,.int .i64 p.2.2]) (.int .i64 2)).run Tryz.prog w=.ok (.int .i64 p.2.2) w:=fun _=>by kernel_rfl
  go_enter Tryz.func97,Tryz.ntmps97
  go_wp2
  refine wp_loop_rounds 3 ?_
  rw [rounds_succ]
  go_wp2
  rw [rounds_succ]
  go_wp2
  rw [rounds_succ]
  go_wp2
  go_ret
  exact ⟨rfl,by (repeat' (first|exact Below.refl _ _|refine Below.setCell ?_ (by simp<;>omega) _|refine balloc ?_ _|refine Below.drew ?_|refine bdrewN ?_ _))⟩
theorem vf_hi2 (a:Option Addr) (np c:Nat) (a':Option Addr) (nf c':Nat) (p:P3) (w:World) (hn:np≤1000000) (l0:0≤p.1) (u0:p.1<np) (l1:0≤p.2.1) (u1:p.2.1<np) (m:0≤p.2.2) (n:(np:Int)≤p.2.2) :
    Calls Tryz.prog 97 #[msv a np c a' nf c',ptv p] w fun e w'=>e=.returned (.int .i64 5)∧Below w.heap.size w w':=by
  have hn':(np:Int)≤1000000:=by omega
  have nl0:decide (p.1<0)=false:=decide_eq_false (by omega)
  have nl1:decide (p.2.1<0)=false:=decide_eq_false (by omega)
  have nl2:decide (p.2.2<0)=false:=decide_eq_false (by omega)
  have nu0:decide ((np:Int)≤p.1)=false:=decide_eq_false (by omega)
  have nu1:decide ((np:Int)≤p.2.1)=false:=decide_eq_false (by omega)
  clear l0 u0 l1 u1 m
  have i0:∀ w,(Instr.index 116 (.agg #[.int .i64 p.1,.int .i64 p.2.1,.int .i64 p.2.2]) (.int .i64 0)).run Tryz.prog w=.ok (.int .i64 p.1) w:=fun _=>by kernel_rfl
  have i1:∀ w,(Instr.index 116 (.agg #[.int .i64 p.1,.int .i64 p.2.1,.int .i64 p.2.2]) (.int .i64 1)).run Tryz.prog w=.ok (.int .i64 p.2.1) w:=fun _=>by kernel_rfl
  have i2:∀ w,(Instr.index 116 (.agg #[.int .i64 p.1,.int .i64 p.2.1,.int .i64 p.2.2]) (.int .i64 2)).run Tryz.prog w=.ok (.int .i64 p.2.2) w:=fun _=>by kernel_rfl
  go_enter Tryz.func97,Tryz.ntmps97
  go_wp2
  refine wp_loop_rounds 3 ?_
  rw [rounds_succ]
  go_wp2
  rw [rounds_succ]
  go_wp2
  rw [rounds_succ]
  go_wp2
  go_ret
  exact ⟨rfl,by (repeat' (first|exact Below.refl _ _|refine Below.setCell ?_ (by simp<;>omega) _|refine balloc ?_ _|refine Below.drew ?_|refine bdrewN ?_ _))⟩
theorem vf_nat (b off np c:Nat) (a':Option Addr) (nf c' x y z:Nat) (P:Nat→P3) (w:World) (hn:np≤1000000) (r:Row3 w b off np P) (hx:x<np) (hy:y<np) (hz:z<np) :
    Calls Tryz.prog 97 #[msv (some ⟨b,off,none⟩) np c a' nf c',.agg #[.int .i64 (x:Int),.int .i64 (y:Int),.int .i64 (z:Int)]] w fun e w'=>e=.returned (.int .i64 (pcode (P x) (P y) (P z)))∧Below w.heap.size w w':=by
  have hn':(np:Int)≤1000000:=by omega
  have PC:=Lib.hid (fun W (B:Below w.heap.size w W)=>panel_nat b off np c a' nf c' x y z P W (row3_below r B) hx hy hz hn)
  have x1:decide (np≤x)=false:=decide_eq_false (by omega)
  have y1:decide (np≤y)=false:=decide_eq_false (by omega)
  have z1:decide (np≤z)=false:=decide_eq_false (by omega)
  have x2:decide ((x:Int)<0)=false:=decide_eq_false (by omega)
  have y2:decide ((y:Int)<0)=false:=decide_eq_false (by omega)
  have z2:decide ((z:Int)<0)=false:=decide_eq_false (by omega)
  clear r hx hy hz
  have i0:∀ w,(Instr.index 116 (.agg #[.int .i64 (x:Int),.int .i64 (y:Int),.int .i64 (z:Int)]) (.int .i64 0)).run Tryz.prog w=.ok (.int .i64 (x:Int)) w:=fun _=>by kernel_rfl
  have i1:∀ w,(Instr.index 116 (.agg #[.int .i64 (x:Int),.int .i64 (y:Int),.int .i64 (z:Int)]) (.int .i64 1)).run Tryz.prog w=.ok (.int .i64 (y:Int)) w:=fun _=>by kernel_rfl
  have i2:∀ w,(Instr.index 116 (.agg #[.int .i64 (x:Int),.int .i64 (y:Int),.int .i64 (z:Int)]) (.int .i64 2)).run Tryz.prog w=.ok (.int .i64 (z:Int)) w:=fun _=>by kernel_rfl
  go_enter Tryz.func97,Tryz.ntmps97
  go_wp2
  refine wp_loop_rounds 4 ?_
  rw [rounds_succ]
  go_wp2
  rw [rounds_succ]
  go_wp2
  rw [rounds_succ]
  go_wp2
  rw [rounds_succ]
  go_wp2_with fail
  refine (PC.out _ (by (repeat' (first|exact Below.refl _ _|refine Below.setCell ?_ (by simp<;>omega) _|refine balloc ?_ _|refine Below.drew ?_|refine bdrewN ?_ _)))).mono ?_
  rintro e w1 ⟨rfl,hb1⟩
  go_wp2_with fail
  refine (vp_any (P x) (P y) (P z) _).mono ?_
  rintro e w2 ⟨rfl,hb2⟩
  go_wp2
  go_ret
  exact ⟨rfl,by (repeat' (first|exact Below.refl _ _|refine bstep ?_ hb1|refine bstep ?_ hb2|refine Below.setCell ?_ (by simp<;>omega) _|refine balloc ?_ _|refine Below.drew ?_|refine bdrewN ?_ _))⟩
theorem corners_nat (b off np c b' off' nf c' t i j k:Nat) (P F:Nat→P3) (w:World) (r:Row3 w b off np P) (r':Row3 w b' off' nf F) (ht:t<nf) (hi:i<np) (hj:j<np) (hk:k<np) (hn:np≤1000000) (hm:nf≤1000000) (hF:F t=((i:Int),(j:Int),(k:Int))) :
    Calls Tryz.prog 93 #[msv (some ⟨b,off,none⟩) np c (some ⟨b',off',none⟩) nf c',.int .i64 (t:Int)] w fun e w'=>e=.returned (pnv (P i) (P j) (P k))∧Below w.heap.size w w':=by
  have q:Row3 (((w.alloc (msc (some ⟨b,off,none⟩) np c (some ⟨b',off',none⟩) nf c' 25)).alloc (.cells #[.int .i64 0,.int .i64 0,.int .i64 0,.int .i64 0,.int .i64 0,.int .i64 0,.int .i64 0,.int .i64 0,.int .i64 0] 77)).alloc (.cells #[.int .i64 (i:Int),.int .i64 (j:Int),.int .i64 (k:Int)] 116)).drew b off np P:=row3_drew (row3_alloc (row3_alloc (row3_alloc r _) _) _)
  obtain ⟨x1,x2,x3⟩:=q.2 i hi
  obtain ⟨y1,y2,y3⟩:=q.2 j hj
  obtain ⟨z1,z2,z3⟩:=q.2 k hk
  clear q
  obtain ⟨u1,u2,u3⟩:=r'.2 t ht
  rw [hF] at u1 u2 u3
  dsimp only at u1 u2 u3
  have hb':=r'.1
  clear hF r'
  have hn':(np:Int)≤1000000:=by omega
  have hm':(nf:Int)≤1000000:=by omega
  have t1:(t:Int)<(nf:Int):=by omega
  have i1:(i:Int)<(np:Int):=by omega
  have j1:(j:Int)<(np:Int):=by omega
  have k1:(k:Int)<(np:Int):=by omega
  have hb:=r.1
  clear r
  generalize P i=p at *
  generalize P j=q at *
  generalize P k=s at *
  go_enter Tryz.func93,Tryz.ntmps93
  go_wp2
  go_region
  go_wp2
  refine bodyPost_ret (v:=pnv p q s) (by rw [results_cell rfl];go_simp) rfl ⟨rfl,?_⟩
  (repeat' (first|exact Below.refl _ _|refine Below.setCell ?_ (by simp<;>omega) _|refine balloc ?_ _|refine Below.drew ?_|refine bdrewN ?_ _))
def Counted (f:Nat→P3) (n:Nat) (w:World) (e:Ending) (w':World):Prop :=
  e=.returned (.map (some w.heap.size))∧SdM (cntS f n) w' w.heap.size (3*n)∧Below w.heap.size w w'
def Fnr (p:P3):Prop:=Nr p.1∧Nr p.2.1∧Nr p.2.2
theorem count_row (b off n cap:Nat) (f:Nat→P3) (w:World) (r:Row3 w b off n f) (hn:n≤1000) (nr:∀ k,k<n→Fnr (f k)) :
    Calls Tryz.prog 144 #[.slice (some ⟨b,off,none⟩) n cap] w (Counted f n w):=by
  have hb1:b<w.heap.size:=r.1
  have R:=Lib.hid r
  have NR:=Lib.hid nr
  have hn':(n:Int)≤1000:=by omega
  have hmm:=@run_makeMap Tryz.prog
  clear r nr
  go_enter Tryz.func144,Tryz.ntmps144
  go_wp2
  go_loopw [11] (fun kv wr=>∃ k:Nat,k≤n∧kv=.int .i64 k∧SdM (cntS f k) wr w.heap.size (3*k)∧Below w.heap.size w wr) (fun kv _=>n - (intOf kv).toNat)
  case atStart=>exact ⟨0,Nat.zero_le _,rfl,mapOf_eq (mapOf_made _ _ _ _ _) (fun q=>rfl),by (repeat' (first|exact Below.refl _ _|refine Below.setCell ?_ (by simp<;>omega) _|refine balloc ?_ _|refine Below.drew ?_|refine bdrewN ?_ _))⟩
  case round =>
    obtain ⟨k,hk,rfl,hm,B⟩:=hrel
    by_cases hlt:k<n
    · have r2:=row3_in R.out B hb1
      obtain ⟨c1,c2,c3⟩:=r2.2 k hlt
      have r5:=r2.1
      clear r2
      have HM:=Lib.hid hm
      have HB:=Lib.hid B
      have S1:=Lib.hid (cntS_succ f k)
      have H0:=Lib.hid (cntS_bd f k)
      have HN:=Lib.hid (show 3*(k:Int)+3≤1000000000 by omega)
      have FN:=Lib.hid (NR.out k hlt)
      clear hm B
      have hk1:(k:Int)<(n:Int):=by omega
      obtain ⟨g0,hg0⟩:∃ g,cntS f k=g:=⟨_,rfl⟩
      rw [hg0] at HM S1 H0
      clear hg0
      obtain ⟨p,hp⟩:∃ p,f k=p:=⟨_,rfl⟩
      rw [hp] at c1 c2 c3 S1 FN
      clear hp
      have N0:=Lib.hid (show Nr p.1∧Nr p.2.1 from ⟨FN.out.1,FN.out.2.1⟩)
      have N1:=Lib.hid (show Nr p.2.1∧Nr p.2.2 from ⟨FN.out.2.1,FN.out.2.2⟩)
      have N2:=Lib.hid (show Nr p.2.2∧Nr p.1 from ⟨FN.out.2.2,FN.out.1⟩)
      go_wp2_with fail
      refine (sides_any p _).mono ?_
      rintro e u0 ⟨rfl,hb0⟩
      have M0:=Lib.hid (mapOf_below (mapOf_alloc HM.out _) hb0)
      have B0:=Lib.hid (bstep (balloc HB.out _) hb0)
      clear hb0 c1 c2 c3 HM
      have i0:∀ w,(Instr.index 177 (.agg #[.int .i64 p.1,.int .i64 p.2.1,.int .i64 p.2.1,.int .i64 p.2.2,.int .i64 p.2.2,.int .i64 p.1]) (.int .i64 0)).run Tryz.prog w=.ok (.agg #[.int .i64 p.1,.int .i64 p.2.1]) w:=fun _=>by kernel_rfl
      have i1:∀ w,(Instr.index 177 (.agg #[.int .i64 p.1,.int .i64 p.2.1,.int .i64 p.2.1,.int .i64 p.2.2,.int .i64 p.2.2,.int .i64 p.1]) (.int .i64 1)).run Tryz.prog w=.ok (.agg #[.int .i64 p.2.1,.int .i64 p.2.2]) w:=fun _=>by kernel_rfl
      have i2:∀ w,(Instr.index 177 (.agg #[.int .i64 p.1,.int .i64 p.2.1,.int .i64 p.2.1,.int .i64 p.2.2,.int .i64 p.2.2,.int .i64 p.1]) (.int .i64 2)).run Tryz.prog w=.ok (.agg #[.int .i64 p.2.2,.int .i64 p.1]) w:=fun _=>by kernel_rfl
      go_wp2
      refine wp_loop_rounds 4 ?_
      have m0:SdM g0 (u0.alloc (.cells #[.int .i64 p.1,.int .i64 p.2.1] 176)).drew w.heap.size (3*k+0):=sd_drew (mapOf_alloc M0.out _)
      obtain ⟨lk0,v0_0,st0,x0,u1,en0,lx0,es0,mm0,ga0,gb0⟩:=sd_step (t:=((p.1,p.2.1):Int × Int)) m0 (by unfold maxLen;omega) N0.out.1 N0.out.2 (fun s=>by have:=H0.out s;have:=HN.out;omega)
      have M1:=Lib.hid mm0
      have GB0:=Lib.hid gb0
      have H1:=Lib.hid (bump_bd H0.out ((p.1,p.2.1):Int × Int))
      have bd0:=H0.out ((p.1,p.2.1):Int × Int)
      have B1:=Lib.hid ((Below.drew (balloc B0.out (.cells #[.int .i64 p.1,.int .i64 p.2.1] 176))).grown GB0.out (Nat.le_trans B0.out.size (by simp)) (fun i hi=>by cases hi;exact Nat.le_refl _))
      clear m0 mm0 ga0 gb0
      have wr0:IntKind.i64.wrap (g0 ((p.1,p.2.1):Int × Int)+1)=g0 ((p.1,p.2.1):Int × Int)+1:=IntWalk.i64_in _ (by have:=HN.out;omega)
      rw [rounds_succ]
      go_wp2
      go_region
      go_wp2
      clear lk0 en0 lx0 es0 wr0
      have m1:SdM (bump g0 ((p.1,p.2.1):Int × Int)) (u1.alloc (.cells #[.int .i64 p.2.1,.int .i64 p.2.2] 176)).drew w.heap.size (3*k+1):=sd_drew (mapOf_alloc M1.out _)
      obtain ⟨lk1,v0_1,st1,x1,u2,en1,lx1,es1,mm1,ga1,gb1⟩:=sd_step (t:=((p.2.1,p.2.2):Int × Int)) m1 (by unfold maxLen;omega) N1.out.1 N1.out.2 (fun s=>by have:=H1.out s;have:=HN.out;omega)
      have M2:=Lib.hid mm1
      have GB1:=Lib.hid gb1
      have H2:=Lib.hid (bump_bd H1.out ((p.2.1,p.2.2):Int × Int))
      have bd1:=H1.out ((p.2.1,p.2.2):Int × Int)
      have B2:=Lib.hid ((Below.drew (balloc B1.out (.cells #[.int .i64 p.2.1,.int .i64 p.2.2] 176))).grown GB1.out (Nat.le_trans B1.out.size (by simp)) (fun i hi=>by cases hi;exact Nat.le_refl _))
      clear m1 mm1 ga1 gb1
      have wr1:IntKind.i64.wrap ((bump g0 ((p.1,p.2.1):Int × Int)) ((p.2.1,p.2.2):Int × Int)+1)=(bump g0 ((p.1,p.2.1):Int × Int)) ((p.2.1,p.2.2):Int × Int)+1:=IntWalk.i64_in _ (by have:=HN.out;omega)
      rw [rounds_succ]
      go_wp2
      go_region
      go_wp2
      clear lk1 en1 lx1 es1 wr1
      have m2:SdM (bump (bump g0 ((p.1,p.2.1):Int × Int)) ((p.2.1,p.2.2):Int × Int)) (u2.alloc (.cells #[.int .i64 p.2.2,.int .i64 p.1] 176)).drew w.heap.size (3*k+2):=sd_drew (mapOf_alloc M2.out _)
      obtain ⟨lk2,v0_2,st2,x2,u3,en2,lx2,es2,mm2,ga2,gb2⟩:=sd_step (t:=((p.2.2,p.1):Int × Int)) m2 (by unfold maxLen;omega) N2.out.1 N2.out.2 (fun s=>by have:=H2.out s;have:=HN.out;omega)
      have M3:=Lib.hid mm2
      have GB2:=Lib.hid gb2
      have H3:=Lib.hid (bump_bd H2.out ((p.2.2,p.1):Int × Int))
      have bd2:=H2.out ((p.2.2,p.1):Int × Int)
      have B3:=Lib.hid ((Below.drew (balloc B2.out (.cells #[.int .i64 p.2.2,.int .i64 p.1] 176))).grown GB2.out (Nat.le_trans B2.out.size (by simp)) (fun i hi=>by cases hi;exact Nat.le_refl _))
      clear m2 mm2 ga2 gb2
      have wr2:IntKind.i64.wrap ((bump (bump g0 ((p.1,p.2.1):Int × Int)) ((p.2.1,p.2.2):Int × Int)) ((p.2.2,p.1):Int × Int)+1)=(bump (bump g0 ((p.1,p.2.1):Int × Int)) ((p.2.1,p.2.2):Int × Int)) ((p.2.2,p.1):Int × Int)+1:=IntWalk.i64_in _ (by have:=HN.out;omega)
      rw [rounds_succ]
      go_wp2
      go_region
      go_wp2
      clear lk2 en2 lx2 es2 wr2
      rw [rounds_succ]
      go_wp2
      go_roundw
      case rel=>exact ⟨k+1,by omega,by go_num,mapOf_mono (mapOf_eq M3.out (fun q=>by rw [S1.out])) (by omega),B3.out⟩
      case measure=>simp [intOf];omega
    · obtain rfl:k=n:=by omega
      go_wp2
      go_ret
      exact ⟨rfl,hm,B⟩
theorem cntS_one {f:Nat→P3} {n:Nat} {p q:Int}:cntS f n (p,q)=1 ↔ cnt f n p q=1:=by
  show ((cnt f n p q:Nat):Int)=1 ↔ _
  omega
theorem closed_good {f:Nat→P3} {n:Nat} (h:∀ k,k<n→faceB f n (f k)=true):closedB f n=true:=by
  unfold closedB
  rw [List.all_eq_true]
  exact fun k hk=>h k (List.mem_range.1 hk)
theorem closed_bad {f:Nat→P3} {n k:Nat} (h:k<n) (b:faceB f n (f k)=false):closedB f n=false:=by
  unfold closedB
  rw [List.all_eq_false]
  exact ⟨k,List.mem_range.2 h,by simp [b]⟩
theorem face_good {f:Nat→P3} {n:Nat} {p:P3} (a1:cntS f n (p.1,p.2.1)=1) (a2:cntS f n (p.2.1,p.1)=1) (b1:cntS f n (p.2.1,p.2.2)=1) (b2:cntS f n (p.2.2,p.2.1)=1) (c1:cntS f n (p.2.2,p.1)=1) (c2:cntS f n (p.1,p.2.2)=1):faceB f n p=true:=by
  unfold faceB sideB
  simp [cntS_one.1 a1,cntS_one.1 a2,cntS_one.1 b1,cntS_one.1 b2,cntS_one.1 c1,cntS_one.1 c2]
theorem face_bad {f:Nat→P3} {n:Nat} {p:P3} {x y:Int} (hx:(x,y)=(p.1,p.2.1)∨(x,y)=(p.2.1,p.1)∨(x,y)=(p.2.1,p.2.2)∨(x,y)=(p.2.2,p.2.1)∨(x,y)=(p.2.2,p.1)∨(x,y)=(p.1,p.2.2)) (h:cntS f n (x,y) ≠ 1):faceB f n p=false:=by
  have h':cnt f n x y ≠ 1:=fun e=>h (cntS_one.2 e)
  cases e:faceB f n p with
 |false=>rfl
 |true =>
    exfalso
    unfold faceB sideB at e
    simp only [Bool.and_eq_true,decide_eq_true_eq] at e
    obtain ⟨⟨⟨a1,a2⟩,b1,b2⟩,c1,c2⟩:=e
    rcases hx with hx|hx|hx|hx|hx|hx<;>(simp only [Prod.mk.injEq] at hx;obtain ⟨rfl,rfl⟩:=hx;exact h' (by assumption))
theorem sd_look {g:Int × Int→Int} {w:World} {b n:Nat} (h:SdM g w b n) {t:Int × Int} (h1:Nr t.1) (h2:Nr t.2):(Instr.lookup 173 (.map (some b)) (sdv t) false).run Tryz.prog w=.ok (.int .i64 (g t)) w:=by
  obtain ⟨kl,hkey⟩:=keySd (s:=t) (nr_wf h1) (nr_wf h2)
  exact look_int lawSd Tryz.underlying173 h hkey
theorem closed_row (b off n cap:Nat) (f:Nat→P3) (w:World) (r:Row3 w b off n f) (hn:n≤1000) (nr:∀ k,k<n→Fnr (f k)) :
    Calls Tryz.prog 98 #[.slice (some ⟨b,off,none⟩) n cap] w fun e w'=>e=.returned (.bool (closedB f n))∧Below w.heap.size w w':=by
  have hb1:b<w.heap.size:=r.1
  have R:=Lib.hid r
  have NR:=Lib.hid nr
  have hn':(n:Int)≤1000:=by omega
  obtain ⟨res,hres⟩:∃ res,closedB f n=res:=⟨_,rfl⟩
  have RES:=Lib.hid hres
  rw [hres]
  have CR:=Lib.hid (count_row b off n cap f w r hn nr)
  clear r nr hres
  go_enter Tryz.func98,Tryz.ntmps98
  go_wp2_with fail
  refine CR.out.mono ?_
  rintro e w1 ⟨rfl,hm1,hb2⟩
  have M:=Lib.hid hm1
  have BW:=Lib.hid hb2
  clear hm1 hb2
  go_wp2
  go_loopw [12] (fun kv wr=>∃ k:Nat,k≤n∧kv=.int .i64 k∧(∀ i,i<k→faceB f n (f i)=true)∧SdM (cntS f n) wr w.heap.size (3*n)∧Below w.heap.size w wr) (fun kv _=>n - (intOf kv).toNat)
  case atStart=>exact ⟨0,Nat.zero_le _,rfl,fun i hi=>absurd hi (Nat.not_lt_zero i),M.out,BW.out⟩
  case round =>
    obtain ⟨k,hk,rfl,good,hm,BB⟩:=hrel
    have GOOD:=Lib.hid good
    clear good
    by_cases hlt:k<n
    · have r2:=row3_in R.out BB hb1
      obtain ⟨c1,c2,c3⟩:=r2.2 k hlt
      have r5:=r2.1
      clear r2
      have HM:=Lib.hid hm
      have B0:=Lib.hid BB
      have PBAD:=Lib.hid (fun h:faceB f n (f k)=false=>closed_bad hlt h)
      have FN:=Lib.hid (NR.out k hlt)
      have HW:w.heap.size≤wr.heap.size:=BB.size
      clear hm BB
      have hk1:(k:Int)<(n:Int):=by omega
      obtain ⟨p,hp⟩:∃ p,f k=p:=⟨_,rfl⟩
      rw [hp] at c1 c2 c3 PBAD FN
      have HP:=Lib.hid hp
      clear hp
      have N0:=Lib.hid (show Nr p.1∧Nr p.2.1 from ⟨FN.out.1,FN.out.2.1⟩)
      have N1:=Lib.hid (show Nr p.2.1∧Nr p.2.2 from ⟨FN.out.2.1,FN.out.2.2⟩)
      have N2:=Lib.hid (show Nr p.2.2∧Nr p.1 from ⟨FN.out.2.2,FN.out.1⟩)
      go_wp2_with fail
      refine (sides_any p _).mono ?_
      rintro e u0 ⟨rfl,hb0⟩
      have M0:=Lib.hid (mapOf_below (mapOf_alloc HM.out _) hb0)
      have BU:=Lib.hid (bstep (balloc B0.out _) hb0)
      clear hb0 c1 c2 c3 HM
      have i0:∀ w,(Instr.index 177 (.agg #[.int .i64 p.1,.int .i64 p.2.1,.int .i64 p.2.1,.int .i64 p.2.2,.int .i64 p.2.2,.int .i64 p.1]) (.int .i64 0)).run Tryz.prog w=.ok (.agg #[.int .i64 p.1,.int .i64 p.2.1]) w:=fun _=>by kernel_rfl
      have i1:∀ w,(Instr.index 177 (.agg #[.int .i64 p.1,.int .i64 p.2.1,.int .i64 p.2.1,.int .i64 p.2.2,.int .i64 p.2.2,.int .i64 p.1]) (.int .i64 1)).run Tryz.prog w=.ok (.agg #[.int .i64 p.2.1,.int .i64 p.2.2]) w:=fun _=>by kernel_rfl
      have i2:∀ w,(Instr.index 177 (.agg #[.int .i64 p.1,.int .i64 p.2.1,.int .i64 p.2.1,.int .i64 p.2.2,.int .i64 p.2.2,.int .i64 p.1]) (.int .i64 2)).run Tryz.prog w=.ok (.agg #[.int .i64 p.2.2,.int .i64 p.1]) w:=fun _=>by kernel_rfl
      go_wp2
      refine wp_loop_rounds 4 ?_
      rw [rounds_succ]
      have m0:SdM (cntS f n) (u0.alloc (.cells #[.int .i64 p.1,.int .i64 p.2.1] 176)) w.heap.size (3*n):=mapOf_alloc M0.out _
      have lk:=sd_look (t:=(p.1,p.2.1)) m0 N0.out.1 N0.out.2
      obtain ⟨c,hc⟩:∃ c,cntS f n (p.1,p.2.1)=c:=⟨_,rfl⟩
      rw [hc] at lk
      by_cases h1:c=1
      case neg =>
        have hf:res=false:=by rw [← RES.out];exact PBAD.out (face_bad (.inl rfl) (by rw [hc];exact h1))
        have t1:(c != 1)=true:=bne_iff_ne.2 h1
        clear h1 hc
        subst hf
        go_wp2
        go_ret
        exact ⟨rfl,by have hB:=BU.out;(repeat' (first|exact Below.refl _ _|refine bstep ?_ hB|refine Below.setCell ?_ (by simp<;>omega) _|refine balloc ?_ _|refine Below.drew ?_|refine bdrewN ?_ _))⟩
      case pos =>
        rw [h1] at lk hc
        have C0:=Lib.hid hc
        clear h1 hc c
        have mm0:=Lib.hid m0
        clear m0
        go_wp2_with fail
        refine (back_any (p.1,p.2.1) _).mono ?_
        rintro e v0 ⟨rfl,hv0⟩
        have n0:=mapOf_below mm0.out hv0
        have M1:=Lib.hid n0
        have lk2:=sd_look (t:=(p.2.1,p.1)) n0 N0.out.2 N0.out.1
        clear n0 lk
        obtain ⟨c,hc⟩:∃ c,cntS f n (p.2.1,p.1)=c:=⟨_,rfl⟩
        rw [hc] at lk2
        by_cases h1:c=1
        case neg =>
          have hf:res=false:=by rw [← RES.out];exact PBAD.out (face_bad (.inr (.inl rfl)) (by rw [hc];exact h1))
          have t1:(c != 1)=true:=bne_iff_ne.2 h1
          clear h1 hc
          subst hf
          go_wp2
          go_ret
          exact ⟨rfl,by have hB:=BU.out;(repeat' (first|exact Below.refl _ _|refine bstep ?_ hv0|refine bstep ?_ hB|refine Below.setCell ?_ (by simp<;>omega) _|refine balloc ?_ _|refine Below.drew ?_|refine bdrewN ?_ _))⟩
        case pos =>
          rw [h1] at lk2 hc
          have D0:=Lib.hid hc
          clear h1 hc c
          go_wp2
          clear lk2
          rw [rounds_succ]
          have m1:SdM (cntS f n) (v0.alloc (.cells #[.int .i64 p.2.1,.int .i64 p.2.2] 176)) w.heap.size (3*n):=mapOf_alloc M1.out _
          have lk:=sd_look (t:=(p.2.1,p.2.2)) m1 N1.out.1 N1.out.2
          obtain ⟨c,hc⟩:∃ c,cntS f n (p.2.1,p.2.2)=c:=⟨_,rfl⟩
          rw [hc] at lk
          by_cases h1:c=1
          case neg =>
            have hf:res=false:=by rw [← RES.out];exact PBAD.out (face_bad (.inr (.inr (.inl rfl))) (by rw [hc];exact h1))
            have t1:(c != 1)=true:=bne_iff_ne.2 h1
            clear h1 hc
            subst hf
            go_wp2
            go_ret
            exact ⟨rfl,by have hB:=BU.out;(repeat' (first|exact Below.refl _ _|refine bstep ?_ hv0|refine bstep ?_ hB|refine Below.setCell ?_ (by simp<;>omega) _|refine balloc ?_ _|refine Below.drew ?_|refine bdrewN ?_ _))⟩
          case pos =>
            rw [h1] at lk hc
            have C1:=Lib.hid hc
            clear h1 hc c
            have mm1:=Lib.hid m1
            clear m1
            go_wp2_with fail
            refine (back_any (p.2.1,p.2.2) _).mono ?_
            rintro e v1 ⟨rfl,hv1⟩
            have n1:=mapOf_below mm1.out hv1
            have M2:=Lib.hid n1
            have lk2:=sd_look (t:=(p.2.2,p.2.1)) n1 N1.out.2 N1.out.1
            clear n1 lk
            obtain ⟨c,hc⟩:∃ c,cntS f n (p.2.2,p.2.1)=c:=⟨_,rfl⟩
            rw [hc] at lk2
            by_cases h1:c=1
            case neg =>
              have hf:res=false:=by rw [← RES.out];exact PBAD.out (face_bad (.inr (.inr (.inr (.inl rfl)))) (by rw [hc];exact h1))
              have t1:(c != 1)=true:=bne_iff_ne.2 h1
              clear h1 hc
              subst hf
              go_wp2
              go_ret
              exact ⟨rfl,by have hB:=BU.out;(repeat' (first|exact Below.refl _ _|refine bstep ?_ hv1|refine bstep ?_ hv0|refine bstep ?_ hB|refine Below.setCell ?_ (by simp<;>omega) _|refine balloc ?_ _|refine Below.drew ?_|refine bdrewN ?_ _))⟩
            case pos =>
              rw [h1] at lk2 hc
              have D1:=Lib.hid hc
              clear h1 hc c
              go_wp2
              clear lk2
              rw [rounds_succ]
              have m2:SdM (cntS f n) (v1.alloc (.cells #[.int .i64 p.2.2,.int .i64 p.1] 176)) w.heap.size (3*n):=mapOf_alloc M2.out _
              have lk:=sd_look (t:=(p.2.2,p.1)) m2 N2.out.1 N2.out.2
              obtain ⟨c,hc⟩:∃ c,cntS f n (p.2.2,p.1)=c:=⟨_,rfl⟩
              rw [hc] at lk
              by_cases h1:c=1
              case neg =>
                have hf:res=false:=by rw [← RES.out];exact PBAD.out (face_bad (.inr (.inr (.inr (.inr (.inl rfl))))) (by rw [hc];exact h1))
                have t1:(c != 1)=true:=bne_iff_ne.2 h1
                clear h1 hc
                subst hf
                go_wp2
                go_ret
                exact ⟨rfl,by have hB:=BU.out;(repeat' (first|exact Below.refl _ _|refine bstep ?_ hv1|refine bstep ?_ hv0|refine bstep ?_ hB|refine Below.setCell ?_ (by simp<;>omega) _|refine balloc ?_ _|refine Below.drew ?_|refine bdrewN ?_ _))⟩
              case pos =>
                rw [h1] at lk hc
                have C2:=Lib.hid hc
                clear h1 hc c
                have mm2:=Lib.hid m2
                clear m2
                go_wp2_with fail
                refine (back_any (p.2.2,p.1) _).mono ?_
                rintro e v2 ⟨rfl,hv2⟩
                have n2:=mapOf_below mm2.out hv2
                have M3:=Lib.hid n2
                have lk2:=sd_look (t:=(p.1,p.2.2)) n2 N2.out.2 N2.out.1
                clear n2 lk
                obtain ⟨c,hc⟩:∃ c,cntS f n (p.1,p.2.2)=c:=⟨_,rfl⟩
                rw [hc] at lk2
                by_cases h1:c=1
                case neg =>
                  have hf:res=false:=by rw [← RES.out];exact PBAD.out (face_bad (.inr (.inr (.inr (.inr (.inr rfl))))) (by rw [hc];exact h1))
                  have t1:(c != 1)=true:=bne_iff_ne.2 h1
                  clear h1 hc
                  subst hf
                  go_wp2
                  go_ret
                  exact ⟨rfl,by have hB:=BU.out;(repeat' (first|exact Below.refl _ _|refine bstep ?_ hv2|refine bstep ?_ hv1|refine bstep ?_ hv0|refine bstep ?_ hB|refine Below.setCell ?_ (by simp<;>omega) _|refine balloc ?_ _|refine Below.drew ?_|refine bdrewN ?_ _))⟩
                case pos =>
                  rw [h1] at lk2 hc
                  have D2:=Lib.hid hc
                  clear h1 hc c
                  go_wp2
                  clear lk2
                  rw [rounds_succ]
                  go_wp2
                  go_roundw
                  case rel=>exact ⟨k+1,by omega,by go_num,fun i hi=>by
                      by_cases c:i=k
                      · subst c;rw [HP.out];exact face_good C0.out D0.out C1.out D1.out C2.out D2.out
                      · exact GOOD.out i (by omega),M3.out,by have hB:=BU.out;(repeat' (first|exact Below.refl _ _|refine bstep ?_ hv2|refine bstep ?_ hv1|refine bstep ?_ hv0|refine bstep ?_ hB|refine Below.setCell ?_ (by simp<;>omega) _|refine balloc ?_ _|refine Below.drew ?_|refine bdrewN ?_ _))⟩
                  case measure=>simp [intOf];omega
    · obtain rfl:k=n:=by omega
      have hf:res=true:=by rw [← RES.out];exact closed_good GOOD.out
      subst hf
      go_wp2
      go_ret
      exact ⟨rfl,BB⟩
theorem int_ne {x:Int} (h:x ≠ 0):(x != 0)=true:=bne_iff_ne.2 h
theorem val_big1 (a:Option Addr) (np c:Nat) (a':Option Addr) (nf c':Nat) (w:World) (h:64<np) (l:np≤1000000000) :
    Calls Tryz.prog 48 #[msv a np c a' nf c'] w fun e w'=>e=.returned (.int .i64 4)∧Below w.heap.size w w':=by
  have t1:(64:Int)<(np:Int):=by omega
  have t2:(np:Int)≤1000000000:=by omega
  clear h l
  go_enter Tryz.func48,Tryz.ntmps48
  go_wp2
  go_ret
  exact ⟨rfl,by (repeat' (first|exact Below.refl _ _|refine Below.setCell ?_ (by simp<;>omega) _|refine balloc ?_ _|refine Below.drew ?_|refine bdrewN ?_ _))⟩
theorem val_big2 (a:Option Addr) (np c:Nat) (a':Option Addr) (nf c':Nat) (w:World) (h:np≤64) (k:nf=0) :
    Calls Tryz.prog 48 #[msv a np c a' nf c'] w fun e w'=>e=.returned (.int .i64 4)∧Below w.heap.size w w':=by
  subst k
  have t1:decide ((64:Int)<(np:Int))=false:=decide_eq_false (by omega)
  clear h
  go_enter Tryz.func48,Tryz.ntmps48
  go_wp2
  go_ret
  exact ⟨rfl,by (repeat' (first|exact Below.refl _ _|refine Below.setCell ?_ (by simp<;>omega) _|refine balloc ?_ _|refine Below.drew ?_|refine bdrewN ?_ _))⟩
theorem val_big3 (a:Option Addr) (np c:Nat) (a':Option Addr) (nf c':Nat) (w:World) (h:np≤64) (k:96<nf) (l:nf≤1000000000) :
    Calls Tryz.prog 48 #[msv a np c a' nf c'] w fun e w'=>e=.returned (.int .i64 4)∧Below w.heap.size w w':=by
  have t1:decide ((64:Int)<(np:Int))=false:=decide_eq_false (by omega)
  have t3:((nf:Int) == 0)=false:=beq_eq_false_iff_ne.2 (by omega)
  have t4:(96:Int)<(nf:Int):=by omega
  have t5:(nf:Int)≤1000000000:=by omega
  clear h k l
  go_enter Tryz.func48,Tryz.ntmps48
  go_wp2
  go_ret
  exact ⟨rfl,by (repeat' (first|exact Below.refl _ _|refine Below.setCell ?_ (by simp<;>omega) _|refine balloc ?_ _|refine Below.drew ?_|refine bdrewN ?_ _))⟩
theorem val_pts (a:Option Addr) (np c:Nat) (a':Option Addr) (nf c':Nat) (w:World) (hn:np≤64) (h0:0<nf) (hm:nf≤96) (VP:Hid (∀ W,Below w.heap.size w W→Calls Tryz.prog 96 #[.slice a np c] W fun e w'=>e=.returned (.bool false)∧Below W.heap.size W w')) :
    Calls Tryz.prog 48 #[msv a np c a' nf c'] w fun e w'=>e=.returned (.int .i64 1)∧Below w.heap.size w w':=by
  have t1:decide ((64:Int)<(np:Int))=false:=decide_eq_false (by omega)
  have t3:((nf:Int) == 0)=false:=beq_eq_false_iff_ne.2 (by omega)
  have t4:decide ((96:Int)<(nf:Int))=false:=decide_eq_false (by omega)
  have hm':(nf:Int)≤96:=by omega
  clear hn h0 hm
  go_enter Tryz.func48,Tryz.ntmps48
  go_wp2_with fail
  refine (VP.out _ (by (repeat' (first|exact Below.refl _ _|refine Below.setCell ?_ (by simp<;>omega) _|refine balloc ?_ _|refine Below.drew ?_|refine bdrewN ?_ _)))).mono ?_
  rintro e w1 ⟨rfl,hb1⟩
  go_wp2
  go_ret
  exact ⟨rfl,by (repeat' (first|exact Below.refl _ _|refine bstep ?_ hb1|refine Below.setCell ?_ (by simp<;>omega) _|refine balloc ?_ _|refine Below.drew ?_|refine bdrewN ?_ _))⟩
theorem val_face (a:Option Addr) (np c b' off' nf c' k0:Nat) (F:Nat→P3) (fc:Nat→Int) (w:World) (hn:np≤64) (h0:0<nf) (hm:nf≤96) (r:Row3 w b' off' nf F) (VP:Hid (∀ W,Below w.heap.size w W→Calls Tryz.prog 96 #[.slice a np c] W fun e w'=>e=.returned (.bool true)∧Below W.heap.size W w')) (VF:Hid (∀ k,k<nf→∀ W,Below w.heap.size w W→Calls Tryz.prog 97 #[msv a np c (some ⟨b',off',none⟩) nf c',ptv (F k)] W fun e w'=>e=.returned (.int .i64 (fc k))∧Below W.heap.size W w')) (Z:Hid (∀ k,k<k0→fc k=0)) (hk0:k0<nf) (ne:fc k0 ≠ 0) :
    Calls Tryz.prog 48 #[msv a np c (some ⟨b',off',none⟩) nf c'] w fun e w'=>e=.returned (.int .i64 (fc k0))∧Below w.heap.size w w':=by
  have t1:decide ((64:Int)<(np:Int))=false:=decide_eq_false (by omega)
  have t3:((nf:Int) == 0)=false:=beq_eq_false_iff_ne.2 (by omega)
  have t4:decide ((96:Int)<(nf:Int))=false:=decide_eq_false (by omega)
  have hm':(nf:Int)≤96:=by omega
  have R:=Lib.hid r
  have hb':b'<w.heap.size:=r.1
  clear r
  have NE:=int_ne ne
  clear ne hn
  go_enter Tryz.func48,Tryz.ntmps48
  go_wp2_with fail
  refine (VP.out _ (by (repeat' (first|exact Below.refl _ _|refine Below.setCell ?_ (by simp<;>omega) _|refine balloc ?_ _|refine Below.drew ?_|refine bdrewN ?_ _)))).mono ?_
  rintro e w1 ⟨rfl,hb1⟩
  have B1:=Lib.hid (bstep (balloc (Below.refl _ w) _) hb1)
  have ME:=Lib.hid (mes_below (mes_new w a np c (some ⟨b',off',none⟩) nf c' 25) hb1)
  clear hb1
  obtain ⟨m1,m2,m3⟩:=ME.out
  go_wp2
  clear m1 m2 m3
  go_loopw [29] (fun kv wr=>∃ k:Nat,k≤k0∧kv=.int .i64 k∧Mes wr w.heap.size a np c (some ⟨b',off',none⟩) nf c'∧Below w.heap.size w wr) (fun kv _=>nf - (intOf kv).toNat)
  case atStart=>exact ⟨0,Nat.zero_le _,rfl,ME.out,B1.out⟩
  case round =>
    obtain ⟨k,hk,rfl,hme,BB⟩:=hrel
    have MK:=Lib.hid hme
    have B0:=Lib.hid BB
    clear hme BB
    obtain ⟨m1,m2,m3⟩:=MK.out
    by_cases hlt:k<k0
    · have hkn:k<nf:=by omega
      have r2:=row3_in R.out B0.out hb'
      obtain ⟨c1,c2,c3⟩:=r2.2 k hkn
      have r5:=r2.1
      clear r2
      have hk1:(k:Int)<(nf:Int):=by omega
      have VK:=Lib.hid (VF.out k hkn)
      rw [Z.out k hlt] at VK
      generalize F k=p at *
      go_wp2_with fail
      refine (VK.out _ (by have hB:=B0.out;(repeat' (first|exact Below.refl _ _|refine bstep ?_ hB|refine Below.setCell ?_ (by simp<;>omega) _|refine balloc ?_ _|refine Below.drew ?_|refine bdrewN ?_ _)))).mono ?_
      rintro e w2 ⟨rfl,hb2⟩
      have hme2:=mes_below (mes_alloc MK.out _) hb2
      have B2:=Lib.hid (bstep (balloc B0.out _) hb2)
      clear c1 c2 c3 m1 m2 m3 hb2
      go_wp2
      go_roundw
      case rel=>exact ⟨k+1,by omega,by go_num,hme2,B2.out⟩
      case measure=>simp [intOf];omega
    · obtain rfl:k=k0:=by omega
      have r2:=row3_in R.out B0.out hb'
      obtain ⟨c1,c2,c3⟩:=r2.2 k hk0
      have r5:=r2.1
      clear r2
      have hk1:(k:Int)<(nf:Int):=by omega
      have VK:=Lib.hid (VF.out k hk0)
      generalize F k=p at *
      go_wp2_with fail
      refine (VK.out _ (by have hB:=B0.out;(repeat' (first|exact Below.refl _ _|refine bstep ?_ hB|refine Below.setCell ?_ (by simp<;>omega) _|refine balloc ?_ _|refine Below.drew ?_|refine bdrewN ?_ _)))).mono ?_
      rintro e w2 ⟨rfl,hb2⟩
      go_wp2
      go_ret
      exact ⟨rfl,by have hB:=B0.out;(repeat' (first|exact Below.refl _ _|refine bstep ?_ hb2|refine bstep ?_ hB|refine Below.setCell ?_ (by simp<;>omega) _|refine balloc ?_ _|refine Below.drew ?_|refine bdrewN ?_ _))⟩
theorem val_open (a:Option Addr) (np c b' off' nf c':Nat) (F:Nat→P3) (fc:Nat→Int) (w:World) (hn:np≤64) (h0:0<nf) (hm:nf≤96) (r:Row3 w b' off' nf F) (VP:Hid (∀ W,Below w.heap.size w W→Calls Tryz.prog 96 #[.slice a np c] W fun e w'=>e=.returned (.bool true)∧Below W.heap.size W w')) (VF:Hid (∀ k,k<nf→∀ W,Below w.heap.size w W→Calls Tryz.prog 97 #[msv a np c (some ⟨b',off',none⟩) nf c',ptv (F k)] W fun e w'=>e=.returned (.int .i64 (fc k))∧Below W.heap.size W w')) (Z:Hid (∀ k,k<nf→fc k=0)) (CL:Hid (∀ W,Below w.heap.size w W→Calls Tryz.prog 98 #[.slice (some ⟨b',off',none⟩) nf c'] W fun e w'=>e=.returned (.bool false)∧Below W.heap.size W w')) :
    Calls Tryz.prog 48 #[msv a np c (some ⟨b',off',none⟩) nf c'] w fun e w'=>e=.returned (.int .i64 7)∧Below w.heap.size w w':=by
  have t1:decide ((64:Int)<(np:Int))=false:=decide_eq_false (by omega)
  have t3:((nf:Int) == 0)=false:=beq_eq_false_iff_ne.2 (by omega)
  have t4:decide ((96:Int)<(nf:Int))=false:=decide_eq_false (by omega)
  have hm':(nf:Int)≤96:=by omega
  have R:=Lib.hid r
  have hb':b'<w.heap.size:=r.1
  clear r
  clear hn
  go_enter Tryz.func48,Tryz.ntmps48
  go_wp2_with fail
  refine (VP.out _ (by (repeat' (first|exact Below.refl _ _|refine Below.setCell ?_ (by simp<;>omega) _|refine balloc ?_ _|refine Below.drew ?_|refine bdrewN ?_ _)))).mono ?_
  rintro e w1 ⟨rfl,hb1⟩
  have B1:=Lib.hid (bstep (balloc (Below.refl _ w) _) hb1)
  have ME:=Lib.hid (mes_below (mes_new w a np c (some ⟨b',off',none⟩) nf c' 25) hb1)
  clear hb1
  obtain ⟨m1,m2,m3⟩:=ME.out
  go_wp2
  clear m1 m2 m3
  go_loopw [29] (fun kv wr=>∃ k:Nat,k≤nf∧kv=.int .i64 k∧Mes wr w.heap.size a np c (some ⟨b',off',none⟩) nf c'∧Below w.heap.size w wr) (fun kv _=>nf - (intOf kv).toNat)
  case atStart=>exact ⟨0,Nat.zero_le _,rfl,ME.out,B1.out⟩
  case round =>
    obtain ⟨k,hk,rfl,hme,BB⟩:=hrel
    have MK:=Lib.hid hme
    have B0:=Lib.hid BB
    clear hme BB
    obtain ⟨m1,m2,m3⟩:=MK.out
    by_cases hlt:k<nf
    · have r2:=row3_in R.out B0.out hb'
      obtain ⟨c1,c2,c3⟩:=r2.2 k hlt
      have r5:=r2.1
      clear r2
      have hk1:(k:Int)<(nf:Int):=by omega
      have VK:=Lib.hid (VF.out k hlt)
      rw [Z.out k hlt] at VK
      generalize F k=p at *
      go_wp2_with fail
      refine (VK.out _ (by have hB:=B0.out;(repeat' (first|exact Below.refl _ _|refine bstep ?_ hB|refine Below.setCell ?_ (by simp<;>omega) _|refine balloc ?_ _|refine Below.drew ?_|refine bdrewN ?_ _)))).mono ?_
      rintro e w2 ⟨rfl,hb2⟩
      have hme2:=mes_below (mes_alloc MK.out _) hb2
      have B2:=Lib.hid (bstep (balloc B0.out _) hb2)
      clear c1 c2 c3 m1 m2 m3 hb2
      go_wp2
      go_roundw
      case rel=>exact ⟨k+1,by omega,by go_num,hme2,B2.out⟩
      case measure=>simp [intOf];omega
    · obtain rfl:k=nf:=by omega
      go_wp2_with fail
      refine (CL.out _ (by have hB:=B0.out;(repeat' (first|exact Below.refl _ _|refine bstep ?_ hB|refine Below.setCell ?_ (by simp<;>omega) _|refine balloc ?_ _|refine Below.drew ?_|refine bdrewN ?_ _)))).mono ?_
      rintro e w3 ⟨rfl,hb3⟩
      have MK3:=Lib.hid (mes_below MK.out hb3)
      clear m1 m2 m3
      obtain ⟨m1,m2,m3⟩:=MK3.out
      go_wp2
      go_ret
      exact ⟨rfl,by have hB:=B0.out;(repeat' (first|exact Below.refl _ _|refine bstep ?_ hB|refine bstep ?_ hb3|refine Below.setCell ?_ (by simp<;>omega) _|refine balloc ?_ _|refine Below.drew ?_|refine bdrewN ?_ _))⟩
theorem val_used (a:Option Addr) (np c b' off' nf c':Nat) (F:Nat→P3) (fc:Nat→Int) (w:World) (hn:np≤64) (h0:0<nf) (hm:nf≤96) (r:Row3 w b' off' nf F) (VP:Hid (∀ W,Below w.heap.size w W→Calls Tryz.prog 96 #[.slice a np c] W fun e w'=>e=.returned (.bool true)∧Below W.heap.size W w')) (VF:Hid (∀ k,k<nf→∀ W,Below w.heap.size w W→Calls Tryz.prog 97 #[msv a np c (some ⟨b',off',none⟩) nf c',ptv (F k)] W fun e w'=>e=.returned (.int .i64 (fc k))∧Below W.heap.size W w')) (Z:Hid (∀ k,k<nf→fc k=0)) (CL:Hid (∀ W,Below w.heap.size w W→Calls Tryz.prog 98 #[.slice (some ⟨b',off',none⟩) nf c'] W fun e w'=>e=.returned (.bool true)∧Below W.heap.size W w')) (US:Hid (∀ W,Below w.heap.size w W→Calls Tryz.prog 99 #[msv a np c (some ⟨b',off',none⟩) nf c'] W fun e w'=>e=.returned (.bool false)∧Below W.heap.size W w')) :
    Calls Tryz.prog 48 #[msv a np c (some ⟨b',off',none⟩) nf c'] w fun e w'=>e=.returned (.int .i64 5)∧Below w.heap.size w w':=by
  have t1:decide ((64:Int)<(np:Int))=false:=decide_eq_false (by omega)
  have t3:((nf:Int) == 0)=false:=beq_eq_false_iff_ne.2 (by omega)
  have t4:decide ((96:Int)<(nf:Int))=false:=decide_eq_false (by omega)
  have hm':(nf:Int)≤96:=by omega
  have R:=Lib.hid r
  have hb':b'<w.heap.size:=r.1
  clear r
  clear hn
  go_enter Tryz.func48,Tryz.ntmps48
  go_wp2_with fail
  refine (VP.out _ (by (repeat' (first|exact Below.refl _ _|refine Below.setCell ?_ (by simp<;>omega) _|refine balloc ?_ _|refine Below.drew ?_|refine bdrewN ?_ _)))).mono ?_
  rintro e w1 ⟨rfl,hb1⟩
  have B1:=Lib.hid (bstep (balloc (Below.refl _ w) _) hb1)
  have ME:=Lib.hid (mes_below (mes_new w a np c (some ⟨b',off',none⟩) nf c' 25) hb1)
  clear hb1
  obtain ⟨m1,m2,m3⟩:=ME.out
  go_wp2
  clear m1 m2 m3
  go_loopw [29] (fun kv wr=>∃ k:Nat,k≤nf∧kv=.int .i64 k∧Mes wr w.heap.size a np c (some ⟨b',off',none⟩) nf c'∧Below w.heap.size w wr) (fun kv _=>nf - (intOf kv).toNat)
  case atStart=>exact ⟨0,Nat.zero_le _,rfl,ME.out,B1.out⟩
  case round =>
    obtain ⟨k,hk,rfl,hme,BB⟩:=hrel
    have MK:=Lib.hid hme
    have B0:=Lib.hid BB
    clear hme BB
    obtain ⟨m1,m2,m3⟩:=MK.out
    by_cases hlt:k<nf
    · have r2:=row3_in R.out B0.out hb'
      obtain ⟨c1,c2,c3⟩:=r2.2 k hlt
      have r5:=r2.1
      clear r2
      have hk1:(k:Int)<(nf:Int):=by omega
      have VK:=Lib.hid (VF.out k hlt)
      rw [Z.out k hlt] at VK
      generalize F k=p at *
      go_wp2_with fail
      refine (VK.out _ (by have hB:=B0.out;(repeat' (first|exact Below.refl _ _|refine bstep ?_ hB|refine Below.setCell ?_ (by simp<;>omega) _|refine balloc ?_ _|refine Below.drew ?_|refine bdrewN ?_ _)))).mono ?_
      rintro e w2 ⟨rfl,hb2⟩
      have hme2:=mes_below (mes_alloc MK.out _) hb2
      have B2:=Lib.hid (bstep (balloc B0.out _) hb2)
      clear c1 c2 c3 m1 m2 m3 hb2
      go_wp2
      go_roundw
      case rel=>exact ⟨k+1,by omega,by go_num,hme2,B2.out⟩
      case measure=>simp [intOf];omega
    · obtain rfl:k=nf:=by omega
      go_wp2_with fail
      refine (CL.out _ (by have hB:=B0.out;(repeat' (first|exact Below.refl _ _|refine bstep ?_ hB|refine Below.setCell ?_ (by simp<;>omega) _|refine balloc ?_ _|refine Below.drew ?_|refine bdrewN ?_ _)))).mono ?_
      rintro e w3 ⟨rfl,hb3⟩
      have MK3:=Lib.hid (mes_below MK.out hb3)
      clear m1 m2 m3
      obtain ⟨m1,m2,m3⟩:=MK3.out
      go_wp2_with fail
      refine (US.out _ (by have hB:=B0.out;(repeat' (first|exact Below.refl _ _|refine bstep ?_ hB|refine bstep ?_ hb3|refine Below.setCell ?_ (by simp<;>omega) _|refine balloc ?_ _|refine Below.drew ?_|refine bdrewN ?_ _)))).mono ?_
      rintro e w4 ⟨rfl,hb4⟩
      have MK4:=Lib.hid (mes_below MK3.out hb4)
      clear m1 m2 m3
      obtain ⟨m1,m2,m3⟩:=MK4.out
      go_wp2
      go_ret
      exact ⟨rfl,by have hB:=B0.out;(repeat' (first|exact Below.refl _ _|refine bstep ?_ hB|refine bstep ?_ hb3|refine bstep ?_ hb4|refine Below.setCell ?_ (by simp<;>omega) _|refine balloc ?_ _|refine Below.drew ?_|refine bdrewN ?_ _))⟩
theorem val_turned (a:Option Addr) (np c b' off' nf c':Nat) (F:Nat→P3) (fc:Nat→Int) (w:World) (hn:np≤64) (h0:0<nf) (hm:nf≤96) (r:Row3 w b' off' nf F) (VP:Hid (∀ W,Below w.heap.size w W→Calls Tryz.prog 96 #[.slice a np c] W fun e w'=>e=.returned (.bool true)∧Below W.heap.size W w')) (VF:Hid (∀ k,k<nf→∀ W,Below w.heap.size w W→Calls Tryz.prog 97 #[msv a np c (some ⟨b',off',none⟩) nf c',ptv (F k)] W fun e w'=>e=.returned (.int .i64 (fc k))∧Below W.heap.size W w')) (Z:Hid (∀ k,k<nf→fc k=0)) (CL:Hid (∀ W,Below w.heap.size w W→Calls Tryz.prog 98 #[.slice (some ⟨b',off',none⟩) nf c'] W fun e w'=>e=.returned (.bool true)∧Below W.heap.size W w')) (US:Hid (∀ W,Below w.heap.size w W→Calls Tryz.prog 99 #[msv a np c (some ⟨b',off',none⟩) nf c'] W fun e w'=>e=.returned (.bool true)∧Below W.heap.size W w')) (vo:Int) (VO:Hid (∀ W,Below w.heap.size w W→Calls Tryz.prog 100 #[msv a np c (some ⟨b',off',none⟩) nf c'] W fun e w'=>e=.returned (.int .i64 vo)∧Below W.heap.size W w')) (hv:vo≤0) :
    Calls Tryz.prog 48 #[msv a np c (some ⟨b',off',none⟩) nf c'] w fun e w'=>e=.returned (.int .i64 8)∧Below w.heap.size w w':=by
  have t1:decide ((64:Int)<(np:Int))=false:=decide_eq_false (by omega)
  have t3:((nf:Int) == 0)=false:=beq_eq_false_iff_ne.2 (by omega)
  have t4:decide ((96:Int)<(nf:Int))=false:=decide_eq_false (by omega)
  have hm':(nf:Int)≤96:=by omega
  have R:=Lib.hid r
  have hb':b'<w.heap.size:=r.1
  clear r
  clear hn
  go_enter Tryz.func48,Tryz.ntmps48
  go_wp2_with fail
  refine (VP.out _ (by (repeat' (first|exact Below.refl _ _|refine Below.setCell ?_ (by simp<;>omega) _|refine balloc ?_ _|refine Below.drew ?_|refine bdrewN ?_ _)))).mono ?_
  rintro e w1 ⟨rfl,hb1⟩
  have B1:=Lib.hid (bstep (balloc (Below.refl _ w) _) hb1)
  have ME:=Lib.hid (mes_below (mes_new w a np c (some ⟨b',off',none⟩) nf c' 25) hb1)
  clear hb1
  obtain ⟨m1,m2,m3⟩:=ME.out
  go_wp2
  clear m1 m2 m3
  go_loopw [29] (fun kv wr=>∃ k:Nat,k≤nf∧kv=.int .i64 k∧Mes wr w.heap.size a np c (some ⟨b',off',none⟩) nf c'∧Below w.heap.size w wr) (fun kv _=>nf - (intOf kv).toNat)
  case atStart=>exact ⟨0,Nat.zero_le _,rfl,ME.out,B1.out⟩
  case round =>
    obtain ⟨k,hk,rfl,hme,BB⟩:=hrel
    have MK:=Lib.hid hme
    have B0:=Lib.hid BB
    clear hme BB
    obtain ⟨m1,m2,m3⟩:=MK.out
    by_cases hlt:k<nf
    · have r2:=row3_in R.out B0.out hb'
      obtain ⟨c1,c2,c3⟩:=r2.2 k hlt
      have r5:=r2.1
      clear r2
      have hk1:(k:Int)<(nf:Int):=by omega
      have VK:=Lib.hid (VF.out k hlt)
      rw [Z.out k hlt] at VK
      generalize F k=p at *
      go_wp2_with fail
      refine (VK.out _ (by have hB:=B0.out;(repeat' (first|exact Below.refl _ _|refine bstep ?_ hB|refine Below.setCell ?_ (by simp<;>omega) _|refine balloc ?_ _|refine Below.drew ?_|refine bdrewN ?_ _)))).mono ?_
      rintro e w2 ⟨rfl,hb2⟩
      have hme2:=mes_below (mes_alloc MK.out _) hb2
      have B2:=Lib.hid (bstep (balloc B0.out _) hb2)
      clear c1 c2 c3 m1 m2 m3 hb2
      go_wp2
      go_roundw
      case rel=>exact ⟨k+1,by omega,by go_num,hme2,B2.out⟩
      case measure=>simp [intOf];omega
    · obtain rfl:k=nf:=by omega
      go_wp2_with fail
      refine (CL.out _ (by have hB:=B0.out;(repeat' (first|exact Below.refl _ _|refine bstep ?_ hB|refine Below.setCell ?_ (by simp<;>omega) _|refine balloc ?_ _|refine Below.drew ?_|refine bdrewN ?_ _)))).mono ?_
      rintro e w3 ⟨rfl,hb3⟩
      have MK3:=Lib.hid (mes_below MK.out hb3)
      clear m1 m2 m3
      obtain ⟨m1,m2,m3⟩:=MK3.out
      go_wp2_with fail
      refine (US.out _ (by have hB:=B0.out;(repeat' (first|exact Below.refl _ _|refine bstep ?_ hB|refine bstep ?_ hb3|refine Below.setCell ?_ (by simp<;>omega) _|refine balloc ?_ _|refine Below.drew ?_|refine bdrewN ?_ _)))).mono ?_
      rintro e w4 ⟨rfl,hb4⟩
      have MK4:=Lib.hid (mes_below MK3.out hb4)
      clear m1 m2 m3
      obtain ⟨m1,m2,m3⟩:=MK4.out
      go_wp2_with fail
      refine (VO.out _ (by have hB:=B0.out;(repeat' (first|exact Below.refl _ _|refine bstep ?_ hB|refine bstep ?_ hb3|refine bstep ?_ hb4|refine Below.setCell ?_ (by simp<;>omega) _|refine balloc ?_ _|refine Below.drew ?_|refine bdrewN ?_ _)))).mono ?_
      rintro e w5 ⟨rfl,hb5⟩
      have MK5:=Lib.hid (mes_below MK4.out hb5)
      clear m1 m2 m3
      obtain ⟨m1,m2,m3⟩:=MK5.out
      go_wp2
      go_ret
      exact ⟨rfl,by have hB:=B0.out;(repeat' (first|exact Below.refl _ _|refine bstep ?_ hB|refine bstep ?_ hb3|refine bstep ?_ hb4|refine bstep ?_ hb5|refine Below.setCell ?_ (by simp<;>omega) _|refine balloc ?_ _|refine Below.drew ?_|refine bdrewN ?_ _))⟩
theorem val_ok (a:Option Addr) (np c b' off' nf c':Nat) (F:Nat→P3) (fc:Nat→Int) (w:World) (hn:np≤64) (h0:0<nf) (hm:nf≤96) (r:Row3 w b' off' nf F) (VP:Hid (∀ W,Below w.heap.size w W→Calls Tryz.prog 96 #[.slice a np c] W fun e w'=>e=.returned (.bool true)∧Below W.heap.size W w')) (VF:Hid (∀ k,k<nf→∀ W,Below w.heap.size w W→Calls Tryz.prog 97 #[msv a np c (some ⟨b',off',none⟩) nf c',ptv (F k)] W fun e w'=>e=.returned (.int .i64 (fc k))∧Below W.heap.size W w')) (Z:Hid (∀ k,k<nf→fc k=0)) (CL:Hid (∀ W,Below w.heap.size w W→Calls Tryz.prog 98 #[.slice (some ⟨b',off',none⟩) nf c'] W fun e w'=>e=.returned (.bool true)∧Below W.heap.size W w')) (US:Hid (∀ W,Below w.heap.size w W→Calls Tryz.prog 99 #[msv a np c (some ⟨b',off',none⟩) nf c'] W fun e w'=>e=.returned (.bool true)∧Below W.heap.size W w')) (vo:Int) (VO:Hid (∀ W,Below w.heap.size w W→Calls Tryz.prog 100 #[msv a np c (some ⟨b',off',none⟩) nf c'] W fun e w'=>e=.returned (.int .i64 vo)∧Below W.heap.size W w')) (hv:0<vo) :
    Calls Tryz.prog 48 #[msv a np c (some ⟨b',off',none⟩) nf c'] w fun e w'=>e=.returned (.int .i64 0)∧Below w.heap.size w w':=by
  have t1:decide ((64:Int)<(np:Int))=false:=decide_eq_false (by omega)
  have t3:((nf:Int) == 0)=false:=beq_eq_false_iff_ne.2 (by omega)
  have t4:decide ((96:Int)<(nf:Int))=false:=decide_eq_false (by omega)
  have hm':(nf:Int)≤96:=by omega
  have R:=Lib.hid r
  have hb':b'<w.heap.size:=r.1
  clear r
  clear hn
  go_enter Tryz.func48,Tryz.ntmps48
  go_wp2_with fail
  refine (VP.out _ (by (repeat' (first|exact Below.refl _ _|refine Below.setCell ?_ (by simp<;>omega) _|refine balloc ?_ _|refine Below.drew ?_|refine bdrewN ?_ _)))).mono ?_
  rintro e w1 ⟨rfl,hb1⟩
  have B1:=Lib.hid (bstep (balloc (Below.refl _ w) _) hb1)
  have ME:=Lib.hid (mes_below (mes_new w a np c (some ⟨b',off',none⟩) nf c' 25) hb1)
  clear hb1
  obtain ⟨m1,m2,m3⟩:=ME.out
  go_wp2
  clear m1 m2 m3
  go_loopw [29] (fun kv wr=>∃ k:Nat,k≤nf∧kv=.int .i64 k∧Mes wr w.heap.size a np c (some ⟨b',off',none⟩) nf c'∧Below w.heap.size w wr) (fun kv _=>nf - (intOf kv).toNat)
  case atStart=>exact ⟨0,Nat.zero_le _,rfl,ME.out,B1.out⟩
  case round =>
    obtain ⟨k,hk,rfl,hme,BB⟩:=hrel
    have MK:=Lib.hid hme
    have B0:=Lib.hid BB
    clear hme BB
    obtain ⟨m1,m2,m3⟩:=MK.out
    by_cases hlt:k<nf
    · have r2:=row3_in R.out B0.out hb'
      obtain ⟨c1,c2,c3⟩:=r2.2 k hlt
      have r5:=r2.1
      clear r2
      have hk1:(k:Int)<(nf:Int):=by omega
      have VK:=Lib.hid (VF.out k hlt)
      rw [Z.out k hlt] at VK
      generalize F k=p at *
      go_wp2_with fail
      refine (VK.out _ (by have hB:=B0.out;(repeat' (first|exact Below.refl _ _|refine bstep ?_ hB|refine Below.setCell ?_ (by simp<;>omega) _|refine balloc ?_ _|refine Below.drew ?_|refine bdrewN ?_ _)))).mono ?_
      rintro e w2 ⟨rfl,hb2⟩
      have hme2:=mes_below (mes_alloc MK.out _) hb2
      have B2:=Lib.hid (bstep (balloc B0.out _) hb2)
      clear c1 c2 c3 m1 m2 m3 hb2
      go_wp2
      go_roundw
      case rel=>exact ⟨k+1,by omega,by go_num,hme2,B2.out⟩
      case measure=>simp [intOf];omega
    · obtain rfl:k=nf:=by omega
      go_wp2_with fail
      refine (CL.out _ (by have hB:=B0.out;(repeat' (first|exact Below.refl _ _|refine bstep ?_ hB|refine Below.setCell ?_ (by simp<;>omega) _|refine balloc ?_ _|refine Below.drew ?_|refine bdrewN ?_ _)))).mono ?_
      rintro e w3 ⟨rfl,hb3⟩
      have MK3:=Lib.hid (mes_below MK.out hb3)
      clear m1 m2 m3
      obtain ⟨m1,m2,m3⟩:=MK3.out
      go_wp2_with fail
      refine (US.out _ (by have hB:=B0.out;(repeat' (first|exact Below.refl _ _|refine bstep ?_ hB|refine bstep ?_ hb3|refine Below.setCell ?_ (by simp<;>omega) _|refine balloc ?_ _|refine Below.drew ?_|refine bdrewN ?_ _)))).mono ?_
      rintro e w4 ⟨rfl,hb4⟩
      have MK4:=Lib.hid (mes_below MK3.out hb4)
      clear m1 m2 m3
      obtain ⟨m1,m2,m3⟩:=MK4.out
      go_wp2_with fail
      refine (VO.out _ (by have hB:=B0.out;(repeat' (first|exact Below.refl _ _|refine bstep ?_ hB|refine bstep ?_ hb3|refine bstep ?_ hb4|refine Below.setCell ?_ (by simp<;>omega) _|refine balloc ?_ _|refine Below.drew ?_|refine bdrewN ?_ _)))).mono ?_
      rintro e w5 ⟨rfl,hb5⟩
      have MK5:=Lib.hid (mes_below MK4.out hb5)
      clear m1 m2 m3
      obtain ⟨m1,m2,m3⟩:=MK5.out
      go_wp2
      go_ret
      exact ⟨rfl,by have hB:=B0.out;(repeat' (first|exact Below.refl _ _|refine bstep ?_ hB|refine bstep ?_ hb3|refine bstep ?_ hb4|refine bstep ?_ hb5|refine Below.setCell ?_ (by simp<;>omega) _|refine balloc ?_ _|refine Below.drew ?_|refine bdrewN ?_ _))⟩
def Lst (w:World) (a:Option Addr) (n:Nat) (f:Nat→P3):Prop:=0<n→∃ b off,a=some ⟨b,off,none⟩∧Row3 w b off n f
theorem lst_below {w w1:World} {a:Option Addr} {n:Nat} {f:Nat→P3} (h:Lst w a n f) (hb:Below w.heap.size w w1):Lst w1 a n f:=fun h0=>by
  obtain ⟨b,off,e,r⟩:=h h0
  exact ⟨b,off,e,row3_below r hb⟩
theorem first_bad3 (f:Nat→Int) (n:Nat):(∀ k,k<n→f k=0)∨∃ k0,k0<n∧f k0 ≠ 0∧∀ k,k<k0→f k=0:=by
  induction n with
 |zero=>exact Or.inl (fun k hk=>absurd hk (Nat.not_lt_zero k))
 |succ n ih =>
    rcases ih with ih|⟨k0,h1,h2,h3⟩
    · by_cases e:f n=0
      · exact Or.inl (fun k hk=>by
          by_cases c:k=n
          · rw [c,e]
          · exact ih k (by omega))
      · exact Or.inr ⟨n,by omega,e,ih⟩
    · exact Or.inr ⟨k0,by omega,h2,h3⟩
theorem fcodes_zero {np:Nat} {P F:Nat→P3} {n:Nat} (h:∀ k,k<n→fcode np P (F k)=0):fcodes np P F n=0:=by
  induction n with
 |zero=>rfl
 |succ n ih =>
    show (if fcodes np P F n=0 then fcode np P (F n) else fcodes np P F n)=0
    rw [if_pos (ih (fun k hk=>h k (by omega)))]
    exact h n (by omega)
theorem fcodes_bad {np:Nat} {P F:Nat→P3} {n k0:Nat} (hk:k0<n) (ne:fcode np P (F k0) ≠ 0) (h:∀ k,k<k0→fcode np P (F k)=0):fcodes np P F n=fcode np P (F k0):=by
  induction n with
 |zero=>omega
 |succ n ih =>
    show (if fcodes np P F n=0 then fcode np P (F n) else fcodes np P F n)=_
    by_cases c:k0=n
    · subst c;rw [if_pos (fcodes_zero h)]
    · rw [ih (by omega),if_neg ne]
theorem sh_fcode_ok {np:Nat} {P:Nat→P3} {p:P3} (h:fcode np P p=0):Fok np p:=by
  unfold fcode at h
  split at h
  · assumption
  · exact absurd h (by decide)
theorem fcode_in {np:Nat} {P:Nat→P3} {x y z:Nat} (hx:x<np) (hy:y<np) (hz:z<np) (h:∀ i,i<np→inP 64 (P i)=true):fcode np P ((x:Int),(y:Int),(z:Int))=pcode (P x) (P y) (P z):=by
  unfold fcode pcode
  rw [if_pos (show 0≤(x:Int)∧(x:Int)<np∧0≤(y:Int)∧(y:Int)<np∧0≤(z:Int)∧(z:Int)<np by omega),h x hx,h y hy,h z hz]
  rfl
theorem pts_in {P:Nat→P3} {np:Nat} (h:ptsB P np=true):∀ i,i<np→inP 64 (P i)=true:=by
  intro i hi
  unfold ptsB at h
  rw [List.all_eq_true] at h
  have:=h i (List.mem_range.2 hi)
  unfold ptB at this
  simp only [Bool.and_eq_true] at this
  exact this.1
theorem vpts_any (a:Option Addr) (n c:Nat) (P:Nat→P3) (w:World) (r:Lst w a n P) (hn:n≤1000000) :
    Calls Tryz.prog 96 #[.slice a n c] w fun e w'=>e=.returned (.bool (ptsB P n))∧Below w.heap.size w w':=by
  by_cases h:n=0
  · subst h;exact vpts_zero a c w
  · obtain ⟨b,off,rfl,q⟩:=r (by omega)
    exact vpts_row b off n c P w q hn
theorem vf_any (a:Option Addr) (np c:Nat) (a':Option Addr) (nf c':Nat) (P:Nat→P3) (p:P3) (w:World) (r:Lst w a np P) (hn:np≤1000000) (hi:∀ i,i<np→inP 64 (P i)=true) :
    Calls Tryz.prog 97 #[msv a np c a' nf c',ptv p] w fun e w'=>e=.returned (.int .i64 (fcode np P p))∧Below w.heap.size w w':=by
  by_cases h:Fok np p
  · obtain ⟨x,y,z,rfl,hx,hy,hz⟩:=fok_nat h
    obtain ⟨b,off,rfl,q⟩:=r (by omega)
    rw [fcode_in hx hy hz hi]
    exact vf_nat b off np c a' nf c' x y z P w hn q hx hy hz
  · have e:fcode np P p=5:=by unfold fcode;exact if_neg h
    rw [e]
    unfold Fok at h
    rcases Int.lt_or_le p.1 0 with k|h1
    · exact vf_lo0 a np c a' nf c' p w hn k
    rcases Int.lt_or_le p.1 np with h2|k
    case inr=>exact vf_hi0 a np c a' nf c' p w hn h1 k
    rcases Int.lt_or_le p.2.1 0 with k|h3
    · exact vf_lo1 a np c a' nf c' p w hn h1 h2 k
    rcases Int.lt_or_le p.2.1 np with h4|k
    case inr=>exact vf_hi1 a np c a' nf c' p w hn h1 h2 h3 k
    rcases Int.lt_or_le p.2.2 0 with k|h5
    · exact vf_lo2 a np c a' nf c' p w hn h1 h2 h3 h4 k
    rcases Int.lt_or_le p.2.2 np with h6|k
    case inr=>exact vf_hi2 a np c a' nf c' p w hn h1 h2 h3 h4 h5 k
    exact absurd ⟨h1,h2,h3,h4,h5,h6⟩ h
theorem fnr_of {np:Nat} {p:P3} (hn:np≤1000000) (h:Fok np p):Fnr p:=by
  unfold Fok at h
  exact ⟨⟨by omega,by omega⟩,⟨by omega,by omega⟩,⟨by omega,by omega⟩⟩
theorem val_any (a:Option Addr) (np c:Nat) (a':Option Addr) (nf c':Nat) (P F:Nat→P3) (w:World) (rp:Lst w a np P) (rf:Lst w a' nf F) (hn:np≤1000000) (hm:nf≤1000000) :
    Calls Tryz.prog 48 #[msv a np c a' nf c'] w fun e w'=>e=.returned (.int .i64 (vcode ⟨np,nf,P,F⟩))∧Below w.heap.size w w':=by
  unfold vcode
  dsimp only
  by_cases g:64<np∨nf=0∨96<nf
  · rw [if_pos g]
    rcases Nat.lt_or_ge 64 np with h|h
    · exact val_big1 a np c a' nf c' w h (by omega)
    · by_cases k:nf=0
      · exact val_big2 a np c a' nf c' w h k
      · exact val_big3 a np c a' nf c' w h (by omega) (by omega)
  rw [if_neg g]
  have g1:np≤64:=by omega
  have g2:0<nf:=by omega
  have g3:nf≤96:=by omega
  clear g
  have VP:=fun W (B:Below w.heap.size w W)=>vpts_any a np c P W (lst_below rp B) hn
  cases h1:ptsB P np with
 |false =>
    rw [if_pos (by rfl)]
    rw [h1] at VP
    exact val_pts a np c a' nf c' w g1 g2 g3 (Lib.hid VP)
 |true =>
    rw [if_neg (by decide)]
    rw [h1] at VP
    have hi:=pts_in h1
    obtain ⟨b',off',rfl,rF⟩:=rf g2
    have VF:∀ k,k<nf→∀ W,Below w.heap.size w W→Calls Tryz.prog 97 #[msv a np c (some ⟨b',off',none⟩) nf c',ptv (F k)] W fun e w'=>e=.returned (.int .i64 (fcode np P (F k)))∧Below W.heap.size W w' :=
      fun k _ W B=>vf_any a np c _ nf c' P (F k) W (lst_below rp B) hn hi
    rcases first_bad3 (fun k=>fcode np P (F k)) nf with z|⟨k0,hk0,ne,z⟩
    case inr =>
      rw [fcodes_bad hk0 ne z,if_pos ne]
      exact val_face a np c b' off' nf c' k0 F (fun k=>fcode np P (F k)) w g1 g2 g3 rF (Lib.hid VP) (Lib.hid VF) (Lib.hid z) hk0 ne
    rw [fcodes_zero z,if_neg (by decide)]
    have fo:∀ k,k<nf→Fok np (F k):=fun k hk=>sh_fcode_ok (z k hk)
    have hnp:0<np:=by have:=fo 0 g2;unfold Fok at this;omega
    obtain ⟨b,off,rfl,rP⟩:=rp hnp
    have nr:∀ k,k<nf→Fnr (F k):=fun k hk=>fnr_of hn (fo k hk)
    have tb:TrB P F nf:=trB_of (fun i h=>inP_iff.1 (hi i h)) fo
    have CL:=fun W (B:Below w.heap.size w W)=>closed_row b' off' nf c' F W (row3_below rF B) (by omega) nr
    have US:=fun W (B:Below w.heap.size w W)=>used_row b off np c b' off' nf c' F W (row3_below rF B) hn hm fo
    have VO:=fun W (B:Below w.heap.size w W)=>vol_row b off np c b' off' nf c' P F W (row3_below rP B) (row3_below rF B) hn hm g2 fo tb
    cases h2:closedB F nf with
   |false =>
      rw [if_pos (by rfl)]
      rw [h2] at CL
      exact val_open _ np c b' off' nf c' F (fun k=>fcode np P (F k)) w g1 g2 g3 rF (Lib.hid VP) (Lib.hid VF) (Lib.hid z) (Lib.hid CL)
   |true =>
      rw [if_neg (by decide)]
      rw [h2] at CL
      cases h3:allB F nf np with
     |false =>
        rw [if_pos (by rfl)]
        rw [h3] at US
        exact val_used _ np c b' off' nf c' F (fun k=>fcode np P (F k)) w g1 g2 g3 rF (Lib.hid VP) (Lib.hid VF) (Lib.hid z) (Lib.hid CL) (Lib.hid US)
     |true =>
        rw [if_neg (by decide)]
        rw [h3] at US
        by_cases h4:vol P F nf≤0
        · rw [if_pos h4]
          exact val_turned _ np c b' off' nf c' F (fun k=>fcode np P (F k)) w g1 g2 g3 rF (Lib.hid VP) (Lib.hid VF) (Lib.hid z) (Lib.hid CL) (Lib.hid US) _ (Lib.hid VO) h4
        · rw [if_neg h4]
          exact val_ok _ np c b' off' nf c' F (fun k=>fcode np P (F k)) w g1 g2 g3 rF (Lib.hid VP) (Lib.hid VF) (Lib.hid z) (Lib.hid CL) (Lib.hid US) _ (Lib.hid VO) (by omega)
end Go.Proofs.YtbcjiigmbcfkeaaGreat
