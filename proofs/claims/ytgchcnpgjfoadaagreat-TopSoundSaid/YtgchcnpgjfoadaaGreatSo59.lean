import Derived.Lib.OwnBridge
import Derived.Shelf.SlSortCmp.NoneTotal
import Derived.Test.YtgchcnpgjfoadaaGreatShelfB
import Derived.Test.YtgchcnpgjfoadaaGreatSo58
namespace Go.Proofs.YtgchcnpgjfoadaaGreat
open Go.ChangeShapes Go.WideShapes Go.RowKit
open Sh
open Go.Shelf
def arD (f g:Nat→Int) (n:Nat):Array (Int × Int × Int):=((List.range n).map fun k=>(f k,g k,(k:Int))).toArray
theorem arD_size (f g:Nat→Int) (n:Nat):(arD f g n).size=n:=by simp [arD]
theorem arD_at (f g:Nat→Int) {n k:Nat} (h:k < n):((arD f g n)[k]!)=(f k,g k,(k:Int)):=by
  unfold arD
  rw [getElem!_pos _ k (by simpa using h)]
  simp
theorem arD_mem {f g:Nat→Int} {n:Nat} {x:Int × Int × Int} (h:x ∈ (arD f g n).toList):∃ k,k < n∧x=(f k,g k,(k:Int)):=by
  unfold arD at h
  rw [List.mem_map] at h
  obtain ⟨k,hk,e⟩:=h
  exact ⟨k,List.mem_range.1 hk,e.symm⟩
theorem holds_ar {W:World} {B q cap n:Nat} {f g:Nat→Int} (h:W.ownsRow B 83 3 (.slice (some ⟨q,0,none⟩) n cap) n (ars f g n)):Go.Sort.HoldsK encA 3 W q 0 (arD f g n):=by
  intro j hj
  have sz:(Go.Sort.flatK encA 3 (arD f g n)).size=n * 3:=by rw [Go.Sort.size_flatK,arD_size]
  rw [sz] at hj
  rw [Nat.zero_add,Go.Sort.get_flatK encA 3 (arD f g n) j (by rw [arD_size];exact hj),arD_at f g (show j / 3 < n by omega)]
  refine ⟨?_,h.frozenAt j⟩
  rw [h.cellAt j hj]
  obtain ⟨a0,a1,a2⟩:=ars_at f g (show j / 3 < n by omega)
  have m:j % 3=0∨j % 3=1∨j % 3=2:=by omega
  rcases m with m | m | m
  · rw [m,show j=j / 3 * 3 by omega,a0,show j / 3 * 3 / 3=j / 3 by omega];rfl
  · rw [m,show j=j / 3 * 3 + 1 by omega,a1,show (j / 3 * 3 + 1) / 3=j / 3 by omega];rfl
  · rw [m,show j=j / 3 * 3 + 2 by omega,a2,show (j / 3 * 3 + 2) / 3=j / 3 by omega];rfl
theorem below_sorted {B q m:Nat} {W:World} {d:Array (Int × Int × Int)} {os:Array Obj} (hq:B≤q) (hB:B≤W.heap.size):Below B W (sortWorldK encA 3 W q 0 m d os):=by
  have h:Below B W (Go.Sort.putRow id (Go.Sort.ahead W m) q 0 (Go.Sort.flatK encA 3 d)):=Go.Lib.below_putRow (Below.refl _ _) hq
  refine ⟨h.os,h.tape,h.output,?_,fun k hk=>?_⟩
  · show W.heap.size≤(Go.Sort.grow (Go.Sort.putRow id (Go.Sort.ahead W m) q 0 (Go.Sort.flatK encA 3 d)) os).heap.size
    have:=h.size
    simp only [Go.Sort.grow,Array.size_append]
    omega
  · rw [← h.block k hk]
    have:=h.size
    show ((Go.Sort.putRow id (Go.Sort.ahead W m) q 0 (Go.Sort.flatK encA 3 d)).heap ++ os)[k]?=_
    rw [Array.getElem?_append_left (by omega)]
theorem sorted_srt {f g:Nat→Int} {n:Nat} {d':Array (Int × Int × Int)} (hp:Go.Sort.PermIn 0 n (arD f g n) d') (hs:Go.Sort.SortedIn (ltOf cfA) 0 n d') :
    SrtA f g n (d'.toList.map fun x=>x.2.2.toNat)∧d'.size=n∧∀ k,k < n→(d'[k]!).2.2=(((d'.toList.map fun x=>x.2.2.toNat).getD k 0:Nat):Int):=by
  have sz:d'.size=n:=hp.1.trans (arD_size f g n)
  have pm:d'.toList.Perm (arD f g n).toList:=by
    have p:=hp.2.2
    have e1:d'.extract 0 n=d':=by rw [← sz];exact Array.extract_size
    have e2:(arD f g n).extract 0 n=arD f g n:=by
      have:=arD_size f g n
      conv=>lhs;rw [← this]
      rw [this]
      rw [show (arD f g n).extract 0 n=(arD f g n).extract 0 (arD f g n).size by rw [this]]
      exact Array.extract_size
    rwa [e1,e2] at p
  have at_:∀ k,k < n→∃ a,a < n∧(d'[k]!)=(f a,g a,(a:Int)):=fun k hk=>by
    have m:d'[k]! ∈ d'.toList:=by
      rw [getElem!_pos d' k (by omega)]
      exact Array.getElem_mem_toList _
    exact arD_mem (pm.mem_iff.1 m)
  have L9:(d'.toList.map fun x=>x.2.2.toNat).Perm (List.range n):=by
    have q:=pm.map fun x:Int × Int × Int=>x.2.2.toNat
    have e:(arD f g n).toList.map (fun x:Int × Int × Int=>x.2.2.toNat)=List.range n:=by
      unfold arD
      rw [List.map_map]
      conv=>rhs;rw [← List.map_id (List.range n)]
      exact List.map_congr_left fun k _=>by simp
    rwa [e] at q
  have ln:(d'.toList.map fun x=>x.2.2.toNat).length=n:=by simp [sz]
  have gt:∀ k (hk:k < n),(d'.toList.map fun x=>x.2.2.toNat)[k]'(by omega)=(d'[k]!).2.2.toNat:=fun k hk=>by
    rw [List.getElem_map,getElem!_pos d' k (by omega)]
    rfl
  refine ⟨⟨L9,?_⟩,sz,fun k hk=>?_⟩
  · rw [List.pairwise_iff_getElem]
    intro i j hi hj ij
    have nd:=L9.nodup_iff.2 List.nodup_range
    have ne:=(List.pairwise_iff_getElem.1 nd) i j hi hj ij
    rw [ln] at hi hj
    have z:=hs i j (Nat.zero_le _) ij hj
    obtain ⟨a,_,ea⟩:=at_ i hi
    obtain ⟨b,_,eb⟩:=at_ j hj
    rw [ea,eb,cfA_lt] at z
    rw [gt i hi,gt j hj,ea,eb] at ne ⊢
    have z:=of_decide_eq_false z
    simp only [Int.toNat_natCast] at z ne ⊢
    unfold ltA
    omega
  · rw [List.getD_eq_getElem?_getD,List.getElem?_eq_getElem (by omega),gt k hk]
    obtain ⟨a,_,ea⟩:=at_ k hk
    rw [ea]
    simp
set_option maxRecDepth 100000 in
set_option maxHeartbeats 4000000 in
theorem sof_any (f g:Nat→Int) (n:Nat) (hn:n≤16) (W:World) (B:Nat) (v:Value) (hB:B≤W.heap.size) (h:W.ownsRow B 83 3 v n (ars f g n)):Calls Tryz.prog 41 #[v,.func (.func 42) #[] #[]] W fun e w'=>e=.returned (.tuple #[])∧∃ A c L,v=.slice A n c∧SrtA f g n L∧(∀ k,k < n→∃ q e0 e1,A=some ⟨q,0,none⟩∧q < w'.heap.size∧w'.cell? ⟨q,k * 3,none⟩=some (.int .i64 e0)∧w'.cell? ⟨q,k * 3 + 1,none⟩=some (.int .i64 e1)∧w'.cell? ⟨q,k * 3 + 1 + 1,none⟩=some (.int .i64 ((L.getD k 0:Nat):Int)))∧Below B W w':=by
  rcases Nat.eq_zero_or_pos n with h0 | h0
  · subst h0
    have key:∃ a c,v=.slice a 0 c:=by
      rcases h.2 with ⟨e,_⟩ | ⟨q,cap,cur,e,_⟩
      · exact ⟨none,0,e⟩
      · exact ⟨_,cap,e⟩
    obtain ⟨a,c,rfl⟩:=key
    have hc:=AnyF.slices_SortFunc_none Tryz.sortArr a c (.func (.func 42) #[] #[]) W
    change Calls Tryz.prog 41 _ _ _ at hc
    exact hc.mono fun e w' ⟨h1,h2⟩=>⟨h1,a,c,[],rfl,⟨List.Perm.refl _,List.Pairwise.nil⟩,fun k hk=>absurd hk (Nat.not_lt_zero k),by rw [h2];exact Below.refl _ _⟩
  · obtain ⟨q,cap,rfl⟩:=own_slice8 h h0
    have lq:=h.lt q rfl
    have eg:∀ args w,(callFunc 42 args).run Tryz.prog w=.ok (.enter 42 args) w:=enters_of Tryz.func42 (by kernel_rfl) rfl
    have hH:=holds_ar h
    have hcon:=AnyQ.slices_SortFunc Tryz.sortArr 3 Tryz.isAgg83 Tryz.sizeOf83 encA (fun _=>rfl) (fun x v hv=>by simp [encA] at hv;rcases hv with rfl | rfl | rfl <;> rfl) cfA cfA_swo 42 #[] q 0 cap (arD f g n) W eg (fun _ _ _ _ x y=>cmpA_any x y _) hH lq.2 (by rw [arD_size];omega)
    change Calls Tryz.prog 41 _ _ _ at hcon
    rw [arD_size] at hcon
    refine hcon.mono ?_
    rintro e w' ⟨rfl,d',m,os,hp,hs,rfl⟩
    obtain ⟨s1,s2,s3⟩:=sorted_srt hp hs
    have hK:=holdsK_sortWorldK_c encA 3 W q 0 (arD f g n) d' m os hH lq.2 (by rw [s2,arD_size])
    have bl:=below_sorted (q:=q) (m:=m) (d:=d') (os:=os) lq.1 hB
    refine ⟨rfl,_,cap,_,rfl,s1,fun k hk=>?_,bl⟩
    have c0:=(hK.cell (i:=k) (c:=0) (by omega) (by decide)).1
    have c1:=(hK.cell (i:=k) (c:=1) (by omega) (by decide)).1
    have c2:=(hK.cell (i:=k) (c:=2) (by omega) (by decide)).1
    rw [Nat.zero_add] at c0 c1 c2
    have s3:=s3 k hk
    refine ⟨q,_,_,rfl,?_,c0,c1,?_⟩
    · have b0:Below W.heap.size W W:=Below.refl _ _
      have z:=(below_sorted (q:=q) (m:=m) (d:=d') (os:=os) (W:=W) lq.1 hB).size
      omega
    · rw [← s3];exact c2
end Go.Proofs.YtgchcnpgjfoadaaGreat
