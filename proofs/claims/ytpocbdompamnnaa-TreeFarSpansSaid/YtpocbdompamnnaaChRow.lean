import Derived.Test.YtpocbdompamnnaaMoM
import Derived.OwnWalk
namespace Go.Proofs.Ytpocbdompamnnaa
open Go.ChangeShapes Go.WideShapes Go.RowKit
open Sh
def chcell (q:Ch):Nat→Value
  | 0=>.int .i64 q.1.1.1
  | 1=>.int .i64 q.1.1.2.1
  | 2=>.int .i64 q.1.1.2.2
  | 3=>.int .i64 q.1.2.1.1
  | 4=>.int .i64 q.1.2.1.2.1
  | 5=>.int .i64 q.1.2.1.2.2
  | 6=>.int .i64 q.1.2.2.1
  | 7=>.int .i64 q.1.2.2.2.1
  | 8=>.int .i64 q.1.2.2.2.2
  | _=>.int .i64 q.2
def ccs (Q:Nat→Ch) (k:Nat):List Value:=(List.range (k * 10)).map fun m=>chcell (Q (m / 10)) (m % 10)
theorem ccs_succ (Q:Nat→Ch) (k:Nat):ccs Q (k + 1)=ccs Q k ++ [.int .i64 (Q k).1.1.1,.int .i64 (Q k).1.1.2.1,.int .i64 (Q k).1.1.2.2,.int .i64 (Q k).1.2.1.1,.int .i64 (Q k).1.2.1.2.1,.int .i64 (Q k).1.2.1.2.2,.int .i64 (Q k).1.2.2.1,.int .i64 (Q k).1.2.2.2.1,.int .i64 (Q k).1.2.2.2.2,.int .i64 (Q k).2]:=by
  unfold ccs
  have d (j:Nat) (h:j < 10):(k * 10 + j) / 10=k∧(k * 10 + j) % 10=j:=⟨by omega,by omega⟩
  rw [show (k + 1) * 10=k * 10 + 1 + 1 + 1 + 1 + 1 + 1 + 1 + 1 + 1 + 1 by omega]
  simp only [List.range_succ,List.map_append,List.map_cons,List.map_nil,List.append_assoc,List.cons_append,List.nil_append]
  have e0:=d 0 (by omega)
  have e1:=d 1 (by omega)
  have e2:=d 2 (by omega)
  have e3:=d 3 (by omega)
  have e4:=d 4 (by omega)
  have e5:=d 5 (by omega)
  have e6:=d 6 (by omega)
  have e7:=d 7 (by omega)
  have e8:=d 8 (by omega)
  have e9:=d 9 (by omega)
  simp only [Nat.add_zero] at e0
  rw [e0.1,e0.2,e1.1,e1.2,e2.1,e2.2,e3.1,e3.2,e4.1,e4.2,e5.1,e5.2,e6.1,e6.2,e7.1,e7.2,e8.1,e8.2,e9.1,e9.2]
  rfl
theorem ccs_at (Q:Nat→Ch) (n k j:Nat) (hk:k < n) (hj:j < 10):(ccs Q n)[k * 10 + j]?=some (chcell (Q k) j):=by
  unfold ccs
  rw [List.getElem?_map,List.getElem?_range (by omega)]
  have d1:(k * 10 + j) / 10=k:=by omega
  have d2:(k * 10 + j) % 10=j:=by omega
  simp [d1,d2]
theorem rowC_of {w:World} {base n:Nat} {v:Value} {Q:Nat→Ch} (h:w.ownsRow base 75 10 v n (ccs Q n)) (h0:0 < n):∃ g cap,v=.slice (some ⟨g,0,none⟩) n cap∧base≤g∧RowC w g 0 n Q:=by
  rcases h.2 with ⟨_,h'⟩ | ⟨g,cap,cur,rfl,hb,hg,_⟩
  · omega
  · refine ⟨g,cap,rfl,hb,(Array.getElem?_eq_some_iff.1 hg).1,fun k hk=>?_⟩
    rw [Nat.zero_add]
    have q (j:Nat) (hj:j < 10):w.cell? ⟨g,k * 10 + j,none⟩=some (chcell (Q k) j):=by rw [h.cellAt (k * 10 + j) (by omega)];exact ccs_at Q n k j hk hj
    exact ⟨q 0 (by omega),q 1 (by omega),q 2 (by omega),q 3 (by omega),q 4 (by omega),q 5 (by omega),q 6 (by omega),q 7 (by omega),q 8 (by omega),q 9 (by omega)⟩
theorem infoC:(Try.prog.info? 75).map (fun i=>(i.zero,i.size,i.bytes))=some (some (.agg #[.int .i64 0,.int .i64 0,.int .i64 0,.int .i64 0,.int .i64 0,.int .i64 0,.int .i64 0,.int .i64 0,.int .i64 0,.int .i64 0]),10,80):=by kernel_rfl
theorem cells10 (w:World) (c0 c1 c2 c3 c4 c5 c6 c7 c8 c9:Int) (t:TypeId):∀ j u,[Value.int .i64 c0,.int .i64 c1,.int .i64 c2,.int .i64 c3,.int .i64 c4,.int .i64 c5,.int .i64 c6,.int .i64 c7,.int .i64 c8,.int .i64 c9][j]?=some u →
    (w.alloc (.cells #[.int .i64 c0,.int .i64 c1,.int .i64 c2,.int .i64 c3,.int .i64 c4,.int .i64 c5,.int .i64 c6,.int .i64 c7,.int .i64 c8,.int .i64 c9] t)).cell? ((⟨w.heap.size,0,none⟩:Addr).add j)=some u:=by
  intro j u h
  match j,h with
  | 0,h | 1,h | 2,h | 3,h | 4,h | 5,h | 6,h | 7,h | 8,h | 9,h=>(simp at h;subst h;simp only [Addr.add];go_simp)
  | j + 10,h=>simp at h
theorem one10 (c0 c1 c2 c3 c4 c5 c6 c7 c8 c9:Int):∀ u ∈ [Value.int .i64 c0,.int .i64 c1,.int .i64 c2,.int .i64 c3,.int .i64 c4,.int .i64 c5,.int .i64 c6,.int .i64 c7,.int .i64 c8,.int .i64 c9],u.oneCell'=true:=by
  intro u h
  simp only [List.mem_cons,List.not_mem_nil,or_false] at h
  rcases h with h | h | h | h | h | h | h | h | h | h <;> (subst h;rfl)
end Go.Proofs.Ytpocbdompamnnaa
