import Derived.Test.YtgchcnpgjfoadaaGreatFgMc
import Derived.OwnWalk
namespace Go.Proofs.YtgchcnpgjfoadaaGreat
open Go.ChangeShapes Go.WideShapes Go.RowKit
open Sh
attribute [local go_sem 1000000] run_min_mn run_max_mx
attribute [local go_sem high] run_max3' run_min3'
def RwI (w:World) (b n:Nat) (f:Nat→Int):Prop:=b < w.heap.size∧∀ k,k < n→w.cell? ⟨b,k,none⟩=some (.int .i64 (f k))
end Go.Proofs.YtgchcnpgjfoadaaGreat
namespace Go.Proofs.YtgchcnpgjfoadaaGreat
open Go.ChangeShapes Go.WideShapes Go.RowKit
open Sh
attribute [local go_sem 1000000] run_min_mn run_max_mx
attribute [local go_sem high] run_max3' run_min3'
end Go.Proofs.YtgchcnpgjfoadaaGreat
namespace Go.Proofs.YtgchcnpgjfoadaaGreat
open Go.ChangeShapes Go.WideShapes Go.RowKit
open Sh
open Go.Shelf
theorem infoI1:(Tryz.prog.info? 3).map (fun i=>(i.zero,i.size,i.bytes))=some (some (.int .i64 0),1,8):=by kernel_rfl
def ivs (f:Nat→Int):Nat→List Value
  | 0=>[]
  | k + 1=>ivs f k ++ [.int .i64 (f k)]
theorem ivs_len (f:Nat→Int):∀ k,(ivs f k).length=k
  | 0=>rfl
  | k + 1=>by show (ivs f k ++ [_]).length=_;rw [List.length_append,ivs_len f k];rfl
theorem ivs_at (f:Nat→Int):∀ {n k:Nat},k < n→(ivs f n)[k]?=some (.int .i64 (f k))
  | 0,k,h=>absurd h (Nat.not_lt_zero k)
  | n + 1,k,h=>by
    show (ivs f n ++ [.int .i64 (f n)])[k]?=_
    by_cases e:k=n
    · subst e
      rw [List.getElem?_append_right (by rw [ivs_len];omega),ivs_len,Nat.sub_self]
      rfl
    · rw [List.getElem?_append_left (by rw [ivs_len];omega)]
      exact ivs_at f (by omega)
theorem rwi_of {w:World} {base n:Nat} {v:Value} {f:Nat→Int} (h:w.ownsRow base 3 1 v n (ivs f n)) (h0:0 < n):∃ q cap,v=.slice (some ⟨q,0,none⟩) n cap∧base≤q∧RwI w q n f:=by
  rcases h.2 with ⟨_,h'⟩ | ⟨q,cap,cur,rfl,hb,hg,_⟩
  · omega
  · exact ⟨q,cap,rfl,hb,(Array.getElem?_eq_some_iff.1 hg).1,fun k hk=>by rw [h.cellAt k (by omega)];exact ivs_at f hk⟩
theorem one_new' (w:World) (b:Nat) (x:Int) (t:TypeId) (hb:b=w.heap.size):∀ j u,([.int .i64 x]:List Value)[j]?=some u→(w.alloc (.cells #[.int .i64 x] t)).cell? ((⟨b,0,none⟩:Addr).add j)=some u:=by
  subst hb
  intro j u hu
  match j,hu with
  | 0,hu=>(simp at hu;subst hu;simp only [Addr.add];go_simp)
  | j + 1,hu=>simp at hu
end Go.Proofs.YtgchcnpgjfoadaaGreat
namespace Go.Proofs.YtgchcnpgjfoadaaGreat
open Go.ChangeShapes Go.WideShapes Go.RowKit
open Sh
end Go.Proofs.YtgchcnpgjfoadaaGreat
namespace Go.Proofs.YtgchcnpgjfoadaaGreat
open Go.ChangeShapes Go.WideShapes Go.RowKit
open Sh
def cI (P:Nat→P3) (q:P3):Nat→Int→Int
  | 0,a=>a
  | k + 1,a=>Sp.mx (cI P q k a) (sq (sub (P k) q))
end Go.Proofs.YtgchcnpgjfoadaaGreat
