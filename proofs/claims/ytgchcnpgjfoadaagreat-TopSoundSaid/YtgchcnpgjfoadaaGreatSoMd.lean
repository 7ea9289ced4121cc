import Derived.Test.YtgchcnpgjfoadaaGreatSoMa
import Derived.Test.YtgchcnpgjfoadaaGreatSoMb
import Derived.Laws.OwnMore
namespace Go.Proofs.YtgchcnpgjfoadaaGreat
open Go.ChangeShapes Go.WideShapes Go.RowKit
open Sh
def pucl (p:Pu):List Value:=[.int .i64 p.1.1.1,.int .i64 p.1.1.2.1,.int .i64 p.1.1.2.2,.int .i64 p.1.2.1.1,.int .i64 p.1.2.1.2.1,.int .i64 p.1.2.1.2.2,.int .i64 p.1.2.2.1,.int .i64 p.1.2.2.2.1,.int .i64 p.1.2.2.2.2,.int .i64 p.2.1,.int .i64 p.2.2]
def pucs (f:Nat→Pu):Nat→List Value
  | 0=>[]
  | n + 1=>pucs f n ++ pucl (f n)
theorem pucl_len (p:Pu):(pucl p).length=11:=rfl
theorem pucs_len (f:Nat→Pu):∀ n,(pucs f n).length=n * 11
  | 0=>rfl
  | n + 1=>by show (pucs f n ++ pucl (f n)).length=_;rw [List.length_append,pucs_len f n,pucl_len];omega
theorem pucs_at (f:Nat→Pu):∀ {n k j:Nat},k < n→j < 11→(pucs f n)[k * 11 + j]?=(pucl (f k))[j]?
  | 0,k,j,h,_=>absurd h (Nat.not_lt_zero k)
  | n + 1,k,j,h,hj=>by
    show (pucs f n ++ pucl (f n))[k * 11 + j]?=_
    by_cases e:k=n
    · subst e
      rw [List.getElem?_append_right (by rw [pucs_len];omega),pucs_len,show k * 11 + j - k * 11=j by omega]
    · rw [List.getElem?_append_left (by rw [pucs_len];omega)]
      exact pucs_at f (by omega) hj
theorem pucl_one (p:Pu):∀ u ∈ pucl p,u.oneCell'=true:=by
  intro u hu
  simp [pucl] at hu
  rcases hu with rfl | rfl | rfl | rfl | rfl | rfl | rfl | rfl | rfl | rfl | rfl <;> rfl
theorem pucs_one (f:Nat→Pu):∀ n,∀ u ∈ pucs f n,u.oneCell'=true
  | 0,u,hu=>by cases hu
  | n + 1,u,hu=>by
    rcases List.mem_append.1 (show u ∈ pucs f n ++ pucl (f n) from hu) with h | h
    · exact pucs_one f n u h
    · exact pucl_one _ u h
theorem pucs_eq {f g:Nat→Pu}:∀ {n:Nat},(∀ k,k < n→f k=g k)→pucs f n=pucs g n
  | 0,_=>rfl
  | n + 1,h=>by
    show pucs f n ++ pucl (f n)=pucs g n ++ pucl (g n)
    rw [pucs_eq fun k hk=>h k (by omega),h n (by omega)]
theorem rowU_cell {w:World} {b off n:Nat} {f:Nat→Pu} (r:RowU w b off n f) {k:Nat} (hk:k < n):∀ j,j < 11→w.cell? ⟨b,off + k * 11 + j,none⟩=(pucl (f k))[j]?:=by
  obtain ⟨h0,h1,h2,h3,h4,h5,h6,h7,h8,h9,h10⟩:=r.2 k hk
  intro j hj
  have:j=0∨j=1∨j=2∨j=3∨j=4∨j=5∨j=6∨j=7∨j=8∨j=9∨j=10:=by omega
  rcases this with rfl | rfl | rfl | rfl | rfl | rfl | rfl | rfl | rfl | rfl | rfl
  · exact h0
  · exact h1
  · exact h2
  · exact h3
  · exact h4
  · exact h5
  · exact h6
  · exact h7
  · exact h8
  · exact h9
  · exact h10
theorem rowU_mem {w:World} {b off n:Nat} {f:Nat→Pu} (r:RowU w b off n f):∀ j u,(pucs f n)[j]?=some u→w.cell? ((⟨b,off,none⟩:Addr).add j)=some u:=by
  intro j u hu
  have hl:j < n * 11:=by
    have:=(List.getElem?_eq_some_iff.1 hu).1
    rwa [pucs_len] at this
  have hk:j / 11 < n:=by omega
  have z:=pucs_at f (n:=n) (k:=j / 11) (j:=j % 11) hk (by omega)
  have c:=rowU_cell r hk (j % 11) (by omega)
  rw [show j / 11 * 11 + j % 11=j by omega] at z
  have ea:(⟨b,off,none⟩:Addr).add j=⟨b,off + j,none⟩:=by
    unfold Addr.add
    split
    · rename_i e;subst e;rfl
    · rfl
  rw [ea,show off + j=off + j / 11 * 11 + j % 11 by omega,c,← z]
  exact hu
theorem rowU_of {w:World} {base n cap g:Nat} {f:Nat→Pu} (h:w.ownsRow base 61 11 (.slice (some ⟨g,0,none⟩) n cap) n (pucs f n)):RowU w g 0 n f:=by
  refine ⟨(h.lt g rfl).2,fun k hk=>?_⟩
  have cc:∀ j,j < 11→w.cell? ⟨g,0 + k * 11 + j,none⟩=(pucl (f k))[j]?:=fun j hj=>by
    rw [Nat.zero_add,h.cellAt (k * 11 + j) (by omega),pucs_at f hk hj]
  exact ⟨cc 0 (by decide),cc 1 (by decide),cc 2 (by decide),cc 3 (by decide),cc 4 (by decide),cc 5 (by decide),cc 6 (by decide),cc 7 (by decide),cc 8 (by decide),cc 9 (by decide),cc 10 (by decide)⟩
theorem infoPu8:(Tryz.prog.info? 61).map (fun i=>(i.zero,i.size,i.bytes))=some (some (.agg #[.int .i64 0,.int .i64 0,.int .i64 0,.int .i64 0,.int .i64 0,.int .i64 0,.int .i64 0,.int .i64 0,.int .i64 0,.int .i64 0,.int .i64 0]),11,88):=by kernel_rfl
theorem row_allocU {w:World} {b off n:Nat} {f:Nat→Pu} (r:RowU w b off n f) (o:Obj):RowU (w.alloc o) b off n f:=rowU_below r ((Below.refl _ _).alloc (Nat.le_refl _) _)
set_option maxRecDepth 100000 in
set_option maxHeartbeats 2000000 in
theorem clone8_mem (ad:Addr) (n cap:Nat) (f:Nat→Pu) (w:World) (r:∀ j u,(pucs f n)[j]?=some u→(w.alloc (.cells #[] 61)).cell? (ad.add j)=some u) (hn:n≤1000) :
    Calls Tryz.prog 69 #[.slice (some ad) n cap] w fun e w'=>∃ v,e=.returned v∧w'.ownsRow w.heap.size 61 11 v n (pucs f n)∧Below w.heap.size w w':=by
  obtain ⟨i0,hi,hz0,hz1,hz2⟩:=info_parts infoPu8
  have HI:=Lib.hid hi
  have HZ0:=Lib.hid hz0
  have HZ1:=Lib.hid hz1
  have HZ2:=Lib.hid hz2
  have RM:=Lib.hid r
  have OE:=Lib.hid (World.ownsRow_lit (base:=w.heap.size) (e:=61) (size:=11) w #[] 0 (Nat.le_refl _) (by unfold maxLen;omega) rfl)
  have EN:∀ (w:World) (a:Option Addr) (n c n' c':Nat),(binOp .eql 22 (.slice a n c) (.slice none n' c')).run Tryz.prog w=.ok (.bool a.isNone) w:=fun w a n c n' c'=>Lib.run_eql_slice_nil w _ _ a n c n' c' Tryz.underlying22
  clear hi hz0 hz1 hz2 r
  go_enter Tryz.func69,Tryz.ntmps69
  go_wp2_with (at_builtin;go_loud (refine wpList_append_own _ rfl _ _ 22 rfl w.heap.size 61 i0 (.agg #[.int .i64 0,.int .i64 0,.int .i64 0,.int .i64 0,.int .i64 0,.int .i64 0,.int .i64 0,.int .i64 0,.int .i64 0,.int .i64 0,.int .i64 0]) 11 88 Tryz.underlying22 HI.out HZ0.out HZ1.out HZ2.out rfl (by decide) _ 0 [] rfl OE.out ad n cap (pucs f n) rfl (pucs_len f n) RM.out (pucs_one f n) (by unfold maxLen;omega) (by omega) (by simp) ?_);intro v' w1 hown' hgrow _;have OW:=Lib.hid hown';have GR:=Lib.hid hgrow;clear hown' hgrow)
  go_ret
  refine ⟨_,rfl,?_,?_⟩
  · have z:=OW.out
    rw [Nat.zero_add,List.nil_append] at z
    exact z
  · exact ((Below.refl _ w).alloc (Nat.le_refl _) _).grown GR.out (by simp) (fun gg hg=>(OE.out.lt gg hg).1)
set_option maxRecDepth 100000 in
theorem clone8_nil (w:World):Calls Tryz.prog 69 #[.slice none 0 0] w fun e w'=>∃ v,e=.returned v∧w'.ownsRow w.heap.size 61 11 v 0 []∧Below w.heap.size w w':=by
  have EN:∀ (w:World) (a:Option Addr) (n c n' c':Nat),(binOp .eql 22 (.slice a n c) (.slice none n' c')).run Tryz.prog w=.ok (.bool a.isNone) w:=fun w a n c n' c'=>Lib.run_eql_slice_nil w _ _ a n c n' c' Tryz.underlying22
  go_enter Tryz.func69,Tryz.ntmps69
  go_wp2
  go_ret
  exact ⟨_,rfl,World.ownsRow_nil _ _ _ _,Below.refl _ _⟩
theorem clone8_row (b off n cap:Nat) (f:Nat→Pu) (w:World) (r:RowU w b off n f) (hn:n≤1000) :
    Calls Tryz.prog 69 #[.slice (some ⟨b,off,none⟩) n cap] w fun e w'=>∃ v,e=.returned v∧w'.ownsRow w.heap.size 61 11 v n (pucs f n)∧Below w.heap.size w w' :=
  clone8_mem _ n cap f w (rowU_mem (row_allocU r (.cells #[] 61))) hn
theorem clone8_zero (a:Option Addr) (cap:Nat) (w:World) (h:a=none→cap=0) :
    Calls Tryz.prog 69 #[.slice a 0 cap] w fun e w'=>∃ v,e=.returned v∧w'.ownsRow w.heap.size 61 11 v 0 []∧Below w.heap.size w w':=by
  cases a with
  | none=>rw [h rfl];exact clone8_nil w
  | some ad=>exact clone8_mem ad 0 cap (fun _=>(((0,0,0),(0,0,0),(0,0,0)),0,0)) w (fun j u hu=>by cases hu) (by decide)
end Go.Proofs.YtgchcnpgjfoadaaGreat
namespace Go.Proofs.YtgchcnpgjfoadaaGreat
open Go.ChangeShapes Go.WideShapes Go.RowKit
open Sh
theorem pu_new8 (w:World) (p:Pu) (ty:TypeId):∀ j u,(pucl p)[j]?=some u→(w.alloc (pub p ty)).cell? ((⟨w.heap.size,0,none⟩:Addr).add j)=some u:=by
  have r:=rowU_mem (rowU_one w p ty)
  intro j u hu
  exact r j u (by show ([] ++ pucl p)[j]?=_;rw [List.nil_append];exact hu)
theorem pu_new8' (w:World) (p:Pu) (ty:TypeId) (b:Nat) (e:b=w.heap.size):∀ j u,(pucl p)[j]?=some u→(w.alloc (pub p ty)).cell? ((⟨b,0,none⟩:Addr).add j)=some u:=by
  subst e;exact pu_new8 w p ty
end Go.Proofs.YtgchcnpgjfoadaaGreat
namespace Go.Proofs.YtgchcnpgjfoadaaGreat
open Go.ChangeShapes Go.WideShapes Go.RowKit
open Sh
def PuR (W:World) (n:Nat) (e:Int) (f:Nat→Pu) (v:Value):Prop:=if e=0 then W.ownsRow 0 61 11 v n (pucs f n) else v=.slice none 0 0
theorem puR_below {W W':World} {n:Nat} {e:Int} {f:Nat→Pu} {v:Value} (h:PuR W n e f v) (hb:Below W.heap.size W W'):PuR W' n e f v:=by
  unfold PuR at *
  by_cases z:e=0
  · rw [if_pos z] at h ⊢
    exact own_below9 h hb
  · rw [if_neg z] at h ⊢
    exact h
end Go.Proofs.YtgchcnpgjfoadaaGreat
