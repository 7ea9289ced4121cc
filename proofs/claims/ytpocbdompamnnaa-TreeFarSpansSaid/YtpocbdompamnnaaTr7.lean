import Derived.OwnWalk
import Derived.Laws.OwnMore
import Derived.Test.YtpocbdompamnnaaTr6
namespace Go.Proofs.Ytpocbdompamnnaa
open Go.ChangeShapes Go.WideShapes Go.RowKit
open Sh
theorem tr_infoI:(Try.prog.info? 3).map (fun i=>(i.zero,i.size,i.bytes))=some (some (.int .i64 0),1,8):=by kernel_rfl
theorem tr_infoN:(Try.prog.info? 44).map (fun i=>(i.zero,i.size,i.bytes))=some (some (.agg #[.int .i64 0,.int .i64 0,.int .i64 0,.int .i64 0,.int .i64 0,.int .i64 0,.int .i64 0,.int .i64 0]),8,64):=by kernel_rfl
theorem tr_one (w:World) (b:Nat) (x:Int) (t:TypeId) (hb:b=w.heap.size):∀ j u,([.int .i64 x]:List Value)[j]?=some u→(w.alloc (.cells #[.int .i64 x] t)).cell? ((⟨b,0,none⟩:Addr).add j)=some u:=by
  subst hb
  intro j u hu
  match j,hu with
  | 0,hu=>(simp at hu;subst hu;simp only [Addr.add];go_simp)
  | j + 1,hu=>simp at hu
theorem tr_own_below {w w1:World} {base:Nat} {e:TypeId} {n:Nat} {v:Value} {k:Nat} {xs:List Value} (h:w.ownsRow base e n v k xs) (hb:Below w.heap.size w w1):w1.ownsRow base e n v k xs:=by
  refine ⟨h.1,?_⟩
  rcases h.2 with hn | ⟨g,cap,cur,rfl,hg,hgg,rest⟩
  · exact .inl hn
  · exact .inr ⟨g,cap,cur,rfl,hg,by rw [hb.block g (Array.getElem?_eq_some_iff.1 hgg).1];exact hgg,rest⟩
theorem tr_own_base {w:World} {B base:Nat} {e:TypeId} {n:Nat} {v:Value} {k:Nat} {xs:List Value} (h:w.ownsRow base e n v k xs) (hB:B≤base):w.ownsRow B e n v k xs:=by
  refine ⟨h.1,?_⟩
  rcases h.2 with hn | ⟨g,cap,cur,rfl,hg,rest⟩
  · exact .inl hn
  · exact .inr ⟨g,cap,cur,rfl,by omega,rest⟩
theorem tr_own_form {w:World} {base:Nat} {e:TypeId} {s:Nat} {v:Value} {n:Nat} {xs:List Value} (h:w.ownsRow base e s v n xs) (h0:0 < n):∃ g cap,v=.slice (some ⟨g,0,none⟩) n cap:=by
  rcases h.2 with ⟨_,h1⟩ | ⟨g,cap,cur,e,_⟩
  · omega
  · exact ⟨g,cap,e⟩
theorem tr_own_slice {w:World} {base:Nat} {e:TypeId} {s:Nat} {v:Value} {n:Nat} {xs:List Value} (h:w.ownsRow base e s v n xs):∃ A cap,v=.slice A n cap:=by
  rcases h.2 with ⟨e,h1⟩ | ⟨g,cap,cur,e,_⟩
  · exact ⟨none,0,by rw [e,h1]⟩
  · exact ⟨_,cap,e⟩
def nvs9 (L:List Nat):List Value:=L.map encN
theorem nvs9_len (L:List Nat):(nvs9 L).length=L.length:=by simp [nvs9]
theorem nvs9_app (L M:List Nat):nvs9 (L ++ M)=nvs9 L ++ nvs9 M:=by simp [nvs9]
theorem nvs9_at {L:List Nat} {k:Nat} (h:k < L.length):(nvs9 L)[k]?=some (.int .i64 ((L.getD k 0:Nat):Int)):=by
  unfold nvs9
  rw [List.getElem?_map,List.getD_eq_getElem?_getD,List.getElem?_eq_getElem h]
  rfl
def ndv (x:Nd):List Value:=[.int .i64 (x.1:Nat),.int .i64 (x.2.1:Nat),.int .i64 x.2.2.1,.int .i64 x.2.2.2.1,.int .i64 x.2.2.2.2.1.1,.int .i64 x.2.2.2.2.1.2.1,.int .i64 x.2.2.2.2.1.2.2,.int .i64 x.2.2.2.2.2]
def nds (L:List Nd):List Value:=L.flatMap ndv
theorem nds_len:∀ L:List Nd,(nds L).length=L.length * 8
  | []=>rfl
  | x :: L=>by
    show (ndv x ++ nds L).length=_
    rw [List.length_append,nds_len L,List.length_cons]
    show 8 + _=_
    omega
theorem nds_app (L M:List Nd):nds (L ++ M)=nds L ++ nds M:=by simp [nds]
theorem nds_at {L:List Nd} {x:Nd} {k j:Nat} (h:L[k]?=some x) (hj:j < 8):(nds L)[k * 8 + j]?=(ndv x)[j]?:=by
  have hk:k < L.length:=(List.getElem?_eq_some_iff.1 h).1
  have e:L=L.take k ++ x :: L.drop (k + 1):=by
    have:=(List.getElem?_eq_some_iff.1 h).2
    rw [← this,List.getElem_cons_drop,List.take_append_drop]
  have tl:(L.take k).length=k:=by rw [List.length_take];omega
  rw [e,nds_app,List.getElem?_append_right (by rw [nds_len,tl];omega),nds_len,tl,show k * 8 + j - k * 8=j by omega]
  show (ndv x ++ nds _)[j]?=_
  rw [List.getElem?_append_left (by show j < 8;exact hj)]
def prtN (x:Nd) (l r:Int):Nd:=(x.1,x.2.1,l,r,x.2.2.2.2)
theorem nds_parts (A B:List Nd) (x:Nd) (l r:Int):((nds (A ++ x :: B)).set (A.length * 8 + 2) (.int .i64 l)).set (A.length * 8 + 3) (.int .i64 r)=nds (A ++ prtN x l r :: B):=by
  have e:∀ y:Nd,nds (A ++ y :: B)=nds A ++ (ndv y ++ nds B):=fun y=>by rw [nds_app];rfl
  rw [e,e,List.set_append_right _ _ (by rw [nds_len];omega),List.set_append_right _ _ (by rw [nds_len];omega),nds_len,show A.length * 8 + 2 - A.length * 8=2 by omega,show A.length * 8 + 3 - A.length * 8=3 by omega]
  rfl
theorem range_snoc9 (k:Nat):nvs9 (List.range (k + 1))=nvs9 (List.range k) ++ [.int .i64 (k:Int)]:=by
  rw [List.range_succ,nvs9_app]
  rfl
set_option maxRecDepth 100000 in
set_option maxHeartbeats 4000000 in
theorem numbers_any (n:Nat) (w:World) (hn:n≤96):Calls Try.prog 47 #[.int .i64 (n:Int)] w fun e w'=>∃ v,e=.returned v∧w'.ownsRow w.heap.size 3 1 v n (nvs9 (List.range n))∧Below w.heap.size w w':=by
  obtain ⟨i0,hi,hz0,hz1,hz2⟩:=info_parts tr_infoI
  have HI:=Lib.hid hi
  have HZ0:=Lib.hid hz0
  have HZ1:=Lib.hid hz1
  have HZ2:=Lib.hid hz2
  clear hi hz0 hz1 hz2
  have hn':(n:Int)≤96:=by omega
  go_enter Try.func47,Try.ntmps47
  go_wp2
  go_loopw [3,6] (fun sv kv wr=>∃ k:Nat,k≤n∧kv=.int .i64 k∧wr.ownsRow w.heap.size 3 1 sv k (nvs9 (List.range k))∧Below w.heap.size w wr) (fun _ kv _=>n - (intOf kv).toNat)
  case atStart=>exact ⟨0,Nat.zero_le _,rfl,World.ownsRow_nil _ _ _ _,Below.refl _ _⟩
  case round =>
    obtain ⟨k,hk,rfl,how,hbb⟩:=hrel
    have OW0:=Lib.hid how
    have BB:=Lib.hid hbb
    have szw:=hbb.size
    clear how hbb
    by_cases hlt:k < n
    · have hk1:(k:Int) < (n:Int):=by omega
      go_wp2_with (at_builtin;go_loud (refine wpList_append_own _ rfl _ _ 24 rfl w.heap.size 3 i0 (.int .i64 0) 1 8 Try.underlying24 HI.out HZ0.out HZ1.out HZ2.out rfl (by decide) _ k (nvs9 (List.range k)) rfl (World.ownsRow.alloc OW0.out _) ⟨_,0,none⟩ 1 1 [.int .i64 (k:Int)] rfl rfl (tr_one _ _ _ _ (by simp)) (by intro u hu;simp at hu;subst hu;rfl) (by unfold maxLen;omega) (by omega) (by simp;omega) ?_);intro v' w7 hown' hgrow _;have OW:=Lib.hid hown';have GR:=Lib.hid hgrow;clear hown' hgrow)
      have BG:=Lib.hid ((BB.out.alloc szw _).grown GR.out (by simp;omega) (fun gg hg=>(OW0.out.lt gg hg).1))
      go_roundw
      case rel=>exact ⟨k + 1,by omega,by go_num,by rw [range_snoc9];exact OW.out,BG.out⟩
      case measure=>simp [intOf];omega
    · obtain rfl:k=n:=by omega
      have hB:=BB.out
      have how:=OW0.out
      clear BB OW0
      go_wp2
      go_ret
      exact ⟨_,rfl,how,hB⟩
end Go.Proofs.Ytpocbdompamnnaa
