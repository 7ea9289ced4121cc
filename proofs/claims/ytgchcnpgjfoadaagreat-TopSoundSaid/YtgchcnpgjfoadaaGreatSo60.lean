import Derived.Test.YtgchcnpgjfoadaaGreatSo59
namespace Go.Proofs.YtgchcnpgjfoadaaGreat
open Go.ChangeShapes Go.WideShapes Go.RowKit
open Sh
theorem ord_any (a:Option Addr) (n c:Nat) (Q:Nat→Pu) (x:P3) (s:Int) (w:World) (rr:LstU w a n Q) (hn:n≤140737488355328) :
    Calls Tryz.prog 18 #[.slice a n c,ptv x,.int .i64 s] w fun e w'=>∃ v,e=.returned (.tuple #[v,.int .i64 (mcT n Q x s)])∧OrdA w' w.heap.size n Q x s v∧Below w.heap.size w w':=by
  have C:=fun W (B:Below w.heap.size w W)=>mck_any x s 0 a n c none 0 0 Q (fun _=>0) W (lstU_below rr B) hn (fun h=>absurd h (by decide)) (by decide)
  rw [mcT_m] at C
  unfold OrdA
  by_cases z:mcT n Q x s=0
  · rw [z] at C
    obtain ⟨⟨h16,hp⟩,hx,s1,s2⟩:=mcT_ok z
    refine (ord_ok a n c x s Q (fT Q x s) (gT Q x s) w (Lib.hid C) rr h16
      (Lib.hid fun k hk W=>by obtain ⟨hb,_,⟨a1,a2⟩,_,_⟩:=pucode_ok (hp k hk);exact mfi_any x s 0 (Q k) W hb hx s1 s2 a1 a2)
      (Lib.hid fun k hk W=>by obtain ⟨hb,_,⟨a1,a2⟩,_,_⟩:=pucode_ok (hp k hk);exact mla_any x s 0 (Q k) W hb hx s1 s2 a1 a2)
      (Lib.hid fun W B v hB h=>sof_any _ _ n h16 W B v hB h)).mono ?_
    rintro e w' ⟨v,L,rfl,h1,h2,h3⟩
    exact ⟨v,by rw [z],by rw [if_pos z];exact ⟨L,h1,h2⟩,h3⟩
  · exact (ord_c a n c x s _ w (Lib.hid C) (bne_iff_ne.2 z)).mono fun e w' ⟨h1,h2⟩=>⟨_,h1,by rw [if_neg z],h2⟩
set_option maxRecDepth 100000 in
set_option maxHeartbeats 4000000 in
theorem si_row (A1 A2:Option Addr) (n c1 c2:Nat) (h:Nat→Int) (w:World) (hn:n≤16) (r1:∀ k,k < n→∃ q,A1=some ⟨q,0,none⟩∧q < w.heap.size∧w.cell? ⟨q,k,none⟩=some (.int .i64 (h k))) (r2:∀ k,k < n→∃ q,A2=some ⟨q,0,none⟩∧q < w.heap.size∧w.cell? ⟨q,k,none⟩=some (.int .i64 (h k))) :
    Calls Tryz.prog 20 #[.slice A1 n c1,.slice A2 n c2] w fun e w'=>e=.returned (.bool true)∧Below w.heap.size w w':=by
  have R1:=Lib.hid r1
  have R2:=Lib.hid r2
  have hn':(n:Int)≤16:=by omega
  clear r1 r2
  go_enter Tryz.func20,Tryz.ntmps20
  go_wp2
  go_loopw [5] (fun kv wr=>∃ k:Nat,k≤n∧kv=.int .i64 k∧Below w.heap.size w wr) (fun kv _=>n - (intOf kv).toNat)
  case atStart=>exact ⟨0,Nat.zero_le _,rfl,Below.refl _ _⟩
  case round =>
    obtain ⟨k,hk,rfl,hbb⟩:=hrel
    by_cases hlt:k < n
    · have hk1:(k:Int) < (n:Int):=by omega
      have hk0:(0:Int)≤(k:Int):=by omega
      obtain ⟨q1,rfl,l1,d1⟩:=R1.out k hlt
      obtain ⟨q2,rfl,l2,d2⟩:=R2.out k hlt
      have c1:=(hbb.cell (p:=⟨q1,k,none⟩) l1).trans d1
      have c2:=(hbb.cell (p:=⟨q2,k,none⟩) l2).trans d2
      have BB:=Lib.hid hbb
      clear hbb d1 d2 l1 l2
      generalize h k=v at *
      have vv:(v != v)=false:=by simp
      go_wp2
      go_quiet (fail)
      go_wp2
      go_roundw
      case rel=>exact ⟨k + 1,by omega,by go_num,bdrewN BB.out _⟩
      case measure=>simp [intOf];omega
    · obtain rfl:k=n:=by omega
      have hB:=hbb
      clear hbb
      go_wp2
      go_ret
      exact ⟨rfl,by (repeat' (first | with_reducible exact hB | with_reducible refine Below.drew ?_ | (with_reducible refine balloc ?_ _) | (with_reducible refine Below.setCell ?_ (by simp <;> omega) _)))⟩
theorem ordA_row {W:World} {B n:Nat} {L:List Nat} {v:Value} (h:W.ownsRow B 3 1 v n (nvs L)) (hl:L.length=n):∃ A c,v=.slice A n c∧∀ k,k < n→∃ q,A=some ⟨q,0,none⟩∧q < W.heap.size∧W.cell? ⟨q,k,none⟩=some (.int .i64 ((L.getD k 0:Nat):Int)):=by
  rcases Nat.eq_zero_or_pos n with h0 | h0
  · subst h0
    rcases h.2 with ⟨e,_⟩ | ⟨g,cap,cur,e,_⟩
    · exact ⟨none,0,e,fun k hk=>absurd hk (Nat.not_lt_zero k)⟩
    · exact ⟨_,cap,e,fun k hk=>absurd hk (Nat.not_lt_zero k)⟩
  · obtain ⟨q,cap,rfl⟩:=own_slice8 h h0
    refine ⟨_,cap,rfl,fun k hk=>⟨q,rfl,(h.lt q rfl).2,?_⟩⟩
    rw [h.cellAt k (by omega)]
    unfold nvs
    rw [List.getElem?_map,List.getElem?_eq_getElem (by omega),List.getD_eq_getElem?_getD,List.getElem?_eq_getElem (by omega)]
    rfl
theorem ord_same {W:World} {B1 B2 n:Nat} {Q:Nat→Pu} {x:P3} {s:Int} {u v:Value} (hn:mcT n Q x s=0→n≤16) (h1:OrdA W B1 n Q x s u) (h2:OrdA W B2 n Q x s v) :
    Calls Tryz.prog 20 #[u,v] W fun e w'=>e=.returned (.bool true)∧Below W.heap.size W w':=by
  unfold OrdA at h1 h2
  by_cases z:mcT n Q x s=0
  · rw [if_pos z] at h1 h2
    obtain ⟨L,s1,r1⟩:=h1
    obtain ⟨M,s2,r2⟩:=h2
    have e:L=M:=srt_uniq (s1.1.trans s2.1.symm) s1.2 s2.2
    subst e
    have ll:L.length=n:=by have:=s1.1.length_eq;rwa [List.length_range] at this
    obtain ⟨A1,c1,rfl,q1⟩:=ordA_row r1 ll
    obtain ⟨A2,c2,rfl,q2⟩:=ordA_row r2 ll
    exact si_row A1 A2 n c1 c2 _ W (hn z) q1 q2
  · rw [if_neg z] at h1 h2
    subst h1
    subst h2
    exact si_row none none 0 0 0 (fun _=>0) W (by decide) (fun k hk=>absurd hk (Nat.not_lt_zero k)) (fun k hk=>absurd hk (Nat.not_lt_zero k))
end Go.Proofs.YtgchcnpgjfoadaaGreat
