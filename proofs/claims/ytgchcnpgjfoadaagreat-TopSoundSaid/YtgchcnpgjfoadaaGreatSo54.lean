import Derived.OwnWalk
import Derived.Maps.AppendAt
import Derived.Test.YtgchcnpgjfoadaaGreatSo53
import Derived.Test.YtgchcnpgjfoadaaGreatFgMd
namespace Go.Proofs.YtgchcnpgjfoadaaGreat
open Go.ChangeShapes Go.WideShapes Go.RowKit
open Sh
theorem step_at8 {P:Program} {ops:Array Oper} {o:Oper} {a:Act} {w:World} {K:Act→World→Prop} {Q:Exit→Act→World→Prop} {E:Prop} (hg:o.guard=none) (s x:Operand) (t:TypeId)
    (ho:o.op=.call { callee:=.builtin .append,args:=#[s,x],argTypes:=#[t,t] })
    (base:Nat) (e:TypeId) (i:TypeInfo) (z:Value) (size bytes:Nat) (ht:P.underlying t=some (.slice e)) (hi:P.info? e=some i) (hz:i.zero=some z)
    (hsize:i.size=size) (hby:i.bytes=bytes) (hzs:z.cells.size=size) (hsz:0 < size)
    (v:Value) (n:Nat) (xs:List Value) (hs:a.eval s=v) (hown:w.ownsRow base e size v n xs)
    (ad:Addr) (m c:Nat) (hx:a.eval x=.slice (some ad) m c) (news:List Value) (hnews:∀ j u,news[j]?=some u→w.cell? (ad.add j)=some u) (hl:news.length=m * size) (h1:∀ u ∈ news,u.oneCell'=true)
    (h63:n + m≤maxLen) (hbytes:(n + m) * bytes≤140737488355328) (hbase:base≤w.heap.size)
    (h:∀ v' w',w'.ownsRow base e size v' (n + m) (xs ++ news)→w.grownBy w' v.ownBlock→(v'.ownBlock=v.ownBlock∨v'.ownBlock=some w.heap.size)→K (a.put o.dst v') w'):if Region.wanted o (yielded ops a.tmps)=true then Oper.wp P o a w K Q else E:=by
  have hw:Region.wanted o (yielded ops a.tmps)=true:=by simp [Region.wanted,hg]
  rw [if_pos hw]
  obtain ⟨v',w',hr,h2,h3,_,h5⟩:=run_append_own_at w base t o.type e i z size bytes ht hi hz hsize hby hzs hsz v n xs hown ad m c news hl hnews h1 h63 hbytes hbase
  unfold Oper.wp
  simp [execOp,ho,resolve,invoke,builtin,hs,hx,hr,Result.andThen]
  exact h v' w' h2 h3 h5
def RT (W:World) (B:Nat) (f g:Nat→Int) (v1:Value) (k1:Nat) (v2:Value) (k2:Nat):Prop :=
  W.ownsRow B 3 1 v1 k1 (ivs f k1)∧W.ownsRow B 3 1 v2 k2 (ivs g k2)∧(v2.ownBlock=none∨v2.ownBlock ≠ v1.ownBlock)∧(v1.ownBlock=none∨v1.ownBlock ≠ v2.ownBlock)
theorem rt_swap {W:World} {B:Nat} {f g:Nat→Int} {v1 v2:Value} {k1 k2:Nat} (h:RT W B f g v1 k1 v2 k2):RT W B g f v2 k2 v1 k1:=⟨h.2.1,h.1,h.2.2.2,h.2.2.1⟩
theorem rt_below {W W':World} {B:Nat} {f g:Nat→Int} {v1 v2:Value} {k1 k2:Nat} (h:RT W B f g v1 k1 v2 k2) (hb:Below W.heap.size W W'):RT W' B f g v1 k1 v2 k2:=⟨own_below9 h.1 hb,own_below9 h.2.1 hb,h.2.2⟩
theorem rt_drew {W:World} {B:Nat} {f g:Nat→Int} {v1 v2:Value} {k1 k2:Nat} (h:RT W B f g v1 k1 v2 k2):RT W.drew B f g v1 k1 v2 k2:=h
theorem rt_alloc {W:World} {B:Nat} {f g:Nat→Int} {v1 v2:Value} {k1 k2:Nat} (h:RT W B f g v1 k1 v2 k2) (o:Obj):RT (W.alloc o) B f g v1 k1 v2 k2:=rt_below h ((Below.refl _ _).alloc (Nat.le_refl _) _)
theorem rt_nil (W:World) (B:Nat) (f g:Nat→Int):RT W B f g (.slice none 0 0) 0 (.slice none 0 0) 0:=⟨World.ownsRow_nil _ _ _ _,World.ownsRow_nil _ _ _ _,.inl rfl,.inl rfl⟩
theorem rt_app {W W':World} {B:Nat} {f g:Nat→Int} {v1 v2 v':Value} {k1 k2:Nat} (h:RT W B f g v1 k1 v2 k2) (ho:W'.ownsRow B 3 1 v' (k1 + 1) (ivs f k1 ++ [.int .i64 (f k1)])) (hg:W.grownBy W' v1.ownBlock) (hb:v'.ownBlock=v1.ownBlock∨v'.ownBlock=some W.heap.size):RT W' B f g v' (k1 + 1) v2 k2:=by
  obtain ⟨r1,r2,s1,s2⟩:=h
  have lt:=r2.lt
  refine ⟨ho,r2.kept hg s1,?_,?_⟩
  · rcases hb with e | e
    · rw [e];exact s1
    · rw [e]
      cases hv:v2.ownBlock with
      | none=>exact .inl rfl
      | some g=>exact .inr (fun z=>by injection z with z;have:=(lt g hv).2;omega)
  · rcases hb with e | e
    · rw [e];exact s2
    · rw [e]
      refine .inr fun z=>?_
      have:=(lt _ z.symm).2
      omega
set_option maxRecDepth 100000 in
set_option maxHeartbeats 4000000 in
theorem tms_walk (a:Option Addr) (n c:Nat) (x:P3) (s:Int) (Q:Nat→Pu) (f g N M t u:Nat→Int) (w:World) (rr:LstU w a n Q) (hn:n≤16)
    (NE:Hid (∀ k,k < n→∀ W,Calls Tryz.prog 61 #[p9v (Q k).1,ptv x] W fun e w'=>e=.returned (.int .i64 (N k))∧Below W.heap.size W w')) (FA:Hid (∀ k,k < n→∀ W,Calls Tryz.prog 62 #[p9v (Q k).1,ptv x] W fun e w'=>e=.returned (.int .i64 (M k))∧Below W.heap.size W w'))
    (TN:Hid (∀ k,k < n→∀ W,Calls Tryz.prog 60 #[.int .i64 (N k),.int .i64 s] W fun e w'=>e=.returned (.int .i64 (t k))∧Below W.heap.size W w')) (TF:Hid (∀ k,k < n→∀ W,Calls Tryz.prog 60 #[.int .i64 (M k),.int .i64 s] W fun e w'=>e=.returned (.int .i64 (u k))∧Below W.heap.size W w'))
    (HF:Hid (∀ k,k < n→f k=(Q k).2.1 + t k∧g k=(Q k).2.1 + u k∧0≤(Q k).2.1∧(Q k).2.1≤1000∧0≤t k∧t k≤100000000∧0≤u k∧u k≤100000000)) :
    Calls Tryz.prog 40 #[.slice a n c,ptv x,.int .i64 s] w fun e w'=>∃ v1 v2,e=.returned (.tuple #[v1,v2])∧RT w' w.heap.size f g v1 n v2 n∧Below w.heap.size w w':=by
  obtain ⟨i0,hi,hz0,hz1,hz2⟩:=info_parts infoI1
  have HI:=Lib.hid hi
  have HZ0:=Lib.hid hz0
  have HZ1:=Lib.hid hz1
  have HZ2:=Lib.hid hz2
  clear hi hz0 hz1 hz2
  have hn':(n:Int)≤16:=by omega
  have RR:=Lib.hid rr
  have X0:=Lib.hid (own_new w x 24)
  have A0:=Lib.hid (show Below w.heap.size w (w.alloc (ptc x 24)) by (repeat' (first | exact Below.refl _ _ | refine Below.setCell ?_ (by simp <;> omega) _ | refine balloc ?_ _ | refine Below.drew ?_ | refine bdrewN ?_ _)))
  clear rr
  go_enter Tryz.func40,Tryz.ntmps40
  go_wp2
  have l0:w.heap.size < (w.alloc (ptc x 24)).heap.size:=by simp
  have l9:w.heap.size≤(w.alloc (ptc x 24)).heap.size:=by simp
  generalize w.alloc (ptc x 24)=w1 at *
  go_loopw [8,9,10] (fun sv sv2 kv wr=>∃ k:Nat,k≤n∧kv=.int .i64 k∧RT wr w1.heap.size f g sv k sv2 k∧Below w1.heap.size w1 wr) (fun _ _ kv _=>n - (intOf kv).toNat)
  case atStart=>exact ⟨0,Nat.zero_le _,rfl,rt_nil _ _ _ _,Below.refl _ _⟩
  case round =>
    obtain ⟨k,hk,rfl,rt,hbb⟩:=hrel
    have RR0:=Lib.hid rt
    have B0:=Lib.hid hbb
    clear rt hbb
    by_cases hlt:k < n
    · have hk1:(k:Int) < (n:Int):=by omega
      have hk16:k + 1≤16:=by omega
      obtain ⟨b,off,rfl,rw0⟩:=RR.out (show 0 < n by omega)
      have RB:=Lib.hid (rowU_in rw0 A0.out rw0.1)
      have hbl:b < w1.heap.size:=Nat.lt_of_lt_of_le rw0.1 l9
      obtain ⟨q,hq⟩:∃ q,Q k=q:=⟨_,rfl⟩
      have KEEP:=Lib.hid (fun (X:World) (hb:Below w1.heap.size w1 X)=>rsc_keep (own_in' X0.out hb l0) (rowU_in RB.out hb hbl) hlt hq)
      have NK:=Lib.hid (NE.out k hlt)
      have MK:=Lib.hid (FA.out k hlt)
      have TK:=Lib.hid (TN.out k hlt)
      have UK:=Lib.hid (TF.out k hlt)
      obtain ⟨h1,h2,h3,h4,h5,h6,h7,h8⟩:=HF.out k hlt
      obtain ⟨fk,hfk⟩:∃ fk,f k=fk:=⟨_,rfl⟩
      obtain ⟨gk,hgk⟩:∃ gk,g k=gk:=⟨_,rfl⟩
      have FE:=Lib.hid hfk
      have GE:=Lib.hid hgk
      rw [hfk] at h1
      rw [hgk] at h2
      rw [hq] at NK MK h1 h2 h3 h4
      clear rw0 hfk hgk
      generalize N k=nk at *
      generalize M k=mk at *
      generalize t k=tk at *
      generalize u k=uk at *
      have E1:q.2.1 + tk=fk:=h1.symm
      have E2:q.2.1 + uk=gk:=h2.symm
      have f1:0≤fk:=by omega
      have f2:fk≤100001000:=by omega
      have g1:0≤gk:=by omega
      have g2:gk≤100001000:=by omega
      have W1:IntKind.i64.wrap fk=fk:=IntWalk.i64_in _ (by omega)
      have W2:IntKind.i64.wrap gk=gk:=IntWalk.i64_in _ (by omega)
      clear h1 h2 h3 h4 h5 h6 h7 h8
      go_upto_region 5 with fail
      go_cut [8] (fun t8 wx=>RT wx w1.heap.size f g t8 (k + 1) u9 k∧Below w1.heap.size w1 wx)
      case first =>
        have b0:=Lib.hid (show Below w1.heap.size w1 wr.drew from Below.drew B0.out)
        have z0:w1.heap.size≤wr.heap.size:=B0.out.size
        have R0:=Lib.hid (rt_drew RR0.out)
        go_region_held3 (fun w'=>w'.cell? ⟨b,off + k * 11,none⟩=some (.int .i64 q.1.1.1)∧w'.cell? ⟨b,off + k * 11 + 1,none⟩=some (.int .i64 q.1.1.2.1)∧w'.cell? ⟨b,off + k * 11 + 1 + 1,none⟩=some (.int .i64 q.1.1.2.2)∧w'.cell? ⟨b,off + k * 11 + 1 + 1 + 1,none⟩=some (.int .i64 q.1.2.1.1)∧w'.cell? ⟨b,off + k * 11 + 1 + 1 + 1 + 1,none⟩=some (.int .i64 q.1.2.1.2.1)∧w'.cell? ⟨b,off + k * 11 + 1 + 1 + 1 + 1 + 1,none⟩=some (.int .i64 q.1.2.1.2.2)∧w'.cell? ⟨b,off + k * 11 + 1 + 1 + 1 + 1 + 1 + 1,none⟩=some (.int .i64 q.1.2.2.1)∧w'.cell? ⟨b,off + k * 11 + 1 + 1 + 1 + 1 + 1 + 1 + 1,none⟩=some (.int .i64 q.1.2.2.2.1)∧w'.cell? ⟨b,off + k * 11 + 1 + 1 + 1 + 1 + 1 + 1 + 1 + 1,none⟩=some (.int .i64 q.1.2.2.2.2)∧w'.cell? ⟨b,off + k * 11 + 1 + 1 + 1 + 1 + 1 + 1 + 1 + 1 + 1,none⟩=some (.int .i64 q.2.1)∧w'.cell? ⟨b,off + k * 11 + 1 + 1 + 1 + 1 + 1 + 1 + 1 + 1 + 1 + 1,none⟩=some (.int .i64 q.2.2)∧w'.cell? ⟨w.heap.size,0,none⟩=some (.int .i64 x.1)∧w'.cell? ⟨w.heap.size,1,none⟩=some (.int .i64 x.2.1)∧w'.cell? ⟨w.heap.size,2,none⟩=some (.int .i64 x.2.2))
          (first | (with_reducible exact KEEP.out _ b0.out) | (with_reducible exact KEEP.out _ b1.out) | (with_reducible exact KEEP.out _ b2.out) | (with_reducible exact KEEP.out _ b3.out) | (with_reducible exact KEEP.out _ b5.out) | fail)
          (first | (go_at_call 61;(with_reducible refine (NK.out _).mono ?_);rintro e y1 ⟨rfl,hv1⟩;have b1:=Lib.hid (b0.out.trans (hv1.mono z0));have R1:=Lib.hid (rt_below R0.out hv1);have z1:=Nat.le_trans z0 hv1.size) | (go_at_call 60;(with_reducible refine (TK.out _).mono ?_);rintro e y2 ⟨rfl,hv2⟩;have b2:=Lib.hid (b1.out.trans (hv2.mono z1));have R2:=Lib.hid (rt_below R1.out hv2);have z2:=Nat.le_trans z1 hv2.size;have b3:=Lib.hid (b2.out.alloc z2 (.cells #[.int .i64 fk] 3))) | (refine step_at8 rfl (.tmp 17) (.tmp 33) 47 rfl w1.heap.size 3 i0 (.int .i64 0) 1 8 Tryz.underlying47 HI.out HZ0.out HZ1.out HZ2.out rfl (by decide) _ k (ivs f k) (by simp [Act.eval]) ((fun r=>r.1) (rt_alloc R2.out _)) ⟨y2.heap.size,0,none⟩ 1 1 (by simp [Act.eval]) [.int .i64 fk] (one_new' _ _ _ _ (by simp)) rfl (by intro u hu;simp at hu;subst hu;rfl) (by unfold maxLen;omega) (by omega) (by simp;omega) ?_;intro v' w5 hown' hgrow hblk;have b5:=Lib.hid (b3.out.grown hgrow (by simp;omega) (fun gg hg=>(R2.out.1.lt gg hg).1));have R5:=Lib.hid (rt_app (rt_alloc R2.out _) (by rw [← FE.out] at hown';exact hown') hgrow hblk);clear hown' hgrow hblk) | fail)
        all_goals
          go_wp2
          go_meet
          exact ⟨R5.out,b5.out⟩
      case rest =>
        obtain ⟨rt5,hb5⟩:=hcut
        have RR1:=Lib.hid rt5
        have B1:=Lib.hid hb5
        clear rt5 hb5 E1 W1 RR0 B0
        go_upto_region 6 with fail
        have b0:=Lib.hid (show Below w1.heap.size w1 wc.drew from Below.drew B1.out)
        have z0:w1.heap.size≤wc.heap.size:=B1.out.size
        have R0:=Lib.hid (rt_drew RR1.out)
        go_region_held3 (fun w'=>w'.cell? ⟨b,off + k * 11,none⟩=some (.int .i64 q.1.1.1)∧w'.cell? ⟨b,off + k * 11 + 1,none⟩=some (.int .i64 q.1.1.2.1)∧w'.cell? ⟨b,off + k * 11 + 1 + 1,none⟩=some (.int .i64 q.1.1.2.2)∧w'.cell? ⟨b,off + k * 11 + 1 + 1 + 1,none⟩=some (.int .i64 q.1.2.1.1)∧w'.cell? ⟨b,off + k * 11 + 1 + 1 + 1 + 1,none⟩=some (.int .i64 q.1.2.1.2.1)∧w'.cell? ⟨b,off + k * 11 + 1 + 1 + 1 + 1 + 1,none⟩=some (.int .i64 q.1.2.1.2.2)∧w'.cell? ⟨b,off + k * 11 + 1 + 1 + 1 + 1 + 1 + 1,none⟩=some (.int .i64 q.1.2.2.1)∧w'.cell? ⟨b,off + k * 11 + 1 + 1 + 1 + 1 + 1 + 1 + 1,none⟩=some (.int .i64 q.1.2.2.2.1)∧w'.cell? ⟨b,off + k * 11 + 1 + 1 + 1 + 1 + 1 + 1 + 1 + 1,none⟩=some (.int .i64 q.1.2.2.2.2)∧w'.cell? ⟨b,off + k * 11 + 1 + 1 + 1 + 1 + 1 + 1 + 1 + 1 + 1,none⟩=some (.int .i64 q.2.1)∧w'.cell? ⟨b,off + k * 11 + 1 + 1 + 1 + 1 + 1 + 1 + 1 + 1 + 1 + 1,none⟩=some (.int .i64 q.2.2)∧w'.cell? ⟨w.heap.size,0,none⟩=some (.int .i64 x.1)∧w'.cell? ⟨w.heap.size,1,none⟩=some (.int .i64 x.2.1)∧w'.cell? ⟨w.heap.size,2,none⟩=some (.int .i64 x.2.2))
          (first | (with_reducible exact KEEP.out _ b0.out) | (with_reducible exact KEEP.out _ b1.out) | (with_reducible exact KEEP.out _ b2.out) | (with_reducible exact KEEP.out _ b3.out) | (with_reducible exact KEEP.out _ b5.out) | fail)
          (first | (go_at_call 62;(with_reducible refine (MK.out _).mono ?_);rintro e y1 ⟨rfl,hv1⟩;have b1:=Lib.hid (b0.out.trans (hv1.mono z0));have R1:=Lib.hid (rt_below R0.out hv1);have z1:=Nat.le_trans z0 hv1.size) | (go_at_call 60;(with_reducible refine (UK.out _).mono ?_);rintro e y2 ⟨rfl,hv2⟩;have b2:=Lib.hid (b1.out.trans (hv2.mono z1));have R2:=Lib.hid (rt_below R1.out hv2);have z2:=Nat.le_trans z1 hv2.size;have b3:=Lib.hid (b2.out.alloc z2 (.cells #[.int .i64 gk] 3))) | (refine step_at8 rfl (.tmp 35) (.tmp 51) 47 rfl w1.heap.size 3 i0 (.int .i64 0) 1 8 Tryz.underlying47 HI.out HZ0.out HZ1.out HZ2.out rfl (by decide) _ k (ivs g k) (by simp [Act.eval]) ((fun r=>r.2.1) (rt_alloc R2.out _)) ⟨y2.heap.size,0,none⟩ 1 1 (by simp [Act.eval]) [.int .i64 gk] (one_new' _ _ _ _ (by simp)) rfl (by intro u hu;simp at hu;subst hu;rfl) (by unfold maxLen;omega) (by omega) (by simp;omega) ?_;intro v' w5 hown' hgrow hblk;have b5:=Lib.hid (b3.out.grown hgrow (by simp;omega) (fun gg hg=>(R2.out.2.1.lt gg hg).1));have R5:=Lib.hid (rt_swap (rt_app (rt_swap (rt_alloc R2.out _)) (by rw [← GE.out] at hown';exact hown') hgrow hblk));clear hown' hgrow hblk) | fail)
        all_goals
          go_wp2
          go_roundw
          case rel=>exact ⟨k + 1,by omega,by go_num,R5.out,b5.out⟩
          case measure=>simp [intOf];omega
    · obtain rfl:k=n:=by omega
      have hB:=A0.out.trans (B0.out.mono l9)
      have RW:=RR0.out
      go_wp2
      go_ret2
      exact ⟨_,_,rfl,⟨own_base9 RW.1 l9,own_base9 RW.2.1 l9,RW.2.2⟩,hB⟩
end Go.Proofs.YtgchcnpgjfoadaaGreat
