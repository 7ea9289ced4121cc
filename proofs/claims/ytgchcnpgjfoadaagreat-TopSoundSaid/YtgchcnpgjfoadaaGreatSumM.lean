import Derived.Test.YtgchcnpgjfoadaaGreatQuo
import Derived.LoopTactic
namespace Go.Proofs.YtgchcnpgjfoadaaGreat
open Go.ChangeShapes Go.WideShapes Go.RowKit
def Row (w:World) (b off n:Nat) (l h:Nat→Int):Prop :=
  b < w.heap.size∧∀ k,k < n→w.cell? ⟨b,off + k * 2,none⟩=some (.int .i64 (l k))∧w.cell? ⟨b,off + k * 2 + 1,none⟩=some (.int .i64 (h k))
theorem row_below {w w1:World} {b off n:Nat} {l h:Nat→Int} (r:Row w b off n l h) (hb:Below w.heap.size w w1):Row w1 b off n l h :=
  ⟨Nat.lt_of_lt_of_le r.1 hb.size,fun k hk=>⟨(hb.cell (p:=⟨b,off + k * 2,none⟩) r.1).trans (r.2 k hk).1,(hb.cell (p:=⟨b,off + k * 2 + 1,none⟩) r.1).trans (r.2 k hk).2⟩⟩
def sm (f:Nat→Int):Nat→Int
  | 0=>0
  | k + 1=>sm f k + f k
theorem sm_bd {f:Nat→Int} {k:Nat} (h:∀ i,i < k→-1099511627776≤f i∧f i≤1099511627776):-((k:Int) * 1099511627776)≤sm f k∧sm f k≤(k:Int) * 1099511627776:=by
  induction k with
  | zero=>simp [sm]
  | succ k ih =>
    have a:=ih (fun i hi=>h i (by omega))
    have c:=h k (by omega)
    show _≤sm f k + f k∧sm f k + f k≤_
    omega
theorem val_i' {a b:Int} (h:a=b):Value.int .i64 a=.int .i64 b:=by rw [h]
set_option maxHeartbeats 1000000 in
theorem total_ok (b off n cap:Nat) (l h:Nat→Int) (w:World) (r:Row w b off n l h) (hn:n≤10000) (v:∀ k,k < n→Sp.vldB (l k) (h k)=true) :
    Calls Tryz.prog 32 #[.slice (some ⟨b,off,none⟩) n cap] w fun e w'=>e=.returned (.tuple #[.int .i64 (sm l n),.int .i64 (sm h n),.int .i64 0])∧Below w.heap.size w w':=by
  have V:=Lib.hid v
  have hb1:b < w.heap.size:=r.1
  have R:=Lib.hid r
  have hn':(n:Int)≤10000:=by omega
  clear r v
  go_enter Tryz.func32,Tryz.ntmps32
  go_wp2
  go_loopw [2,3,12] (fun lv gv kv wr=>∃ k:Nat,k≤n∧kv=.int .i64 k∧lv=.int .i64 (sm l k)∧gv=.int .i64 (sm h k)∧Below w.heap.size w wr) (fun _ _ kv _=>n - (intOf kv).toNat)
  case atStart=>exact ⟨0,Nat.zero_le _,rfl,rfl,rfl,Below.refl _ _⟩
  case round =>
    obtain ⟨k,hk,rfl,rfl,rfl,B⟩:=hrel
    by_cases hlt:k < n
    · have r2:=row_below R.out B
      have c1:=(r2.2 k hlt).1
      have c2:=(r2.2 k hlt).2
      have s1:=sm_bd (f:=l) (k:=k) (fun i hi=>by have:=Sp.vld_iff.1 (V.out i (by omega));omega)
      have s2:=sm_bd (f:=h) (k:=k) (fun i hi=>by have:=Sp.vld_iff.1 (V.out i (by omega));omega)
      have vk:=Lib.hid (V.out k hlt)
      have bk:=Sp.vld_iff.1 vk.out
      have e1:=Lib.hid (show sm l (k + 1)=sm l k + l k from rfl)
      have e2:=Lib.hid (show sm h (k + 1)=sm h k + h k from rfl)
      have r5:=r2.1
      clear r2
      generalize sm l k=p at *
      generalize sm h k=q at *
      generalize l k=x at *
      generalize h k=y at *
      obtain ⟨bk1,bk2,bk3⟩:=bk
      have hk1:(k:Int) < (n:Int):=by omega
      go_wp2_with fail
      refine (valid_yes _ _ _ vk.out).mono ?_
      rintro e w1 ⟨rfl,rfl⟩
      go_wp2
      go_roundw
      case rel=>exact ⟨k + 1,by omega,by go_num,val_i' e1.out.symm,val_i' e2.out.symm,balloc (balloc B _) _⟩
      case measure=>simp [intOf];omega
    · obtain rfl:k=n:=by omega
      go_wp2
      go_ret3
      exact ⟨rfl,B⟩
theorem total_zero (a:Option Addr) (cap:Nat) (w:World) :
    Calls Tryz.prog 32 #[.slice a 0 cap] w fun e w'=>e=.returned (.tuple #[.int .i64 0,.int .i64 0,.int .i64 0])∧Below w.heap.size w w':=by
  go_enter Tryz.func32,Tryz.ntmps32
  go_wp2
  go_loop [2,3,12] (fun lv gv kv=>kv=.int .i64 0∧lv=.int .i64 0∧gv=.int .i64 0) (fun _ _ _=>0)
  case atStart=>exact ⟨rfl,rfl,rfl⟩
  case round =>
    obtain ⟨rfl,rfl,rfl⟩:=hrel
    go_wp2
    go_ret3
    exact ⟨rfl,Below.refl _ _⟩
set_option maxHeartbeats 1000000 in
theorem total_bad (b off n cap k0:Nat) (l h:Nat→Int) (w:World) (r:Row w b off n l h) (hn:n≤10000) (hk0:k0 < n) (v:∀ k,k < k0→Sp.vldB (l k) (h k)=true) (nv:Sp.vldB (l k0) (h k0)=false) :
    Calls Tryz.prog 32 #[.slice (some ⟨b,off,none⟩) n cap] w fun e w'=>e=.returned (.tuple #[.int .i64 0,.int .i64 0,.int .i64 1])∧Below w.heap.size w w':=by
  have V:=Lib.hid v
  have NV:=Lib.hid nv
  have hb1:b < w.heap.size:=r.1
  have R:=Lib.hid r
  have hn':(n:Int)≤10000:=by omega
  clear r v nv
  go_enter Tryz.func32,Tryz.ntmps32
  go_wp2
  go_loopw [2,3,12] (fun lv gv kv wr=>∃ k:Nat,k≤k0∧kv=.int .i64 k∧lv=.int .i64 (sm l k)∧gv=.int .i64 (sm h k)∧Below w.heap.size w wr) (fun _ _ kv _=>n - (intOf kv).toNat)
  case atStart=>exact ⟨0,Nat.zero_le _,rfl,rfl,rfl,Below.refl _ _⟩
  case round =>
    obtain ⟨k,hk,rfl,rfl,rfl,B⟩:=hrel
    have hlt:k < n:=by omega
    have r2:=row_below R.out B
    have c1:=(r2.2 k hlt).1
    have c2:=(r2.2 k hlt).2
    have s1:=sm_bd (f:=l) (k:=k) (fun i hi=>by have:=Sp.vld_iff.1 (V.out i (by omega));omega)
    have s2:=sm_bd (f:=h) (k:=k) (fun i hi=>by have:=Sp.vld_iff.1 (V.out i (by omega));omega)
    have e1:=Lib.hid (show sm l (k + 1)=sm l k + l k from rfl)
    have e2:=Lib.hid (show sm h (k + 1)=sm h k + h k from rfl)
    have hk1:(k:Int) < (n:Int):=by omega
    by_cases hl:k < k0
    · have vk:=Lib.hid (V.out k hl)
      have bk:=Sp.vld_iff.1 vk.out
      have r5:=r2.1
      clear r2
      generalize sm l k=p at *
      generalize sm h k=q at *
      generalize l k=x at *
      generalize h k=y at *
      obtain ⟨bk1,bk2,bk3⟩:=bk
      go_wp2_with fail
      refine (valid_yes _ _ _ vk.out).mono ?_
      rintro e w1 ⟨rfl,rfl⟩
      go_wp2
      go_roundw
      case rel=>exact ⟨k + 1,by omega,by go_num,val_i' e1.out.symm,val_i' e2.out.symm,balloc (balloc B _) _⟩
      case measure=>simp [intOf];omega
    · obtain rfl:k=k0:=by omega
      have nk:=NV
      have r5:=r2.1
      clear r2 e1 e2 NV
      generalize sm l k=p at *
      generalize sm h k=q at *
      generalize l k=x at *
      generalize h k=y at *
      go_wp2_with fail
      refine (valid_no _ _ _ nk.out).mono ?_
      rintro e w1 ⟨rfl,rfl⟩
      go_wp2
      go_ret3
      exact ⟨rfl,balloc (balloc B _) _⟩
end Go.Proofs.YtgchcnpgjfoadaaGreat
namespace Go.Proofs.YtgchcnpgjfoadaaGreat
open Go.ChangeShapes Go.WideShapes Go.RowKit
def TotC (F:FuncId) (a:Option Addr) (n cap:Nat) (lo hi e:Int) (w:World):Prop :=
  ∀ W:World,Below w.heap.size w W→Calls Tryz.prog F #[.slice a n cap] W fun e' w'=>e'=.returned (.tuple #[.int .i64 lo,.int .i64 hi,.int .i64 e])∧Below W.heap.size W w'
def sumR (lo hi e:Int):Sp.R:=if e=0 then Sp.told lo hi else ((0,0),e)
def meanR (lo hi e:Int) (n:Nat):Sp.R:=if e=0 then (if n=0 then ((0,0),1) else Sp.told (Sp.fl lo n) (Sp.ce hi n)) else ((0,0),e)
theorem sum_e (a:Option Addr) (n cap:Nat) (lo hi er:Int) (w W:World) (T:Hid (TotC 32 a n cap lo hi er w)) (B:Below w.heap.size w W) (z:er ≠ 0) :
    Calls Tryz.prog 10 #[.slice a n cap] W fun e w'=>e=.returned (spr ((0,0),er))∧Below W.heap.size W w':=by
  have z1:(er != 0)=true:=bne_iff_ne.2 z
  clear z
  go_enter Tryz.func10,Tryz.ntmps10
  go_wp2_with fail
  refine (T.out _ (balloc B _)).mono ?_
  rintro e' w1 ⟨rfl,hb⟩
  obtain ⟨g1,g2,g3,g4,g5⟩:=pair_below (pair_new W 0 0 _) hb
  go_wp2
  refine bodyPost_ret (v:=spr ((0,0),er)) (by rw [results_cell_tmp rfl];go_simp) rfl ⟨rfl,?_⟩
  (repeat' (first | exact Below.refl _ _ | refine bstep ?_ hb | refine Below.setCell ?_ (by simp <;> omega) _ | refine balloc ?_ _ | refine Below.drew ?_ | refine bdrewN ?_ _))
theorem sum_ok (a:Option Addr) (n cap:Nat) (lo hi:Int) (w W:World) (T:Hid (TotC 32 a n cap lo hi 0 w)) (B:Below w.heap.size w W) :
    Calls Tryz.prog 10 #[.slice a n cap] W fun e w'=>e=.returned (spr (Sp.told lo hi))∧Below W.heap.size W w':=by
  go_enter Tryz.func10,Tryz.ntmps10
  go_wp2_with fail
  refine (T.out _ (balloc B _)).mono ?_
  rintro e' w1 ⟨rfl,hb⟩
  have z0:=pair_below (pair_new W 0 0 _) hb
  go_wp2_with fail
  refine (least_any _ _ _).mono ?_
  rintro e' w2 ⟨rfl,hb2⟩
  obtain ⟨g1,g2,g3,g4,g5⟩:=pair_below z0 hb2
  go_wp2
  refine bodyPost_ret (v:=spr (Sp.told lo hi)) (by rw [results_cell_tmp rfl];go_simp) rfl ⟨rfl,?_⟩
  (repeat' (first | exact Below.refl _ _ | refine bstep ?_ hb | refine bstep ?_ hb2 | refine Below.setCell ?_ (by simp <;> omega) _ | refine balloc ?_ _ | refine Below.drew ?_ | refine bdrewN ?_ _))
theorem sum_any (a:Option Addr) (n cap:Nat) (lo hi er:Int) (w W:World) (T:Hid (TotC 32 a n cap lo hi er w)) (B:Below w.heap.size w W) :
    Calls Tryz.prog 10 #[.slice a n cap] W fun e w'=>e=.returned (spr (sumR lo hi er))∧Below W.heap.size W w':=by
  unfold sumR
  split
  · rename_i z;subst z;exact sum_ok a n cap lo hi w W T B
  · rename_i z;exact sum_e a n cap lo hi er w W T B z
theorem mean_e (a:Option Addr) (n cap:Nat) (lo hi er:Int) (w W:World) (T:Hid (TotC 32 a n cap lo hi er w)) (B:Below w.heap.size w W) (z:er ≠ 0) :
    Calls Tryz.prog 80 #[.slice a n cap] W fun e w'=>e=.returned (spr ((0,0),er))∧Below W.heap.size W w':=by
  have z1:(er != 0)=true:=bne_iff_ne.2 z
  clear z
  go_enter Tryz.func80,Tryz.ntmps80
  go_wp2_with fail
  refine (T.out _ (balloc B _)).mono ?_
  rintro e' w1 ⟨rfl,hb⟩
  obtain ⟨g1,g2,g3,g4,g5⟩:=pair_below (pair_new W 0 0 _) hb
  go_wp2
  refine bodyPost_ret (v:=spr ((0,0),er)) (by rw [results_cell_tmp rfl];go_simp) rfl ⟨rfl,?_⟩
  (repeat' (first | exact Below.refl _ _ | refine bstep ?_ hb | refine Below.setCell ?_ (by simp <;> omega) _ | refine balloc ?_ _ | refine Below.drew ?_ | refine bdrewN ?_ _))
theorem mean_zero (a:Option Addr) (cap:Nat) (lo hi:Int) (w W:World) (T:Hid (TotC 32 a 0 cap lo hi 0 w)) (B:Below w.heap.size w W) :
    Calls Tryz.prog 80 #[.slice a 0 cap] W fun e w'=>e=.returned (spr ((0,0),1))∧Below W.heap.size W w':=by
  go_enter Tryz.func80,Tryz.ntmps80
  go_wp2_with fail
  refine (T.out _ (balloc B _)).mono ?_
  rintro e' w1 ⟨rfl,hb⟩
  obtain ⟨g1,g2,g3,g4,g5⟩:=pair_below (pair_new W 0 0 _) hb
  go_wp2
  refine bodyPost_ret (v:=spr ((0,0),1)) (by rw [results_cell_tmp rfl];go_simp) rfl ⟨rfl,?_⟩
  (repeat' (first | exact Below.refl _ _ | refine bstep ?_ hb | refine Below.setCell ?_ (by simp <;> omega) _ | refine balloc ?_ _ | refine Below.drew ?_ | refine bdrewN ?_ _))
theorem mean_ok (a:Option Addr) (n cap:Nat) (lo hi:Int) (w W:World) (T:Hid (TotC 32 a n cap lo hi 0 w)) (B:Below w.heap.size w W) (hn:0 < n) (hm:n≤20000) (h1:Hid (Sm lo n)) (h2:Hid (Sm hi n)) :
    Calls Tryz.prog 80 #[.slice a n cap] W fun e w'=>e=.returned (spr (Sp.told (Sp.fl lo n) (Sp.ce hi n)))∧Below W.heap.size W w':=by
  have N:Hid ((n:Int) ≠ 0):=(by omega:(n:Int) ≠ 0)
  have nB:((n:Int) == 0)=false:=beq_eq_false_iff_ne.2 (by omega)
  have hm':(n:Int)≤20000:=by omega
  clear hn hm
  go_enter Tryz.func80,Tryz.ntmps80
  go_wp2_with fail
  refine (T.out _ (balloc B _)).mono ?_
  rintro e' w1 ⟨rfl,hb⟩
  have z0:=pair_below (pair_new W 0 0 _) hb
  go_wp2_with fail
  refine (down_any _ _ _ h1.out N.out).mono ?_
  rintro e' w2 ⟨rfl,rfl⟩
  go_wp2_with fail
  refine (up_any _ _ _ h2.out N.out).mono ?_
  rintro e' w2 ⟨rfl,rfl⟩
  go_wp2_with fail
  refine (least_any _ _ _).mono ?_
  rintro e' w2 ⟨rfl,hb2⟩
  obtain ⟨g1,g2,g3,g4,g5⟩:=pair_below z0 hb2
  go_wp2
  refine bodyPost_ret (v:=spr (Sp.told (Sp.fl lo n) (Sp.ce hi n))) (by rw [results_cell_tmp rfl];go_simp) rfl ⟨rfl,?_⟩
  (repeat' (first | exact Below.refl _ _ | refine bstep ?_ hb | refine bstep ?_ hb2 | refine Below.setCell ?_ (by simp <;> omega) _ | refine balloc ?_ _ | refine Below.drew ?_ | refine bdrewN ?_ _))
theorem mean_any (a:Option Addr) (n cap:Nat) (lo hi er:Int) (w W:World) (T:Hid (TotC 32 a n cap lo hi er w)) (B:Below w.heap.size w W) (hm:n≤20000) (h1:Hid (Sm lo n)) (h2:Hid (Sm hi n)) :
    Calls Tryz.prog 80 #[.slice a n cap] W fun e w'=>e=.returned (spr (meanR lo hi er n))∧Below W.heap.size W w':=by
  unfold meanR
  split
  · rename_i z
    subst z
    split
    · rename_i z;subst z;exact mean_zero a cap lo hi w W T B
    · exact mean_ok a n cap lo hi w W T B (by omega) hm h1 h2
  · rename_i z;exact mean_e a n cap lo hi er w W T B z
end Go.Proofs.YtgchcnpgjfoadaaGreat
