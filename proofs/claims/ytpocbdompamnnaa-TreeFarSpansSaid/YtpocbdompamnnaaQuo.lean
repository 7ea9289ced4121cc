import Derived.Test.YtpocbdompamnnaaBase
import Derived.IntWalk
namespace Go.Proofs.Ytpocbdompamnnaa
open Go.ChangeShapes Go.WideShapes Go.RowKit
theorem ret_int {k:IntKind} {a b:Int} (h:a=b):Ending.returned (.int k a)=.returned (.int k b):=by rw [h]
theorem w64 {a:Int} (h:-9223372036854775808≤a) (h':a≤9223372036854775807):wrap64 a=a:=IntWalk.wrap64_in a ⟨h,h'⟩
def Sm (n d:Int):Prop:=-4611686018427387904≤n∧n≤4611686018427387904∧-4611686018427387904≤d∧d≤4611686018427387904
theorem dd0 {n d:Int} (h:Sm n d):wrap64 (n.tdiv d)=n.tdiv d:=by
  have:=Sp.tdiv_bd (d:=d) h.1 h.2.1
  exact w64 (by omega) (by omega)
theorem dd1 {n d:Int} (h:Sm n d) (k:0≤n∧0 < d∨n < 0∧d < 0):wrap64 (n.tdiv d)=Sp.fl n d:=by
  rw [dd0 h,Sp.fl_b k]
theorem dd2 {n d:Int} (h:Sm n d) (hd:d ≠ 0) (k:n.tmod d=0):wrap64 (n.tdiv d)=Sp.fl n d:=by
  rw [dd0 h,Sp.fl_a hd k]
theorem dd3 {n d:Int} (h:Sm n d) (hs:n < 0∧0 < d∨0≤n∧d < 0) (k:¬ n.tmod d=0):wrap64 (wrap64 (n.tdiv d) - 1)=Sp.fl n d:=by
  have b:=Sp.tdiv_bd (d:=d) h.1 h.2.1
  rw [dd0 h,w64 (by have:=h;unfold Sm at this;omega) (by have:=h;unfold Sm at this;omega),Sp.fl_c k hs]
theorem dd4 {n d:Int} (h:Sm n d):wrap64 (n.tdiv d - 1)=n.tdiv d - 1:=by
  have:=Sp.tdiv_bd (d:=d) h.1 h.2.1
  have:=h;unfold Sm at this
  exact w64 (by omega) (by omega)
theorem mod_eq {n d:Int} (h:0≤n):n % d=n.tmod d:=(Int.tmod_eq_emod_of_nonneg h).symm
theorem div_eq {n d:Int} (h:0≤n):n / d=n.tdiv d:=(Int.tdiv_eq_ediv_of_nonneg h).symm
theorem down_any (n d:Int) (w:World) (h:Sm n d) (h0:d ≠ 0) :
    Calls Try.prog 66 #[.int .i64 n,.int .i64 d] w fun e w'=>e=.returned (.int .i64 (Sp.fl n d))∧w=w':=by
  have H:Hid (Sm n d):=h
  obtain ⟨h1,h2,h3,h4⟩:=h
  rcases Int.lt_or_le n 0 with h5 | h5 <;> rcases Int.lt_or_le d 0 with h6 | h6
  · have t1:decide (n < 0)=true:=decide_eq_true h5
    have t2:decide (d < 0)=true:=decide_eq_true h6
    clear h0
    go_enter Try.func66,Try.ntmps66
    go_wp2
    all_goals
      go_ret
      refine ⟨ret_int ?_,rfl⟩
      (try simp only [dd0 H.out]);(try simp only [dd4 H.out])
      exact Sp.fl_b (.inr ⟨h5,h6⟩)
  · replace h6:0 < d:=by omega
    have t1:decide (n < 0)=true:=decide_eq_true h5
    have t2:decide (d < 0)=false:=decide_eq_false (by omega)
    clear h0
    go_enter Try.func66,Try.ntmps66
    go_wp2
    all_goals
      go_ret
      refine ⟨ret_int ?_,rfl⟩
      (try simp only [dd0 H.out]);(try simp only [dd4 H.out])
      first | exact Sp.fl_a (by omega) (by assumption) | exact Sp.fl_c (by assumption) (.inl ⟨h5,h6⟩)
  · have t1:decide (n < 0)=false:=decide_eq_false (by omega)
    have t2:decide (d < 0)=true:=decide_eq_true h6
    clear h0
    go_enter Try.func66,Try.ntmps66
    go_wp2
    all_goals
      go_ret
      refine ⟨ret_int ?_,rfl⟩
      (try simp only [dd0 H.out]);(try simp only [dd4 H.out])
      (try simp only [div_eq h5])
      first | exact Sp.fl_a (by omega) (by rw [← mod_eq h5];assumption) | exact Sp.fl_c (by rw [← mod_eq h5];assumption) (.inr ⟨h5,h6⟩)
  · replace h6:0 < d:=by omega
    have t1:decide (n < 0)=false:=decide_eq_false (by omega)
    have t2:decide (d < 0)=false:=decide_eq_false (by omega)
    clear h0
    go_enter Try.func66,Try.ntmps66
    go_wp2
    all_goals
      go_ret
      refine ⟨ret_int ?_,rfl⟩
      (try simp only [dd0 H.out]);(try simp only [dd4 H.out])
      (try simp only [div_eq h5])
      exact Sp.fl_b (.inl ⟨h5,h6⟩)
theorem up_any (n d:Int) (w:World) (h:Sm n d) (h0:d ≠ 0) :
    Calls Try.prog 67 #[.int .i64 n,.int .i64 d] w fun e w'=>e=.returned (.int .i64 (Sp.ce n d))∧w=w':=by
  have K:Sm (-n) d:=by unfold Sm at *;omega
  have b:=Sp.fl_bd (d:=d) K.1 K.2.1
  have K':Hid (Sm (-n) d):=K
  have h0':Hid (d ≠ 0):=h0
  obtain ⟨h1,h2,h3,h4⟩:=h
  obtain ⟨b1,b2⟩:=b
  clear K h0
  go_enter Try.func67,Try.ntmps67
  go_wp2_with fail
  refine (down_any _ _ _ K'.out h0'.out).mono ?_
  rintro e w1 ⟨rfl,rfl⟩
  go_wp2
  go_ret
  exact ⟨ret_int rfl,rfl⟩
theorem betw_yes (n a b:Int) (w:World) (h1:a≤n) (h2:n≤b) :
    Calls Try.prog 64 #[.int .i64 n,.int .i64 a,.int .i64 b] w fun e w'=>e=.returned (.bool true)∧w=w':=by
  go_enter Try.func64,Try.ntmps64
  go_wp2
  go_ret
  exact ⟨rfl,rfl⟩
theorem quo_ok (n d:Int) (w:World) (h1:-1099511627776≤n) (h2:n≤1099511627776) (h3:-1099511627776≤d) (h4:d≤1099511627776) (h0:d ≠ 0) :
    Calls Try.prog 38 #[.int .i64 n,.int .i64 d] w fun e w'=>e=.returned (spr (Sp.told (Sp.fl (n * 1048576) d) (Sp.ce (n * 1048576) d)))∧Below w.heap.size w w':=by
  have S:Hid (Sm (n * 1048576) d):=(by unfold Sm;omega:Sm (n * 1048576) d)
  have N:Hid (d ≠ 0):=h0
  have z:(d == 0)=false:=beq_eq_false_iff_ne.2 h0
  clear h0
  go_enter Try.func38,Try.ntmps38
  go_wp2_with fail
  refine (betw_yes _ _ _ _ h1 h2).mono ?_
  rintro e w1 ⟨rfl,rfl⟩
  go_wp2_with fail
  refine (betw_yes _ _ _ _ h3 h4).mono ?_
  rintro e w1 ⟨rfl,rfl⟩
  go_wp2_with fail
  refine (down_any _ _ _ S.out N.out).mono ?_
  rintro e w1 ⟨rfl,rfl⟩
  go_wp2_with fail
  refine (up_any _ _ _ S.out N.out).mono ?_
  rintro e w1 ⟨rfl,rfl⟩
  go_wp2_with fail
  refine (least_any _ _ _).mono ?_
  rintro e w1 ⟨rfl,hb⟩
  obtain ⟨c1,c2,c3,c4,_⟩:=pair_below (pair_new _ _ _ _) hb
  go_wp2
  refine bodyPost_ret (v:=spr (Sp.told _ _)) (by rw [results_cell_tmp rfl];go_simp) rfl ⟨rfl,?_⟩
  (repeat' (first | exact Below.refl _ _ | refine bstep ?_ hb | refine Below.setCell ?_ (by simp <;> omega) _ | refine balloc ?_ _ | refine Below.drew ?_ | refine bdrewN ?_ _))
theorem quo_no (n d:Int) (w:World) (h:¬ (-1099511627776≤n∧n≤1099511627776∧-1099511627776≤d∧d≤1099511627776∧d ≠ 0)) :
    Calls Try.prog 38 #[.int .i64 n,.int .i64 d] w fun e w'=>e=.returned (spr ((0,0),1))∧Below w.heap.size w w':=by
  rcases Int.lt_or_le n (-1099511627776) with a1 | a1
  · clear h
    go_enter Try.func38,Try.ntmps38
    go_wp2
    refine bodyPost_ret (v:=spr ((0,0),1)) (by rw [results_cell_tmp rfl];go_simp) rfl ⟨rfl,?_⟩
    (repeat' (first | exact Below.refl _ _ | refine Below.setCell ?_ (by simp <;> omega) _ | refine balloc ?_ _ | refine Below.drew ?_ | refine bdrewN ?_ _))
  rcases Int.lt_or_le 1099511627776 n with a2 | a2
  · clear h
    go_enter Try.func38,Try.ntmps38
    go_wp2
    refine bodyPost_ret (v:=spr ((0,0),1)) (by rw [results_cell_tmp rfl];go_simp) rfl ⟨rfl,?_⟩
    (repeat' (first | exact Below.refl _ _ | refine Below.setCell ?_ (by simp <;> omega) _ | refine balloc ?_ _ | refine Below.drew ?_ | refine bdrewN ?_ _))
  rcases Int.lt_or_le d (-1099511627776) with a3 | a3
  · clear h
    go_enter Try.func38,Try.ntmps38
    go_wp2
    refine bodyPost_ret (v:=spr ((0,0),1)) (by rw [results_cell_tmp rfl];go_simp) rfl ⟨rfl,?_⟩
    (repeat' (first | exact Below.refl _ _ | refine Below.setCell ?_ (by simp <;> omega) _ | refine balloc ?_ _ | refine Below.drew ?_ | refine bdrewN ?_ _))
  rcases Int.lt_or_le 1099511627776 d with a4 | a4
  · clear h
    go_enter Try.func38,Try.ntmps38
    go_wp2
    refine bodyPost_ret (v:=spr ((0,0),1)) (by rw [results_cell_tmp rfl];go_simp) rfl ⟨rfl,?_⟩
    (repeat' (first | exact Below.refl _ _ | refine Below.setCell ?_ (by simp <;> omega) _ | refine balloc ?_ _ | refine Below.drew ?_ | refine bdrewN ?_ _))
  · obtain rfl:d=0:=by omega
    clear h
    go_enter Try.func38,Try.ntmps38
    go_wp2
    refine bodyPost_ret (v:=spr ((0,0),1)) (by rw [results_cell_tmp rfl];go_simp) rfl ⟨rfl,?_⟩
    (repeat' (first | exact Below.refl _ _ | refine Below.setCell ?_ (by simp <;> omega) _ | refine balloc ?_ _ | refine Below.drew ?_ | refine bdrewN ?_ _))
theorem quo_any (n d:Int) (w:World) :
    Calls Try.prog 38 #[.int .i64 n,.int .i64 d] w fun e w'=>e=.returned (spr (Sp.quo n d))∧Below w.heap.size w w':=by
  unfold Sp.quo
  split
  · rename_i h
    obtain ⟨h1,h2,h3,h4,h0⟩:=h
    exact quo_ok n d w h1 h2 h3 h4 h0
  · rename_i h
    exact quo_no n d w h
end Go.Proofs.Ytpocbdompamnnaa
