import Derived.Test.YtgchcnpgjfoadaaGreatBase
import Derived.IntWalk
namespace Go.Proofs.YtgchcnpgjfoadaaGreat
open Go.ChangeShapes Go.WideShapes Go.RowKit
theorem ret_int {k:IntKind} {a b:Int} (h:a=b):Ending.returned (.int k a)=.returned (.int k b):=by rw [h]
theorem w64 {a:Int} (h:-9223372036854775808≤a) (h':a≤9223372036854775807):wrap64 a=a:=IntWalk.wrap64_in a ⟨h,h'⟩
def Sm (n d:Int):Prop:=-4611686018427387904≤n∧n≤4611686018427387904∧-4611686018427387904≤d∧d≤4611686018427387904
theorem dd0 {n d:Int} (h:Sm n d):wrap64 (n.tdiv d)=n.tdiv d:=by
  have:=Sp.tdiv_bd (d:=d) h.1 h.2.1
  exact w64 (by omega) (by omega)
theorem dd4 {n d:Int} (h:Sm n d):wrap64 (n.tdiv d - 1)=n.tdiv d - 1:=by
  have:=Sp.tdiv_bd (d:=d) h.1 h.2.1
  have:=h;unfold Sm at this
  exact w64 (by omega) (by omega)
theorem mod_eq {n d:Int} (h:0≤n):n % d=n.tmod d:=(Int.tmod_eq_emod_of_nonneg h).symm
theorem div_eq {n d:Int} (h:0≤n):n / d=n.tdiv d:=(Int.tdiv_eq_ediv_of_nonneg h).symm
theorem down_any (n d:Int) (w:World) (h:Sm n d) (h0:d ≠ 0) :
    Calls Tryz.prog 116 #[.int .i64 n,.int .i64 d] w fun e w'=>e=.returned (.int .i64 (Sp.fl n d))∧w=w':=by
  have H:Hid (Sm n d):=h
  obtain ⟨h1,h2,h3,h4⟩:=h
  rcases Int.lt_or_le n 0 with h5 | h5 <;> rcases Int.lt_or_le d 0 with h6 | h6
  · have t1:decide (n < 0)=true:=decide_eq_true h5
    have t2:decide (d < 0)=true:=decide_eq_true h6
    clear h0
    go_enter Tryz.func116,Tryz.ntmps116
    go_wp2
    all_goals
      go_ret
      refine ⟨ret_int ?_,rfl⟩
      (try simp only [dd0 H.out]);(try simp only [dd4 H.out])
      exact Sp.fl_b (.inr ⟨h5,h6⟩)
  · replace h6:0 < d:=by omega
    have t1:decide (n < 0)=true:=decide_eq_true h5
    have t2:decide (d < 0)=false:=decide_eq_false (by omega)
    clear h0
    go_enter Tryz.func116,Tryz.ntmps116
    go_wp2
    all_goals
      go_ret
      refine ⟨ret_int ?_,rfl⟩
      (try simp only [dd0 H.out]);(try simp only [dd4 H.out])
      first | exact Sp.fl_a (by omega) (by assumption) | exact Sp.fl_c (by assumption) (.inl ⟨h5,h6⟩)
  · have t1:decide (n < 0)=false:=decide_eq_false (by omega)
    have t2:decide (d < 0)=true:=decide_eq_true h6
    clear h0
    go_enter Tryz.func116,Tryz.ntmps116
    go_wp2
    all_goals
      go_ret
      refine ⟨ret_int ?_,rfl⟩
      (try simp only [dd0 H.out]);(try simp only [dd4 H.out])
      (try simp only [div_eq h5])
      first | exact Sp.fl_a (by omega) (by rw [← mod_eq h5];assumption) | exact Sp.fl_c (by rw [← mod_eq h5];assumption) (.inr ⟨h5,h6⟩)
  · replace h6:0 < d:=by omega
    have t1:decide (n < 0)=false:=decide_eq_false (by omega)
    have t2:decide (d < 0)=false:=decide_eq_false (by omega)
    clear h0
    go_enter Tryz.func116,Tryz.ntmps116
    go_wp2
    all_goals
      go_ret
      refine ⟨ret_int ?_,rfl⟩
      (try simp only [dd0 H.out]);(try simp only [dd4 H.out])
      (try simp only [div_eq h5])
      exact Sp.fl_b (.inl ⟨h5,h6⟩)
theorem up_any (n d:Int) (w:World) (h:Sm n d) (h0:d ≠ 0) :
    Calls Tryz.prog 117 #[.int .i64 n,.int .i64 d] w fun e w'=>e=.returned (.int .i64 (Sp.ce n d))∧w=w':=by
  have K:Sm (-n) d:=by unfold Sm at *;omega
  have b:=Sp.fl_bd (d:=d) K.1 K.2.1
  have K':Hid (Sm (-n) d):=K
  have h0':Hid (d ≠ 0):=h0
  obtain ⟨h1,h2,h3,h4⟩:=h
  obtain ⟨b1,b2⟩:=b
  clear K h0
  go_enter Tryz.func117,Tryz.ntmps117
  go_wp2_with fail
  refine (down_any _ _ _ K'.out h0'.out).mono ?_
  rintro e w1 ⟨rfl,rfl⟩
  go_wp2
  go_ret
  exact ⟨ret_int rfl,rfl⟩
theorem betw_yes (n a b:Int) (w:World) (h1:a≤n) (h2:n≤b) :
    Calls Tryz.prog 45 #[.int .i64 n,.int .i64 a,.int .i64 b] w fun e w'=>e=.returned (.bool true)∧w=w':=by
  go_enter Tryz.func45,Tryz.ntmps45
  go_wp2
  go_ret
  exact ⟨rfl,rfl⟩
end Go.Proofs.YtgchcnpgjfoadaaGreat
