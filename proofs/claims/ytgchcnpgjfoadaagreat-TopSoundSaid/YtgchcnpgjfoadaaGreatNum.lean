namespace Go.Proofs.YtgchcnpgjfoadaaGreat
namespace Sp
abbrev R:=(Int × Int) × Int
def vldB (lo hi:Int):Bool:=decide (-1099511627776≤lo∧lo≤hi∧hi≤1099511627776)
theorem vld_iff {lo hi:Int}:vldB lo hi=true ↔ (-1099511627776≤lo∧lo≤hi∧hi≤1099511627776):=by
  unfold vldB;simp
theorem vld_not {lo hi:Int}:vldB lo hi=false ↔ ¬ (-1099511627776≤lo∧lo≤hi∧hi≤1099511627776):=by
  unfold vldB;simp
def told (lo hi:Int):R:=if vldB lo hi then ((lo,hi),0) else ((0,0),4)
theorem told_yes {lo hi:Int} (h:vldB lo hi=true):told lo hi=((lo,hi),0):=by unfold told;rw [if_pos h]
theorem told_no {lo hi:Int} (h:vldB lo hi=false):told lo hi=((0,0),4):=by unfold told;rw [if_neg (by simp [h])]
def mn (x y:Int):Int:=if y < x then y else x
def mx (x y:Int):Int:=if x < y then y else x
theorem mn_eq (x y:Int):mn x y=min x y:=by unfold mn;split <;> omega
theorem mx_eq (x y:Int):mx x y=max x y:=by unfold mx;split <;> omega
def fl (n d:Int):Int:=if 0 < d then n / d else (-n) / (-d)
def ce (n d:Int):Int:=- fl (-n) d
theorem fl_pos {n d:Int} (h:0 < d):fl n d=n / d:=by unfold fl;rw [if_pos h]
theorem fl_neg {n d:Int} (h:d < 0):fl n d=(-n) / (-d):=by unfold fl;rw [if_neg (by omega)]
theorem tdiv_pos_a {n d:Int} (h:n.tmod d=0):n.tdiv d=n / d:=by
  have hv:d ∣ n:=Int.dvd_of_tmod_eq_zero h
  rw [Int.tdiv_eq_ediv];simp [hv]
theorem tdiv_pos_b {n d:Int} (h:0≤n):n.tdiv d=n / d:=Int.tdiv_eq_ediv_of_nonneg h
theorem tdiv_pos_c {n d:Int} (hd:0 < d) (h:¬ n.tmod d=0) (hn:n < 0):n.tdiv d - 1=n / d:=by
  have hv:¬ d ∣ n:=fun k=>h (Int.tmod_eq_zero_of_dvd k)
  rw [Int.tdiv_eq_ediv,if_neg (by simp [hv];omega),Int.sign_eq_one_of_pos hd];omega
theorem tmod_negneg (n d:Int):(-n).tmod (-d)=- n.tmod d:=by rw [Int.tmod_neg,Int.neg_tmod]
theorem fl_a {n d:Int} (hd:d ≠ 0) (h:n.tmod d=0):n.tdiv d=fl n d:=by
  by_cases k:0 < d
  · rw [fl_pos k,tdiv_pos_a h]
  · rw [fl_neg (by omega),← tdiv_pos_a (by rw [tmod_negneg,h];rfl),Int.neg_tdiv_neg]
theorem fl_b {n d:Int} (h:0≤n∧0 < d∨n < 0∧d < 0):n.tdiv d=fl n d:=by
  rcases h with ⟨h,k⟩ | ⟨h,k⟩
  · rw [fl_pos k,tdiv_pos_b h]
  · rw [fl_neg k,← tdiv_pos_b (by omega),Int.neg_tdiv_neg]
theorem fl_c {n d:Int} (h:¬ n.tmod d=0) (hs:n < 0∧0 < d∨0≤n∧d < 0):n.tdiv d - 1=fl n d:=by
  rcases hs with ⟨a,k⟩ | ⟨a,k⟩
  · rw [fl_pos k,tdiv_pos_c k h a]
  · have h0:n ≠ 0:=by rintro rfl;simp at h
    rw [fl_neg k,← tdiv_pos_c (by omega) (by rw [tmod_negneg];omega) (by omega),Int.neg_tdiv_neg]
theorem tdiv_bd {n d B:Int} (h1:-B≤n) (h2:n≤B):-B≤n.tdiv d∧n.tdiv d≤B:=by
  have h:=Int.natAbs_tdiv n d
  have k:n.natAbs.div d.natAbs≤n.natAbs:=Nat.div_le_self _ _
  omega
theorem ediv_bd {n d B:Int} (hd:0 < d) (h1:-B≤n) (h2:n≤B):-B≤n / d∧n / d≤B:=by
  have hB:0≤B:=by omega
  have hm:B * 1≤B * d:=Int.mul_le_mul_of_nonneg_left (by omega) hB
  constructor
  · rw [Int.le_ediv_iff_mul_le hd,Int.neg_mul];omega
  · apply Int.le_of_lt_add_one
    rw [Int.ediv_lt_iff_lt_mul hd,Int.add_mul];omega
theorem fl_bd {n d B:Int} (h1:-B≤n) (h2:n≤B):-B≤fl n d∧fl n d≤B:=by
  unfold fl
  split
  · rename_i h;exact ediv_bd h h1 h2
  · rename_i h
    by_cases k:d=0
    · subst k;simp;omega
    · exact ediv_bd (by omega) (by omega) (by omega)
theorem mul_bd {x y A B:Int} (h1:-A≤x) (h2:x≤A) (h3:-B≤y) (h4:y≤B):-(A * B)≤x * y∧x * y≤A * B:=by
  have e:=Int.natAbs_mul x y
  have a1:x.natAbs≤A.toNat:=by omega
  have b1:y.natAbs≤B.toNat:=by omega
  have k:=Nat.mul_le_mul a1 b1
  have eA:((A.toNat:Nat):Int)=A:=by omega
  have eB:((B.toNat:Nat):Int)=B:=by omega
  have k2:((x.natAbs * y.natAbs:Nat):Int)≤A * B:=by
    have:=Int.ofNat_le.2 k
    rw [Int.natCast_mul A.toNat B.toNat,eA,eB] at this
    exact this
  rw [← e] at k2
  omega
end Sp
end Go.Proofs.YtgchcnpgjfoadaaGreat
