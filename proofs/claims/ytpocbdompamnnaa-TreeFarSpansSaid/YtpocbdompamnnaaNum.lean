namespace Go.Proofs.Ytpocbdompamnnaa
namespace Sp
abbrev R:=(Int × Int) × Int
def vldB (lo hi:Int):Bool:=decide (-1099511627776≤lo∧lo≤hi∧hi≤1099511627776)
theorem vld_iff {lo hi:Int}:vldB lo hi=true ↔ (-1099511627776≤lo∧lo≤hi∧hi≤1099511627776):=by
  unfold vldB;simp
theorem vld_not {lo hi:Int}:vldB lo hi=false ↔ ¬ (-1099511627776≤lo∧lo≤hi∧hi≤1099511627776):=by
  unfold vldB;simp
def told (lo hi:Int):R:=if vldB lo hi then ((lo,hi),0) else ((0,0),4)
theorem told_yes {lo hi:Int} (h:vldB lo hi=true):told lo hi=((lo,hi),0):=by unfold told;rw [if_pos h]
theorem told_no {lo hi:Int} (h:vldB lo hi=false):told lo hi=((0,0),4):=by unfold told;rw [if_neg (by simp [h])]
def mn (x y:Int):Int:=if y < x then y else x
def mx (x y:Int):Int:=if x < y then y else x
theorem mn_eq (x y:Int):mn x y=min x y:=by unfold mn;split <;> omega
theorem mx_eq (x y:Int):mx x y=max x y:=by unfold mx;split <;> omega
def hull (al ah bl bh:Int):R:=if vldB al ah && vldB bl bh then ((mn al bl,mx ah bh),0) else ((0,0),1)
theorem hull_yes {al ah bl bh:Int} (h:vldB al ah=true) (k:vldB bl bh=true):hull al ah bl bh=((mn al bl,mx ah bh),0):=by unfold hull;rw [if_pos (by simp [h,k])]
theorem hull_no1 {al ah bl bh:Int} (h:vldB al ah=false):hull al ah bl bh=((0,0),1):=by unfold hull;rw [if_neg (by simp [h])]
theorem hull_no2 {al ah bl bh:Int} (h:vldB bl bh=false):hull al ah bl bh=((0,0),1):=by unfold hull;rw [if_neg (by simp [h])]
def fl (n d:Int):Int:=if 0 < d then n / d else (-n) / (-d)
def ce (n d:Int):Int:=- fl (-n) d
theorem fl_pos {n d:Int} (h:0 < d):fl n d=n / d:=by unfold fl;rw [if_pos h]
theorem fl_neg {n d:Int} (h:d < 0):fl n d=(-n) / (-d):=by unfold fl;rw [if_neg (by omega)]
theorem fl_negneg (n d:Int) (h:d ≠ 0):fl (-n) (-d)=fl n d:=by
  unfold fl
  by_cases k:0 < d
  · rw [if_neg (by omega),if_pos k,Int.neg_neg,Int.neg_neg]
  · rw [if_pos (by omega),if_neg k]
theorem tdiv_pos_a {n d:Int} (h:n.tmod d=0):n.tdiv d=n / d:=by
  have hv:d ∣ n:=Int.dvd_of_tmod_eq_zero h
  rw [Int.tdiv_eq_ediv];simp [hv]
theorem tdiv_pos_b {n d:Int} (h:0≤n):n.tdiv d=n / d:=Int.tdiv_eq_ediv_of_nonneg h
theorem tdiv_pos_c {n d:Int} (hd:0 < d) (h:¬ n.tmod d=0) (hn:n < 0):n.tdiv d - 1=n / d:=by
  have hv:¬ d ∣ n:=fun k=>h (Int.tmod_eq_zero_of_dvd k)
  rw [Int.tdiv_eq_ediv,if_neg (by simp [hv];omega),Int.sign_eq_one_of_pos hd];omega
theorem tmod_negneg (n d:Int):(-n).tmod (-d)=- n.tmod d:=by rw [Int.tmod_neg,Int.neg_tmod]
theorem fl_a {n d:Int} (hd:d ≠ 0) (h:n.tmod d=0):n.tdiv d=fl n d:=by
  by_cases k:0 < d
  · rw [fl_pos k,tdiv_pos_a h]
  · rw [fl_neg (by omega),← tdiv_pos_a (by rw [tmod_negneg,h];rfl),Int.neg_tdiv_neg]
theorem fl_b {n d:Int} (h:0≤n∧0 < d∨n < 0∧d < 0):n.tdiv d=fl n d:=by
  rcases h with ⟨h,k⟩ | ⟨h,k⟩
  · rw [fl_pos k,tdiv_pos_b h]
  · rw [fl_neg k,← tdiv_pos_b (by omega),Int.neg_tdiv_neg]
theorem fl_c {n d:Int} (h:¬ n.tmod d=0) (hs:n < 0∧0 < d∨0≤n∧d < 0):n.tdiv d - 1=fl n d:=by
  rcases hs with ⟨a,k⟩ | ⟨a,k⟩
  · rw [fl_pos k,tdiv_pos_c k h a]
  · have h0:n ≠ 0:=by rintro rfl;simp at h
    rw [fl_neg k,← tdiv_pos_c (by omega) (by rw [tmod_negneg];omega) (by omega),Int.neg_tdiv_neg]
theorem tdiv_bd {n d B:Int} (h1:-B≤n) (h2:n≤B):-B≤n.tdiv d∧n.tdiv d≤B:=by
  have h:=Int.natAbs_tdiv n d
  have k:n.natAbs.div d.natAbs≤n.natAbs:=Nat.div_le_self _ _
  omega
theorem ediv_bd {n d B:Int} (hd:0 < d) (h1:-B≤n) (h2:n≤B):-B≤n / d∧n / d≤B:=by
  have hB:0≤B:=by omega
  have hm:B * 1≤B * d:=Int.mul_le_mul_of_nonneg_left (by omega) hB
  constructor
  · rw [Int.le_ediv_iff_mul_le hd,Int.neg_mul];omega
  · apply Int.le_of_lt_add_one
    rw [Int.ediv_lt_iff_lt_mul hd,Int.add_mul];omega
theorem fl_bd {n d B:Int} (h1:-B≤n) (h2:n≤B):-B≤fl n d∧fl n d≤B:=by
  unfold fl
  split
  · rename_i h;exact ediv_bd h h1 h2
  · rename_i h
    by_cases k:d=0
    · subst k;simp;omega
    · exact ediv_bd (by omega) (by omega) (by omega)
theorem fl_c1 {n d:Int} (hd:0 < d) (h:0≤n.tmod d):n.tdiv d=fl n d:=by
  by_cases k:n.tmod d=0
  · exact fl_a (by omega) k
  · refine fl_b (.inl ⟨?_,hd⟩)
    rcases Int.lt_or_le n 0 with h5 | h5
    · have:=Int.tmod_nonneg (a:=-n) d (by omega)
      rw [Int.neg_tmod] at this;omega
    · exact h5
theorem fl_c2 {n d:Int} (hd:0 < d) (h:n.tmod d < 0):n.tdiv d - 1=fl n d:=by
  refine fl_c (by omega) (.inl ⟨?_,hd⟩)
  rcases Int.lt_or_le n 0 with h5 | h5
  · exact h5
  · have:=Int.tmod_nonneg (a:=n) d h5;omega
def quo (n d:Int):R :=
  if -1099511627776≤n∧n≤1099511627776∧-1099511627776≤d∧d≤1099511627776∧d ≠ 0 then told (fl (n * 1048576) d) (ce (n * 1048576) d) else ((0,0),1)
theorem mul_bd {x y A B:Int} (h1:-A≤x) (h2:x≤A) (h3:-B≤y) (h4:y≤B):-(A * B)≤x * y∧x * y≤A * B:=by
  have e:=Int.natAbs_mul x y
  have a1:x.natAbs≤A.toNat:=by omega
  have b1:y.natAbs≤B.toNat:=by omega
  have k:=Nat.mul_le_mul a1 b1
  have eA:((A.toNat:Nat):Int)=A:=by omega
  have eB:((B.toNat:Nat):Int)=B:=by omega
  have k2:((x.natAbs * y.natAbs:Nat):Int)≤A * B:=by
    have:=Int.ofNat_le.2 k
    rw [Int.natCast_mul A.toNat B.toNat,eA,eB] at this
    exact this
  rw [← e] at k2
  omega
def mulD (x y:Int):Int:=fl (x * y) 1048576
def mulU (x y:Int):Int:=ce (x * y) 1048576
theorem mulD_parts (x y:Int):x * fl y 1048576 + fl (x * (y - fl y 1048576 * 1048576)) 1048576=mulD x y:=by
  unfold mulD
  rw [fl_pos (by decide),fl_pos (by decide),fl_pos (by decide)]
  generalize hw:y / 1048576=q
  have:x * y=x * (y - q * 1048576) + (x * q) * 1048576:=by rw [Int.mul_sub,Int.mul_assoc];omega
  rw [this,Int.add_mul_ediv_right _ _ (by decide)];omega
theorem mulU_neg (x y:Int):mulU x y=- mulD (-x) y:=by unfold mulU mulD ce;rw [Int.neg_mul]
theorem mulD_bd {x y:Int} (h1:-1099511627776≤x) (h2:x≤1099511627776) (h3:-1099511627776≤y) (h4:y≤1099511627776) :
    -1152921504606846976≤mulD x y∧mulD x y≤1152921504606846976:=by
  have:=mul_bd h1 h2 h3 h4
  unfold mulD
  rw [fl_pos (by decide)]
  omega
def addR (al ah bl bh:Int):R:=if vldB al ah && vldB bl bh then told (al + bl) (ah + bh) else ((0,0),1)
def subR (al ah bl bh:Int):R:=if vldB al ah && vldB bl bh then told (al - bh) (ah - bl) else ((0,0),1)
def mn4 (x y z u:Int):Int:=mn (mn (mn x y) z) u
def mx4 (x y z u:Int):Int:=mx (mx (mx x y) z) u
def mulR (al ah bl bh:Int):R :=
  if vldB al ah && vldB bl bh then told (mn4 (mulD al bl) (mulD al bh) (mulD ah bl) (mulD ah bh)) (mx4 (mulU al bl) (mulU al bh) (mulU ah bl) (mulU ah bh)) else ((0,0),1)
def divR (al ah bl bh:Int):R :=
  if vldB al ah && vldB bl bh then (if bl≤0∧0≤bh then ((0,0),11) else told (mn4 (fl (al * 1048576) bl) (fl (al * 1048576) bh) (fl (ah * 1048576) bl) (fl (ah * 1048576) bh)) (mx4 (ce (al * 1048576) bl) (ce (al * 1048576) bh) (ce (ah * 1048576) bl) (ce (ah * 1048576) bh))) else ((0,0),1)
theorem ite_no1 {a b:Bool} {x y:R} (h:a=false):(if a && b then x else y)=y:=by rw [if_neg (by simp [h])]
theorem ite_no2 {a b:Bool} {x y:R} (h:b=false):(if a && b then x else y)=y:=by rw [if_neg (by simp [h])]
theorem ite_yes {a b:Bool} {x y:R} (h:a=true) (k:b=true):(if a && b then x else y)=x:=by rw [if_pos (by simp [h,k])]
theorem add4 {al ah bl bh:Int} (h:al≤ah) (k:bl≤bh):mn4 (al + bl) (al + bh) (ah + bl) (ah + bh)=al + bl∧mx4 (al + bl) (al + bh) (ah + bl) (ah + bh)=ah + bh:=by
  unfold mn4 mx4;simp only [mn_eq,mx_eq];omega
theorem sub4 {al ah bl bh:Int} (h:al≤ah) (k:bl≤bh):mn4 (al - bl) (al - bh) (ah - bl) (ah - bh)=al - bh∧mx4 (al - bl) (al - bh) (ah - bl) (ah - bh)=ah - bl:=by
  unfold mn4 mx4;simp only [mn_eq,mx_eq];omega
end Sp
end Go.Proofs.Ytpocbdompamnnaa
