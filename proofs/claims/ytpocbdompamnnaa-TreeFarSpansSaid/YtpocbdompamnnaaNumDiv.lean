import Derived.Test.YtpocbdompamnnaaNum
namespace Go.Proofs.Ytpocbdompamnnaa
namespace Sp
theorem mn_le1 (x y:Int):mn x y≤x:=by rw [mn_eq];omega
theorem mn_le2 (x y:Int):mn x y≤y:=by rw [mn_eq];omega
theorem mx_ge1 (x y:Int):x≤mx x y:=by rw [mx_eq];omega
theorem mx_ge2 (x y:Int):y≤mx x y:=by rw [mx_eq];omega
theorem mn4_le (x y z u:Int):mn4 x y z u≤x∧mn4 x y z u≤y∧mn4 x y z u≤z∧mn4 x y z u≤u:=by
  unfold mn4;simp only [mn_eq];omega
theorem mx4_ge (x y z u:Int):x≤mx4 x y z u∧y≤mx4 x y z u∧z≤mx4 x y z u∧u≤mx4 x y z u:=by
  unfold mx4;simp only [mx_eq];omega
theorem fl_mono {m n d:Int} (hd:0 < d) (h:m≤n):fl m d≤fl n d:=by
  rw [fl_pos hd,fl_pos hd];exact Int.ediv_le_ediv hd h
theorem ce_mono {m n d:Int} (hd:0 < d) (h:m≤n):ce m d≤ce n d:=by
  unfold ce;have:=fl_mono hd (show -n≤-m by omega);omega
theorem fl_anti {m n d:Int} (hd:d < 0) (h:m≤n):fl n d≤fl m d:=by
  rw [fl_neg hd,fl_neg hd];exact Int.ediv_le_ediv (by omega) (by omega)
theorem ce_anti {m n d:Int} (hd:d < 0) (h:m≤n):ce n d≤ce m d:=by
  unfold ce;have:=fl_anti hd (show -n≤-m by omega);omega
theorem ce_negneg (n d:Int) (h:d ≠ 0):ce (-n) (-d)=ce n d:=by unfold ce;rw [fl_negneg _ _ h]
theorem div4p {al ah bl bh:Int} (h:al≤ah) (k:bl≤bh) (z:0 < bl) :
    mn4 (fl (al * 1048576) bl) (fl (al * 1048576) bh) (fl (ah * 1048576) bl) (fl (ah * 1048576) bh)=mn (fl (al * 1048576) bl) (fl (al * 1048576) bh) ∧
    mx4 (ce (al * 1048576) bl) (ce (al * 1048576) bh) (ce (ah * 1048576) bl) (ce (ah * 1048576) bh)=mx (ce (ah * 1048576) bl) (ce (ah * 1048576) bh):=by
  have e:al * 1048576≤ah * 1048576:=by omega
  have f1:=fl_mono z e
  have f2:=fl_mono (show 0 < bh by omega) e
  have g1:=ce_mono z e
  have g2:=ce_mono (show 0 < bh by omega) e
  unfold mn4 mx4;simp only [mn_eq,mx_eq];omega
theorem div4n {al ah bl bh:Int} (h:al≤ah) (k:bl≤bh) (z:bh < 0) :
    mn4 (fl (al * 1048576) bl) (fl (al * 1048576) bh) (fl (ah * 1048576) bl) (fl (ah * 1048576) bh)=mn (fl (-ah * 1048576) (-bh)) (fl (-ah * 1048576) (-bl)) ∧
    mx4 (ce (al * 1048576) bl) (ce (al * 1048576) bh) (ce (ah * 1048576) bl) (ce (ah * 1048576) bh)=mx (ce (-al * 1048576) (-bh)) (ce (-al * 1048576) (-bl)):=by
  have e:al * 1048576≤ah * 1048576:=by omega
  rw [Int.neg_mul,Int.neg_mul,fl_negneg _ _ (by omega),fl_negneg _ _ (by omega),ce_negneg _ _ (by omega),ce_negneg _ _ (by omega)]
  have f1:=fl_anti z e
  have f2:=fl_anti (show bl < 0 by omega) e
  have g1:=ce_anti z e
  have g2:=ce_anti (show bl < 0 by omega) e
  unfold mn4 mx4;simp only [mn_eq,mx_eq];omega
theorem mulD_le (x y:Int):mulD x y * 1048576≤x * y:=by
  unfold mulD;rw [fl_pos (by decide)];exact Int.ediv_mul_le _ (by decide)
theorem mulU_ge (x y:Int):x * y≤mulU x y * 1048576:=by
  unfold mulU ce;rw [fl_pos (by decide)]
  have:=Int.ediv_mul_le (-(x * y)) (show (1048576:Int) ≠ 0 by decide)
  rw [Int.neg_mul];omega
theorem fl_le_of {n d a:Int} (hd:0 < d) (h:n≤a * d):fl n d≤a:=by
  rw [fl_pos hd];have:=Int.ediv_le_ediv hd h;rwa [Int.mul_ediv_cancel _ (by omega)] at this
theorem ce_ge_of {n d a:Int} (hd:0 < d) (h:a * d≤n):a≤ce n d:=by
  unfold ce;have:=fl_le_of (n:=-n) (a:=-a) hd (by rw [Int.neg_mul];omega);omega
theorem fl_le_of' {n d a:Int} (hd:d < 0) (h:a * d≤n):fl n d≤a:=by
  rw [← fl_negneg _ _ (by omega)];exact fl_le_of (by omega) (by rw [Int.mul_neg];omega)
theorem ce_ge_of' {n d a:Int} (hd:d < 0) (h:n≤a * d):a≤ce n d:=by
  unfold ce;have:=fl_le_of' (n:=-n) (a:=-a) hd (by rw [Int.neg_mul];omega);omega
theorem mulR_cases (al ah bl bh:Int):(mulR al ah bl bh).2 ≠ 0∨((mulR al ah bl bh).2=0∧vldB al ah=true∧vldB bl bh=true∧vldB (mulR al ah bl bh).1.1 (mulR al ah bl bh).1.2=true ∧
    (mulR al ah bl bh).1.1 * 1048576≤al * bl∧(mulR al ah bl bh).1.1 * 1048576≤ah * bl∧al * bl≤(mulR al ah bl bh).1.2 * 1048576∧ah * bl≤(mulR al ah bl bh).1.2 * 1048576):=by
  unfold mulR
  split
  · rename_i h
    simp only [Bool.and_eq_true] at h
    unfold told
    split
    · rename_i h2
      refine .inr ⟨rfl,h.1,h.2,h2,?_,?_,?_,?_⟩
      · have:=(mn4_le (mulD al bl) (mulD al bh) (mulD ah bl) (mulD ah bh)).1
        have:=mulD_le al bl
        dsimp only;omega
      · have:=(mn4_le (mulD al bl) (mulD al bh) (mulD ah bl) (mulD ah bh)).2.2.1
        have:=mulD_le ah bl
        dsimp only;omega
      · have:=(mx4_ge (mulU al bl) (mulU al bh) (mulU ah bl) (mulU ah bh)).1
        have:=mulU_ge al bl
        dsimp only;omega
      · have:=(mx4_ge (mulU al bl) (mulU al bh) (mulU ah bl) (mulU ah bh)).2.2.1
        have:=mulU_ge ah bl
        dsimp only;omega
    · left;decide
  · left;decide
theorem divides_back {al ah bl bh:Int} (h:(mulR al ah bl bh).2=0) :
    (divR (mulR al ah bl bh).1.1 (mulR al ah bl bh).1.2 bl bh).2 ≠ 0 ∨
    ((divR (mulR al ah bl bh).1.1 (mulR al ah bl bh).1.2 bl bh).1.1≤al∧ah≤(divR (mulR al ah bl bh).1.1 (mulR al ah bl bh).1.2 bl bh).1.2):=by
  rcases mulR_cases al ah bl bh with n | ⟨_,ha,hb,hp,p1,p2,p3,p4⟩
  · exact absurd h n
  generalize (mulR al ah bl bh).1.1=pl at *
  generalize (mulR al ah bl bh).1.2=ph at *
  have b2:=(vld_iff.1 hb).2.1
  unfold divR
  rw [if_pos (by simp [hp,hb])]
  split
  · left;decide
  rename_i z
  unfold told
  split
  · right
    have l4:=mn4_le (fl (pl * 1048576) bl) (fl (pl * 1048576) bh) (fl (ph * 1048576) bl) (fl (ph * 1048576) bh)
    have g4:=mx4_ge (ce (pl * 1048576) bl) (ce (pl * 1048576) bh) (ce (ph * 1048576) bl) (ce (ph * 1048576) bh)
    show _≤_∧_≤_
    rcases Int.lt_or_le 0 bl with q | q
    · exact ⟨Int.le_trans l4.1 (fl_le_of q p1),Int.le_trans (ce_ge_of q p4) g4.2.2.1⟩
    · have q':bl < 0:=by omega
      exact ⟨Int.le_trans l4.2.2.1 (fl_le_of' q' p3),Int.le_trans (ce_ge_of' q' p2) g4.1⟩
  · left;decide
end Sp
end Go.Proofs.Ytpocbdompamnnaa
