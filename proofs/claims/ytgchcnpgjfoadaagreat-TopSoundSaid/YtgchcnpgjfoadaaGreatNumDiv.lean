import Derived.Test.YtgchcnpgjfoadaaGreatNum
namespace Go.Proofs.YtgchcnpgjfoadaaGreat
namespace Sp
theorem mx_ge1 (x y:Int):x≤mx x y:=by rw [mx_eq];omega
theorem fl_mono {m n d:Int} (hd:0 < d) (h:m≤n):fl m d≤fl n d:=by
  rw [fl_pos hd,fl_pos hd];exact Int.ediv_le_ediv hd h
theorem ce_mono {m n d:Int} (hd:0 < d) (h:m≤n):ce m d≤ce n d:=by
  unfold ce;have:=fl_mono hd (show -n≤-m by omega);omega
end Sp
end Go.Proofs.YtgchcnpgjfoadaaGreat
