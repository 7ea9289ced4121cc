import Derived.Test.YtpocbdompamnnaaMoSc
namespace Go.Proofs.Ytpocbdompamnnaa
open Go.ChangeShapes Go.WideShapes Go.RowKit
open Sh
theorem scR_bad {k:Int} {m:Mo} (h:mokB m=false):scR k m=(mzero,1):=by unfold scR;rw [h];rfl
theorem scR_far {k:Int} {m:Mo} (h:rngB k 1 128=false):scR k m=(mzero,1):=by unfold scR;rw [h,Bool.and_false];rfl
theorem scR_ok {k:Int} {m:Mo} (h:mokB m=true) (l:rngB k 1 128=true):scR k m=(mtold (mscale k m),mlarge (mscale k m)):=by unfold scR;rw [h,l];rfl
end Go.Proofs.Ytpocbdompamnnaa
