import Derived.Test.YtpocbdompamnnaaTr19
namespace Go.Proofs.Ytpocbdompamnnaa
open Go.ChangeShapes Go.WideShapes Go.RowKit
open Sh
set_option maxRecDepth 100000 in
theorem row_ok:bldE 4 rowQ 1=0:=by decide +kernel
set_option maxRecDepth 100000 in
theorem row_len:(treT rowQ (1:Int).toNat 4).1.length=7:=by decide +kernel
set_option maxRecDepth 100000 in
theorem row_hgt:hgt 7 (niL (treT rowQ (1:Int).toNat 4).1)=3:=by decide +kernel
set_option maxRecDepth 100000 in
theorem row_lvs:lvT (niL (treT rowQ (1:Int).toNat 4).1) 7=4:=by decide +kernel
set_option maxRecDepth 100000 in
theorem row_kids:(niL (treT rowQ (1:Int).toNat 4).1 0).2.2.1=1∧(niL (treT rowQ (1:Int).toNat 4).1 0).2.2.2.1=4:=by decide +kernel
end Go.Proofs.Ytpocbdompamnnaa
