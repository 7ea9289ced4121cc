import Derived.Test.YtpocbdompamnnaaMoM
import Derived.ChangeKeysEq
namespace Go.Proofs.Ytpocbdompamnnaa
open Go.ChangeShapes Go.WideShapes Go.RowKit
open Sh
theorem ownMo_set {w:World} {q r o:Nat} {v:Value} {m:Mo} (h:OwnMo w q m) (n:q ≠ r):OwnMo (w.setCell ⟨r,o,none⟩ v) q m:=by
  obtain ⟨⟨h0,h1,h2,h3,h4,h5,h6,h7,h8,h9,h10⟩,⟨f0,f1,f2,f3,f4,f5,f6,f7,f8,f9,f10⟩,l⟩:=h
  have n':¬ r=q:=fun e=>n e.symm
  exact ⟨⟨by go_simp,by go_simp,by go_simp,by go_simp,by go_simp,by go_simp,by go_simp,by go_simp,by go_simp,by go_simp,by go_simp⟩,⟨by go_simp,by go_simp,by go_simp,by go_simp,by go_simp,by go_simp,by go_simp,by go_simp,by go_simp,by go_simp,by go_simp⟩,by simpa using l⟩
theorem below_put11 {a w:World} {B r:Nat} {v0 v1 v2 v3 v4 v5 v6 v7 v8 v9 v10:Value} (h:Below B a w) (n:B≤r):Below B a (((((((((((w.setCell ⟨r,0,none⟩ v0).setCell ⟨r,1,none⟩ v1).setCell ⟨r,2,none⟩ v2).setCell ⟨r,3,none⟩ v3).setCell ⟨r,4,none⟩ v4).setCell ⟨r,5,none⟩ v5).setCell ⟨r,6,none⟩ v6).setCell ⟨r,7,none⟩ v7).setCell ⟨r,8,none⟩ v8).setCell ⟨r,9,none⟩ v9).setCell ⟨r,10,none⟩ v10):=(((((((((((h.setCell n _).setCell n _).setCell n _).setCell n _).setCell n _).setCell n _).setCell n _).setCell n _).setCell n _).setCell n _).setCell n _)
abbrev mov0:Value:=.agg #[.int .i64 0,.int .i64 0,.int .i64 0,.int .i64 0,.int .i64 0,.int .i64 0,.int .i64 0,.int .i64 0,.int .i64 0,.int .i64 0,.int .i64 0]
abbrev mob0 (t:TypeId):Obj:=.cells #[.int .i64 0,.int .i64 0,.int .i64 0,.int .i64 0,.int .i64 0,.int .i64 0,.int .i64 0,.int .i64 0,.int .i64 0,.int .i64 0,.int .i64 0] t
theorem ownMo_new0 (w:World) (t:TypeId):OwnMo (w.alloc (mob0 t)) w.heap.size mzero:=ownMo_new w mzero t
end Go.Proofs.Ytpocbdompamnnaa
