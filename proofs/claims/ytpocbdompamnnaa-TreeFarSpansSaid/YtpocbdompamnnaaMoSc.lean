import Derived.Test.YtpocbdompamnnaaMo6
import Derived.Test.YtpocbdompamnnaaMo3
namespace Go.Proofs.Ytpocbdompamnnaa
open Go.ChangeShapes Go.WideShapes Go.RowKit
open Sh
abbrev mor (r:Mo × Int):Value:=.tuple #[mov r.1,.int .i64 r.2]
def scR (k:Int) (m:Mo):Mo × Int:=if mokB m && rngB k 1 128 then (mtold (mscale k m),mlarge (mscale k m)) else (mzero,1)
theorem below_set1 {a w:World} {B r o:Nat} {v:Value} (h:Below B a w) (n:B≤r):Below B a (w.setCell ⟨r,o,none⟩ v):=h.setCell n _
theorem zadd (a:P3):add (0,0,0) a=a:=by unfold add;simp
theorem k2_bd {k:Int} (h1:1≤k) (h2:k≤128):0≤k * k∧k * k≤16384:=by
  have:=mul_bd (A:=128) (B:=128) (x:=k) (y:=k) (by omega) h2 (by omega) h2
  exact ⟨Int.mul_nonneg (by omega) (by omega),this.2⟩
theorem sk_bd {k s:Int} (h:-17179869184≤s∧s≤17179869184) (a:0≤k) (b:k≤16384):-281474976710656≤s * k∧s * k≤281474976710656:=by
  have:=mul_bd (A:=17179869184) (B:=16384) (x:=s) (y:=k) h.1 h.2 (by omega) b
  omega
theorem dk_bd {k:Int} {d:P3} (h1:1≤k) (h2:k≤128) (h:BdP 1073741824 d):BdP 137438953472 (tim k d):=(tim_bd (K:=128) (by omega) h2 h).mono (by decide)
end Go.Proofs.Ytpocbdompamnnaa
