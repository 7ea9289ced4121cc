import Derived.Test.YtpocbdompamnnaaMoSd
import Derived.Deep.RegionHeld3
import Derived.Deep.RegionWith
namespace Go.Proofs.Ytpocbdompamnnaa
open Go.ChangeShapes Go.WideShapes Go.RowKit
open Sh
def adR (a b:Mo):Mo × Int:=if mokB a && mokB b then (mtold (madd a b),mlarge (madd a b)) else (mzero,1)
theorem tim1 (a:P3):tim 1 a=a:=by unfold tim;simp
theorem ownMo_put0 {w:World} {b:Nat} {m:Mo} (h:OwnMo w b m) (x:Int):OwnMo (w.setCell ⟨b,0,none⟩ (.int .i64 x)) b { m with c:=x }:=by
  obtain ⟨⟨h0,h1,h2,h3,h4,h5,h6,h7,h8,h9,h10⟩,⟨f0,f1,f2,f3,f4,f5,f6,f7,f8,f9,f10⟩,l⟩:=h
  exact ⟨⟨by go_simp,by go_simp,by go_simp,by go_simp,by go_simp,by go_simp,by go_simp,by go_simp,by go_simp,by go_simp,by go_simp⟩,⟨by go_simp,by go_simp,by go_simp,by go_simp,by go_simp,by go_simp,by go_simp,by go_simp,by go_simp,by go_simp,by go_simp⟩,by simpa using l⟩
theorem ownMo_put1 {w:World} {b:Nat} {m:Mo} (h:OwnMo w b m) (x:Int):OwnMo (w.setCell ⟨b,1,none⟩ (.int .i64 x)) b { m with t:=x }:=by
  obtain ⟨⟨h0,h1,h2,h3,h4,h5,h6,h7,h8,h9,h10⟩,⟨f0,f1,f2,f3,f4,f5,f6,f7,f8,f9,f10⟩,l⟩:=h
  exact ⟨⟨by go_simp,by go_simp,by go_simp,by go_simp,by go_simp,by go_simp,by go_simp,by go_simp,by go_simp,by go_simp,by go_simp⟩,⟨by go_simp,by go_simp,by go_simp,by go_simp,by go_simp,by go_simp,by go_simp,by go_simp,by go_simp,by go_simp,by go_simp⟩,by simpa using l⟩
theorem ownMo_put2 {w:World} {b:Nat} {m:Mo} (h:OwnMo w b m) (x:Int):OwnMo (w.setCell ⟨b,2,none⟩ (.int .i64 x)) b { m with d:=(x,m.d.2.1,m.d.2.2) }:=by
  obtain ⟨⟨h0,h1,h2,h3,h4,h5,h6,h7,h8,h9,h10⟩,⟨f0,f1,f2,f3,f4,f5,f6,f7,f8,f9,f10⟩,l⟩:=h
  exact ⟨⟨by go_simp,by go_simp,by go_simp,by go_simp,by go_simp,by go_simp,by go_simp,by go_simp,by go_simp,by go_simp,by go_simp⟩,⟨by go_simp,by go_simp,by go_simp,by go_simp,by go_simp,by go_simp,by go_simp,by go_simp,by go_simp,by go_simp,by go_simp⟩,by simpa using l⟩
theorem ownMo_put3 {w:World} {b:Nat} {m:Mo} (h:OwnMo w b m) (x:Int):OwnMo (w.setCell ⟨b,3,none⟩ (.int .i64 x)) b { m with d:=(m.d.1,x,m.d.2.2) }:=by
  obtain ⟨⟨h0,h1,h2,h3,h4,h5,h6,h7,h8,h9,h10⟩,⟨f0,f1,f2,f3,f4,f5,f6,f7,f8,f9,f10⟩,l⟩:=h
  exact ⟨⟨by go_simp,by go_simp,by go_simp,by go_simp,by go_simp,by go_simp,by go_simp,by go_simp,by go_simp,by go_simp,by go_simp⟩,⟨by go_simp,by go_simp,by go_simp,by go_simp,by go_simp,by go_simp,by go_simp,by go_simp,by go_simp,by go_simp,by go_simp⟩,by simpa using l⟩
theorem ownMo_put4 {w:World} {b:Nat} {m:Mo} (h:OwnMo w b m) (x:Int):OwnMo (w.setCell ⟨b,4,none⟩ (.int .i64 x)) b { m with d:=(m.d.1,m.d.2.1,x) }:=by
  obtain ⟨⟨h0,h1,h2,h3,h4,h5,h6,h7,h8,h9,h10⟩,⟨f0,f1,f2,f3,f4,f5,f6,f7,f8,f9,f10⟩,l⟩:=h
  exact ⟨⟨by go_simp,by go_simp,by go_simp,by go_simp,by go_simp,by go_simp,by go_simp,by go_simp,by go_simp,by go_simp,by go_simp⟩,⟨by go_simp,by go_simp,by go_simp,by go_simp,by go_simp,by go_simp,by go_simp,by go_simp,by go_simp,by go_simp,by go_simp⟩,by simpa using l⟩
theorem ownMo_put5 {w:World} {b:Nat} {m:Mo} (h:OwnMo w b m) (x:Int):OwnMo (w.setCell ⟨b,5,none⟩ (.int .i64 x)) b { m with s0:=x }:=by
  obtain ⟨⟨h0,h1,h2,h3,h4,h5,h6,h7,h8,h9,h10⟩,⟨f0,f1,f2,f3,f4,f5,f6,f7,f8,f9,f10⟩,l⟩:=h
  exact ⟨⟨by go_simp,by go_simp,by go_simp,by go_simp,by go_simp,by go_simp,by go_simp,by go_simp,by go_simp,by go_simp,by go_simp⟩,⟨by go_simp,by go_simp,by go_simp,by go_simp,by go_simp,by go_simp,by go_simp,by go_simp,by go_simp,by go_simp,by go_simp⟩,by simpa using l⟩
theorem ownMo_put6 {w:World} {b:Nat} {m:Mo} (h:OwnMo w b m) (x:Int):OwnMo (w.setCell ⟨b,6,none⟩ (.int .i64 x)) b { m with s1:=x }:=by
  obtain ⟨⟨h0,h1,h2,h3,h4,h5,h6,h7,h8,h9,h10⟩,⟨f0,f1,f2,f3,f4,f5,f6,f7,f8,f9,f10⟩,l⟩:=h
  exact ⟨⟨by go_simp,by go_simp,by go_simp,by go_simp,by go_simp,by go_simp,by go_simp,by go_simp,by go_simp,by go_simp,by go_simp⟩,⟨by go_simp,by go_simp,by go_simp,by go_simp,by go_simp,by go_simp,by go_simp,by go_simp,by go_simp,by go_simp,by go_simp⟩,by simpa using l⟩
theorem ownMo_put7 {w:World} {b:Nat} {m:Mo} (h:OwnMo w b m) (x:Int):OwnMo (w.setCell ⟨b,7,none⟩ (.int .i64 x)) b { m with s2:=x }:=by
  obtain ⟨⟨h0,h1,h2,h3,h4,h5,h6,h7,h8,h9,h10⟩,⟨f0,f1,f2,f3,f4,f5,f6,f7,f8,f9,f10⟩,l⟩:=h
  exact ⟨⟨by go_simp,by go_simp,by go_simp,by go_simp,by go_simp,by go_simp,by go_simp,by go_simp,by go_simp,by go_simp,by go_simp⟩,⟨by go_simp,by go_simp,by go_simp,by go_simp,by go_simp,by go_simp,by go_simp,by go_simp,by go_simp,by go_simp,by go_simp⟩,by simpa using l⟩
theorem ownMo_put8 {w:World} {b:Nat} {m:Mo} (h:OwnMo w b m) (x:Int):OwnMo (w.setCell ⟨b,8,none⟩ (.int .i64 x)) b { m with s3:=x }:=by
  obtain ⟨⟨h0,h1,h2,h3,h4,h5,h6,h7,h8,h9,h10⟩,⟨f0,f1,f2,f3,f4,f5,f6,f7,f8,f9,f10⟩,l⟩:=h
  exact ⟨⟨by go_simp,by go_simp,by go_simp,by go_simp,by go_simp,by go_simp,by go_simp,by go_simp,by go_simp,by go_simp,by go_simp⟩,⟨by go_simp,by go_simp,by go_simp,by go_simp,by go_simp,by go_simp,by go_simp,by go_simp,by go_simp,by go_simp,by go_simp⟩,by simpa using l⟩
theorem ownMo_put9 {w:World} {b:Nat} {m:Mo} (h:OwnMo w b m) (x:Int):OwnMo (w.setCell ⟨b,9,none⟩ (.int .i64 x)) b { m with s4:=x }:=by
  obtain ⟨⟨h0,h1,h2,h3,h4,h5,h6,h7,h8,h9,h10⟩,⟨f0,f1,f2,f3,f4,f5,f6,f7,f8,f9,f10⟩,l⟩:=h
  exact ⟨⟨by go_simp,by go_simp,by go_simp,by go_simp,by go_simp,by go_simp,by go_simp,by go_simp,by go_simp,by go_simp,by go_simp⟩,⟨by go_simp,by go_simp,by go_simp,by go_simp,by go_simp,by go_simp,by go_simp,by go_simp,by go_simp,by go_simp,by go_simp⟩,by simpa using l⟩
theorem ownMo_put10 {w:World} {b:Nat} {m:Mo} (h:OwnMo w b m) (x:Int):OwnMo (w.setCell ⟨b,10,none⟩ (.int .i64 x)) b { m with s5:=x }:=by
  obtain ⟨⟨h0,h1,h2,h3,h4,h5,h6,h7,h8,h9,h10⟩,⟨f0,f1,f2,f3,f4,f5,f6,f7,f8,f9,f10⟩,l⟩:=h
  exact ⟨⟨by go_simp,by go_simp,by go_simp,by go_simp,by go_simp,by go_simp,by go_simp,by go_simp,by go_simp,by go_simp,by go_simp⟩,⟨by go_simp,by go_simp,by go_simp,by go_simp,by go_simp,by go_simp,by go_simp,by go_simp,by go_simp,by go_simp,by go_simp⟩,by simpa using l⟩
theorem ownMo_dip {w:World} {b:Nat} {m:Mo} (h:OwnMo w b m) (d:P3):OwnMo (((w.setCell ⟨b,2,none⟩ (.int .i64 d.1)).setCell ⟨b,3,none⟩ (.int .i64 d.2.1)).setCell ⟨b,4,none⟩ (.int .i64 d.2.2)) b { m with d:=d } :=
  ownMo_put4 (ownMo_put3 (ownMo_put2 h d.1) d.2.1) d.2.2
theorem dip_cells {w:World} {b:Nat} {m:Mo} (h:OwnMo w b m):w.cell? ⟨b,2,none⟩=some (.int .i64 m.d.1)∧w.cell? ⟨b,3,none⟩=some (.int .i64 m.d.2.1)∧w.cell? ⟨b,4,none⟩=some (.int .i64 m.d.2.2):=by
  obtain ⟨⟨_,_,h2,h3,h4,_⟩,_⟩:=h
  exact ⟨h2,h3,h4⟩
theorem sum_bd {B x y:Int} (h:-B≤x∧x≤B) (k:-B≤y∧y≤B):-(2 * B)≤x + y∧x + y≤2 * B:=by omega
theorem ct_bd {a b:Mo} (h:mok a) (k:mok b):(-2097152≤a.c + b.c∧a.c + b.c≤2097152)∧(0≤a.t + b.t∧a.t + b.t≤2097152):=by
  unfold mok at h k
  omega
end Go.Proofs.Ytpocbdompamnnaa
