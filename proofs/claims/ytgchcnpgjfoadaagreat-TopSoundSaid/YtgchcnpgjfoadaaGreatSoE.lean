import Derived.Test.YtgchcnpgjfoadaaGreatSoMa
namespace Go.Proofs.YtgchcnpgjfoadaaGreat
open Go.ChangeShapes Go.WideShapes Go.RowKit
open Sh
abbrev earv (x:P3) (s t d:Int):Value:=.agg #[.int .i64 x.1,.int .i64 x.2.1,.int .i64 x.2.2,.int .i64 s,.int .i64 t,.int .i64 d]
abbrev earb (x:P3) (s t d:Int) (ty:TypeId):Obj:=.cells #[.int .i64 x.1,.int .i64 x.2.1,.int .i64 x.2.2,.int .i64 s,.int .i64 t,.int .i64 d] ty
def OwnE (w:World) (b:Nat) (x:P3) (s t d:Int):Prop:=(w.cell? ⟨b,0,none⟩=some (.int .i64 x.1)∧w.cell? ⟨b,1,none⟩=some (.int .i64 x.2.1)∧w.cell? ⟨b,2,none⟩=some (.int .i64 x.2.2)∧w.cell? ⟨b,3,none⟩=some (.int .i64 s)∧w.cell? ⟨b,4,none⟩=some (.int .i64 t)∧w.cell? ⟨b,5,none⟩=some (.int .i64 d))∧b < w.heap.size
theorem ownE_new (w:World) (x:P3) (s t d:Int) (ty:TypeId):OwnE (w.alloc (earb x s t d ty)) w.heap.size x s t d:=⟨⟨by go_simp,by go_simp,by go_simp,by go_simp,by go_simp,by go_simp⟩,by simp⟩
theorem ownE_in {w w1:World} {b N:Nat} {x:P3} {s t d:Int} (h:OwnE w b x s t d) (hb:Below N w w1) (hN:b < N):OwnE w1 b x s t d:=by
  obtain ⟨⟨h0,h1,h2,h3,h4,h5⟩,l⟩:=h
  exact ⟨⟨(hb.cell (p:=⟨b,0,none⟩) hN).trans h0,(hb.cell (p:=⟨b,1,none⟩) hN).trans h1,(hb.cell (p:=⟨b,2,none⟩) hN).trans h2,(hb.cell (p:=⟨b,3,none⟩) hN).trans h3,(hb.cell (p:=⟨b,4,none⟩) hN).trans h4,(hb.cell (p:=⟨b,5,none⟩) hN).trans h5⟩,Nat.lt_of_lt_of_le l hb.size⟩
theorem ownE_below {w w1:World} {b:Nat} {x:P3} {s t d:Int} (h:OwnE w b x s t d) (hb:Below w.heap.size w w1):OwnE w1 b x s t d:=ownE_in h hb h.2
theorem ownE_alloc {w:World} {b:Nat} {x:P3} {s t d:Int} (h:OwnE w b x s t d) (o:Obj):OwnE (w.alloc o) b x s t d:=ownE_below h ((Below.refl _ _).alloc (Nat.le_refl _) _)
end Go.Proofs.YtgchcnpgjfoadaaGreat
