import Derived.Test.YtgchcnpgjfoadaaGreatFgMd
import Derived.Test.YtgchcnpgjfoadaaGreatSo32
import Derived.Test.YtgchcnpgjfoadaaGreatSoMc
namespace Go.Proofs.YtgchcnpgjfoadaaGreat
open Go.ChangeShapes Go.WideShapes Go.RowKit
open Sh
end Go.Proofs.YtgchcnpgjfoadaaGreat
namespace Go.Proofs.YtgchcnpgjfoadaaGreat
open Go.ChangeShapes Go.WideShapes Go.RowKit
open Sh
end Go.Proofs.YtgchcnpgjfoadaaGreat
namespace Go.Proofs.YtgchcnpgjfoadaaGreat
open Go.ChangeShapes Go.WideShapes Go.RowKit
open Sh
end Go.Proofs.YtgchcnpgjfoadaaGreat
namespace Go.Proofs.YtgchcnpgjfoadaaGreat
open Go.ChangeShapes Go.WideShapes Go.RowKit
open Sh
end Go.Proofs.YtgchcnpgjfoadaaGreat
namespace Go.Proofs.YtgchcnpgjfoadaaGreat
open Go.ChangeShapes Go.WideShapes Go.RowKit
open Sh
theorem owp_in {w w1:World} {N b:Nat} {p:Int × Int} (h:OwP w b p) (hb:Below N w w1) (hN:b < N):OwP w1 b p:=by
  obtain ⟨h1,h2,h3,h4,h5⟩:=h
  exact ⟨(hb.cell (p:=⟨b,0,none⟩) hN).trans h1,(hb.cell (p:=⟨b,1,none⟩) hN).trans h2,(hb.frozen (p:=⟨b,0,none⟩) hN).trans h3,(hb.frozen (p:=⟨b,1,none⟩) hN).trans h4,Nat.lt_of_lt_of_le h5 hb.size⟩
end Go.Proofs.YtgchcnpgjfoadaaGreat
namespace Go.Proofs.YtgchcnpgjfoadaaGreat
open Go.ChangeShapes Go.WideShapes Go.RowKit
open Sh
end Go.Proofs.YtgchcnpgjfoadaaGreat
