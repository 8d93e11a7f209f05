import Derived.Test.YtnfakamfmkhlbaaGreatDoorZk1
set_option maxRecDepth 100000
set_option maxHeartbeats 4000000
set_option linter.unusedSimpArgs false
namespace Go.Proofs.YtnfakamfmkhlbaaGreatDoor.C
open Go.RowKit
open Go.Proofs.YtnfakamfmkhlbaaGreatDoor.P
section
variable {z:Nat->UInt8} {wh:Bool} {fc:Nat->Bool} {b:Int} {i f t cs:Nat} {u:UInt8}
end
section
variable {z:Nat->UInt8} {wh:Bool} {fc:Nat->Bool} {b:Int}
end
section
variable {z:Nat->UInt8} {wh:Bool} {fc:Nat->Bool} {b:Int} {i f t cs:Nat} {u:UInt8}
end
end Go.Proofs.YtnfakamfmkhlbaaGreatDoor.C
namespace Go.Proofs.YtnfakamfmkhlbaaGreatDoor.C
open Go.ChangeShapes Go.WideShapes Go.ChangeAt Go.RowKit Go.Shelf
open Go.Proofs.YtnfakamfmkhlbaaGreatDoor.P
attribute [local go_sem] qd qi
end Go.Proofs.YtnfakamfmkhlbaaGreatDoor.C
namespace Go.Proofs.YtnfakamfmkhlbaaGreatDoor.C
open Go.RowKit
open Go.Proofs.YtnfakamfmkhlbaaGreatDoor.P
def mr (n:Nat):Nat:=(7-n/8)*8+n%8
def mm (x:Mv):Mv:=(mr x.1,mr x.2.1,x.2.2)
end Go.Proofs.YtnfakamfmkhlbaaGreatDoor.C
namespace Go.Proofs.YtnfakamfmkhlbaaGreatDoor.C
open Go.ChangeShapes Go.WideShapes Go.ChangeAt Go.RowKit Go.Shelf
open Go.Proofs.YtnfakamfmkhlbaaGreatDoor.P
end Go.Proofs.YtnfakamfmkhlbaaGreatDoor.C
namespace Go.Proofs.YtnfakamfmkhlbaaGreatDoor.C
open Go.RowKit
open Go.Proofs.YtnfakamfmkhlbaaGreatDoor.P
end Go.Proofs.YtnfakamfmkhlbaaGreatDoor.C
