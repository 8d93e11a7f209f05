/-
  DERIVED. GIVEN WITH THE SEED: THE CARDS: each row of YtnfakamfmkhlbabDoorRows.lean that lists a variable, with what it lists TIED to the program's text (the seventh form; the later family's looks); each row that meets fmt, with fmt's text TOLD by the authors' own Lean function (tested against real Go, not proved from fmt's source: count such statements apart). THE CARD IS WHAT COUNTS. Prove the row's statement (the work); the ties are given (YtnfakamfmkhlbabDoorTie.lean); close each card by the builder's one call (the guide's Derived/Test/ToyasCard.lean, 'card_holds'). Laid BY PROGRAM, IN A SANDBOX (cutbox-door.mjs). By AI agents, Wed Nov 11 2026. No macro, syntax, notation, axiom, sorry.
-/
import Derived.Test.YtnfakamfmkhlbabDoorRows
import GoSem.ClaimSeven
namespace Go.Proofs.YtnfakamfmkhlbabDoor
namespace Rows

/-- THE TIED CARD OF 'rooklaw.Magics'. -/
def magicsCard : Claim7 := { stood := { row := magicsRow, standIns := [], harness := (true, "56919e52f5f65a12b74ff65218336675cef63698304431a3b2b6f53360d41500"), looks := false }, kinds := [], alts := [], laidByText := true, laidKinds := [.data], laidTests := true, laidLooks := .later }
def MagicsCardSaid : Prop := Claim7.holds Tryd.pinned (.plain (OpenSpec.ofChange magicsSpec)) magicsCard

/-- THE TIED CARD OF 'rookkeep.Magical'. -/
def magicalCard : Claim7 := { stood := { row := magicalRow, standIns := [], harness := (true, "56919e52f5f65a12b74ff65218336675cef63698304431a3b2b6f53360d41500"), looks := false }, kinds := [], alts := [], laidByText := true, laidKinds := [.data], laidTests := true, laidLooks := .later }
def MagicalCardSaid : Prop := Claim7.holds Tryd.pinned (.plain (OpenSpec.ofChange magicalSpec)) magicalCard

/-- THE SECOND FORM's CARD OF 'rooklaw.Magics'. -/
def magicsUptoCard : Claim7 := { stood := { row := magicsUptoRow, standIns := [], harness := (true, "56919e52f5f65a12b74ff65218336675cef63698304431a3b2b6f53360d41500"), looks := false }, kinds := [], alts := [], laidByText := true, laidKinds := [.data], laidTests := true, laidLooks := .later }
def MagicsUptoCardSaid : Prop := Claim7.holds Tryd.pinned (.plain (OpenSpec.upto magicsSpec)) magicsUptoCard

/-- THE SECOND FORM's CARD OF 'rookkeep.Magical'. -/
def magicalUptoCard : Claim7 := { stood := { row := magicalUptoRow, standIns := [], harness := (true, "56919e52f5f65a12b74ff65218336675cef63698304431a3b2b6f53360d41500"), looks := false }, kinds := [], alts := [], laidByText := true, laidKinds := [.data], laidTests := true, laidLooks := .later }
def MagicalUptoCardSaid : Prop := Claim7.holds Tryd.pinned (.plain (OpenSpec.upto magicalSpec)) magicalUptoCard
end Rows
end Go.Proofs.YtnfakamfmkhlbabDoor
