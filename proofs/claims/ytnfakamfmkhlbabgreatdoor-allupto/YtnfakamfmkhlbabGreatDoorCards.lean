/-
  DERIVED. GIVEN WITH THE SEED: THE CARDS: each row of YtnfakamfmkhlbabGreatDoorRows.lean that lists a variable, with what it lists TIED to the program's text (the seventh form; the later family's looks); each row that meets fmt, with fmt's text TOLD by the authors' own Lean function (tested against real Go, not proved from fmt's source: count such statements apart). THE CARD IS WHAT COUNTS. Prove the row's statement (the work); the ties are given (YtnfakamfmkhlbabGreatDoorTie.lean); close each card by the builder's one call (the guide's Derived/Test/ToyasCard.lean, 'card_holds'). Laid BY PROGRAM, IN A SANDBOX (cutbox-door.mjs). By AI agents, Wed Nov 11 2026. No macro, syntax, notation, axiom, sorry.
-/
import Derived.Test.YtnfakamfmkhlbabGreatDoorRows
import GoSem.ClaimSeven
namespace Go.Proofs.YtnfakamfmkhlbabGreatDoor
namespace Rows

/-- THE TIED CARD OF 'rookkeep.Known'. -/
def knownCard : Claim7 := { stood := { row := knownRow, standIns := [], harness := (true, "89364d7576d85273bd836bfdb53c1dc1812dee5c84125fda48e4084f4f2823e9"), looks := false }, kinds := [], alts := [], laidByText := true, laidKinds := [.data, .data, .data, .data, .data, .pinned], laidTests := true, laidLooks := .later }
def KnownCardSaid : Prop := Claim7.holds Tryz.pinned (.plain (OpenSpec.ofChange knownSpec)) knownCard

/-- THE TIED CARD OF 'rooklaw.Shorts'. -/
def shortsCard : Claim7 := { stood := { row := shortsRow, standIns := [], harness := (true, "89364d7576d85273bd836bfdb53c1dc1812dee5c84125fda48e4084f4f2823e9"), looks := false }, kinds := [], alts := [], laidByText := true, laidKinds := [.data, .data, .data, .data, .data, .pinned, .pinned], laidTests := true, laidLooks := .later }
def ShortsCardSaid : Prop := Claim7.holds Tryz.pinned (.plain (OpenSpec.ofChange shortsSpec)) shortsCard

/-- THE TIED CARD OF 'rookkeep.Apart'. -/
def apartCard : Claim7 := { stood := { row := apartRow, standIns := [], harness := (true, "89364d7576d85273bd836bfdb53c1dc1812dee5c84125fda48e4084f4f2823e9"), looks := false }, kinds := [], alts := [], laidByText := true, laidKinds := [.data, .data, .data, .data, .data, .pinned, .pinned], laidTests := true, laidLooks := .later }
def ApartCardSaid : Prop := Claim7.holds Tryz.pinned (.plain (OpenSpec.ofChange apartSpec)) apartCard

/-- THE TIED CARD OF 'rooklaw.Labs'. -/
def labsCard : Claim7 := { stood := { row := labsRow, standIns := [], harness := (true, "89364d7576d85273bd836bfdb53c1dc1812dee5c84125fda48e4084f4f2823e9"), looks := false }, kinds := [], alts := [], laidByText := true, laidKinds := [.data, .data, .data, .data, .data, .data, .data, .data, .pinned, .pinned], laidTests := true, laidLooks := .later }
def LabsCardSaid : Prop := Claim7.holds Tryz.pinned (.plain (OpenSpec.ofChange labsSpec)) labsCard

/-- THE TIED CARD OF 'rooklaw.All'. -/
def allCard : Claim7 := { stood := { row := allRow, standIns := [], harness := (true, "89364d7576d85273bd836bfdb53c1dc1812dee5c84125fda48e4084f4f2823e9"), looks := false }, kinds := [], alts := [], laidByText := true, laidKinds := [.data, .data, .data, .data, .data, .data, .data, .data, .pinned, .pinned], laidTests := true, laidLooks := .later }
def AllCardSaid : Prop := Claim7.holds Tryz.pinned (.plain (OpenSpec.ofChange allSpec)) allCard

/-- THE SECOND FORM's CARD OF 'rookkeep.Known'. -/
def knownUptoCard : Claim7 := { stood := { row := knownUptoRow, standIns := [], harness := (true, "89364d7576d85273bd836bfdb53c1dc1812dee5c84125fda48e4084f4f2823e9"), looks := false }, kinds := [], alts := [], laidByText := true, laidKinds := [.data, .data, .data, .data, .data, .pinned], laidTests := true, laidLooks := .later }
def KnownUptoCardSaid : Prop := Claim7.holds Tryz.pinned (.plain (OpenSpec.upto knownSpec)) knownUptoCard

/-- THE SECOND FORM's CARD OF 'rooklaw.Shorts'. -/
def shortsUptoCard : Claim7 := { stood := { row := shortsUptoRow, standIns := [], harness := (true, "89364d7576d85273bd836bfdb53c1dc1812dee5c84125fda48e4084f4f2823e9"), looks := false }, kinds := [], alts := [], laidByText := true, laidKinds := [.data, .data, .data, .data, .data, .pinned, .pinned], laidTests := true, laidLooks := .later }
def ShortsUptoCardSaid : Prop := Claim7.holds Tryz.pinned (.plain (OpenSpec.upto shortsSpec)) shortsUptoCard

/-- THE SECOND FORM's CARD OF 'rookkeep.Apart'. -/
def apartUptoCard : Claim7 := { stood := { row := apartUptoRow, standIns := [], harness := (true, "89364d7576d85273bd836bfdb53c1dc1812dee5c84125fda48e4084f4f2823e9"), looks := false }, kinds := [], alts := [], laidByText := true, laidKinds := [.data, .data, .data, .data, .data, .pinned, .pinned], laidTests := true, laidLooks := .later }
def ApartUptoCardSaid : Prop := Claim7.holds Tryz.pinned (.plain (OpenSpec.upto apartSpec)) apartUptoCard

/-- THE SECOND FORM's CARD OF 'rooklaw.Labs'. -/
def labsUptoCard : Claim7 := { stood := { row := labsUptoRow, standIns := [], harness := (true, "89364d7576d85273bd836bfdb53c1dc1812dee5c84125fda48e4084f4f2823e9"), looks := false }, kinds := [], alts := [], laidByText := true, laidKinds := [.data, .data, .data, .data, .data, .data, .data, .data, .pinned, .pinned], laidTests := true, laidLooks := .later }
def LabsUptoCardSaid : Prop := Claim7.holds Tryz.pinned (.plain (OpenSpec.upto labsSpec)) labsUptoCard

/-- THE SECOND FORM's CARD OF 'rooklaw.All'. -/
def allUptoCard : Claim7 := { stood := { row := allUptoRow, standIns := [], harness := (true, "89364d7576d85273bd836bfdb53c1dc1812dee5c84125fda48e4084f4f2823e9"), looks := false }, kinds := [], alts := [], laidByText := true, laidKinds := [.data, .data, .data, .data, .data, .data, .data, .data, .pinned, .pinned], laidTests := true, laidLooks := .later }
def AllUptoCardSaid : Prop := Claim7.holds Tryz.pinned (.plain (OpenSpec.upto allSpec)) allUptoCard
end Rows
end Go.Proofs.YtnfakamfmkhlbabGreatDoor
