/-
  DERIVED. GIVEN WITH THE SEED: THE CARDS: each row of YtnfakamfmkhlbaaGreatDoorRows.lean that lists a variable, with what it lists TIED to the program's text (the seventh form; the later family's looks); each row that meets fmt, with fmt's text TOLD by the authors' own Lean function (tested against real Go, not proved from fmt's source: count such statements apart). THE CARD IS WHAT COUNTS. Prove the row's statement (the work); the ties are given (YtnfakamfmkhlbaaGreatDoorTie.lean); close each card by the builder's one call (the guide's Derived/Test/ToyasCard.lean, 'card_holds'). Laid BY PROGRAM, IN A SANDBOX (cutbox-door.mjs). By AI agents, Wed Nov 11 2026. No macro, syntax, notation, axiom, sorry.
-/
import Derived.Test.YtnfakamfmkhlbaaGreatDoorRows
import GoSem.ClaimSeven
namespace Go.Proofs.YtnfakamfmkhlbaaGreatDoor
namespace Rows

/-- THE TIED CARD OF 'rooklaw.Texts'. -/
def textsCard : Claim7 := { stood := { row := textsRow, standIns := [], harness := (true, "8a92d05d234e901f34f38d47cf9b049c5beac58e6536ac825ebbf171aec2437a"), looks := false }, kinds := [], alts := [], laidByText := true, laidKinds := [.data, .data, .data, .data, .data, .pinned], laidTests := true, laidLooks := .later }
def TextsCardSaid : Prop := Claim7.holds Tryz.pinned (.plain (OpenSpec.ofChange textsSpec)) textsCard

/-- THE TIED CARD OF 'rooklaw.Finds'. -/
def findsCard : Claim7 := { stood := { row := findsRow, standIns := [], harness := (true, "8a92d05d234e901f34f38d47cf9b049c5beac58e6536ac825ebbf171aec2437a"), looks := false }, kinds := [], alts := [], laidByText := true, laidKinds := [.data, .data, .data, .data, .data, .pinned], laidTests := true, laidLooks := .later }
def FindsCardSaid : Prop := Claim7.holds Tryz.pinned (.plain (OpenSpec.ofChange findsSpec)) findsCard

/-- THE TIED CARD OF 'rookkeep.Twin'. -/
def twinCard : Claim7 := { stood := { row := twinRow, standIns := [], harness := (true, "8a92d05d234e901f34f38d47cf9b049c5beac58e6536ac825ebbf171aec2437a"), looks := false }, kinds := [], alts := [], laidByText := true, laidKinds := [.data, .data, .data, .data, .data, .pinned], laidTests := true, laidLooks := .later }
def TwinCardSaid : Prop := Claim7.holds Tryz.pinned (.plain (OpenSpec.ofChange twinSpec)) twinCard

/-- THE TIED CARD OF 'rooklaw.Plays'. -/
def playsCard : Claim7 := { stood := { row := playsRow, standIns := [], harness := (true, "8a92d05d234e901f34f38d47cf9b049c5beac58e6536ac825ebbf171aec2437a"), looks := false }, kinds := [], alts := [], laidByText := true, laidKinds := [.data, .data, .data, .data, .data, .data, .data, .pinned], laidTests := true, laidLooks := .later }
def PlaysCardSaid : Prop := Claim7.holds Tryz.pinned (.plain (OpenSpec.ofChange playsSpec)) playsCard

/-- THE TIED CARD OF 'rookkeep.Sound'. -/
def soundCard : Claim7 := { stood := { row := soundRow, standIns := [], harness := (true, "8a92d05d234e901f34f38d47cf9b049c5beac58e6536ac825ebbf171aec2437a"), looks := false }, kinds := [], alts := [], laidByText := true, laidKinds := [.data, .data, .data, .data, .data, .data, .data, .pinned], laidTests := true, laidLooks := .later }
def SoundCardSaid : Prop := Claim7.holds Tryz.pinned (.plain (OpenSpec.ofChange soundSpec)) soundCard

/-- THE TIED CARD OF 'rookkeep.Turned'. -/
def turnedCard : Claim7 := { stood := { row := turnedRow, standIns := [], harness := (true, "8a92d05d234e901f34f38d47cf9b049c5beac58e6536ac825ebbf171aec2437a"), looks := false }, kinds := [], alts := [], laidByText := true, laidKinds := [.data, .data, .data, .data, .data, .data, .data, .pinned], laidTests := true, laidLooks := .later }
def TurnedCardSaid : Prop := Claim7.holds Tryz.pinned (.plain (OpenSpec.ofChange turnedSpec)) turnedCard

/-- THE TIED CARD OF 'rooklaw.Divides'. -/
def dividesCard : Claim7 := { stood := { row := dividesRow, standIns := [], harness := (true, "8a92d05d234e901f34f38d47cf9b049c5beac58e6536ac825ebbf171aec2437a"), looks := false }, kinds := [], alts := [], laidByText := true, laidKinds := [.data, .data, .data, .data, .data, .pinned], laidTests := true, laidLooks := .later }
def DividesCardSaid : Prop := Claim7.holds Tryz.pinned (.plain (OpenSpec.ofChange dividesSpec)) dividesCard

/-- THE TIED CARD OF 'rooklaw.Perfts'. -/
def perftsCard : Claim7 := { stood := { row := perftsRow, standIns := [], harness := (true, "8a92d05d234e901f34f38d47cf9b049c5beac58e6536ac825ebbf171aec2437a"), looks := false }, kinds := [], alts := [], laidByText := true, laidKinds := [.data, .data, .data, .data, .data, .data, .data, .data, .pinned, .pinned], laidTests := true, laidLooks := .later }
def PerftsCardSaid : Prop := Claim7.holds Tryz.pinned (.plain (OpenSpec.ofChange perftsSpec)) perftsCard

/-- THE TIED CARD OF 'rookkeep.Counted'. -/
def countedCard : Claim7 := { stood := { row := countedRow, standIns := [], harness := (true, "8a92d05d234e901f34f38d47cf9b049c5beac58e6536ac825ebbf171aec2437a"), looks := false }, kinds := [], alts := [], laidByText := true, laidKinds := [.data, .data, .data, .data, .data, .data, .data, .pinned], laidTests := true, laidLooks := .later }
def CountedCardSaid : Prop := Claim7.holds Tryz.pinned (.plain (OpenSpec.ofChange countedSpec)) countedCard

/-- THE SECOND FORM's CARD OF 'rooklaw.Texts'. -/
def textsUptoCard : Claim7 := { stood := { row := textsUptoRow, standIns := [], harness := (true, "8a92d05d234e901f34f38d47cf9b049c5beac58e6536ac825ebbf171aec2437a"), looks := false }, kinds := [], alts := [], laidByText := true, laidKinds := [.data, .data, .data, .data, .data, .pinned], laidTests := true, laidLooks := .later }
def TextsUptoCardSaid : Prop := Claim7.holds Tryz.pinned (.plain (OpenSpec.upto textsSpec)) textsUptoCard

/-- THE SECOND FORM's CARD OF 'rooklaw.Finds'. -/
def findsUptoCard : Claim7 := { stood := { row := findsUptoRow, standIns := [], harness := (true, "8a92d05d234e901f34f38d47cf9b049c5beac58e6536ac825ebbf171aec2437a"), looks := false }, kinds := [], alts := [], laidByText := true, laidKinds := [.data, .data, .data, .data, .data, .pinned], laidTests := true, laidLooks := .later }
def FindsUptoCardSaid : Prop := Claim7.holds Tryz.pinned (.plain (OpenSpec.upto findsSpec)) findsUptoCard

/-- THE SECOND FORM's CARD OF 'rookkeep.Twin'. -/
def twinUptoCard : Claim7 := { stood := { row := twinUptoRow, standIns := [], harness := (true, "8a92d05d234e901f34f38d47cf9b049c5beac58e6536ac825ebbf171aec2437a"), looks := false }, kinds := [], alts := [], laidByText := true, laidKinds := [.data, .data, .data, .data, .data, .pinned], laidTests := true, laidLooks := .later }
def TwinUptoCardSaid : Prop := Claim7.holds Tryz.pinned (.plain (OpenSpec.upto twinSpec)) twinUptoCard

/-- THE SECOND FORM's CARD OF 'rooklaw.Plays'. -/
def playsUptoCard : Claim7 := { stood := { row := playsUptoRow, standIns := [], harness := (true, "8a92d05d234e901f34f38d47cf9b049c5beac58e6536ac825ebbf171aec2437a"), looks := false }, kinds := [], alts := [], laidByText := true, laidKinds := [.data, .data, .data, .data, .data, .data, .data, .pinned], laidTests := true, laidLooks := .later }
def PlaysUptoCardSaid : Prop := Claim7.holds Tryz.pinned (.plain (OpenSpec.upto playsSpec)) playsUptoCard

/-- THE SECOND FORM's CARD OF 'rookkeep.Sound'. -/
def soundUptoCard : Claim7 := { stood := { row := soundUptoRow, standIns := [], harness := (true, "8a92d05d234e901f34f38d47cf9b049c5beac58e6536ac825ebbf171aec2437a"), looks := false }, kinds := [], alts := [], laidByText := true, laidKinds := [.data, .data, .data, .data, .data, .data, .data, .pinned], laidTests := true, laidLooks := .later }
def SoundUptoCardSaid : Prop := Claim7.holds Tryz.pinned (.plain (OpenSpec.upto soundSpec)) soundUptoCard

/-- THE SECOND FORM's CARD OF 'rookkeep.Turned'. -/
def turnedUptoCard : Claim7 := { stood := { row := turnedUptoRow, standIns := [], harness := (true, "8a92d05d234e901f34f38d47cf9b049c5beac58e6536ac825ebbf171aec2437a"), looks := false }, kinds := [], alts := [], laidByText := true, laidKinds := [.data, .data, .data, .data, .data, .data, .data, .pinned], laidTests := true, laidLooks := .later }
def TurnedUptoCardSaid : Prop := Claim7.holds Tryz.pinned (.plain (OpenSpec.upto turnedSpec)) turnedUptoCard

/-- THE SECOND FORM's CARD OF 'rooklaw.Divides'. -/
def dividesUptoCard : Claim7 := { stood := { row := dividesUptoRow, standIns := [], harness := (true, "8a92d05d234e901f34f38d47cf9b049c5beac58e6536ac825ebbf171aec2437a"), looks := false }, kinds := [], alts := [], laidByText := true, laidKinds := [.data, .data, .data, .data, .data, .pinned], laidTests := true, laidLooks := .later }
def DividesUptoCardSaid : Prop := Claim7.holds Tryz.pinned (.plain (OpenSpec.upto dividesSpec)) dividesUptoCard

/-- THE SECOND FORM's CARD OF 'rooklaw.Perfts'. -/
def perftsUptoCard : Claim7 := { stood := { row := perftsUptoRow, standIns := [], harness := (true, "8a92d05d234e901f34f38d47cf9b049c5beac58e6536ac825ebbf171aec2437a"), looks := false }, kinds := [], alts := [], laidByText := true, laidKinds := [.data, .data, .data, .data, .data, .data, .data, .data, .pinned, .pinned], laidTests := true, laidLooks := .later }
def PerftsUptoCardSaid : Prop := Claim7.holds Tryz.pinned (.plain (OpenSpec.upto perftsSpec)) perftsUptoCard

/-- THE SECOND FORM's CARD OF 'rookkeep.Counted'. -/
def countedUptoCard : Claim7 := { stood := { row := countedUptoRow, standIns := [], harness := (true, "8a92d05d234e901f34f38d47cf9b049c5beac58e6536ac825ebbf171aec2437a"), looks := false }, kinds := [], alts := [], laidByText := true, laidKinds := [.data, .data, .data, .data, .data, .data, .data, .pinned], laidTests := true, laidLooks := .later }
def CountedUptoCardSaid : Prop := Claim7.holds Tryz.pinned (.plain (OpenSpec.upto countedSpec)) countedUptoCard
end Rows
end Go.Proofs.YtnfakamfmkhlbaaGreatDoor
