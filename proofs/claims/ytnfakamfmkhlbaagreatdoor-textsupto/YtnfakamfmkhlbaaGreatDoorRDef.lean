import Derived.Test.YtnfakamfmkhlbaaGreatDoorNota3
import Derived.Test.YtnfakamfmkhlbaaGreatDoorGeo
namespace Go.Proofs.YtnfakamfmkhlbaaGreatDoor.C
open Go.RowKit
open Go.Proofs.YtnfakamfmkhlbaaGreatDoor.P

/-! what the reference says of letters and squares, in plain functions -/
def ixc (c : UInt8) : Int := Lib.indexByte lettersL c
def kdc (c : UInt8) : Int := if 6 ≤ ixc c then ixc c - 6 else ixc c
def coc (c : UInt8) : Int := if ixc c < 0 then 0 else if ixc c < 6 then 1 else -1
def sdb (b : Bool) : Int := if b then 1 else -1
def zI (z : Nat → UInt8) (i : Nat) : Int := ((z i).toNat : Int)
def attR (z : Nat → UInt8) (y : Int) (b : Bool) : Bool := (List.range 64).any fun n => decide (coc (z n) = sdb b) && attI (zI z) (kdc (z n)).toNat (sdb b) (n : Int) y
def kingL (b : Bool) : UInt8 := if b then 75 else 107
def kingR (z : Nat → UInt8) (b : Bool) : Int := match (List.range 64).find? (fun n => z n == kingL b) with | some n => (n : Int) | none => -1
theorem ix_bd (c : UInt8) : -1 ≤ ixc c ∧ ixc c < 12 := by
  have : ∀ n : Fin 256, -1 ≤ ixc (UInt8.ofNat n.val) ∧ ixc (UInt8.ofNat n.val) < 12 := by decide +kernel
  have := this ⟨c.toNat, c.toNat_lt⟩
  simpa using this
theorem ix_nat (c : UInt8) (h : 0 ≤ ixc c) : ∃ p : Nat, p < 12 ∧ ixc c = (p : Int) := by
  have := ix_bd c
  exact ⟨(ixc c).toNat, by omega, by omega⟩


end Go.Proofs.YtnfakamfmkhlbaaGreatDoor.C
