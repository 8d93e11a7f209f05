/-
  DERIVED: THE SHELF's CONTRACTS AT THIS DUMP, IN PLAIN WORDS (tools/lay-plain.mjs out of 'TryzIb.lean', which tools/lay-shelf.mjs wrote): THE SAME DECLARATIONS UNDER THE SAME NAMES: 'import', 'namespace', 'open', 'def', 'theorem' AND NOTHING ELSE: no command of the shelf's: FOR A HAND-IN. Each laying: the table of numbers ('.._ren') and one theorem, a field a fact of the dump's own or the kernel's comparison; each contract: ONE APPLICATION.
-/
import Derived.Shelf.Bytes.IndexByte
import Derived.Test.YtnfakamfmkhlbabGreatDoorProg
namespace Go.Proofs
open Go.Shelf
def Tryz.lays187x_ren : Go.Shelf.Ren := ⟨fun | 187 => 226 | 255 => 272 | n => n, fun | 37 => 145 | 5 => 5 | 3 => 3 | n => n, fun | n => n⟩
theorem Tryz.lays187x : Go.Proofs.Lays.n187 Tryz.prog Tryz.lays187x_ren := {
  mixed := by kernel_rfl
  f187 := Tryz.func226.trans (congrArg some (by kernel_rfl))
  f255 := Tryz.func272.trans (congrArg some (by kernel_rfl))
  t3 := Tryz.underlying3
  a3 := Tryz.isAgg3
  z3 := Tryz.sizeOf3
  v3 := Tryz.zeroValue3
  t5 := Tryz.underlying5
  a5 := Tryz.isAgg5
  z5 := Tryz.sizeOf5
  v5 := Tryz.zeroValue5
  t37 := Tryz.underlying145
  a37 := Tryz.isAgg145
  z37 := Tryz.sizeOf145
  v37 := Tryz.zeroValue145 }
end Go.Proofs
