/-
  DERIVED: THE SHELF's CONTRACTS AT THIS DUMP, IN PLAIN WORDS (tools/lay-plain.mjs out of 'TryzSf.lean', which tools/lay-shelf.mjs wrote): THE SAME DECLARATIONS UNDER THE SAME NAMES: 'import', 'namespace', 'open', 'def', 'theorem' AND NOTHING ELSE: no command of the shelf's: FOR A HAND-IN. Each laying: the table of numbers ('.._ren') and one theorem, a field a fact of the dump's own or the kernel's comparison; each contract: ONE APPLICATION.
-/
import Derived.Shelf.SlGeneric
import Derived.Shelf.SlSortCmp.NoneTotal
import Derived.Test.YtnfakamfmkhlbabGreatDoorProg
namespace Go.Proofs
open Go.Shelf
def Tryz.sortL_ren : Go.Shelf.Ren := ⟨fun | 6 => 245 | 15 => 298 | 14 => 297 | 28 => 337 | 29 => 338 | 20 => 329 | 21 => 330 | 22 => 331 | 23 => 332 | 24 => 333 | 25 => 334 | 26 => 335 | 27 => 336 | 46 => 356 | 47 => 357 | 48 => 358 | 49 => 359 | 50 => 360 | 57 => 368 | n => n, fun | 22 => 122 | 24 => 87 | 25 => 265 | 3 => 3 | 39 => 256 | 0 => 0 | 53 => 60 | 55 => 23 | 4 => 4 | 46 => 374 | 45 => 373 | 50 => 188 | 5 => 5 | 9 => 9 | 66 => 391 | 70 => 395 | 76 => 405 | 77 => 406 | n => n, fun | n => n⟩
theorem Tryz.sortL : Go.Proofs.SlLaysF0.n6 Tryz.prog Tryz.sortL_ren := {
  mixed := by kernel_rfl
  f6 := ⟨Tryz.f245.name, by decide, Tryz.func245.trans (congrArg some (by kernel_rfl))⟩
  f14 := ⟨Tryz.f297.name, by decide, Tryz.func297.trans (congrArg some (by kernel_rfl))⟩
  f15 := Tryz.func298.trans (congrArg some (by kernel_rfl))
  f20 := ⟨Tryz.f329.name, by decide, Tryz.func329.trans (congrArg some (by kernel_rfl))⟩
  f21 := ⟨Tryz.f330.name, by decide, Tryz.func330.trans (congrArg some (by kernel_rfl))⟩
  f22 := ⟨Tryz.f331.name, by decide, Tryz.func331.trans (congrArg some (by kernel_rfl))⟩
  f23 := ⟨Tryz.f332.name, by decide, Tryz.func332.trans (congrArg some (by kernel_rfl))⟩
  f24 := ⟨Tryz.f333.name, by decide, Tryz.func333.trans (congrArg some (by kernel_rfl))⟩
  f25 := ⟨Tryz.f334.name, by decide, Tryz.func334.trans (congrArg some (by kernel_rfl))⟩
  f26 := ⟨Tryz.f335.name, by decide, Tryz.func335.trans (congrArg some (by kernel_rfl))⟩
  f27 := ⟨Tryz.f336.name, by decide, Tryz.func336.trans (congrArg some (by kernel_rfl))⟩
  f28 := Tryz.func337.trans (congrArg some (by kernel_rfl))
  f29 := Tryz.func338.trans (congrArg some (by kernel_rfl))
  f46 := ⟨Tryz.f356.name, by decide, Tryz.func356.trans (congrArg some (by kernel_rfl))⟩
  f47 := Tryz.func357.trans (congrArg some (by kernel_rfl))
  f48 := Tryz.func358.trans (congrArg some (by kernel_rfl))
  f49 := ⟨Tryz.f359.name, by decide, Tryz.func359.trans (congrArg some (by kernel_rfl))⟩
  f50 := ⟨Tryz.f360.name, by decide, Tryz.func360.trans (congrArg some (by kernel_rfl))⟩
  f57 := ⟨Tryz.f368.name, by decide, Tryz.func368.trans (congrArg some (by kernel_rfl))⟩
  t0 := Tryz.underlying0
  a0 := Tryz.isAgg0
  z0 := Tryz.sizeOf0
  v0 := Tryz.zeroValue0
  t3 := Tryz.underlying3
  a3 := Tryz.isAgg3
  z3 := Tryz.sizeOf3
  v3 := Tryz.zeroValue3
  t4 := Tryz.underlying4
  a4 := Tryz.isAgg4
  z4 := Tryz.sizeOf4
  v4 := Tryz.zeroValue4
  t5 := Tryz.underlying5
  a5 := Tryz.isAgg5
  z5 := Tryz.sizeOf5
  v5 := Tryz.zeroValue5
  t9 := Tryz.underlying9
  a9 := Tryz.isAgg9
  z9 := Tryz.sizeOf9
  v9 := Tryz.zeroValue9
  t22 := Tryz.underlying122
  a22 := Tryz.isAgg122
  z22 := Tryz.sizeOf122
  v22 := Tryz.zeroValue122
  t25 := Tryz.underlying265
  a25 := Tryz.isAgg265
  z25 := Tryz.sizeOf265
  v25 := Tryz.zeroValue265
  t39 := Tryz.underlying256
  a39 := Tryz.isAgg256
  z39 := Tryz.sizeOf256
  v39 := Tryz.zeroValue256
  t45 := Tryz.underlying373
  a45 := Tryz.isAgg373
  z45 := Tryz.sizeOf373
  v45 := Tryz.zeroValue373
  t46 := Tryz.underlying374
  a46 := Tryz.isAgg374
  z46 := Tryz.sizeOf374
  v46 := Tryz.zeroValue374
  t50 := Tryz.underlying188
  a50 := Tryz.isAgg188
  z50 := Tryz.sizeOf188
  v50 := Tryz.zeroValue188
  t53 := Tryz.underlying60
  a53 := Tryz.isAgg60
  z53 := Tryz.sizeOf60
  v53 := Tryz.zeroValue60
  t55 := Tryz.underlying23
  a55 := Tryz.isAgg23
  z55 := Tryz.sizeOf23
  v55 := Tryz.zeroValue23
  t66 := Tryz.underlying391
  a66 := Tryz.isAgg391
  z66 := Tryz.sizeOf391
  v66 := Tryz.zeroValue391
  t70 := Tryz.underlying395
  a70 := Tryz.isAgg395
  z70 := Tryz.sizeOf395
  v70 := Tryz.zeroValue395
  t76 := Tryz.underlying405
  a76 := Tryz.isAgg405
  z76 := Tryz.sizeOf405
  v76 := Tryz.zeroValue405
  t77 := Tryz.underlying406
  a77 := Tryz.isAgg406
  z77 := Tryz.sizeOf406
  v77 := Tryz.zeroValue406 }
end Go.Proofs
