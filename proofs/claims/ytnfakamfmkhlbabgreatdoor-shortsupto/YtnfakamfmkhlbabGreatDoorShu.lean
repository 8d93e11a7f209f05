/-
  DERIVED: THE SHELF's CONTRACTS AT THIS DUMP, IN PLAIN WORDS (tools/lay-plain.mjs out of 'TryzShelf.lean', which tools/lay-shelf.mjs wrote): THE SAME DECLARATIONS UNDER THE SAME NAMES: 'import', 'namespace', 'open', 'def', 'theorem' AND NOTHING ELSE: no command of the shelf's: FOR A HAND-IN. Each laying: the table of numbers ('.._ren') and one theorem, a field a fact of the dump's own or the kernel's comparison; each contract: ONE APPLICATION.
-/
import Derived.Shelf.Strings.Builder1
import Derived.Shelf.Strings.Builder2
import Derived.Shelf.Strings.OnBuilder
import Derived.Shelf.Small.Utf8
import Derived.Shelf.Small.Bits
import Derived.Shelf.Small.Strs
import Derived.Shelf.Small.Wraps
import Derived.Shelf.Strconv.Itoa0
import Derived.Shelf.Strconv.Itoa1
import Derived.Shelf.LaysM
import Derived.Shelf.Strconv.Itoa2
import Derived.Shelf.Strconv.Itoa3
import Derived.Shelf.Strings.Search1
import Derived.Shelf.Strings.Search2
import Derived.Shelf.Strings.Search3
import Derived.Shelf.Strings.Cut
import Derived.Shelf.Strings.Count
import Derived.Shelf.Strings.Shaped
import Derived.Shelf.Strings.Prefix
import Derived.Shelf.Strings.Split
import Derived.Shelf.Strings.SplitShaped
import Derived.Shelf.Unicode.Latin
import Derived.Shelf.Unicode.DecodeSlow
import Derived.Shelf.Unicode.CaseLookup
import Derived.Shelf.Unicode.CaseConvert
import Derived.Shelf.Unicode.CaseTo
import Derived.Shelf.Unicode.CaseLaid
import Derived.Shelf.Bytes.IndexByte
import Derived.Test.YtnfakamfmkhlbabGreatDoorProg
namespace Go.Proofs
open Go.Shelf
def Tryz.lays158_ren : Go.Shelf.Ren := ⟨fun | 158 => 250 | 165 => 301 | 166 => 302 | 167 => 303 | 169 => 304 | 230 => 305 | 203 => 306 | 240 => 340 | 241 => 341 | 197 => 274 | 118 => 342 | 168 => 343 | 270 => 344 | 262 => 345 | 276 => 361 | 277 => 362 | 260 => 318 | 242 => 363 | 313 => 364 | 278 => 369 | 274 => 370 | 275 => 371 | n => n, fun | 9 => 9 | 4 => 4 | 3 => 3 | 5 => 5 | 72 => 348 | 0 => 0 | 76 => 352 | 75 => 351 | 107 => 356 | 70 => 346 | 20 => 20 | 37 => 145 | 127 => 380 | 21 => 21 | 105 => 322 | 164 => 164 | 162 => 402 | 203 => 400 | 119 => 384 | 46 => 256 | 139 => 387 | 138 => 386 | 51 => 60 | 160 => 408 | 208 => 415 | 206 => 413 | 80 => 99 | n => n, fun | 13 => 9 | 3 => 6 | 4 => 7 | n => n⟩
theorem Tryz.lays158 : Go.Proofs.Lays.n158 Tryz.prog Tryz.lays158_ren := {
  mixed := by kernel_rfl
  f118 := Tryz.func342.trans (congrArg some (by kernel_rfl))
  f158 := Tryz.func250.trans (congrArg some (by kernel_rfl))
  f165 := Tryz.func301.trans (congrArg some (by kernel_rfl))
  f166 := Tryz.func302.trans (congrArg some (by kernel_rfl))
  f167 := Tryz.func303.trans (congrArg some (by kernel_rfl))
  f168 := Tryz.func343.trans (congrArg some (by kernel_rfl))
  f169 := Tryz.func304.trans (congrArg some (by kernel_rfl))
  f197 := Tryz.func274.trans (congrArg some (by kernel_rfl))
  f203 := Tryz.func306.trans (congrArg some (by kernel_rfl))
  f230 := Tryz.func305.trans (congrArg some (by kernel_rfl))
  f240 := Tryz.func340.trans (congrArg some (by kernel_rfl))
  f241 := Tryz.func341.trans (congrArg some (by kernel_rfl))
  f242 := Tryz.func363.trans (congrArg some (by kernel_rfl))
  f260 := Tryz.func318.trans (congrArg some (by kernel_rfl))
  f262 := Tryz.func345.trans (congrArg some (by kernel_rfl))
  f270 := Tryz.func344.trans (congrArg some (by kernel_rfl))
  f274 := Tryz.func370.trans (congrArg some (by kernel_rfl))
  f275 := Tryz.func371.trans (congrArg some (by kernel_rfl))
  f276 := Tryz.func361.trans (congrArg some (by kernel_rfl))
  f277 := Tryz.func362.trans (congrArg some (by kernel_rfl))
  f278 := Tryz.func369.trans (congrArg some (by kernel_rfl))
  f313 := Tryz.func364.trans (congrArg some (by kernel_rfl))
  t0 := Tryz.underlying0
  a0 := Tryz.isAgg0
  z0 := Tryz.sizeOf0
  v0 := Tryz.zeroValue0
  t3 := Tryz.underlying3
  a3 := Tryz.isAgg3
  z3 := Tryz.sizeOf3
  v3 := Tryz.zeroValue3
  t4 := Tryz.underlying4
  a4 := Tryz.isAgg4
  z4 := Tryz.sizeOf4
  v4 := Tryz.zeroValue4
  t5 := Tryz.underlying5
  a5 := Tryz.isAgg5
  z5 := Tryz.sizeOf5
  v5 := Tryz.zeroValue5
  t9 := Tryz.underlying9
  a9 := Tryz.isAgg9
  z9 := Tryz.sizeOf9
  v9 := Tryz.zeroValue9
  t20 := Tryz.underlying20
  a20 := Tryz.isAgg20
  z20 := Tryz.sizeOf20
  v20 := Tryz.zeroValue20
  t21 := Tryz.underlying21
  a21 := Tryz.isAgg21
  z21 := Tryz.sizeOf21
  v21 := Tryz.zeroValue21
  t37 := Tryz.underlying145
  a37 := Tryz.isAgg145
  z37 := Tryz.sizeOf145
  v37 := Tryz.zeroValue145
  t46 := Tryz.underlying256
  a46 := Tryz.isAgg256
  z46 := Tryz.sizeOf256
  v46 := Tryz.zeroValue256
  t51 := Tryz.underlying60
  a51 := Tryz.isAgg60
  z51 := Tryz.sizeOf60
  v51 := Tryz.zeroValue60
  t70 := Tryz.underlying346
  a70 := Tryz.isAgg346
  z70 := Tryz.sizeOf346
  v70 := Tryz.zeroValue346
  t72 := Tryz.underlying348
  a72 := Tryz.isAgg348
  z72 := Tryz.sizeOf348
  v72 := Tryz.zeroValue348
  t75 := Tryz.underlying351
  a75 := Tryz.isAgg351
  z75 := Tryz.sizeOf351
  v75 := Tryz.zeroValue351
  t76 := Tryz.underlying352
  a76 := Tryz.isAgg352
  z76 := Tryz.sizeOf352
  v76 := Tryz.zeroValue352
  t105 := Tryz.underlying322
  a105 := Tryz.isAgg322
  z105 := Tryz.sizeOf322
  v105 := Tryz.zeroValue322
  t107 := Tryz.underlying356
  a107 := Tryz.isAgg356
  z107 := Tryz.sizeOf356
  v107 := Tryz.zeroValue356
  t119 := Tryz.underlying384
  a119 := Tryz.isAgg384
  z119 := Tryz.sizeOf384
  t127 := Tryz.underlying380
  a127 := Tryz.isAgg380
  z127 := Tryz.sizeOf380
  v127 := Tryz.zeroValue380
  t138 := Tryz.underlying386
  a138 := Tryz.isAgg386
  z138 := Tryz.sizeOf386
  v138 := Tryz.zeroValue386
  t139 := Tryz.underlying387
  a139 := Tryz.isAgg387
  z139 := Tryz.sizeOf387
  v139 := Tryz.zeroValue387
  t160 := Tryz.underlying408
  a160 := Tryz.isAgg408
  z160 := Tryz.sizeOf408
  v160 := Tryz.zeroValue408
  t162 := Tryz.underlying402
  a162 := Tryz.isAgg402
  z162 := Tryz.sizeOf402
  v162 := Tryz.zeroValue402
  t164 := Tryz.underlying164
  a164 := Tryz.isAgg164
  z164 := Tryz.sizeOf164
  v164 := Tryz.zeroValue164
  t203 := Tryz.underlying400
  a203 := Tryz.isAgg400
  z203 := Tryz.sizeOf400
  v203 := Tryz.zeroValue400
  t206 := Tryz.underlying413
  a206 := Tryz.isAgg413
  z206 := Tryz.sizeOf413
  v206 := Tryz.zeroValue413
  t208 := Tryz.underlying415
  a208 := Tryz.isAgg415
  z208 := Tryz.sizeOf415
  v208 := Tryz.zeroValue415
  g3 := by kernel_rfl
  g4 := by kernel_rfl
  g13 := by kernel_rfl }
theorem Tryz.Builder_Extra_158 : Builder.Extra Tryz.prog Tryz.lays158_ren := {
  sizeBuilder := by kernel_rfl
  liesBuilder := by kernel_rfl
  t5 := Tryz.underlying5
  a5 := Tryz.isAgg5
  z5 := Tryz.sizeOf5
  v5 := Tryz.zeroValue5
  infoByte := by kernel_rfl
  cellsByte := by kernel_rfl
  sizeByte := by kernel_rfl
  neB5 := by decide }
open Go.RowKit in
theorem Tryz.strings_ToUpper_ascii (s : ByteArray) (w : World) (hs : s.size ≤ 140737488355328) (hascii : ∀ (j : Nat) (b : UInt8), s.data.toList[j]? = some b → b.toNat < 128) :
    Calls Tryz.prog 250 #[.string s] w fun e w' => e = .returned (.string ⟨(Lib.toUpperA s.data.toList).toArray⟩) ∧ Below w.heap.size w w' := Any.strings_ToUpper_ascii Tryz.lays158 Tryz.Builder_Extra_158 s w hs hascii
end Go.Proofs

