import Derived.Test.YtnfakamfmkhlbaaGreatDoorZe36
import Derived.ChangeKeysEq
import Derived.Lib.IndexLaws
import Derived.LoopTactic
import Derived.Deep.LoopGhost
import Derived.Below
import Derived.Laws.Rows
set_option maxRecDepth 100000
set_option maxHeartbeats 4000000
set_option linter.unusedSimpArgs false
namespace Go.Proofs.YtnfakamfmkhlbaaGreatDoor.C
open Go.ChangeShapes Go.WideShapes Go.ChangeAt Go.RowKit
open Go.Proofs.YtnfakamfmkhlbaaGreatDoor.P
attribute [local go_sem] qd qi
end Go.Proofs.YtnfakamfmkhlbaaGreatDoor.C
namespace Go.Proofs.YtnfakamfmkhlbaaGreatDoor.C
open Go.ChangeShapes Go.WideShapes Go.ChangeAt Go.RowKit
open Go.Proofs.YtnfakamfmkhlbaaGreatDoor.P
theorem plain5:Tryz.prog.plainKey 5=true:=by kernel_rfl
theorem plain4:Tryz.prog.plainKey 4=true:=by kernel_rfl
theorem plain3:Tryz.prog.plainKey 3=true:=by kernel_rfl
theorem info5:∃ i,Tryz.prog.info? 5=some i:=Option.isSome_iff_exists.1 (show (Tryz.prog.info? 5).isSome=true by kernel_rfl)
theorem info4b:∃ i,Tryz.prog.info? 4=some i:=Option.isSome_iff_exists.1 (show (Tryz.prog.info? 4).isSome=true by kernel_rfl)
theorem cells5:Tryz.prog.cellsOf 5=1:=by kernel_rfl
theorem cells4:Tryz.prog.cellsOf 4=1:=by kernel_rfl
theorem under25:Tryz.prog.underlying 25=some (.struct (Tryz.prog.fieldsOf 25)):=by kernel_rfl
theorem stood25:Tryz.prog.stoodInHeld 25=false:=by kernel_rfl
theorem fields25 : (Tryz.prog.fieldsOf 25).toList.map (fun f => (f.name != "_", f.type, f.offset)) = [(true, 22, 0), (true, 4, 64), (true, 23, 65), (true, 3, 69), (true, 3, 70), (true, 3, 71)] := by kernel_rfl
theorem part64 (xs:Array Value) (w:World):(part 22 xs 0).run Tryz.prog w=.ok (.agg (xs.extract 0 64)) w:=by
 simp [part,isAgg,run_underlying Tryz.underlying22,sizeOf,typeInfo]
 kernel_rfl
theorem part4 (xs:Array Value) (w:World):(part 23 xs 65).run Tryz.prog w=.ok (.agg (xs.extract 65 69)) w:=by
 simp [part,isAgg,run_underlying Tryz.underlying23,sizeOf,typeInfo]
 kernel_rfl
end Go.Proofs.YtnfakamfmkhlbaaGreatDoor.C
namespace Go.Proofs.YtnfakamfmkhlbaaGreatDoor.C
open Go.ChangeShapes Go.WideShapes Go.ChangeAt Go.RowKit
end Go.Proofs.YtnfakamfmkhlbaaGreatDoor.C
namespace Go.Proofs.YtnfakamfmkhlbaaGreatDoor.C
open Go.ChangeShapes Go.WideShapes Go.ChangeAt Go.RowKit
open Go.Proofs.YtnfakamfmkhlbaaGreatDoor.P
end Go.Proofs.YtnfakamfmkhlbaaGreatDoor.C
