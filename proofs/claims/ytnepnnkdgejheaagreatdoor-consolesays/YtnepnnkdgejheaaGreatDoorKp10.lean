import Derived.Test.YtnepnnkdgejheaaGreatDoorRows
import Derived.Test.YtnepnnkdgejheaaGreatDoorCards
import Derived.Test.YtnepnnkdgejheaaGreatDoorTie
import Derived.ProofKit
import Derived.OpenShut
import Derived.ChangeOld
import Derived.ChangeSame
import Derived.ChangeVars
import Derived.Lib.SmallJoins
import Derived.JoinedOf
import Derived.RowKit
import Derived.RowKitTokens
import Derived.LaidLaws
import Derived.LaidHandle
import Derived.Stop.Joined
import Derived.SevenTiedAt
import Derived.Stop.LaidErr
import Derived.Lib.LaidTab
import Derived.Shelf.Vars
import Derived.Lay
import Derived.ChangeMaps5
import Derived.Test.YtnepnnkdgejheaaGreatDoorKp00
set_option maxRecDepth 100000
set_option maxHeartbeats 20000000
namespace Go.Proofs.YtnepnnkdgejheaaGreatDoor.consoleSays
open Go.ChangeShapes Go.WideShapes Go.ChangeAt Go.RowKit Go.Joins
set_option linter.unusedVariables false
theorem c1:(Rows.consoleSaysRow.inPlace==Tryz.prog.inPlace 3)=true:=by kernel_rfl
theorem c2:(Rows.consoleSaysRow.unfollowed==Tryz.prog.unfollowed 3)=true:=by kernel_rfl
theorem c3:(Rows.consoleSaysRow.recurses==Tryz.prog.recurses 3)=true:=by kernel_rfl
theorem c4:(Rows.consoleSaysRow.named==Tryz.prog.varsNamed 3)=true:=by kernel_rfl
theorem closed:joinedFacts Tryz.prog 3 Tryz.f3 Rows.consoleSaysSpec Rows.consoleSaysRow=true:=by
 unfold joinedFacts
 rw[c1,c2,c3,c4]
 kernel_rfl
end Go.Proofs.YtnepnnkdgejheaaGreatDoor.consoleSays
namespace Go.Proofs.YtnepnnkdgejheaaGreatDoor
open Go
theorem d1:Rows.consoleSaysRow.wfByText (OpenSpec.ofChange Rows.consoleSaysSpec)=true:=by kernel_rfl
theorem d2:Tryz.pinned.checked.prog.mainIs=some (true,Rows.consoleSaysCard.stood.harness.2.toList):=by kernel_rfl
theorem d3:Tryz.prog.funcNamed Tryz.f3.name=some 3:=by kernel_rfl
theorem d4:true=Tryz.pinned.checked.prog.looks []:=by kernel_rfl
theorem d5:Tryz.pinned.checked.prog.wantsStandIn 9=false:=by kernel_rfl
theorem d6:false=Rows.consoleSaysRow.goesBy Tryz.pinned.checked.prog:=by kernel_rfl
end Go.Proofs.YtnepnnkdgejheaaGreatDoor
