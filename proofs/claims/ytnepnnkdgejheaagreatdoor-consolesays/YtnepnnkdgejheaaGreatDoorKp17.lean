import Derived.ChangeKeysEq
import Derived.Test.YtnepnnkdgejheaaGreatDoorKp03
set_option maxRecDepth 100000
set_option maxHeartbeats 20000000
namespace Go.Proofs.YtnepnnkdgejheaaGreatDoor
open Go.RowKit Plain Tryz
end Go.Proofs.YtnepnnkdgejheaaGreatDoor
