/-
  A rule, a servo and a sample that came in, as the walks take them.
-/
import Derived.Test.YtheihcpacpoliaaActA
import Derived.WalkKit
import Derived.ProofKit
import Derived.OpenShut
import Derived.ChangeOld
import Derived.Below
import Derived.Lib.SmallJoins
namespace Go.Proofs.Ytheihcpacpoliaa
open Go.ChangeShapes Go.WideShapes Go.ChangeAt Go.RowKit Go.Joins Go.Deep
set_option linter.unusedVariables false

end Go.Proofs.Ytheihcpacpoliaa
