/-
  Contracts of fulmarref.ServoMay, fulmarref.Reached and act.Reach.
-/
import Derived.Test.YtheihcpacpoliaaActB
namespace Go.Proofs.Ytheihcpacpoliaa
open Go.RowKit Plain

end Go.Proofs.Ytheihcpacpoliaa
