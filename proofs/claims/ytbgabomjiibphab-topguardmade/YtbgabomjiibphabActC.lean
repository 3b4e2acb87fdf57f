/-
  Contracts of fulmarref.ServoMay, fulmarref.Reached and act.Reach.
-/
import Derived.Test.YtbgabomjiibphabActB
namespace Go.Proofs.Ytbgabomjiibphab
open Go.RowKit Plain

end Go.Proofs.Ytbgabomjiibphab
