/-
  Contracts of fulmarref.ServoMay, fulmarref.Reached and act.Reach.
-/
import Derived.Test.YthijegfacnjooaaActB
namespace Go.Proofs.Ythijegfacnjooaa
open Go.RowKit Plain

end Go.Proofs.Ythijegfacnjooaa
