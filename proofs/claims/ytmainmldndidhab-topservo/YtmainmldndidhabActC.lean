/-
  Contracts of fulmarref.ServoMay, fulmarref.Reached and act.Reach.
-/
import Derived.Test.YtmainmldndidhabActB
namespace Go.Proofs.Ytmainmldndidhab
open Go.RowKit Plain

end Go.Proofs.Ytmainmldndidhab
