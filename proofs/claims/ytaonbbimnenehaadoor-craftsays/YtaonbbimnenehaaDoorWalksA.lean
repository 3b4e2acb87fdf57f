/-
  Contracts of the small functions of packages fix and fulmarref that take and give numbers: each returns what the plain arithmetic says, and changes nothing.
-/
import Derived.Test.YtaonbbimnenehaaDoorRows
import Derived.Test.YtaonbbimnenehaaDoorPlain
import Derived.WalkKit
import Derived.WalkLawsBesides
import Derived.WalkSpells
import Derived.ProofKit
import Derived.Outline
namespace Go.Proofs.YtaonbbimnenehaaDoor
open Go.RowKit Plain

def clipI (x lo hi : Int) : Int := if x < lo then lo else if hi < lo then lo else if hi < x then hi else x

theorem clip_of (x : Int) : clipI x (-2147483647) 2147483647 = ofI x := by
  unfold clipI ofI; rw [if_neg (show ¬ ((2147483647 : Int) < -2147483647) by omega)]

end Go.Proofs.YtaonbbimnenehaaDoor
