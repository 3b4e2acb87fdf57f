/-
  Contracts of table.ends, table.stand, table.along, table.Check, table.Look, table.Rises: each returns what the plain words say, and nothing that was there has turned.
-/
import Derived.Test.YtaonbbimnenehaaDoorLineC
namespace Go.Proofs.YtaonbbimnenehaaDoor
open Go.RowKit Plain

theorem wrap_id {x : Int} (h1 : -9223372036854775808 ≤ x) (h2 : x ≤ 9223372036854775807) : IntKind.i64.wrap x = x := by
  rw [IntKind.wrap_i64]; omega

end Go.Proofs.YtaonbbimnenehaaDoor
