/-
  Contracts of table.along, table.Check, table.Look, table.Rises: each returns what the plain words say, and nothing that was there has turned.
-/
import Derived.Test.YtaonbbimnenehaaDoorLineD
namespace Go.Proofs.YtaonbbimnenehaaDoor
open Go.RowKit Plain

/-- A line as a value. -/
def lineV (ba oa ca la bz oz cz lz : Nat) : Value := .agg #[.slice (some ⟨ba, oa, none⟩) la ca, .slice (some ⟨bz, oz, none⟩) lz cz]

end Go.Proofs.YtaonbbimnenehaaDoor
