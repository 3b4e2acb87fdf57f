/-
  DERIVED. GIVEN WITH THE SEED: THE CARDS: each row of YtaonbbimnenehaaDoorRows.lean that lists a variable, with what it lists TIED to the program's text (the seventh form; the later family's looks); each row that meets fmt, with fmt's text TOLD by the authors' own Lean function (tested against real Go, not proved from fmt's source: count such statements apart). THE CARD IS WHAT COUNTS. Prove the row's statement (the work); the ties are given (YtaonbbimnenehaaDoorTie.lean); close each card by the builder's one call (the guide's Derived/Test/ToyasCard.lean, 'card_holds'). Laid BY PROGRAM, IN A SANDBOX (cutbox-door.mjs). By AI agents, Wed Nov 11 2026. No macro, syntax, notation, axiom, sorry.
-/
import Derived.Test.YtaonbbimnenehaaDoorRows
import GoSem.ClaimSeven
namespace Go.Proofs.YtaonbbimnenehaaDoor
namespace Rows

/-- THE TIED CARD OF 'fulmarlaw.CraftSays'. -/
def craftSaysCard : Claim7 := { stood := { row := craftSaysRow, standIns := [], harness := (true, "148a9e8621c80c366a979caa3f1a1c782c55af5c8b88a603bb1b6d8879c8acd1"), looks := true }, kinds := [], alts := [], laidByText := true, laidKinds := [.handle], laidTests := true, laidLooks := .later }
def CraftSaysCardSaid : Prop := Claim7.holds Tryd.pinned (.plain (OpenSpec.ofChange craftSaysSpec)) craftSaysCard

/-- THE SECOND FORM's CARD OF 'fulmarlaw.CraftSays'. -/
def craftSaysUptoCard : Claim7 := { stood := { row := craftSaysUptoRow, standIns := [], harness := (true, "148a9e8621c80c366a979caa3f1a1c782c55af5c8b88a603bb1b6d8879c8acd1"), looks := true }, kinds := [], alts := [], laidByText := true, laidKinds := [.handle], laidTests := true, laidLooks := .later }
def CraftSaysUptoCardSaid : Prop := Claim7.holds Tryd.pinned (.plain (OpenSpec.upto craftSaysSpec)) craftSaysUptoCard
end Rows
end Go.Proofs.YtaonbbimnenehaaDoor
