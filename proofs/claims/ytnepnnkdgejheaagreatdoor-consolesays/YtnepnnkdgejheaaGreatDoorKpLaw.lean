/-
  For every text (of at most 5000 bytes, else it is passed by, as the statement says) the law ConsoleSays returns true: a session's answers are those of the document's Q1. A tied card: the listed variables (the tables of math/bits, internal/strconv and unicode/utf8, errors.errorType, strconv's two errors, console.errBad) are tied to the program's text; of the pruned copy that the seat names. No other condition.
-/
import Derived.Test.YtnepnnkdgejheaaGreatDoorKp10
import Derived.Test.YtnepnnkdgejheaaGreatDoorKp50
namespace Go.Proofs.YtnepnnkdgejheaaGreatDoor.consoleSays
open Go.ChangeShapes Go.WideShapes Go.ChangeAt Go.RowKit Go.Joins Plain
set_option linter.unusedVariables false
theorem over:Rows.ConsoleSaysSaid:=
  OpenClaim.holds_of_wide 3 Tryz.f3 rfl rfl rfl rfl rfl rfl rfl ⟨rfl,rfl,rfl,rfl,rfl⟩ rfl rfl rfl rfl rfl (by kernel_rfl) Tryz.func3 closed
    (of_decide_eq_true (by kernel_rfl)) (by unfold Func.isWrapper;first|(rw[if_pos (by decide +kernel)];kernel_rfl)|(rw[if_neg (by decide +kernel)];exact⟨rfl,rfl⟩))
    (fun os started H enc _=>lifted os started H enc)
end Go.Proofs.YtnepnnkdgejheaaGreatDoor.consoleSays

namespace Go.Proofs.YtnepnnkdgejheaaGreatDoor
open Go
theorem consoleSays_card : Rows.ConsoleSaysCardSaid :=
  Claim7.holds_tied_plain_at .later [] [.data, .data, .data, .data, .handle, .sentinel, .sentinel, .sentinel, .pinned] true (true, Rows.consoleSaysCard.stood.harness.2) true
    consoleSays.over (fun _ h => by cases h) d1 (fun _ h => by cases h) consoleSays_row_tie rfl ⟨rfl, rfl⟩ d2 rfl
    (fun f fn hf hfn => by
      obtain rfl : f = 3 := Option.some.inj (d3.symm.trans hf) |>.symm
      obtain rfl : fn = Tryz.f3 := (Option.some.inj (Tryz.func3.symm.trans hfn)).symm
      exact ⟨d4, fun j t ht => by
        rw [Tryz.params3] at ht
        rcases j with _ | j
        . have h3 : t = 9 := by simpa using ht.symm
          subst h3
          exact d5
        . simp at ht⟩)
    d6
end Go.Proofs.YtnepnnkdgejheaaGreatDoor
