/-
  Contracts of act.isAtPlace, act.Watch and fulmarref.Watched: what a servo is behind having been seen.
-/
import Derived.Test.YtheihcpacpoliaaActE
namespace Go.Proofs.Ytheihcpacpoliaa
open Go.RowKit Plain

/-- Was it seen where it should be (or is it out)? -/
def atB (S i z : Int) (y : Bool) : Bool := y && betw z (i - S) (i + S)
def fineW (S i z : Int) (o y : Bool) : Bool := o || atB S i z y
def wI (S C i b z : Int) (o y : Bool) : Int := if fineW S i z o y then i else if b + 1 = C then 0 else i
def wB (S i b z : Int) (o y : Bool) : Int := if fineW S i z o y then b else b + 1
def wO (S C i b z : Int) (o y : Bool) : Bool := if fineW S i z o y then o else decide (b + 1 = C)

theorem w_fine {S C i b z : Int} {o y : Bool} (h : fineW S i z o y = true) : wI S C i b z o y = i ∧ wB S i b z o y = b ∧ wO S C i b z o y = o := by
  unfold wI wB wO; rw [if_pos h, if_pos h, if_pos h]; exact ⟨rfl, rfl, rfl⟩
theorem w_last {S C i b z : Int} {o y : Bool} (h : fineW S i z o y = false) (hq : b + 1 = C) : wI S C i b z o y = 0 ∧ wB S i b z o y = b + 1 ∧ wO S C i b z o y = true := by
  unfold wI wB wO; rw [h]; simp [hq]
theorem w_more {S C i b z : Int} {o y : Bool} (h : fineW S i z o y = false) (hq : b + 1 ≠ C) : wI S C i b z o y = i ∧ wB S i b z o y = b + 1 ∧ wO S C i b z o y = false := by
  unfold wI wB wO; rw [h]; simp [hq]

end Go.Proofs.Ytheihcpacpoliaa
