/-
  Contracts of act.Move, act.isAtPlace, act.Watch and fulmarref.Watched: where a servo goes, and what it is behind having been seen.
-/
import Derived.Test.YtheihcpacpoliaaActD
namespace Go.Proofs.Ytheihcpacpoliaa
open Go.RowKit Plain

/-- A rule, a servo that may be written, and the room for a servo at Q. -/
def RSQ (w0 w : World) (Q : Nat) (T R S C i b : Int) (o : Bool) : Prop := RS w0 w T R S C i b o ∧ FrA w (w0.heap.size + 1) 3 ∧ B3 w Q (.int .i64 0) (.int .i64 0) (.bool false) ∧ FrA w Q 3
theorem RSQ.later {w0 w w' : World} {Q : Nat} {T R S C i b : Int} {o : Bool} (h : RSQ w0 w Q T R S C i b o) (hb : Below w.heap.size w w') : RSQ w0 w' Q T R S C i b o := ⟨h.1.later hb, h.2.1.later hb, h.2.2.1.later hb, h.2.2.2.later hb⟩
end Go.Proofs.Ytheihcpacpoliaa
