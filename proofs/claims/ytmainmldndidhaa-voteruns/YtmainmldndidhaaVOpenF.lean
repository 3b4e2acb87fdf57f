/-
  Frames of samples that came in (a slice of slices), as a walk takes them.
-/
import Derived.Test.YtmainmldndidhaaVOpen
namespace Go.Proofs.Ytmainmldndidhaa
open Go.ChangeShapes Go.WideShapes Go.ChangeAt Go.RowKit Go.Joins Go.Deep
set_option linter.unusedVariables false

/-- Frames lie at an address: each a slice of samples. -/
def FLst (w : World) (a : Option Addr) (A : Nat → Option Addr) (L : Nat → List (Bool × Int)) (C : Nat → Nat) (len : Nat) : Prop :=
  len = 0 ∨ ∃ b off, a = some ⟨b, off, none⟩ ∧ ∀ r, r < len → w.cell? ⟨b, off + r, none⟩ = some (.slice (A r) (L r).length (C r)) ∧ (L r).length ≤ 9223372036854775807 ∧ SLst w (A r) (L r)
theorem FLst.later {w w' : World} {a A L C len} (h : FLst w a A L C len) (hb : Below w.heap.size w w') : FLst w' a A L C len := by
  rcases h with h | ⟨b, off, h, hc⟩
  · exact .inl h
  · exact .inr ⟨b, off, h, fun r hr => ⟨cell_later hb (hc r hr).1, (hc r hr).2.1, (hc r hr).2.2.later hb⟩⟩

theorem cellsSlice : Try.prog.cellsOf 48 = 1 := by kernel_rfl

set_option maxRecDepth 100000 in
theorem open_frames {H : Type} {enc : TypeId × Value → H} {w : World} {base : Nat} {sp : Nat → Bool} {held : Bool} {n : Nat} {v : Value} {y : DataW H × List MemPlace} (h : DataW.trod enc Try.prog w base sp held n 41 [v] = some y) :
    ∃ (a : Option Addr) (A : Nat → Option Addr) (L : Nat → List (Bool × Int)) (C : Nat → Nat) (len cap : Nat), v = .slice a len cap ∧ len ≤ 9223372036854775807 ∧ FLst w a A L C len := by
  rcases open_slice1 Try.underlying41 cellsSlice h with ⟨hcs, _⟩ | ⟨x, len, cap, m, n', V, D, Pl, hcs, _, hl, hm, hmm, _, hx⟩
  · simp at hcs
    exact ⟨none, fun _ => none, fun _ => [], fun _ => 0, 0, 0, hcs, by omega, .inl rfl⟩
  · simp at hcs
    have hlm : len ≤ m := by rw [hmm]; split <;> omega
    have each : ∀ r, ∃ (a : Option Addr) (l : List (Bool × Int)) (c : Nat), r < m → V r = .slice a l.length c ∧ l.length ≤ 9223372036854775807 ∧ SLst w a l := by
      intro r
      by_cases hr : r < m
      · obtain ⟨a, l, c, h1, h2, h3⟩ := open_samples (hx r hr).2
        exact ⟨a, l, c, fun _ => ⟨h1, h2, h3⟩⟩
      · exact ⟨none, [], 0, fun h => absurd h hr⟩
    refine ⟨some x, fun r => (each r).choose, fun r => (each r).choose_spec.choose, fun r => (each r).choose_spec.choose_spec.choose, len, cap, hcs, by unfold maxLen at hm; omega, ?_⟩
    by_cases h0 : len = 0
    · exact .inl h0
    · right
      obtain ⟨b, off, spot⟩ := x
      have hc := (hx 0 (by omega)).1
      have hspot : spot = none := by simpa [Addr.add] using World.cell?_spot hc
      subst hspot
      refine ⟨b, off, rfl, fun r hr => ?_⟩
      have hs := (each r).choose_spec.choose_spec.choose_spec (by omega)
      have hq := (hx r (by omega)).1
      rw [addr_add] at hq
      exact ⟨by rw [hq, hs.1], hs.2⟩

end Go.Proofs.Ytmainmldndidhaa
