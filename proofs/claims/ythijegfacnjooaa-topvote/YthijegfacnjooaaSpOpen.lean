/-
  A slice of what is spoken that came in, as the walk of TopVote takes it.
-/
import Derived.Test.YthijegfacnjooaaTopV
import Derived.Test.YthijegfacnjooaaVOpen
import Derived.Deep.Slices
namespace Go.Proofs.Ythijegfacnjooaa
open Go.ChangeShapes Go.WideShapes Go.ChangeAt Go.RowKit Go.Joins Go.Deep
set_option linter.unusedVariables false

theorem cellsSpoken : Try.prog.cellsOf 38 = 6 := by kernel_rfl

set_option maxRecDepth 100000 in
theorem open_spoken {H : Type} {enc : TypeId × Value → H} {w : World} {base : Nat} {sp : Nat → Bool} {held : Bool} {n : Nat} {v : Value} {y : DataW H × List MemPlace} (h : DataW.trod enc Try.prog w base sp held n 24 [v] = some y) :
    ∃ (a : Option Addr) (Tr : Nat → Int) (By : Nat → Nat → Int) (Ly : Nat → Bool) (Lz : Nat → Int) (len cap : Nat), v = .slice a len cap ∧ len ≤ 9223372036854775807 ∧ PLs w a Tr By Ly Lz len := by
  rcases open_slice Try.underlying24 h with ⟨hcs, _⟩ | ⟨x, len, cap, m, n, D, Pl, hcs, _, hl, hm, hmm, _, hx⟩
  · simp at hcs
    exact ⟨none, fun _ => 0, fun _ _ => 0, fun _ => false, fun _ => 0, 0, 0, hcs, by omega, .inl rfl⟩
  · simp at hcs
    have hlm : len ≤ m := by rw [hmm]; split <;> omega
    have each : ∀ i, i < len → ∃ s : Int × (Int × Int × Int) × Bool × Int, w.cell? (x.add (i * 6)) = some (.int .i64 s.1) ∧ w.cell? (x.add (i * 6 + 1)) = some (.int .i64 s.2.1.1) ∧ w.cell? (x.add (i * 6 + 2)) = some (.int .i64 s.2.1.2.1) ∧ w.cell? (x.add (i * 6 + 3)) = some (.int .i64 s.2.1.2.2) ∧ w.cell? (x.add (i * 6 + 4)) = some (.bool s.2.2.1) ∧ w.cell? (x.add (i * 6 + 5)) = some (.int .i64 s.2.2.2) := by
      intro i hi
      obtain ⟨cs', h1, h2⟩ := hx i (by omega)
      rw [cellsSpoken] at h1
      obtain ⟨_, hlen, hcell⟩ := World.cells?_some h1
      match cs', hlen with
      | [c0, c1, c2, c3, c4, c5], _ =>
        obtain ⟨y0, y1, y2, k, _, _, g0, g1, g2⟩ := trod_struct3 Try.underlying38 h2
        simp [cellsInt, cellsI3, cellsSample] at g0 g1 g2
        obtain ⟨p, e0, _⟩ := DataW.trod_int Try.underlying3 g0
        obtain ⟨a, b, c, rfl, rfl, rfl⟩ := three g1
        obtain ⟨z0, z1, k', _, _, q0, q1⟩ := trod_struct2 Try.underlying36 g2
        simp [cellsInt, cellsBool] at q0 q1
        obtain ⟨r, e4, _⟩ := DataW.trod_bool Try.underlying4 q0
        obtain ⟨t, e5, _⟩ := DataW.trod_int Try.underlying3 q1
        simp at e0 e4 e5
        subst e0 e4 e5
        have d0 := hcell 0 (by omega)
        have d1 := hcell 1 (by omega)
        have d2 := hcell 2 (by omega)
        have d3 := hcell 3 (by omega)
        have d4 := hcell 4 (by omega)
        have d5 := hcell 5 (by omega)
        rw [add_add] at d0 d1 d2 d3 d4 d5
        exact ⟨(p, (a, b, c), r, t), by simpa using d0, by simpa using d1, by simpa using d2, by simpa using d3, by simpa using d4, by simpa using d5⟩
    let f : Nat → Int × (Int × Int × Int) × Bool × Int := fun i => if h : i < len then Classical.choose (each i h) else (0, (0, 0, 0), false, 0)
    have hf : ∀ i (h : i < len), w.cell? (x.add (i * 6)) = some (.int .i64 (f i).1) ∧ w.cell? (x.add (i * 6 + 1)) = some (.int .i64 (f i).2.1.1) ∧ w.cell? (x.add (i * 6 + 2)) = some (.int .i64 (f i).2.1.2.1) ∧ w.cell? (x.add (i * 6 + 3)) = some (.int .i64 (f i).2.1.2.2) ∧ w.cell? (x.add (i * 6 + 4)) = some (.bool (f i).2.2.1) ∧ w.cell? (x.add (i * 6 + 5)) = some (.int .i64 (f i).2.2.2) := by
      intro i h
      have e : f i = Classical.choose (each i h) := dif_pos h
      rw [e]; exact Classical.choose_spec (each i h)
    refine ⟨some x, fun i => (f i).1, fun i j => if j = 0 then (f i).2.1.1 else if j = 1 then (f i).2.1.2.1 else (f i).2.1.2.2, fun i => (f i).2.2.1, fun i => (f i).2.2.2, len, cap, hcs, by unfold maxLen at hm; omega, ?_⟩
    by_cases h0 : len = 0
    · exact .inl h0
    · right
      obtain ⟨b, off, spot⟩ := x
      have hc := (hf 0 (by omega)).1
      have hspot : spot = none := by simpa [Addr.add] using World.cell?_spot hc
      subst hspot
      refine ⟨b, off, rfl, fun k hk => ?_⟩
      obtain ⟨q0, q1, q2, q3, q4, q5⟩ := hf k hk
      rw [addr_add] at q0 q1 q2 q3 q4 q5
      rw [← Nat.add_assoc] at q1 q2 q3 q4 q5
      refine ⟨q0, fun j hj => ?_, q4, q5⟩
      rcases (show j = 0 ∨ j = 1 ∨ j = 2 by omega) with rfl | rfl | rfl
      · exact q1
      · exact q2
      · exact q3

end Go.Proofs.Ythijegfacnjooaa
