/-
  A slice of gusts that came in, as the walk of TopGuard takes it.
-/
import Derived.Test.YthijegfacnjooaaTopG
import Derived.Test.YthijegfacnjooaaGOpen
import Derived.Deep.Slices
namespace Go.Proofs.Ythijegfacnjooaa
open Go.ChangeShapes Go.WideShapes Go.ChangeAt Go.RowKit Go.Joins Go.Deep
set_option linter.unusedVariables false

theorem cellsGust : Try.prog.cellsOf 84 = 3 := by kernel_rfl
theorem cellsGInt : Try.prog.cellsOf 3 = 1 := by kernel_rfl
theorem gaddr_add (b off k : Nat) : (⟨b, off, none⟩ : Addr).add k = ⟨b, off + k, none⟩ := by unfold Addr.add; split <;> simp_all

set_option maxRecDepth 100000 in
theorem open_gusts {H : Type} {enc : TypeId × Value → H} {w : World} {base : Nat} {sp : Nat → Bool} {held : Bool} {n : Nat} {v : Value} {y : DataW H × List MemPlace} (h : DataW.trod enc Try.prog w base sp held n 79 [v] = some y) :
    ∃ (a : Option Addr) (O U D : Nat → Int) (len cap : Nat), v = .slice a len cap ∧ len ≤ 9223372036854775807 ∧ GLs w a O U D len := by
  rcases open_slice Try.underlying79 h with ⟨hcs, _⟩ | ⟨x, len, cap, m, n, D, Pl, hcs, _, hl, hm, hmm, _, hx⟩
  · simp at hcs
    exact ⟨none, fun _ => 0, fun _ => 0, fun _ => 0, 0, 0, hcs, by omega, .inl rfl⟩
  · simp at hcs
    have hlm : len ≤ m := by rw [hmm]; split <;> omega
    have each : ∀ i, i < len → ∃ s : Int × Int × Int, w.cell? (x.add (i * 3)) = some (.int .i64 s.1) ∧ w.cell? (x.add (i * 3 + 1)) = some (.int .i64 s.2.1) ∧ w.cell? (x.add (i * 3 + 2)) = some (.int .i64 s.2.2) := by
      intro i hi
      obtain ⟨cs', h1, h2⟩ := hx i (by omega)
      rw [cellsGust] at h1
      obtain ⟨_, hlen, hcell⟩ := World.cells?_some h1
      match cs', hlen with
      | [c0, c1, c2], _ =>
        obtain ⟨y0, y1, y2, k, _, _, g0, g1, g2⟩ := trod_struct3 Try.underlying84 h2
        simp [cellsGInt] at g0 g1 g2
        obtain ⟨p, e0, _⟩ := DataW.trod_int Try.underlying3 g0
        obtain ⟨q, e1, _⟩ := DataW.trod_int Try.underlying3 g1
        obtain ⟨r, e2, _⟩ := DataW.trod_int Try.underlying3 g2
        simp at e0 e1 e2
        subst e0 e1 e2
        have d0 := hcell 0 (by omega)
        have d1 := hcell 1 (by omega)
        have d2 := hcell 2 (by omega)
        rw [add_add] at d0 d1 d2
        exact ⟨(p, q, r), by simpa using d0, by simpa using d1, by simpa using d2⟩
    let f : Nat → Int × Int × Int := fun i => if h : i < len then Classical.choose (each i h) else (0, 0, 0)
    have hf : ∀ i (h : i < len), w.cell? (x.add (i * 3)) = some (.int .i64 (f i).1) ∧ w.cell? (x.add (i * 3 + 1)) = some (.int .i64 (f i).2.1) ∧ w.cell? (x.add (i * 3 + 2)) = some (.int .i64 (f i).2.2) := by
      intro i h
      have e : f i = Classical.choose (each i h) := dif_pos h
      rw [e]; exact Classical.choose_spec (each i h)
    refine ⟨some x, fun i => (f i).1, fun i => (f i).2.1, fun i => (f i).2.2, len, cap, by simpa using hcs, by unfold maxLen at hm; omega, ?_⟩
    by_cases h0 : len = 0
    · left; exact h0
    · right
      obtain ⟨b, off, spot⟩ := x
      have hc := (hf 0 (by omega)).1
      have hspot : spot = none := by simpa [Addr.add] using World.cell?_spot hc
      subst hspot
      refine ⟨b, off, rfl, fun k hk => ?_⟩
      obtain ⟨q0, q1, q2⟩ := hf k hk
      rw [gaddr_add] at q0 q1 q2
      exact ⟨q0, by rw [Nat.add_assoc]; exact q1, by rw [Nat.add_assoc]; exact q2⟩

end Go.Proofs.Ythijegfacnjooaa
