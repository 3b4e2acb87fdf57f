/-
  Slices of numbers, of samples and of servos that came in, as the walks take them.
-/
import Derived.Test.YthijegfacnjooaaServoA
import Derived.Test.YthijegfacnjooaaAOpen
import Derived.Deep.SlicePairs
namespace Go.Proofs.Ythijegfacnjooaa
open Go.ChangeShapes Go.WideShapes Go.ChangeAt Go.RowKit Go.Joins Go.Deep
set_option linter.unusedVariables false

theorem cellsSInt : Try.prog.cellsOf 3 = 1 := by kernel_rfl
theorem cellsSBool : Try.prog.cellsOf 4 = 1 := by kernel_rfl
theorem saddr_add (b off n : Nat) : (⟨b, off, none⟩ : Addr).add n = ⟨b, off + n, none⟩ := by unfold Addr.add; split <;> simp_all

theorem open_ils {H : Type} {enc : TypeId × Value → H} {w : World} {base : Nat} {n : Nat} {v : Value} {y : DataW H × List MemPlace} (h : DataW.trod enc Try.prog w base (fun _ => true) true n 50 [v] = some y) :
    ∃ (a : Option Addr) (l : List Int) (cap : Nat), v = .slice a l.length cap ∧ l.length ≤ 9223372036854775807 ∧ ILs w a l ∧ ∀ x ∈ l, -9223372036854775808 ≤ x ∧ x ≤ 9223372036854775807 := by
  rcases open_ints Try.underlying50 Try.underlying3 (by kernel_rfl) h with ⟨hcs, _⟩ | ⟨x, len, cap, zs, hcs, _, hl, hm, hz, _, hcell, hwz⟩
  · simp at hcs
    exact ⟨none, [], 0, by simpa using hcs, by simp, .inl rfl, by simp⟩
  · simp at hcs hz
    have hlen : (zs.take len).length = len := by simp; omega
    refine ⟨some x, zs.take len, cap, by rw [hlen]; exact hcs, by rw [hlen]; unfold maxLen at hm; omega, ?_, fun z hzm => ?_⟩
    · by_cases h0 : len = 0
      · left; subst h0; rfl
      · right
        obtain ⟨b, off, spot⟩ := x
        have hc := hcell 0 (by omega)
        have hspot : spot = none := by simpa [Addr.add] using World.cell?_spot hc
        subst hspot
        refine ⟨b, off, rfl, fun k hk => ?_⟩
        rw [hlen] at hk
        have q := hcell k (by omega)
        rw [saddr_add] at q
        show w.cell? _ = _
        rw [q, List.getD_eq_getElem?_getD, List.getD_eq_getElem?_getD, List.getElem?_take, if_pos hk]
    · exact bounds_i64 (hwz z (List.mem_of_mem_take hzm))

set_option maxRecDepth 100000 in
theorem open_sls {H : Type} {enc : TypeId × Value → H} {w : World} {base : Nat} {sp : Nat → Bool} {held : Bool} {n : Nat} {v : Value} {y : DataW H × List MemPlace} (h : DataW.trod enc Try.prog w base sp held n 49 [v] = some y) :
    ∃ (a : Option Addr) (l : List (Bool × Int)) (cap : Nat), v = .slice a l.length cap ∧ l.length ≤ 9223372036854775807 ∧ SLs w a l := by
  rcases open_slice_pairs Try.underlying49 Try.underlying36 cellsASample rfl rfl cellsSBool cellsSInt h with ⟨hcs, _⟩ | ⟨x, len, cap, m, n, V0, V1, D0, D1, P0, P1, hcs, _, hl, hm, hmm, _, hx⟩
  · simp at hcs
    exact ⟨none, [], 0, by simpa using hcs, by simp, .inl rfl⟩
  · simp at hcs
    have hlm : len ≤ m := by rw [hmm]; split <;> omega
    refine ⟨some x, (List.range len).map fun i => ((match V0 i with | .bool b => b | _ => false), (match V1 i with | .int _ z => z | _ => 0)), cap, by simpa using hcs, by simp; unfold maxLen at hm; omega, ?_⟩
    by_cases h0 : len = 0
    · left; subst h0; rfl
    · right
      obtain ⟨b, off, spot⟩ := x
      have hc := (hx 0 (by omega)).1
      have hspot : spot = none := by simpa [Addr.add] using World.cell?_spot hc
      subst hspot
      refine ⟨b, off, rfl, fun k hk => ?_⟩
      simp only [List.length_map, List.length_range] at hk
      obtain ⟨q0, q1, q2, q3⟩ := hx k (by omega)
      obtain ⟨b0, e0, _⟩ := DataW.trod_bool Try.underlying4 q2
      obtain ⟨z0, e1, _⟩ := DataW.trod_int Try.underlying3 q3
      simp at e0 e1
      rw [List.getD_eq_getElem?_getD, List.getElem?_map, List.getElem?_range hk]
      simp only [Option.map_some, Option.getD_some, e0, e1]
      rw [e0] at q0
      rw [e1] at q1
      rw [saddr_add] at q0 q1
      exact ⟨q0, by rw [Nat.add_assoc]; exact q1⟩

end Go.Proofs.Ythijegfacnjooaa
