/-
  A bank, a rule and a slice of samples that came in, as the walks take them.
-/
import Derived.Test.YthijegfacnjooaaVoteJ
import Derived.WalkKit
import Derived.ProofKit
import Derived.OpenShut
import Derived.ChangeOld
import Derived.Below
import Derived.Lib.SmallJoins
import Derived.Deep.SlicePairs
namespace Go.Proofs.Ythijegfacnjooaa
open Go.ChangeShapes Go.WideShapes Go.ChangeAt Go.RowKit Go.Joins Go.Deep
set_option linter.unusedVariables false

theorem cellsBank : Try.prog.cellsOf 33 = 7 := by kernel_rfl
theorem cellsRule : Try.prog.cellsOf 23 = 2 := by kernel_rfl
theorem cellsSample : Try.prog.cellsOf 36 = 2 := by kernel_rfl
theorem cellsI3 : Try.prog.cellsOf 30 = 3 := by kernel_rfl
theorem cellsB3 : Try.prog.cellsOf 31 = 3 := by kernel_rfl
theorem cellsInt : Try.prog.cellsOf 3 = 1 := by kernel_rfl
theorem cellsBool : Try.prog.cellsOf 4 = 1 := by kernel_rfl

theorem addr_add (b off n : Nat) : (⟨b, off, none⟩ : Addr).add n = ⟨b, off + n, none⟩ := by unfold Addr.add; split <;> simp_all
set_option maxRecDepth 100000 in
theorem three {H : Type} {enc : TypeId × Value → H} {w : World} {base : Nat} {sp : Nat → Bool} {held : Bool} {n : Nat} {x : DataW H × List MemPlace} {c0 c1 c2 : Value} (h : DataW.trod enc Try.prog w base sp held n 30 [c0, c1, c2] = some x) :
    ∃ a b c, c0 = .int .i64 a ∧ c1 = .int .i64 b ∧ c2 = .int .i64 c := by
  obtain ⟨xs, m, _, _, _, hl, hi⟩ := DataW.trod_array Try.underlying30 h
  have i0 := hi 0 (by omega)
  have i1 := hi 1 (by omega)
  have i2 := hi 2 (by omega)
  rw [cellsInt, List.getElem?_eq_getElem (by omega)] at i0 i1 i2
  obtain ⟨a, e0, _⟩ := DataW.trod_int Try.underlying3 i0
  obtain ⟨b, e1, _⟩ := DataW.trod_int Try.underlying3 i1
  obtain ⟨c, e2, _⟩ := DataW.trod_int Try.underlying3 i2
  exact ⟨a, b, c, by simpa using e0, by simpa using e1, by simpa using e2⟩
set_option maxRecDepth 100000 in
theorem threeB {H : Type} {enc : TypeId × Value → H} {w : World} {base : Nat} {sp : Nat → Bool} {held : Bool} {n : Nat} {x : DataW H × List MemPlace} {c0 c1 c2 : Value} (h : DataW.trod enc Try.prog w base sp held n 31 [c0, c1, c2] = some x) :
    ∃ a b c, c0 = .bool a ∧ c1 = .bool b ∧ c2 = .bool c := by
  obtain ⟨xs, m, _, _, _, hl, hi⟩ := DataW.trod_array Try.underlying31 h
  have i0 := hi 0 (by omega)
  have i1 := hi 1 (by omega)
  have i2 := hi 2 (by omega)
  rw [cellsBool, List.getElem?_eq_getElem (by omega)] at i0 i1 i2
  obtain ⟨a, e0, _⟩ := DataW.trod_bool Try.underlying4 i0
  obtain ⟨b, e1, _⟩ := DataW.trod_bool Try.underlying4 i1
  obtain ⟨c, e2, _⟩ := DataW.trod_bool Try.underlying4 i2
  exact ⟨a, b, c, by simpa using e0, by simpa using e1, by simpa using e2⟩

set_option maxRecDepth 100000 in
theorem open_bank {H : Type} {enc : TypeId × Value → H} {w : World} {base : Nat} {sp : Nat → Bool} {held : Bool} {r : Reach} {b0 : Nat} {v : Value} {d : DataW H} {p : List MemPlace} (hv : Value.okWide Try.prog w r b0 33 v) (h : DataW.Trod enc Try.prog w base sp held 33 v d p) :
    ∃ (b : Nat → Int) (o : Nat → Bool) (l : Int), v = .agg #[.int .i64 (b 0), .int .i64 (b 1), .int .i64 (b 2), .bool (o 0), .bool (o 1), .bool (o 2), .int .i64 l] := by
  obtain ⟨cs, rfl, hsz⟩ := okWide_struct Try.underlying33 hv
  rw [cellsBank] at hsz
  obtain ⟨c0, c1, c2, c3, c4, c5, c6, rfl⟩ : ∃ c0 c1 c2 c3 c4 c5 c6, cs = #[c0, c1, c2, c3, c4, c5, c6] := by
    match cs, hsz with
    | ⟨[c0, c1, c2, c3, c4, c5, c6]⟩, _ => exact ⟨c0, c1, c2, c3, c4, c5, c6, rfl⟩
  obtain ⟨fuel, hf⟩ := h
  obtain ⟨y0, y1, y2, n, hx, _, h0, h1, h2⟩ := trod_struct3 Try.underlying33 hf
  simp [Value.cells, cellsI3, cellsB3, cellsInt] at h0 h1 h2
  obtain ⟨a, b, c, rfl, rfl, rfl⟩ := three h0
  obtain ⟨p0, p1, p2, rfl, rfl, rfl⟩ := threeB h1
  obtain ⟨l, e, _⟩ := DataW.trod_int Try.underlying3 h2
  simp at e
  subst e
  exact ⟨fun k => if k = 0 then a else if k = 1 then b else c, fun k => if k = 0 then p0 else if k = 1 then p1 else p2, l, by simp⟩

set_option maxRecDepth 100000 in
theorem open_rule {H : Type} {enc : TypeId × Value → H} {w : World} {base : Nat} {sp : Nat → Bool} {held : Bool} {r : Reach} {b0 : Nat} {v : Value} {d : DataW H} {p : List MemPlace} (hv : Value.okWide Try.prog w r b0 23 v) (h : DataW.Trod enc Try.prog w base sp held 23 v d p) :
    ∃ (m c : Int), v = .agg #[.int .i64 m, .int .i64 c] := by
  obtain ⟨c0, e0, y0, z0, m0, rfl, rfl, rfl, hy0, hz0⟩ := open_agg2 Try.underlying23 (by kernel_rfl) cellsRule hv h
  obtain ⟨a, f0, _, _⟩ := DataW.trod_int Try.underlying3 hy0
  obtain ⟨b, g0, _, _⟩ := DataW.trod_int Try.underlying3 hz0
  simp at f0 g0
  subst f0 g0
  exact ⟨a, b, rfl⟩

set_option maxRecDepth 100000 in
theorem open_samples {H : Type} {enc : TypeId × Value → H} {w : World} {base : Nat} {sp : Nat → Bool} {held : Bool} {n : Nat} {v : Value} {y : DataW H × List MemPlace} (h : DataW.trod enc Try.prog w base sp held n 49 [v] = some y) :
    ∃ (a : Option Addr) (l : List (Bool × Int)) (cap : Nat), v = .slice a l.length cap ∧ l.length ≤ 9223372036854775807 ∧ SLst w a l := by
  rcases open_slice_pairs Try.underlying49 Try.underlying36 cellsSample rfl rfl cellsBool cellsInt h with ⟨hcs, _⟩ | ⟨x, len, cap, m, n, V0, V1, D0, D1, P0, P1, hcs, _, hl, hm, hmm, _, hx⟩
  · simp at hcs
    exact ⟨none, [], 0, by simpa using hcs, by simp, .inl rfl⟩
  · simp at hcs
    have hlm : len ≤ m := by rw [hmm]; split <;> omega
    refine ⟨some x, (List.range len).map fun i => ((match V0 i with | .bool b => b | _ => false), (match V1 i with | .int _ z => z | _ => 0)), cap, by simpa using hcs, by simp; unfold maxLen at hm; omega, ?_⟩
    by_cases h0 : len = 0
    · left; subst h0; rfl
    · right
      obtain ⟨b, off, spot⟩ := x
      have hc := (hx 0 (by omega)).1
      have hspot : spot = none := by simpa [Addr.add] using World.cell?_spot hc
      subst hspot
      refine ⟨b, off, rfl, fun k hk => ?_⟩
      simp only [List.length_map, List.length_range] at hk
      obtain ⟨q0, q1, q2, q3⟩ := hx k (by omega)
      obtain ⟨b0, e0, _⟩ := DataW.trod_bool Try.underlying4 q2
      obtain ⟨z0, e1, _⟩ := DataW.trod_int Try.underlying3 q3
      simp at e0 e1
      rw [List.getD_eq_getElem?_getD, List.getElem?_map, List.getElem?_range hk]
      simp only [Option.map_some, Option.getD_some, e0, e1]
      rw [e0] at q0
      rw [e1] at q1
      rw [addr_add] at q0 q1
      exact ⟨q0, by rw [Nat.add_assoc]; exact q1⟩

end Go.Proofs.Ythijegfacnjooaa
