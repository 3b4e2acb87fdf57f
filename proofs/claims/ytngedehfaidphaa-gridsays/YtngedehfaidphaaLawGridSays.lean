/-
  For every grid g and all numbers x and y the law GridSays returns true: table.CheckGrid and table.Height answer what the document's B3 says. No condition.
-/
import Derived.Test.YtngedehfaidphaaGridE
import Derived.Deep.Matrix
import Derived.WalkKit
import Derived.ProofKit
import Derived.OpenShut
import Derived.ChangeOld
import Derived.Below
import Derived.Lib.SmallJoins
namespace Go.Proofs.Ytngedehfaidphaa.gridSays
open Go.ChangeShapes Go.WideShapes Go.ChangeAt Go.RowKit Go.Joins
set_option linter.unusedVariables false

theorem own : ownKnob Try.prog.godebug = none := by kernel_rfl
theorem laidOut : laidOutB Try.prog = true := by kernel_rfl
theorem cellsGrid : Try.prog.cellsOf 46 = 3 := by kernel_rfl

/-- A slice of numbers that came in, as a list. -/
theorem open_list {H : Type} {enc : TypeId × Value → H} {w : World} {base : Nat} {n : Nat} {v : Value} {y : DataW H × List MemPlace} (h : DataW.trod enc Try.prog w base (fun _ => true) true n 22 [v] = some y) :
    ∃ (a : Option Addr) (l : List Int) (cap : Nat), v = .slice a l.length cap ∧ l.length ≤ cap ∧ l.length ≤ 9223372036854775807 ∧ Lst w a l := by
  rcases open_ints Try.underlying22 Try.underlying3 (by kernel_rfl) h with ⟨hcs, _⟩ | ⟨x, len, cap, zs, hcs, _, hl, hm, hz, _, hcell, hwz⟩
  · simp at hcs
    exact ⟨none, [], 0, by simpa using hcs, Nat.le_refl _, by simp, .inl rfl⟩
  · simp at hcs hz
    obtain ⟨e, hr⟩ := row_list (w := w) (a := some x) hl hz (fun x' hx' => by cases hx'; exact hcell) (fun h => by cases h)
    exact ⟨some x, zs.take len, cap, by rw [e]; exact hcs, by omega, by have : cap ≤ 9223372036854775807 := hm; omega, hr⟩

/-- A slice of slices of numbers that came in, as rows. -/
theorem open_rows {H : Type} {enc : TypeId × Value → H} {w : World} {base : Nat} {n : Nat} {v : Value} {y : DataW H × List MemPlace} (h : DataW.trod enc Try.prog w base (fun _ => true) true n 44 [v] = some y) :
    ∃ (a : Option Addr) (A : Nat → Option Addr) (C : Nat → Nat) (z : List (List Int)) (cap : Nat), v = .slice a z.length cap ∧ Rws w a A C z := by
  rcases Go.Deep.open_int_rows Try.underlying44 Try.underlying22 Try.underlying3 (by kernel_rfl) (by kernel_rfl) h with ⟨hcs, _⟩ | ⟨a, len, cap, A, L, C, Z, hcs, _, hl, hm, _, hr⟩
  · simp at hcs
    exact ⟨none, fun _ => none, fun _ => 0, [], 0, by simpa using hcs, .inl rfl⟩
  · simp at hcs
    have e : ((List.range len).map fun r => (Z r).take (L r)).length = len := by simp
    refine ⟨some a, A, C, (List.range len).map fun r => (Z r).take (L r), cap, by rw [e]; exact hcs, ?_⟩
    by_cases h0 : len = 0
    · left; subst h0; rfl
    · obtain ⟨b, off, spot⟩ := a
      have hc := (hr 0 (by omega)).1
      have hspot : spot = none := by simpa [Addr.add] using World.cell?_spot hc
      subst hspot
      right
      refine ⟨b, off, rfl, fun r hr' => ?_⟩
      rw [e] at hr'
      obtain ⟨h1, h2, h3, h4, _, h6, h7⟩ := hr r (by omega)
      have er : Plain.rowZ ((List.range len).map fun r => (Z r).take (L r)) r = (Z r).take (L r) := by simp [Plain.rowZ, List.getD_eq_getElem?_getD, hr']
      obtain ⟨e1, l1⟩ := row_list (w := w) (a := A r) h2 h4 (fun x hx i hi => (h7 x hx).2 i (by omega)) (fun hn => List.eq_nil_of_length_eq_zero (by rw [h4]; exact h6 hn))
      rw [er, e1]
      refine ⟨?_, l1, by have : C r ≤ 9223372036854775807 := h3; omega⟩
      by_cases k0 : r = 0
      · subst k0; simpa [Addr.add] using h1
      · simpa [Addr.add, k0] using h1

set_option maxRecDepth 100000 in
theorem lifted (os : Os) (started : os.Started) (H : Type) (enc : TypeId × Value → H) :
    ReturnsInHanded {} Try.checked os 5 .any (Rows.gridSaysSpec.pre6 enc Try.prog Try.f5 Rows.gridSaysRow.domain false) (Rows.gridSaysSpec.post enc Try.prog Try.f5 false true false false) := by
  refine returnsInHanded_of_change (C := Try.checked) own started (by kernel_rfl) Try.func5
    (ChangeSpec.witness6 (enc := enc) (C := Try.checked) false ⟨#[], #[.agg #[.slice none 0 0, .slice none 0 0, .slice none 0 0], .int .i64 0, .int .i64 0], []⟩ 8 (by kernel_rfl) (by kernel_rfl) (by kernel_rfl) (by kernel_rfl)) ?_
  intro W base args ds gs before hval0 hW hcnd _
  have hval : ∀ (j : Nat) t v, Try.f5.params[j]? = some t → args[j]? = some v → Value.okWide Try.prog W .any base t v := hval0
  have hW' := hW
  obtain ⟨p, q, hA0, hV, rfl, hfz, hnd⟩ := hW
  have hA : DataW.TrodAll enc Try.prog W 0 (fun _ => true) true Try.f5.params.toList args.toList ds p := hA0
  rw [Try.params5] at hA hval
  obtain ⟨v0, vs0, d0, ds0, p0, q0, hargs, rfl, rfl, h0, r0⟩ := trodAll_cons hA
  obtain ⟨v1, vs1, d1, ds1, p1, q1, rfl, rfl, rfl, h1, r1⟩ := trodAll_cons r0
  obtain ⟨v2, vs2, d2, ds2, p2, q2, rfl, rfl, rfl, h2, r2⟩ := trodAll_cons r1
  obtain ⟨rfl, rfl, rfl⟩ := trodAll_nil r2
  obtain rfl : args = #[v0, v1, v2] := by cases args; simp_all
  obtain ⟨rfl, rfl⟩ := trodVars_none hV
  have k0 := h0
  have lt0 : ∀ x ∈ p0, x.block < W.heap.size := by obtain ⟨m, hm⟩ := k0; exact DataW.trod_lt m _ _ _ hm
  obtain ⟨c0, e0, g0, y0, z0, s0, m0, rfl, rfl, rfl, hy0, hz0, hs0⟩ := open_agg3 Try.underlying46 (by kernel_rfl) cellsGrid (hval 0 46 v0 rfl rfl) h0
  obtain ⟨a, al, ca, rfl, hca, _, la⟩ := open_list hy0
  obtain ⟨b, bl, cb, rfl, hcb, _, lb⟩ := open_list hz0
  obtain ⟨z, A, C, zl, cz, rfl, lz⟩ := open_rows hs0
  obtain ⟨x, rfl, rfl, rfl, wx⟩ := open_int Try.underlying3 (hval 1 3 v1 rfl rfl) h1
  obtain ⟨y, rfl, rfl, rfl, wy⟩ := open_int Try.underlying3 (hval 2 3 v2 rfl rfl) h2
  clear hA0 hval0
  refine (gridSays_walk a b z ca cb cz A C al bl zl x y W hca hcb la lb lz).mono fun e W' ⟨he, bel⟩ => ?_
  subst he
  exact ⟨_, rfl, _, _, _, [], _, [], hW', trodAll_mk1 (shut_bool Try.underlying4 _), (trodAll_cons_mk (Below.trod laidOut (by kernel_rfl) (of_decide_eq_true (by kernel_rfl)) k0 bel lt0) (trodAll_cons_mk (shut_int Try.underlying3 wx) (trodAll_cons_mk (shut_int Try.underlying3 wy) trodAll_mk0))), rfl, bel.frame _, fun h => by cases h⟩

theorem over : Rows.gridSaysRow.holds Try.pinned (OpenSpec.ofChange Rows.gridSaysSpec) :=
  OpenClaim.holds_of_wide 5 Try.f5 rfl rfl rfl rfl rfl rfl rfl ⟨rfl, rfl, rfl, rfl, rfl⟩ rfl rfl rfl rfl rfl (by kernel_rfl) Try.func5 (by kernel_rfl)
    (of_decide_eq_true (by kernel_rfl)) (by unfold Func.isWrapper; first | (rw [if_pos (by decide +kernel)]; kernel_rfl) | (rw [if_neg (by decide +kernel)]; exact ⟨rfl, rfl⟩))
    (fun os started H enc _ => lifted os started H enc)

end Go.Proofs.Ytngedehfaidphaa.gridSays

namespace Go.Proofs.Ytngedehfaidphaa
/-- The given statement. -/
theorem gridSays_holds : Rows.GridSaysSaid := gridSays.over
end Go.Proofs.Ytngedehfaidphaa
