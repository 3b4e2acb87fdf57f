/-
  For every line l and all numbers x and y the law TopLine returns true: a line goes through its points, never beyond them, and one that rises gives no less for more (B1, B2). No condition.
-/
import Derived.Test.YtngedehfaidphaaTopFall
import Derived.Test.YtngedehfaidphaaTopRise
import Derived.WalkKit
import Derived.ProofKit
import Derived.OpenShut
import Derived.ChangeOld
import Derived.Below
import Derived.Lib.SmallJoins
namespace Go.Proofs.Ytngedehfaidphaa.topLine
open Go.ChangeShapes Go.WideShapes Go.ChangeAt Go.RowKit Go.Joins
set_option linter.unusedVariables false

theorem own : ownKnob Try.prog.godebug = none := by kernel_rfl
theorem laidOut : laidOutB Try.prog = true := by kernel_rfl
theorem cellsLine : Try.prog.cellsOf 24 = 2 := by kernel_rfl

/-- A slice of numbers that came in, as a list. -/
theorem open_list {H : Type} {enc : TypeId × Value → H} {w : World} {base : Nat} {n : Nat} {v : Value} {y : DataW H × List MemPlace} (h : DataW.trod enc Try.prog w base (fun _ => true) true n 22 [v] = some y) :
    ∃ (a : Option Addr) (l : List Int) (cap : Nat), v = .slice a l.length cap ∧ l.length ≤ cap ∧ l.length ≤ 9223372036854775807 ∧ Lst w a l := by
  rcases open_ints Try.underlying22 Try.underlying3 (by kernel_rfl) h with ⟨hcs, _⟩ | ⟨x, len, cap, zs, hcs, _, hl, hm, hz, _, hcell, hwz⟩
  · simp at hcs
    exact ⟨none, [], 0, by simpa using hcs, Nat.le_refl _, by simp, .inl rfl⟩
  · simp at hcs hz
    obtain ⟨e, hr⟩ := row_list (w := w) (a := some x) hl hz (fun x' hx' => by cases hx'; exact hcell) (fun h => by cases h)
    exact ⟨some x, zs.take len, cap, by rw [e]; exact hcs, by omega, by have : cap ≤ 9223372036854775807 := hm; omega, hr⟩

theorem walk (a z : Option Addr) (ca cz : Nat) (al zl : List Int) (x y : Int) (w : World) (hca : al.length ≤ ca) (hn : zl.length ≤ 9223372036854775807) (ha : Lst w a al) (hz : Lst w z zl) :
    Calls Try.prog 6 #[.agg #[.slice a al.length ca, .slice z zl.length cz], .int .i64 x, .int .i64 y] w fun r w' => r = .returned (.bool true) ∧ Below w.heap.size w w' := by
  by_cases h : Plain.lineI al zl = 0
  · obtain ⟨ba, oa, bz, oz, rfl, rfl, hl⟩ := line_lies h ha hz
    cases hrs : Plain.risesU zl (zl.length - 1)
    · exact topLine_fall ba oa ca bz oz cz al zl x y w hca hl hrs
    · exact topLine_rise ba oa ca bz oz cz al zl x y w hca hl hrs
  · exact topLine_no a z ca cz al zl x y w hn ha hz (.inr h)

set_option maxRecDepth 100000 in
theorem lifted (os : Os) (started : os.Started) (H : Type) (enc : TypeId × Value → H) :
    ReturnsInHanded {} Try.checked os 6 .any (Rows.topLineSpec.pre6 enc Try.prog Try.f6 Rows.topLineRow.domain false) (Rows.topLineSpec.post enc Try.prog Try.f6 false true false false) := by
  refine returnsInHanded_of_change (C := Try.checked) own started (by kernel_rfl) Try.func6
    (ChangeSpec.witness6 (enc := enc) (C := Try.checked) false ⟨#[], #[.agg #[.slice none 0 0, .slice none 0 0], .int .i64 0, .int .i64 0], []⟩ 8 (by kernel_rfl) (by kernel_rfl) (by kernel_rfl) (by kernel_rfl)) ?_
  intro W base args ds gs before hval0 hW hcnd _
  have hval : ∀ (j : Nat) t v, Try.f6.params[j]? = some t → args[j]? = some v → Value.okWide Try.prog W .any base t v := hval0
  have hW' := hW
  obtain ⟨p, q, hA0, hV, rfl, hfz, hnd⟩ := hW
  have hA : DataW.TrodAll enc Try.prog W 0 (fun _ => true) true Try.f6.params.toList args.toList ds p := hA0
  rw [Try.params6] at hA hval
  obtain ⟨v0, vs0, d0, ds0, p0, q0, hargs, rfl, rfl, h0, r0⟩ := trodAll_cons hA
  obtain ⟨v1, vs1, d1, ds1, p1, q1, rfl, rfl, rfl, h1, r1⟩ := trodAll_cons r0
  obtain ⟨v2, vs2, d2, ds2, p2, q2, rfl, rfl, rfl, h2, r2⟩ := trodAll_cons r1
  obtain ⟨rfl, rfl, rfl⟩ := trodAll_nil r2
  obtain rfl : args = #[v0, v1, v2] := by cases args; simp_all
  obtain ⟨rfl, rfl⟩ := trodVars_none hV
  have k0 := h0
  have lt0 : ∀ x ∈ p0, x.block < W.heap.size := by obtain ⟨m, hm⟩ := k0; exact DataW.trod_lt m _ _ _ hm
  obtain ⟨c0, e0, y0, z0, m0, rfl, rfl, rfl, hy0, hz0⟩ := open_agg2 Try.underlying24 (by kernel_rfl) cellsLine (hval 0 24 v0 rfl rfl) h0
  obtain ⟨a, al, ca, rfl, hca, _, la⟩ := open_list hy0
  obtain ⟨z, zl, cz, rfl, hcz, hn, lz⟩ := open_list hz0
  obtain ⟨x, rfl, rfl, rfl, wx⟩ := open_int Try.underlying3 (hval 1 3 v1 rfl rfl) h1
  obtain ⟨y, rfl, rfl, rfl, wy⟩ := open_int Try.underlying3 (hval 2 3 v2 rfl rfl) h2
  clear hA0 hval0
  refine (walk a z ca cz al zl x y W hca hn la lz).mono fun e W' ⟨he, bel⟩ => ?_
  subst he
  exact ⟨_, rfl, _, _, _, [], _, [], hW', trodAll_mk1 (shut_bool Try.underlying4 _), (trodAll_cons_mk (Below.trod laidOut (by kernel_rfl) (of_decide_eq_true (by kernel_rfl)) k0 bel lt0) (trodAll_cons_mk (shut_int Try.underlying3 wx) (trodAll_cons_mk (shut_int Try.underlying3 wy) trodAll_mk0))), rfl, bel.frame _, fun h => by cases h⟩

theorem over : Rows.topLineRow.holds Try.pinned (OpenSpec.ofChange Rows.topLineSpec) :=
  OpenClaim.holds_of_wide 6 Try.f6 rfl rfl rfl rfl rfl rfl rfl ⟨rfl, rfl, rfl, rfl, rfl⟩ rfl rfl rfl rfl rfl (by kernel_rfl) Try.func6 (by kernel_rfl)
    (of_decide_eq_true (by kernel_rfl)) (by unfold Func.isWrapper; first | (rw [if_pos (by decide +kernel)]; kernel_rfl) | (rw [if_neg (by decide +kernel)]; exact ⟨rfl, rfl⟩))
    (fun os started H enc _ => lifted os started H enc)

end Go.Proofs.Ytngedehfaidphaa.topLine

namespace Go.Proofs.Ytngedehfaidphaa
/-- The given statement. -/
theorem topLine_holds : Rows.TopLineSaid := topLine.over
end Go.Proofs.Ytngedehfaidphaa
