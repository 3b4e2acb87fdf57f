/-
  A rule, a servo and a sample that came in, as the walks take them.
-/
import Derived.Test.YthijegfacnjooaaActA
import Derived.WalkKit
import Derived.ProofKit
import Derived.OpenShut
import Derived.ChangeOld
import Derived.Below
import Derived.Lib.SmallJoins
namespace Go.Proofs.Ythijegfacnjooaa
open Go.ChangeShapes Go.WideShapes Go.ChangeAt Go.RowKit Go.Joins Go.Deep
set_option linter.unusedVariables false

theorem cellsARule : Try.prog.cellsOf 48 = 4 := by kernel_rfl
theorem cellsServo : Try.prog.cellsOf 53 = 3 := by kernel_rfl
theorem cellsASample : Try.prog.cellsOf 36 = 2 := by kernel_rfl

set_option maxRecDepth 100000 in
theorem open_arule {H : Type} {enc : TypeId × Value → H} {w : World} {base : Nat} {sp : Nat → Bool} {held : Bool} {r : Reach} {b0 : Nat} {v : Value} {d : DataW H} {p : List MemPlace} (hv : Value.okWide Try.prog w r b0 48 v) (h : DataW.Trod enc Try.prog w base sp held 48 v d p) :
    ∃ (T R S C : Int), v = .agg #[.int .i64 T, .int .i64 R, .int .i64 S, .int .i64 C] := by
  obtain ⟨m0, m1, m2, m3, y0, y1, y2, y3, n, rfl, rfl, rfl, t0, t1, t2, t3⟩ := open_agg4 Try.underlying48 (by kernel_rfl) cellsARule hv h
  obtain ⟨a, f0, _, _⟩ := DataW.trod_int Try.underlying3 t0
  obtain ⟨b, f1, _, _⟩ := DataW.trod_int Try.underlying3 t1
  obtain ⟨c, f2, _, _⟩ := DataW.trod_int Try.underlying3 t2
  obtain ⟨e, f3, _, _⟩ := DataW.trod_int Try.underlying3 t3
  simp at f0 f1 f2 f3
  subst f0 f1 f2 f3
  exact ⟨a, b, c, e, rfl⟩
set_option maxRecDepth 100000 in
theorem open_servo {H : Type} {enc : TypeId × Value → H} {w : World} {base : Nat} {sp : Nat → Bool} {held : Bool} {r : Reach} {b0 : Nat} {v : Value} {d : DataW H} {p : List MemPlace} (hv : Value.okWide Try.prog w r b0 53 v) (h : DataW.Trod enc Try.prog w base sp held 53 v d p) :
    ∃ (i b : Int) (o : Bool), v = .agg #[.int .i64 i, .int .i64 b, .bool o] := by
  obtain ⟨m0, m1, m2, y0, y1, y2, n, rfl, rfl, rfl, t0, t1, t2⟩ := open_agg3 Try.underlying53 (by kernel_rfl) cellsServo hv h
  obtain ⟨a, f0, _, _⟩ := DataW.trod_int Try.underlying3 t0
  obtain ⟨b, f1, _, _⟩ := DataW.trod_int Try.underlying3 t1
  obtain ⟨c, f2, _, _⟩ := DataW.trod_bool Try.underlying4 t2
  simp at f0 f1 f2
  subst f0 f1 f2
  exact ⟨a, b, c, rfl⟩
set_option maxRecDepth 100000 in
theorem open_sample {H : Type} {enc : TypeId × Value → H} {w : World} {base : Nat} {sp : Nat → Bool} {held : Bool} {r : Reach} {b0 : Nat} {v : Value} {d : DataW H} {p : List MemPlace} (hv : Value.okWide Try.prog w r b0 36 v) (h : DataW.Trod enc Try.prog w base sp held 36 v d p) :
    ∃ (y : Bool) (z : Int), v = .agg #[.bool y, .int .i64 z] := by
  obtain ⟨c0, e0, y0, z0, m0, rfl, rfl, rfl, hy0, hz0⟩ := open_agg2 Try.underlying36 (by kernel_rfl) cellsASample hv h
  obtain ⟨a, f0, _, _⟩ := DataW.trod_bool Try.underlying4 hy0
  obtain ⟨b, g0, _, _⟩ := DataW.trod_int Try.underlying3 hz0
  simp at f0 g0
  subst f0 g0
  exact ⟨a, b, rfl⟩

end Go.Proofs.Ythijegfacnjooaa
