/-
  Contracts of fulmarref.Reached and act.Reach: where a servo can go.
-/
import Derived.Test.YtheihcpacpoliaaActC
namespace Go.Proofs.Ytheihcpacpoliaa
open Go.RowKit Plain

/-- The less and the greater of two. -/
def mnA (x y : Int) : Int := min x y
def mxA (x y : Int) : Int := max x y
theorem run_minA (ts : Array TypeId) (t : TypeId) (p q : Int) (w : World) : (Builtin.min_ ts t #[.int .i64 p, .int .i64 q]).run Try.prog w = .ok (.int .i64 (mnA p q)) w := by
  unfold mnA; by_cases h : q < p
  · rw [Int.min_eq_right (by omega)]; simp [Builtin.min_, Builtin.min2, h]
  · rw [Int.min_eq_left (by omega)]; simp [Builtin.min_, Builtin.min2, h]
theorem run_maxA (ts : Array TypeId) (t : TypeId) (p q : Int) (w : World) : (Builtin.max_ ts t #[.int .i64 p, .int .i64 q]).run Try.prog w = .ok (.int .i64 (mxA p q)) w := by
  unfold mxA; by_cases h : p < q
  · rw [Int.max_eq_right (by omega)]; simp [Builtin.max_, Builtin.max2, h]
  · rw [Int.max_eq_left (by omega)]; simp [Builtin.max_, Builtin.max2, h]

/-- The least and the greatest place that it can reach. -/
def loR (T R i : Int) (o : Bool) : Int := if o then 0 else mxA (i - R) (-T)
def hiR (T R i : Int) (o : Bool) : Int := if o then 0 else mnA (i + R) T

/-- May be written. -/
def FrA (w : World) (B n : Nat) : Prop := (∀ j, j < n → w.frozen? ⟨B, j, none⟩ = false) ∧ B < w.heap.size
theorem FrA.later {w w' : World} {B n : Nat} (h : FrA w B n) (hb : Below w.heap.size w w') : FrA w' B n :=
  ⟨fun j hj => (hb.frozen (p := ⟨B, j, none⟩) h.2).trans (h.1 j hj), Nat.lt_of_lt_of_le h.2 hb.size⟩
theorem FrA.new {w : World} {cs : Array Value} {T : TypeId} {n : Nat} : FrA (w.alloc (.cells cs T)) w.heap.size n :=
  ⟨fun j _ => by simp [go_sem], by simp [go_sem]⟩
theorem FrA.set {w : World} {B n : Nat} {a : Addr} {v : Value} (h : FrA w B n) : FrA (w.setCell a v) B n :=
  ⟨fun j hj => by simpa [go_sem] using h.1 j hj, by simpa [go_sem] using h.2⟩

/-- A rule, a servo and the room for a span lie in three boxes. -/
def RSP (w0 w : World) (T R S C i b : Int) (o : Bool) : Prop := RS w0 w T R S C i b o ∧ B2 w (w0.heap.size + 1 + 1) (.int .i64 0) (.int .i64 0) ∧ FrA w (w0.heap.size + 1 + 1) 2
theorem RSP.later {w0 w w' : World} {T R S C i b : Int} {o : Bool} (h : RSP w0 w T R S C i b o) (hb : Below w.heap.size w w') : RSP w0 w' T R S C i b o := ⟨h.1.later hb, h.2.1.later hb, h.2.2.later hb⟩
end Go.Proofs.Ytheihcpacpoliaa
