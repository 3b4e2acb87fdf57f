/-
  The contract of fulmarref.Voted: what is voted, and the bank behind it.
-/
import Derived.Test.YthijegfacnjooaaVoteE
namespace Go.Proofs.Ythijegfacnjooaa
open Go.RowKit Plain

def vmnO (x y : Int) : Int := min x y
def vmxO (x y : Int) : Int := max x y
theorem vrun_min2 (ts : Array TypeId) (t : TypeId) (p q : Int) (w : World) : (Builtin.min_ ts t #[.int .i64 p, .int .i64 q]).run Try.prog w = .ok (.int .i64 (vmnO p q)) w := by
  unfold vmnO; by_cases h : q < p
  · rw [Int.min_eq_right (by omega)]; simp [Builtin.min_, Builtin.min2, h]
  · rw [Int.min_eq_left (by omega)]; simp [Builtin.min_, Builtin.min2, h]
theorem vrun_max2 (ts : Array TypeId) (t : TypeId) (p q : Int) (w : World) : (Builtin.max_ ts t #[.int .i64 p, .int .i64 q]).run Try.prog w = .ok (.int .i64 (vmxO p q)) w := by
  unfold vmxO; by_cases h : p < q
  · rw [Int.max_eq_right (by omega)]; simp [Builtin.max_, Builtin.max2, h]
  · rw [Int.max_eq_left (by omega)]; simp [Builtin.max_, Builtin.max2, h]

/-- The least and the greatest height over what has come. -/
theorem vrun_min (ts : Array TypeId) (t : TypeId) (p q : Int) (w : World) : (Builtin.min_ ts t #[.int .i64 p, .int .i64 q]).run Try.prog w = .ok (.int .i64 (mnI p q)) w := by
  rw [vrun_min2, show vmnO p q = mnI p q by unfold vmnO mnI; split <;> omega]
theorem vrun_max (ts : Array TypeId) (t : TypeId) (p q : Int) (w : World) : (Builtin.max_ ts t #[.int .i64 p, .int .i64 q]).run Try.prog w = .ok (.int .i64 (mxI p q)) w := by
  rw [vrun_max2, show vmxO p q = mxI p q by unfold vmxO mxI; split <;> omega]

theorem badI_no (b : Int) : badI b false = mnI (b + 1) 10 := rfl
theorem outB_no (b c : Int) : outB b false c = decide (c ≤ mnI (b + 1) 10) := by rw [outB, badI_no]; rfl

end Go.Proofs.Ythijegfacnjooaa
