/-
  Contracts of the functions of packages law and fulmarref on healths and laws: each returns what the plain words say, and nothing that was there has turned.
-/
import Derived.Test.YtaonbbimnenehaaDoorActA
namespace Go.Proofs.YtaonbbimnenehaaDoor
open Go.RowKit Plain

/-- May a health be: channels, sound surfaces, of how many? -/
def heB (c s n : Int) : Bool := betw c 0 3 && betw n 1 4 && betw s 0 n
def heE (c s n : Int) : Int := if heB c s n then 0 else 1
theorem heB_true {c s n : Int} (h : heB c s n = true) : (0 ≤ c ∧ c ≤ 3) ∧ (1 ≤ n ∧ n ≤ 4) ∧ 0 ≤ s ∧ s ≤ n := by
  simp only [heB, Bool.and_eq_true] at h
  exact ⟨betw_true h.1.1, betw_true h.1.2, betw_true h.2⟩
theorem heE_zero {c s n : Int} (h : heE c s n = 0) : heB c s n = true := by
  unfold heE at h; split at h
  · assumption
  · omega
/-- The law that an axis asks for. -/
def lawI (c s n : Int) : Int := if s = 0 then 3 else if c < 2 then 2 else if s + 2 ≤ n then 2 else if s < n then 1 else 0
def mxL (a b : Int) : Int := if a < b then b else a

theorem lwrun_max2 (ts : Array TypeId) (t : TypeId) (p q : Int) (w : World) : (Builtin.max_ ts t #[.int .i64 p, .int .i64 q]).run Tryd.prog w = .ok (.int .i64 (mxL p q)) w := by
  unfold mxL
  by_cases h : p < q
  · rw [if_pos h]; simp [Builtin.max_, Builtin.max2, h]
  · rw [if_neg h]; simp [Builtin.max_, Builtin.max2, h]

/-- What is wrong of two laws, and the next one. -/
def neE (a b : Int) : Int := if betw a 0 3 && betw b 0 3 then 0 else 1
def neI (a b : Int) (g : Bool) : Int := if betw a 0 3 && betw b 0 3 then (if g then b else mxL a b) else 0

end Go.Proofs.YtaonbbimnenehaaDoor
