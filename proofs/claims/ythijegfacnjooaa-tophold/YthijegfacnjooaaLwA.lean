/-
  Contracts of the functions of packages law and fulmarref on healths and laws: each returns what the plain words say, and nothing that was there has turned.
-/
import Derived.Test.YthijegfacnjooaaActA
namespace Go.Proofs.Ythijegfacnjooaa
open Go.RowKit Plain

/-- May a health be: channels, sound surfaces, of how many? -/
def heB (c s n : Int) : Bool := betw c 0 3 && betw n 1 4 && betw s 0 n
def heE (c s n : Int) : Int := if heB c s n then 0 else 1
theorem heB_true {c s n : Int} (h : heB c s n = true) : (0 ≤ c ∧ c ≤ 3) ∧ (1 ≤ n ∧ n ≤ 4) ∧ 0 ≤ s ∧ s ≤ n := by
  simp only [heB, Bool.and_eq_true] at h
  exact ⟨betw_true h.1.1, betw_true h.1.2, betw_true h.2⟩
theorem heE_zero {c s n : Int} (h : heE c s n = 0) : heB c s n = true := by
  unfold heE at h; split at h
  · assumption
  · omega
/-- The law that an axis asks for. -/
def lawI (c s n : Int) : Int := if s = 0 then 3 else if c < 2 then 2 else if s + 2 ≤ n then 2 else if s < n then 1 else 0
def mxL (a b : Int) : Int := if a < b then b else a

theorem lwrun_max2 (ts : Array TypeId) (t : TypeId) (p q : Int) (w : World) : (Builtin.max_ ts t #[.int .i64 p, .int .i64 q]).run Try.prog w = .ok (.int .i64 (mxL p q)) w := by
  unfold mxL
  by_cases h : p < q
  · rw [if_pos h]; simp [Builtin.max_, Builtin.max2, h]
  · rw [if_neg h]; simp [Builtin.max_, Builtin.max2, h]

theorem isLaw_any (x : Int) (w : World) :
    Calls Try.prog 82 #[.int .i64 x] w fun e w' => e = .returned (.bool (betw x 0 3)) ∧ Below w.heap.size w w' := by
  go_enter Try.func82, Try.ntmps82
  go_wp2_with (go_at_call 69; refine (isFrom_ex _ _ _ _).mono ?_; rintro e w' ⟨rfl, rfl⟩)
  go_ret
  exact ⟨rfl, abelow_alloc _ _⟩

/-- What is wrong of two laws, and the next one. -/
def neE (a b : Int) : Int := if betw a 0 3 && betw b 0 3 then 0 else 1
def neI (a b : Int) (g : Bool) : Int := if betw a 0 3 && betw b 0 3 then (if g then b else mxL a b) else 0

theorem guarded_any (x : Int) (w : World) :
    Calls Try.prog 55 #[.int .i64 x] w fun e w' => e = .returned (.bool (betw x 0 1)) ∧ w' = w := by
  by_cases h0 : x = 0
  · subst h0
    go_enter Try.func55, Try.ntmps55
    go_wp2
    go_ret
    exact ⟨rfl, rfl⟩
  · have h0' : (x == 0) = false := by simpa using h0
    have e : betw x 0 1 = (x == 1) := by
      unfold betw
      by_cases h1 : x = 1
      · subst h1; rfl
      · have h2 : (x == 1) = false := by simpa using h1
        rw [h2]; simp; omega
    rw [e]
    go_enter Try.func55, Try.ntmps55
    go_wp2
    go_ret
    exact ⟨by simp, rfl⟩

end Go.Proofs.Ythijegfacnjooaa
