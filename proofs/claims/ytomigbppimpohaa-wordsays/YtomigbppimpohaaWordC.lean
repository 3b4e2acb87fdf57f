/-
  The contract of fulmarref.ReadingMay: whether a reading may be.
-/
import Derived.Test.YtomigbppimpohaaWordB
namespace Go.Proofs.Ytomigbppimpohaa
open Go.RowKit Plain

set_option maxHeartbeats 4000000 in
set_option maxRecDepth 100000 in
theorem readingMay_any (a b c d : Int) (w : World) :
    Calls Try.prog 5 #[.agg #[.int .i64 a, .int .i64 b, .int .i64 c, .int .i64 d]] w fun e w' => e = .returned (.int .i64 (if mayR a b c d then 0 else 1)) ∧ Below w.heap.size w w' := by
  have f1 : ∀ w, Calls Try.prog 13 #[.int .i64 a, .int .i64 0, .int .i64 255] w fun e w' => e = .returned (.bool (decide (0 ≤ a) && decide (a < 256))) ∧ w' = w := by
    intro w; have h := between_any a 0 255 w; rwa [show decide (a ≤ 255) = decide (a < 256) from decide_eq_decide.mpr (by omega)] at h
  have f2 : ∀ w, Calls Try.prog 13 #[.int .i64 b, .int .i64 0, .int .i64 3] w fun e w' => e = .returned (.bool (decide (0 ≤ b) && decide (b < 4))) ∧ w' = w := by
    intro w; have h := between_any b 0 3 w; rwa [show decide (b ≤ 3) = decide (b < 4) from decide_eq_decide.mpr (by omega)] at h
  have f3 : ∀ w, Calls Try.prog 13 #[.int .i64 c, .int .i64 0, .int .i64 3] w fun e w' => e = .returned (.bool (decide (0 ≤ c) && decide (c < 4))) ∧ w' = w := by
    intro w; have h := between_any c 0 3 w; rwa [show decide (c ≤ 3) = decide (c < 4) from decide_eq_decide.mpr (by omega)] at h
  have f4 : ∀ w, Calls Try.prog 13 #[.int .i64 d, .int .i64 (-262144), .int .i64 262143] w fun e w' => e = .returned (.bool (decide (-262144 ≤ d) && decide (d < 262144))) ∧ w' = w := by
    intro w; have h := between_any d (-262144) 262143 w; rwa [show decide (d ≤ 262143) = decide (d < 262144) from decide_eq_decide.mpr (by omega)] at h
  unfold mayR
  generalize (decide (0 ≤ a) && decide (a < 256)) = x1 at *
  generalize (decide (0 ≤ b) && decide (b < 4)) = x2 at *
  generalize (decide (0 ≤ c) && decide (c < 4)) = x3 at *
  generalize (decide (-262144 ≤ d) && decide (d < 262144)) = x4 at *
  rcases (show x1 = false ∨ (x1 = true ∧ x2 = false) ∨ (x1 = true ∧ x2 = true ∧ x3 = false) ∨ (x1 = true ∧ x2 = true ∧ x3 = true ∧ x4 = false) ∨ (x1 = true ∧ x2 = true ∧ x3 = true ∧ x4 = true) by cases x1 <;> cases x2 <;> cases x3 <;> cases x4 <;> simp) with rfl | ⟨rfl, rfl⟩ | ⟨rfl, rfl, rfl⟩ | ⟨rfl, rfl, rfl, rfl⟩ | ⟨rfl, rfl, rfl, rfl⟩
  all_goals
    go_enter Try.func5, Try.ntmps5
    go_wp2_with (first | (go_at_call_of 13 (Value.int .i64 a); refine (f1 _).mono ?_; rintro e w' ⟨rfl, rfl⟩) | (go_at_call_of 13 (Value.int .i64 b); refine (f2 _).mono ?_; rintro e w' ⟨rfl, rfl⟩) | (go_at_call_of 13 (Value.int .i64 c); refine (f3 _).mono ?_; rintro e w' ⟨rfl, rfl⟩) | (go_at_call_of 13 (Value.int .i64 d); refine (f4 _).mono ?_; rintro e w' ⟨rfl, rfl⟩) | (go_at_call 14; first | (refine (when_true _ _).mono ?_; rintro e w' ⟨rfl, rfl⟩) | (refine (when_false _ _).mono ?_; rintro e w' ⟨rfl, rfl⟩)))
    go_ret
    exact ⟨rfl, below_alloc _ _⟩

end Go.Proofs.Ytomigbppimpohaa
