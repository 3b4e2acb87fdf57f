/-
  Contracts of the functions of packages act and fulmarref on rules and servos: what is asked of them. Each returns what the plain words say, and changes nothing that was there.
-/
import Derived.Test.YthijegfacnjooaaLineA
import Derived.Deep.RegionHeld3
import Derived.Deep.CutRange
import Derived.Deep.DeepCutAuto
import Derived.BigRegion
namespace Go.Proofs.Ythijegfacnjooaa
open Go.RowKit Plain

theorem ahide {p : Prop} (h : p) : Hid p := h
theorem abelow_alloc (w : World) (o : Obj) : Below w.heap.size w (w.alloc o) := (Below.refl _ _).alloc (Nat.le_refl _) o
theorem abelow_up {w w1 w2 : World} (h : Below w.heap.size w w1) (k : Below w1.heap.size w1 w2) : Below w.heap.size w w2 := h.trans (k.mono h.size)
theorem bcell {W w1 : World} (hb : Below W.heap.size W w1) : (∀ b o, b < W.heap.size → w1.cell? ⟨b, o, none⟩ = W.cell? ⟨b, o, none⟩) ∧ (∀ b o, b < W.heap.size → w1.frozen? ⟨b, o, none⟩ = W.frozen? ⟨b, o, none⟩) :=
  ⟨fun b o h => hb.cell (p := ⟨b, o, none⟩) h, fun b o h => hb.frozen (p := ⟨b, o, none⟩) h⟩

/-- Is x from lo to hi? -/
def betw (x lo hi : Int) : Bool := decide (lo ≤ x) && decide (x ≤ hi)
theorem betw_true {x lo hi : Int} (h : betw x lo hi = true) : lo ≤ x ∧ x ≤ hi := by simp [betw] at h; omega
theorem betw_false {x lo hi : Int} (h : betw x lo hi = false) : x < lo ∨ hi < x := by simp [betw] at h; omega
theorem betw_mk {x lo hi : Int} (h0 : lo ≤ x) (h1 : x ≤ hi) : betw x lo hi = true := by simp [betw]; omega

theorem refBetw_any (x lo hi : Int) (w : World) :
    Calls Try.prog 12 #[.int .i64 x, .int .i64 lo, .int .i64 hi] w fun e w' => e = .returned (.bool (betw x lo hi)) ∧ w' = w := between_any x lo hi w

theorem fixIn_ex (x lo hi : Int) (w : World) :
    Calls Try.prog 81 #[.int .i64 x, .agg #[.int .i64 lo, .int .i64 hi]] w fun e w' => e = .returned (.bool (betw x lo hi)) ∧ w' = w.alloc (.cells #[.int .i64 lo, .int .i64 hi] 93) := by
  unfold betw
  by_cases g1 : lo ≤ x
  · by_cases g2 : x ≤ hi
    · rw [decide_eq_true g1, decide_eq_true g2]
      go_enter Try.func81, Try.ntmps81
      go_wp2
      go_ret
      exact ⟨rfl, rfl⟩
    · rw [decide_eq_true g1, decide_eq_false g2]
      go_enter Try.func81, Try.ntmps81
      go_wp2
      go_ret
      exact ⟨by simp, rfl⟩
  · rw [decide_eq_false g1]
    go_enter Try.func81, Try.ntmps81
    go_wp2
    go_ret
    exact ⟨rfl, rfl⟩

theorem isFrom_ex (x lo hi : Int) (w : World) :
    Calls Try.prog 69 #[.int .i64 x, .int .i64 lo, .int .i64 hi] w fun e w' => e = .returned (.bool (betw x lo hi)) ∧ w' = w.alloc (.cells #[.int .i64 lo, .int .i64 hi] 93) := by
  go_enter Try.func69, Try.ntmps69
  go_wp2_with (go_at_call 81; refine (fixIn_ex _ _ _ _).mono ?_; rintro e w' ⟨rfl, rfl⟩)
  go_ret
  exact ⟨rfl, rfl⟩

/-- May a rule be: how far, how fast, how far off, how often? -/
def arB (T R S C : Int) : Bool := betw T 1 1000 && betw R 1 T && betw S 0 T && betw C 1 10
def arE (T R S C : Int) : Int := if arB T R S C then 0 else 1
theorem arB_true {T R S C : Int} (h : arB T R S C = true) : (1 ≤ T ∧ T ≤ 1000) ∧ (1 ≤ R ∧ R ≤ T) ∧ (0 ≤ S ∧ S ≤ T) ∧ 1 ≤ C ∧ C ≤ 10 := by
  simp only [arB, Bool.and_eq_true] at h
  exact ⟨betw_true h.1.1.1, betw_true h.1.1.2, betw_true h.1.2, betw_true h.2⟩
theorem arE_zero {T R S C : Int} (h : arE T R S C = 0) : arB T R S C = true := by
  unfold arE at h; split at h
  · assumption
  · omega
theorem arE_ne {T R S C : Int} (h : arE T R S C ≠ 0) : arE T R S C = 1 := by unfold arE at *; split <;> simp_all

set_option maxHeartbeats 1000000 in
theorem actRule_any (T R S C : Int) (w : World) :
    Calls Try.prog 68 #[.agg #[.int .i64 T, .int .i64 R, .int .i64 S, .int .i64 C]] w fun e w' => e = .returned (errV (arE T R S C)) ∧ Below w.heap.size w w' := by
  have f1 := isFrom_ex T 1 1000
  have f2 := isFrom_ex R 1 T
  have f3 := isFrom_ex S 0 T
  have f4 := isFrom_ex C 1 10
  unfold arE arB
  generalize betw T 1 1000 = x1 at *
  generalize betw R 1 T = x2 at *
  generalize betw S 0 T = x3 at *
  generalize betw C 1 10 = x4 at *
  rcases (show x1 = false ∨ (x1 = true ∧ x2 = false) ∨ (x1 = true ∧ x2 = true ∧ x3 = false) ∨ (x1 = true ∧ x2 = true ∧ x3 = true ∧ x4 = false) ∨ (x1 = true ∧ x2 = true ∧ x3 = true ∧ x4 = true) by cases x1 <;> cases x2 <;> cases x3 <;> cases x4 <;> simp) with rfl | ⟨rfl, rfl⟩ | ⟨rfl, rfl, rfl⟩ | ⟨rfl, rfl, rfl, rfl⟩ | ⟨rfl, rfl, rfl, rfl⟩
  all_goals
    go_enter Try.func68, Try.ntmps68
    go_wp2_with (first | (go_at_call_of 69 (Value.int .i64 R); refine (f2 _).mono ?_; rintro e w' ⟨rfl, rfl⟩) | (go_at_call_of 69 (Value.int .i64 S); refine (f3 _).mono ?_; rintro e w' ⟨rfl, rfl⟩) | (go_at_call_of 69 (Value.int .i64 C); refine (f4 _).mono ?_; rintro e w' ⟨rfl, rfl⟩) | (go_at_call_of 69 (Value.int .i64 T); refine (f1 _).mono ?_; rintro e w' ⟨rfl, rfl⟩))
    go_ret
    exact ⟨rfl, by repeat (first | exact abelow_alloc _ _ | refine abelow_up ?_ (abelow_alloc _ _))⟩

set_option maxHeartbeats 1000000 in
theorem refActRule_any (T R S C : Int) (w : World) :
    Calls Try.prog 16 #[.agg #[.int .i64 T, .int .i64 R, .int .i64 S, .int .i64 C]] w fun e w' => e = .returned (.int .i64 (arE T R S C)) ∧ Below w.heap.size w w' := by
  have f1 := refBetw_any T 1 1000
  have f2 := refBetw_any R 1 T
  have f3 := refBetw_any S 0 T
  have f4 := refBetw_any C 1 10
  unfold arE arB
  generalize betw T 1 1000 = x1 at *
  generalize betw R 1 T = x2 at *
  generalize betw S 0 T = x3 at *
  generalize betw C 1 10 = x4 at *
  rcases (show x1 = false ∨ (x1 = true ∧ x2 = false) ∨ (x1 = true ∧ x2 = true ∧ x3 = false) ∨ (x1 = true ∧ x2 = true ∧ x3 = true ∧ x4 = false) ∨ (x1 = true ∧ x2 = true ∧ x3 = true ∧ x4 = true) by cases x1 <;> cases x2 <;> cases x3 <;> cases x4 <;> simp) with rfl | ⟨rfl, rfl⟩ | ⟨rfl, rfl, rfl⟩ | ⟨rfl, rfl, rfl, rfl⟩ | ⟨rfl, rfl, rfl, rfl⟩
  all_goals
    go_enter Try.func16, Try.ntmps16
    go_wp2_with (first | (go_at_call_of 12 (Value.int .i64 R); refine (f2 _).mono ?_; rintro e w' ⟨rfl, rfl⟩) | (go_at_call_of 12 (Value.int .i64 S); refine (f3 _).mono ?_; rintro e w' ⟨rfl, rfl⟩) | (go_at_call_of 12 (Value.int .i64 C); refine (f4 _).mono ?_; rintro e w' ⟨rfl, rfl⟩) | (go_at_call_of 12 (Value.int .i64 T); refine (f1 _).mono ?_; rintro e w' ⟨rfl, rfl⟩) | (go_at_call 35; refine (when_any _ _ _).mono ?_; rintro e w' ⟨rfl, rfl⟩))
    go_ret
    exact ⟨rfl, abelow_alloc _ _⟩

end Go.Proofs.Ythijegfacnjooaa
