/-
  Contracts of the functions of packages law and fulmarref on healths and laws: each returns what the plain words say, and nothing that was there has turned.
-/
import Derived.Test.YtdelhnbaomclcaaActA
namespace Go.Proofs.Ytdelhnbaomclcaa
open Go.RowKit Plain

/-- May a health be: channels, sound surfaces, of how many? -/
def heB (c s n : Int) : Bool := betw c 0 3 && betw n 1 4 && betw s 0 n
def heE (c s n : Int) : Int := if heB c s n then 0 else 1
theorem heB_true {c s n : Int} (h : heB c s n = true) : (0 ≤ c ∧ c ≤ 3) ∧ (1 ≤ n ∧ n ≤ 4) ∧ 0 ≤ s ∧ s ≤ n := by
  simp only [heB, Bool.and_eq_true] at h
  exact ⟨betw_true h.1.1, betw_true h.1.2, betw_true h.2⟩
theorem heE_zero {c s n : Int} (h : heE c s n = 0) : heB c s n = true := by
  unfold heE at h; split at h
  · assumption
  · omega
/-- The law that an axis asks for. -/
def lawI (c s n : Int) : Int := if s = 0 then 3 else if c < 2 then 2 else if s + 2 ≤ n then 2 else if s < n then 1 else 0
def mxL (a b : Int) : Int := if a < b then b else a

theorem lwrun_max2 (ts : Array TypeId) (t : TypeId) (p q : Int) (w : World) : (Builtin.max_ ts t #[.int .i64 p, .int .i64 q]).run Try.prog w = .ok (.int .i64 (mxL p q)) w := by
  unfold mxL
  by_cases h : p < q
  · rw [if_pos h]; simp [Builtin.max_, Builtin.max2, h]
  · rw [if_neg h]; simp [Builtin.max_, Builtin.max2, h]

set_option maxHeartbeats 1000000 in
theorem lawCheck_any (c s n : Int) (w : World) :
    Calls Try.prog 17 #[.agg #[.int .i64 c, .int .i64 s, .int .i64 n]] w fun e w' => e = .returned (errV (heE c s n)) ∧ Below w.heap.size w w' := by
  have f1 := isFrom_ex c 0 3
  have f2 := isFrom_ex n 1 4
  have f3 := isFrom_ex s 0 n
  unfold heE heB
  generalize betw c 0 3 = x1 at *
  generalize betw n 1 4 = x2 at *
  generalize betw s 0 n = x3 at *
  rcases (show x1 = false ∨ (x1 = true ∧ x2 = false) ∨ (x1 = true ∧ x2 = true ∧ x3 = false) ∨ (x1 = true ∧ x2 = true ∧ x3 = true) by cases x1 <;> cases x2 <;> cases x3 <;> simp) with rfl | ⟨rfl, rfl⟩ | ⟨rfl, rfl, rfl⟩ | ⟨rfl, rfl, rfl⟩
  all_goals
    go_enter Try.func17, Try.ntmps17
    go_wp2_with (first | (go_at_call_of 43 (Value.int .i64 s); refine (f3 _).mono ?_; rintro e w' ⟨rfl, rfl⟩) | (go_at_call_of 43 (Value.int .i64 n); refine (f2 _).mono ?_; rintro e w' ⟨rfl, rfl⟩) | (go_at_call_of 43 (Value.int .i64 c); refine (f1 _).mono ?_; rintro e w' ⟨rfl, rfl⟩))
    go_ret
    exact ⟨rfl, by repeat (first | exact abelow_alloc _ _ | refine abelow_up ?_ (abelow_alloc _ _))⟩

set_option maxHeartbeats 1000000 in
theorem healthMay_any (c s n : Int) (w : World) :
    Calls Try.prog 16 #[.agg #[.int .i64 c, .int .i64 s, .int .i64 n]] w fun e w' => e = .returned (.int .i64 (heE c s n)) ∧ Below w.heap.size w w' := by
  have f1 := refBetw_any c 0 3
  have f2 := refBetw_any n 1 4
  have f3 := refBetw_any s 0 n
  unfold heE heB
  generalize betw c 0 3 = x1 at *
  generalize betw n 1 4 = x2 at *
  generalize betw s 0 n = x3 at *
  rcases (show x1 = false ∨ (x1 = true ∧ x2 = false) ∨ (x1 = true ∧ x2 = true ∧ x3 = false) ∨ (x1 = true ∧ x2 = true ∧ x3 = true) by cases x1 <;> cases x2 <;> cases x3 <;> simp) with rfl | ⟨rfl, rfl⟩ | ⟨rfl, rfl, rfl⟩ | ⟨rfl, rfl, rfl⟩
  all_goals
    go_enter Try.func16, Try.ntmps16
    go_wp2_with (first | (go_at_call_of 20 (Value.int .i64 s); refine (f3 _).mono ?_; rintro e w' ⟨rfl, rfl⟩) | (go_at_call_of 20 (Value.int .i64 n); refine (f2 _).mono ?_; rintro e w' ⟨rfl, rfl⟩) | (go_at_call_of 20 (Value.int .i64 c); refine (f1 _).mono ?_; rintro e w' ⟨rfl, rfl⟩) | (go_at_call 8; refine (when_any _ _ _).mono ?_; rintro e w' ⟨rfl, rfl⟩))
    go_ret
    exact ⟨rfl, abelow_alloc _ _⟩

theorem worse_any (a b : Int) (w : World) :
    Calls Try.prog 44 #[.int .i64 a, .int .i64 b] w fun e w' => e = .returned (.int .i64 (mxL a b)) ∧ w' = w := by
  have hx := fun ts t p q w => lwrun_max2 ts t p q w
  go_enter Try.func44, Try.ntmps44
  go_wp2
  go_ret
  exact ⟨rfl, rfl⟩

set_option maxHeartbeats 1000000 in
theorem asked_any (c s n : Int) (h : heB c s n = true) (w : World) :
    Calls Try.prog 45 #[.agg #[.int .i64 c, .int .i64 s, .int .i64 n]] w fun e w' => e = .returned (.int .i64 (lawI c s n)) ∧ Below w.heap.size w w' := by
  obtain ⟨⟨c0, c1⟩, ⟨n0, n1⟩, s0, s1⟩ := heB_true h
  unfold lawI
  by_cases h1 : s = 0
  · rw [if_pos h1]
    subst h1
    clear h
    go_enter Try.func45, Try.ntmps45
    go_wp2
    go_ret
    exact ⟨rfl, abelow_alloc _ _⟩
  · rw [if_neg h1]
    have h1' : (s == 0) = false := by simpa using h1
    by_cases h2 : c < 2
    · rw [if_pos h2]
      clear h
      go_enter Try.func45, Try.ntmps45
      go_wp2
      go_ret
      exact ⟨rfl, abelow_alloc _ _⟩
    · rw [if_neg h2]
      by_cases h3 : s + 2 ≤ n
      · rw [if_pos h3]
        clear h
        have h4 : 1 < n - s := by omega
        go_enter Try.func45, Try.ntmps45
        go_wp2
        go_ret
        exact ⟨rfl, abelow_alloc _ _⟩
      · rw [if_neg h3]
        have h4 : ¬ 1 < n - s := by omega
        by_cases h5 : s < n
        · rw [if_pos h5]
          clear h
          have h6 : (n - s == 1) = true := by simp; omega
          go_enter Try.func45, Try.ntmps45
          go_wp2
          go_ret
          exact ⟨rfl, abelow_alloc _ _⟩
        · rw [if_neg h5]
          clear h
          have h6 : (n - s == 1) = false := by simp; omega
          go_enter Try.func45, Try.ntmps45
          go_wp2
          go_ret
          exact ⟨rfl, abelow_alloc _ _⟩

set_option maxHeartbeats 1000000 in
theorem lawOf_any (c s n : Int) (h : heB c s n = true) (w : World) :
    Calls Try.prog 18 #[.agg #[.int .i64 c, .int .i64 s, .int .i64 n]] w fun e w' => e = .returned (.int .i64 (lawI c s n)) ∧ Below w.heap.size w w' := by
  obtain ⟨⟨c0, c1⟩, ⟨n0, n1⟩, s0, s1⟩ := heB_true h
  unfold lawI
  by_cases h1 : s = 0
  · rw [if_pos h1]
    subst h1
    clear h
    go_enter Try.func18, Try.ntmps18
    go_wp2
    go_ret
    exact ⟨rfl, abelow_alloc _ _⟩
  · rw [if_neg h1]
    have h1' : (s == 0) = false := by simpa using h1
    by_cases h2 : c < 2
    · rw [if_pos h2]
      clear h
      go_enter Try.func18, Try.ntmps18
      go_wp2
      go_ret
      exact ⟨rfl, abelow_alloc _ _⟩
    · rw [if_neg h2]
      by_cases h3 : s + 2 ≤ n
      · rw [if_pos h3]
        clear h
        go_enter Try.func18, Try.ntmps18
        go_wp2
        go_ret
        exact ⟨rfl, abelow_alloc _ _⟩
      · rw [if_neg h3]
        by_cases h5 : s < n
        · rw [if_pos h5]
          clear h
          go_enter Try.func18, Try.ntmps18
          go_wp2
          go_ret
          exact ⟨rfl, abelow_alloc _ _⟩
        · rw [if_neg h5]
          clear h
          go_enter Try.func18, Try.ntmps18
          go_wp2
          go_ret
          exact ⟨rfl, abelow_alloc _ _⟩

theorem isLaw_any (x : Int) (w : World) :
    Calls Try.prog 46 #[.int .i64 x] w fun e w' => e = .returned (.bool (betw x 0 3)) ∧ Below w.heap.size w w' := by
  go_enter Try.func46, Try.ntmps46
  go_wp2_with (go_at_call 43; refine (isFrom_ex _ _ _ _).mono ?_; rintro e w' ⟨rfl, rfl⟩)
  go_ret
  exact ⟨rfl, abelow_alloc _ _⟩

/-- What is wrong of two laws, and the next one. -/
def neE (a b : Int) : Int := if betw a 0 3 && betw b 0 3 then 0 else 1
def neI (a b : Int) (g : Bool) : Int := if betw a 0 3 && betw b 0 3 then (if g then b else mxL a b) else 0

set_option maxHeartbeats 1000000 in
theorem next_any (a b : Int) (g : Bool) (w : World) :
    Calls Try.prog 21 #[.int .i64 a, .int .i64 b, .bool g] w fun e w' => e = .returned (.tuple #[.int .i64 (neI a b g), errV (neE a b)]) ∧ Below w.heap.size w w' := by
  have f1 := isLaw_any a
  have f2 := isLaw_any b
  have f3 := worse_any a b
  unfold neE neI
  generalize betw a 0 3 = x1 at *
  generalize betw b 0 3 = x2 at *
  generalize mxL a b = m at *
  cases x1
  · simp only [Bool.false_and, Bool.false_eq_true, if_false]
    go_enter Try.func21, Try.ntmps21
    go_wp2_with (go_at_call 46; refine (f1 _).mono ?_; rintro e w1 ⟨rfl, hb1⟩)
    go_ret2
    exact ⟨rfl, hb1⟩
  · cases x2
    · simp only [Bool.and_false, Bool.false_eq_true, if_false]
      go_enter Try.func21, Try.ntmps21
      go_wp2_with (first | (go_at_call_of 46 (Value.int .i64 b); refine (f2 _).mono ?_; rintro e w2 ⟨rfl, hb2⟩) | (go_at_call_of 46 (Value.int .i64 a); refine (f1 _).mono ?_; rintro e w1 ⟨rfl, hb1⟩))
      go_ret2
      exact ⟨rfl, abelow_up hb1 hb2⟩
    · simp only [Bool.and_self, if_true]
      cases g
      · simp only [Bool.false_eq_true, if_false]
        go_enter Try.func21, Try.ntmps21
        go_wp2_with (first | (go_at_call_of 46 (Value.int .i64 b); refine (f2 _).mono ?_; rintro e w2 ⟨rfl, hb2⟩) | (go_at_call_of 46 (Value.int .i64 a); refine (f1 _).mono ?_; rintro e w1 ⟨rfl, hb1⟩) | (go_at_call 44; refine (f3 _).mono ?_; rintro e w' ⟨rfl, rfl⟩))
        go_ret2
        exact ⟨rfl, abelow_up hb1 hb2⟩
      · simp only [if_true]
        go_enter Try.func21, Try.ntmps21
        go_wp2_with (first | (go_at_call_of 46 (Value.int .i64 b); refine (f2 _).mono ?_; rintro e w2 ⟨rfl, hb2⟩) | (go_at_call_of 46 (Value.int .i64 a); refine (f1 _).mono ?_; rintro e w1 ⟨rfl, hb1⟩))
        go_ret2
        exact ⟨rfl, abelow_up hb1 hb2⟩

theorem guarded_any (x : Int) (w : World) :
    Calls Try.prog 22 #[.int .i64 x] w fun e w' => e = .returned (.bool (betw x 0 1)) ∧ w' = w := by
  by_cases h0 : x = 0
  · subst h0
    go_enter Try.func22, Try.ntmps22
    go_wp2
    go_ret
    exact ⟨rfl, rfl⟩
  · have h0' : (x == 0) = false := by simpa using h0
    have e : betw x 0 1 = (x == 1) := by
      unfold betw
      by_cases h1 : x = 1
      · subst h1; rfl
      · have h2 : (x == 1) = false := by simpa using h1
        rw [h2]; simp; omega
    rw [e]
    go_enter Try.func22, Try.ntmps22
    go_wp2
    go_ret
    exact ⟨by simp, rfl⟩

end Go.Proofs.Ytdelhnbaomclcaa
