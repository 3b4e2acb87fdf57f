/-
  Contracts of the small functions of packages vote and fulmarref on rules and samples: each returns what the plain words say, and changes nothing that was there.
-/
import Derived.Test.YthijegfacnjooaaLineA
import Derived.Deep.RegionHeld3
import Derived.Deep.CutRange
import Derived.Deep.DeepCutAuto
import Derived.BigRegion
namespace Go.Proofs.Ythijegfacnjooaa
open Go.RowKit Plain

theorem hide {p : Prop} (h : p) : Hid p := h
theorem vbelow_alloc (w : World) (o : Obj) : Below w.heap.size w (w.alloc o) := (Below.refl _ _).alloc (Nat.le_refl _) o
theorem vbelow_up {w w1 w2 : World} (h : Below w.heap.size w w1) (k : Below w1.heap.size w1 w2) : Below w.heap.size w w2 := h.trans (k.mono h.size)

/-- May a rule be? -/
def ruleB (m c : Int) : Bool := (decide (0 ≤ m) && decide (m ≤ 1000000)) && (decide (1 ≤ c) && decide (c ≤ 10))
theorem ruleB_true {m c : Int} (h : ruleB m c = true) : (0 ≤ m ∧ m ≤ 1000000) ∧ 1 ≤ c ∧ c ≤ 10 := by simp [ruleB] at h; omega
theorem ruleB_false {m c : Int} (h : ruleB m c = false) : m < 0 ∨ 1000000 < m ∨ c < 1 ∨ 10 < c := by simp [ruleB] at h; omega
def ruleE (m c : Int) : Int := if ruleB m c then 0 else 1

theorem checkRule_any (m c : Int) (w : World) :
    Calls Try.prog 64 #[.agg #[.int .i64 m, .int .i64 c]] w fun e w' => e = .returned (errV (ruleE m c)) ∧ Below w.heap.size w w' := by
  unfold ruleE
  by_cases h : ruleB m c = true
  · rw [if_pos h, errV_zero]
    obtain ⟨⟨h1, h2⟩, h3, h4⟩ := ruleB_true h
    clear h
    go_enter Try.func64, Try.ntmps64
    go_wp2
    go_ret
    exact ⟨rfl, vbelow_alloc _ _⟩
  · rw [if_neg h, errV_ne (by decide)]
    have h' := ruleB_false (by simpa using h)
    clear h
    by_cases g1 : m < 0
    · clear h'
      go_enter Try.func64, Try.ntmps64
      go_wp2
      go_ret
      exact ⟨rfl, vbelow_alloc _ _⟩
    · by_cases g2 : 1000000 < m
      · clear h'
        go_enter Try.func64, Try.ntmps64
        go_wp2
        go_ret
        exact ⟨rfl, vbelow_alloc _ _⟩
      · by_cases g3 : c < 1
        · clear h'
          go_enter Try.func64, Try.ntmps64
          go_wp2
          go_ret
          exact ⟨rfl, vbelow_alloc _ _⟩
        · have g4 : 10 < c := by omega
          clear h'
          go_enter Try.func64, Try.ntmps64
          go_wp2
          go_ret
          exact ⟨rfl, vbelow_alloc _ _⟩

theorem ruleMay_any (m c : Int) (w : World) :
    Calls Try.prog 11 #[.agg #[.int .i64 m, .int .i64 c]] w fun e w' => e = .returned (.int .i64 (ruleE m c)) ∧ Below w.heap.size w w' := by
  have f1 := between_any m 0 1000000
  have f2 := between_any c 1 10
  unfold ruleE ruleB
  generalize (decide (0 ≤ m) && decide (m ≤ 1000000)) = x1 at *
  generalize (decide (1 ≤ c) && decide (c ≤ 10)) = x2 at *
  rcases (show x1 = false ∨ (x1 = true ∧ x2 = false) ∨ (x1 = true ∧ x2 = true) by cases x1 <;> cases x2 <;> simp) with rfl | ⟨rfl, rfl⟩ | ⟨rfl, rfl⟩
  all_goals
    go_enter Try.func11, Try.ntmps11
    go_wp2_with (first | (go_at_call_of 12 (Value.int .i64 m); refine (f1 _).mono ?_; rintro e w' ⟨rfl, rfl⟩) | (go_at_call_of 12 (Value.int .i64 c); refine (f2 _).mono ?_; rintro e w' ⟨rfl, rfl⟩) | (go_at_call 35; refine (when_any _ _ _).mono ?_; rintro e w' ⟨rfl, rfl⟩))
    go_ret
    exact ⟨rfl, vbelow_alloc _ _⟩

theorem beyond_any (x : Int) (w : World) :
    Calls Try.prog 66 #[.int .i64 x] w fun e w' => e = .returned (.bool (!within x)) ∧ w' = w := by
  by_cases g1 : 1000000 < x
  · have e : within x = false := by simp [within]; omega
    rw [e]
    go_enter Try.func66, Try.ntmps66
    go_wp2
    go_ret
    exact ⟨rfl, rfl⟩
  · by_cases g2 : x < -1000000
    · have e : within x = false := by simp [within]; omega
      rw [e]
      go_enter Try.func66, Try.ntmps66
      go_wp2
      go_ret
      exact ⟨by simp, rfl⟩
    · have e : within x = true := by simp [within]; omega
      rw [e]
      go_enter Try.func66, Try.ntmps66
      go_wp2
      go_ret
      exact ⟨by simp, rfl⟩

/-- Is a sample there, and no further than m from v? -/
def fineB (t : Bool) (s v m : Int) : Bool := t && (decide (v - m ≤ s) && decide (s ≤ v + m))

theorem isFine_any (t : Bool) (s v m : Int) (hv0 : -2000000 ≤ v) (hv1 : v ≤ 2000000) (hm0 : 0 ≤ m) (hm1 : m ≤ 1000000) (w : World) :
    Calls Try.prog 40 #[.agg #[.bool t, .int .i64 s], .int .i64 v, .int .i64 m] w fun e w' => e = .returned (.bool (fineB t s v m)) ∧ Below w.heap.size w w' := by
  unfold fineB
  cases t
  · go_enter Try.func40, Try.ntmps40
    go_wp2
    go_ret
    exact ⟨rfl, vbelow_alloc _ _⟩
  · by_cases g1 : v - m ≤ s
    · by_cases g2 : s ≤ v + m
      · rw [decide_eq_true g1, decide_eq_true g2]
        go_enter Try.func40, Try.ntmps40
        go_wp2
        go_ret
        exact ⟨by simp, vbelow_alloc _ _⟩
      · rw [decide_eq_true g1, decide_eq_false g2]
        go_enter Try.func40, Try.ntmps40
        go_wp2
        go_ret
        exact ⟨by simp, vbelow_alloc _ _⟩
    · rw [decide_eq_false g1]
      go_enter Try.func40, Try.ntmps40
      go_wp2
      go_ret
      exact ⟨by simp, vbelow_alloc _ _⟩

/-- How often a channel was bad, behind a frame. -/
def badI (b : Int) (f : Bool) : Int := if f then 0 else if b + 1 ≤ 10 then b + 1 else 10
/-- Is it out then? -/
def outB (b : Int) (f : Bool) (c : Int) : Bool := !f && decide (c ≤ badI b f)

theorem judge_any (b c : Int) (f : Bool) (h0 : 0 ≤ b) (h1 : b ≤ 10) (w : World) :
    Calls Try.prog 39 #[.int .i64 b, .bool f, .int .i64 c] w fun e w' => e = .returned (.tuple #[.int .i64 (badI b f), .bool (outB b f c)]) ∧ w' = w := by
  unfold outB badI
  cases f
  · by_cases g1 : b + 1 ≤ 10
    · rw [if_neg (by simp), if_pos g1]
      go_enter Try.func39, Try.ntmps39
      go_wp2
      go_ret2
      exact ⟨by first | (simp; done) | (simp; omega), rfl⟩
    · rw [if_neg (by simp), if_neg g1]
      go_enter Try.func39, Try.ntmps39
      go_wp2
      go_ret2
      exact ⟨by first | (simp; done) | (simp; omega), rfl⟩
  · go_enter Try.func39, Try.ntmps39
    go_wp2
    go_ret2
    exact ⟨rfl, rfl⟩

end Go.Proofs.Ythijegfacnjooaa
