/-
  Contracts of the small functions of packages vote and fulmarref on rules and samples: each returns what the plain words say, and changes nothing that was there.
-/
import Derived.Test.YtaonbbimnenehaaDoorLineA
import Derived.Deep.RegionHeld3
import Derived.Deep.CutRange
import Derived.Deep.DeepCutAuto
import Derived.BigRegion
namespace Go.Proofs.YtaonbbimnenehaaDoor
open Go.RowKit Plain

theorem hide {p : Prop} (h : p) : Hid p := h
theorem vbelow_alloc (w : World) (o : Obj) : Below w.heap.size w (w.alloc o) := (Below.refl _ _).alloc (Nat.le_refl _) o
theorem vbelow_up {w w1 w2 : World} (h : Below w.heap.size w w1) (k : Below w1.heap.size w1 w2) : Below w.heap.size w w2 := h.trans (k.mono h.size)

/-- May a rule be? -/
def ruleB (m c : Int) : Bool := (decide (0 ≤ m) && decide (m ≤ 1000000)) && (decide (1 ≤ c) && decide (c ≤ 10))
theorem ruleB_true {m c : Int} (h : ruleB m c = true) : (0 ≤ m ∧ m ≤ 1000000) ∧ 1 ≤ c ∧ c ≤ 10 := by simp [ruleB] at h; omega
theorem ruleB_false {m c : Int} (h : ruleB m c = false) : m < 0 ∨ 1000000 < m ∨ c < 1 ∨ 10 < c := by simp [ruleB] at h; omega
def ruleE (m c : Int) : Int := if ruleB m c then 0 else 1

theorem checkRule_any (m c : Int) (w : World) :
    Calls Tryd.prog 20 #[.agg #[.int .i64 m, .int .i64 c]] w fun e w' => e = .returned (errV (ruleE m c)) ∧ Below w.heap.size w w' := by
  unfold ruleE
  by_cases h : ruleB m c = true
  · rw [if_pos h, errV_zero]
    obtain ⟨⟨h1, h2⟩, h3, h4⟩ := ruleB_true h
    clear h
    go_enter Tryd.func20, Tryd.ntmps20
    go_wp2
    go_ret
    exact ⟨rfl, vbelow_alloc _ _⟩
  · rw [if_neg h, errV_ne (by decide)]
    have h' := ruleB_false (by simpa using h)
    clear h
    by_cases g1 : m < 0
    · clear h'
      go_enter Tryd.func20, Tryd.ntmps20
      go_wp2
      go_ret
      exact ⟨rfl, vbelow_alloc _ _⟩
    · by_cases g2 : 1000000 < m
      · clear h'
        go_enter Tryd.func20, Tryd.ntmps20
        go_wp2
        go_ret
        exact ⟨rfl, vbelow_alloc _ _⟩
      · by_cases g3 : c < 1
        · clear h'
          go_enter Tryd.func20, Tryd.ntmps20
          go_wp2
          go_ret
          exact ⟨rfl, vbelow_alloc _ _⟩
        · have g4 : 10 < c := by omega
          clear h'
          go_enter Tryd.func20, Tryd.ntmps20
          go_wp2
          go_ret
          exact ⟨rfl, vbelow_alloc _ _⟩

theorem ruleMay_any (m c : Int) (w : World) :
    Calls Tryd.prog 16 #[.agg #[.int .i64 m, .int .i64 c]] w fun e w' => e = .returned (.int .i64 (ruleE m c)) ∧ Below w.heap.size w w' := by
  have f1 := between_any m 0 1000000
  have f2 := between_any c 1 10
  unfold ruleE ruleB
  generalize (decide (0 ≤ m) && decide (m ≤ 1000000)) = x1 at *
  generalize (decide (1 ≤ c) && decide (c ≤ 10)) = x2 at *
  rcases (show x1 = false ∨ (x1 = true ∧ x2 = false) ∨ (x1 = true ∧ x2 = true) by cases x1 <;> cases x2 <;> simp) with rfl | ⟨rfl, rfl⟩ | ⟨rfl, rfl⟩
  all_goals
    go_enter Tryd.func16, Tryd.ntmps16
    go_wp2_with (first | (go_at_call_of 26 (Value.int .i64 m); refine (f1 _).mono ?_; rintro e w' ⟨rfl, rfl⟩) | (go_at_call_of 26 (Value.int .i64 c); refine (f2 _).mono ?_; rintro e w' ⟨rfl, rfl⟩) | (go_at_call 25; refine (when_any _ _ _).mono ?_; rintro e w' ⟨rfl, rfl⟩))
    go_ret
    exact ⟨rfl, vbelow_alloc _ _⟩

/-- Is a sample there, and no further than m from v? -/
def fineB (t : Bool) (s v m : Int) : Bool := t && (decide (v - m ≤ s) && decide (s ≤ v + m))

/-- How often a channel was bad, behind a frame. -/
def badI (b : Int) (f : Bool) : Int := if f then 0 else if b + 1 ≤ 10 then b + 1 else 10
/-- Is it out then? -/
def outB (b : Int) (f : Bool) (c : Int) : Bool := !f && decide (c ≤ badI b f)

end Go.Proofs.YtaonbbimnenehaaDoor
