/-
  Contracts of the functions of packages act and fulmarref on rules and servos: what is asked of them. Each returns what the plain words say, and changes nothing that was there.
-/
import Derived.Test.YtheihcpacpoliaaLineA
import Derived.Deep.RegionHeld3
import Derived.Deep.CutRange
import Derived.Deep.DeepCutAuto
import Derived.BigRegion
namespace Go.Proofs.Ytheihcpacpoliaa
open Go.RowKit Plain

theorem ahide {p : Prop} (h : p) : Hid p := h
theorem abelow_alloc (w : World) (o : Obj) : Below w.heap.size w (w.alloc o) := (Below.refl _ _).alloc (Nat.le_refl _) o
theorem abelow_up {w w1 w2 : World} (h : Below w.heap.size w w1) (k : Below w1.heap.size w1 w2) : Below w.heap.size w w2 := h.trans (k.mono h.size)
theorem bcell {W w1 : World} (hb : Below W.heap.size W w1) : (∀ b o, b < W.heap.size → w1.cell? ⟨b, o, none⟩ = W.cell? ⟨b, o, none⟩) ∧ (∀ b o, b < W.heap.size → w1.frozen? ⟨b, o, none⟩ = W.frozen? ⟨b, o, none⟩) :=
  ⟨fun b o h => hb.cell (p := ⟨b, o, none⟩) h, fun b o h => hb.frozen (p := ⟨b, o, none⟩) h⟩

/-- Is x from lo to hi? -/
def betw (x lo hi : Int) : Bool := decide (lo ≤ x) && decide (x ≤ hi)
theorem betw_true {x lo hi : Int} (h : betw x lo hi = true) : lo ≤ x ∧ x ≤ hi := by simp [betw] at h; omega
theorem betw_false {x lo hi : Int} (h : betw x lo hi = false) : x < lo ∨ hi < x := by simp [betw] at h; omega
theorem betw_mk {x lo hi : Int} (h0 : lo ≤ x) (h1 : x ≤ hi) : betw x lo hi = true := by simp [betw]; omega

theorem refBetw_any (x lo hi : Int) (w : World) :
    Calls Try.prog 52 #[.int .i64 x, .int .i64 lo, .int .i64 hi] w fun e w' => e = .returned (.bool (betw x lo hi)) ∧ w' = w := between_any x lo hi w

theorem fixIn_ex (x lo hi : Int) (w : World) :
    Calls Try.prog 72 #[.int .i64 x, .agg #[.int .i64 lo, .int .i64 hi]] w fun e w' => e = .returned (.bool (betw x lo hi)) ∧ w' = w.alloc (.cells #[.int .i64 lo, .int .i64 hi] 41) := by
  unfold betw
  by_cases g1 : lo ≤ x
  · by_cases g2 : x ≤ hi
    · rw [decide_eq_true g1, decide_eq_true g2]
      go_enter Try.func72, Try.ntmps72
      go_wp2
      go_ret
      exact ⟨rfl, rfl⟩
    · rw [decide_eq_true g1, decide_eq_false g2]
      go_enter Try.func72, Try.ntmps72
      go_wp2
      go_ret
      exact ⟨by simp, rfl⟩
  · rw [decide_eq_false g1]
    go_enter Try.func72, Try.ntmps72
    go_wp2
    go_ret
    exact ⟨rfl, rfl⟩

theorem isFrom_ex (x lo hi : Int) (w : World) :
    Calls Try.prog 62 #[.int .i64 x, .int .i64 lo, .int .i64 hi] w fun e w' => e = .returned (.bool (betw x lo hi)) ∧ w' = w.alloc (.cells #[.int .i64 lo, .int .i64 hi] 41) := by
  go_enter Try.func62, Try.ntmps62
  go_wp2_with (go_at_call 72; refine (fixIn_ex _ _ _ _).mono ?_; rintro e w' ⟨rfl, rfl⟩)
  go_ret
  exact ⟨rfl, rfl⟩

/-- May a rule be: how far, how fast, how far off, how often? -/
def arB (T R S C : Int) : Bool := betw T 1 1000 && betw R 1 T && betw S 0 T && betw C 1 10
def arE (T R S C : Int) : Int := if arB T R S C then 0 else 1
theorem arB_true {T R S C : Int} (h : arB T R S C = true) : (1 ≤ T ∧ T ≤ 1000) ∧ (1 ≤ R ∧ R ≤ T) ∧ (0 ≤ S ∧ S ≤ T) ∧ 1 ≤ C ∧ C ≤ 10 := by
  simp only [arB, Bool.and_eq_true] at h
  exact ⟨betw_true h.1.1.1, betw_true h.1.1.2, betw_true h.1.2, betw_true h.2⟩
theorem arE_zero {T R S C : Int} (h : arE T R S C = 0) : arB T R S C = true := by
  unfold arE at h; split at h
  · assumption
  · omega
theorem arE_ne {T R S C : Int} (h : arE T R S C ≠ 0) : arE T R S C = 1 := by unfold arE at *; split <;> simp_all

end Go.Proofs.Ytheihcpacpoliaa
