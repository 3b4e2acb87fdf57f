/-
  The law FixRoot walked: what fix.Root answers is the greatest whole number whose square isn't above 256 times the number.
-/
import Derived.Test.YtmdpoeelddchcaaWalksC
namespace Go.Proofs.Ytmdpoeelddchcaa
open Go.RowKit Plain

/-- The powers of two, and their halves. -/
def pw (j : Nat) : Int := 2 ^ j
def hf (j : Nat) : Int := pw j / 2
theorem pw_succ (j : Nat) : pw (j + 1) = 2 * pw j := by unfold pw; rw [Int.pow_succ]; omega
theorem pw_pos (j : Nat) : 1 ≤ pw j := by
  induction j with
  | zero => decide
  | succ j ih => rw [pw_succ]; omega
theorem pw_le {i j : Nat} (h : i ≤ j) : pw i ≤ pw j := by
  induction j with
  | zero => have : i = 0 := by omega
            subst this; exact Int.le_refl _
  | succ j ih =>
    have := pw_pos j
    by_cases e : i = j + 1
    · subst e; exact Int.le_refl _
    · have := ih (by omega); rw [pw_succ]; omega
theorem hf_succ (j : Nat) : hf (j + 1) = pw j := by unfold hf; rw [pw_succ]; omega
theorem hf_half (j : Nat) : pw j / 2 = hf j := rfl
theorem sq_bd {x : Int} (h0 : 0 ≤ x) (h1 : x ≤ 1048576) : 0 ≤ x * x ∧ x * x ≤ 1099511627776 := by
  constructor
  · exact Int.mul_nonneg h0 h0
  · have a := Int.mul_le_mul_of_nonneg_right h1 h0
    have b : 1048576 * x ≤ 1048576 * 1048576 := by omega
    omega

theorem root_start (n : Int) (h0 : 0 ≤ n) (h1 : n ≤ 1099511627775) : (0 : Int) * 0 ≤ n ∧ n < (0 + pw 20) * (0 + pw 20) := by
  have : (0 + pw 20) * (0 + pw 20) = 1099511627776 := by decide
  omega

theorem wholeRoot_any (n : Int) (h0 : 0 ≤ n) (h1 : n ≤ 1099511627775) (w : World) :
    Calls Try.prog 33 #[.int .i64 n] w fun e w' => (∃ r : Int, e = .returned (.int .i64 r) ∧ 0 ≤ r ∧ r ≤ 1048575 ∧ r * r ≤ n ∧ n < (r + 1) * (r + 1)) ∧ w' = w := by
  go_enter Try.func33, Try.ntmps33
  go_wp2
  go_loop [3, 4] (fun root bit => ∃ (j : Nat) (r : Int), bit = .int .i64 (hf j) ∧ root = .int .i64 r ∧ 0 ≤ r ∧ r + pw j ≤ 1048576 ∧ Hid (r * r ≤ n ∧ n < (r + pw j) * (r + pw j))) (fun _ bit => (intOf bit).toNat)
  case atStart => exact ⟨20, 0, rfl, rfl, by omega, by decide, root_start n h0 h1⟩
  case round =>
    obtain ⟨j, r, rfl, rfl, hr0, hr1, hr⟩ := hrel
    cases j with
    | zero =>
      have e : hf 0 = 0 := by decide
      have e' : pw 0 = 1 := by decide
      rw [e]
      rw [e'] at hr hr1
      clear e e'
      go_wp2
      go_ret
      exact ⟨⟨r, rfl, hr0, by omega, hr.out.1, hr.out.2⟩, rfl⟩
    | succ j =>
      rw [hf_succ]
      rw [pw_succ] at hr hr1
      have hp := pw_pos j
      have HH : Hid (pw j / 2 = hf j ∧ pw j = pw j) := ⟨hf_half j, rfl⟩
      generalize hb : pw j = b at hr hr1 hp HH ⊢
      have HB : Hid (pw j = b) := hb
      clear hb
      have sq := sq_bd (x := r + b) (by omega) (by omega)
      obtain ⟨q0, q1⟩ := sq
      by_cases hc : (r + b) * (r + b) ≤ n
      · go_wp2
        go_round
        case rel => exact ⟨j, r + b, by rw [← HH.out.1], rfl, by omega, by rw [HB.out]; omega, by rw [HB.out]; exact ⟨hc, by have := hr.out.2; rw [show r + b + b = r + 2 * b by omega]; exact this⟩⟩
        case measure => simp [intOf]; omega
      · go_wp2
        go_round
        case rel => exact ⟨j, r, by rw [← HH.out.1], rfl, by omega, by rw [HB.out]; omega, by rw [HB.out]; exact ⟨hr.out.1, by omega⟩⟩
        case measure => simp [intOf]; omega

theorem root_neg (a : Int) (h : a < 0) (w : World) : Calls Try.prog 20 #[.int .i64 a] w fun e w' => e = .returned (.tuple #[.int .i64 0, .iface 26 (.int .i64 1)]) ∧ w' = w := by
  go_enter Try.func20, Try.ntmps20
  go_wp2
  go_ret2
  exact ⟨rfl, rfl⟩

theorem root_any (a : Int) (h : 0 ≤ a) (w : World) : Calls Try.prog 20 #[.int .i64 a] w fun e w' =>
    (∃ r : Int, e = .returned (.tuple #[.int .i64 r, .nilIface]) ∧ 0 ≤ r ∧ r ≤ 1048575 ∧ r * r ≤ 256 * ofI a ∧ 256 * ofI a < (r + 1) * (r + 1)) ∧ w' = w := by
  have a1 := ofI_hi a
  have a0 : 0 ≤ ofI a := by have := ofI_mono h; rwa [ofI_id (x := 0) (by omega) (by omega)] at this
  have hn : ¬ a < 0 := by omega
  go_enter Try.func20, Try.ntmps20
  go_wp2_with (go_at_call 13; refine (fixOf_any _ _).mono ?_; rintro e w' ⟨rfl, rfl⟩)
  go_wp2_with fail
  refine (wholeRoot_any _ (by omega) (by omega) _).mono ?_
  rintro e w' ⟨⟨r, rfl, hr0, hr1, hr⟩, rfl⟩
  have HR : Hid (r * r ≤ 256 * ofI a ∧ 256 * ofI a < (r + 1) * (r + 1)) := hr
  clear hr
  go_wp2_with (go_at_call 13; refine (fixOf_any _ _).mono ?_; rintro e w' ⟨rfl, rfl⟩)
  go_ret2
  exact ⟨⟨r, by rw [ofI_id (by omega) (by omega)]; rfl, hr0, hr1, HR.out.1, HR.out.2⟩, rfl⟩

theorem fixRoot_walk (a : Int) (w : World) : Calls Try.prog 5 #[.int .i64 a] w fun e w' => e = .returned (.bool true) ∧ Grown w w' := by
  by_cases h : a < 0
  · go_enter Try.func5, Try.ntmps5
    go_wp2_with (first
      | (go_at_call 20; refine (root_neg _ h _).mono ?_; rintro e w' ⟨rfl, rfl⟩)
      | (go_at_call 12; refine (is_errno _ _ _).mono ?_; rintro e w' ⟨rfl, rfl⟩))
    go_ret
    exact ⟨rfl, Grown.refl _⟩
  · have a1 := ofI_hi a
    have a0 : 0 ≤ ofI a := by have := ofI_mono (x := 0) (y := a) (by omega); rwa [ofI_id (x := 0) (by omega) (by omega)] at this
    go_enter Try.func5, Try.ntmps5
    go_wp2_with fail
    refine (root_any a (by omega) _).mono ?_
    rintro e w' ⟨⟨r, rfl, hr0, hr1, hr2, hr3⟩, rfl⟩
    have q := sq_bd (x := r) (by omega) (by omega)
    obtain ⟨q0, q1⟩ := q
    have p := sq_bd (x := r + 1) (by omega) (by omega)
    obtain ⟨p0, p1⟩ := p
    have e1 : decide (r * r ≤ ofI a * 256) = true := by simp; omega
    have e2 : decide ((r + 1) * (r + 1) > ofI a * 256) = true := by simp; omega
    go_wp2_with (go_at_call 11; refine (refOf_any _ _).mono ?_; rintro e w' ⟨rfl, rfl⟩)
    go_ret
    exact ⟨rfl, Grown.refl _⟩

end Go.Proofs.Ytmdpoeelddchcaa
