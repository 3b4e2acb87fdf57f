/-
  Contracts of vote.Check, fulmarref.BankMay, vote.Left and fulmarref.ChannelsLeft: what is asked of a bank.
-/
import Derived.Test.YthijegfacnjooaaVoteA
namespace Go.Proofs.Ythijegfacnjooaa
open Go.RowKit Plain

/-- May a channel have been bad so often? -/
def gb (x : Int) : Bool := decide (0 ≤ x) && decide (x ≤ 10)
theorem gb_true {x : Int} (h : gb x = true) : 0 ≤ x ∧ x ≤ 10 := by simp [gb] at h; omega
def okU (b : Nat → Int) : Nat → Bool
  | 0 => true
  | k + 1 => okU b k && gb (b k)
theorem okU_false {b : Nat → Int} {k : Nat} (hk : k < 3) (h : gb (b k) = false) : okU b 3 = false := by
  rcases (show k = 0 ∨ k = 1 ∨ k = 2 by omega) with rfl | rfl | rfl <;> simp [okU, h]
theorem okU_true {b : Nat → Int} (h : okU b 3 = true) : ∀ k, k < 3 → 0 ≤ b k ∧ b k ≤ 10 := by
  intro k hk
  simp only [okU, Bool.true_and, Bool.and_eq_true] at h
  rcases (show k = 0 ∨ k = 1 ∨ k = 2 by omega) with rfl | rfl | rfl
  · exact gb_true h.1.1
  · exact gb_true h.1.2
  · exact gb_true h.2
/-- May a bank be? -/
def bankE (b : Nat → Int) (l : Int) : Int := if okU b 3 && within l then 0 else 3

/-- The k-th of three. -/
theorem idxI (b : Nat → Int) (k : Nat) (h : k < 3) (w : World) : (Instr.index 30 (.agg #[.int .i64 (b 0), .int .i64 (b 1), .int .i64 (b 2)]) (.int .i64 k)).run Try.prog w = .ok (.int .i64 (b k)) w := by
  rcases (show k = 0 ∨ k = 1 ∨ k = 2 by omega) with rfl | rfl | rfl <;> kernel_rfl
theorem idxB (o : Nat → Bool) (k : Nat) (h : k < 3) (w : World) : (Instr.index 31 (.agg #[.bool (o 0), .bool (o 1), .bool (o 2)]) (.int .i64 k)).run Try.prog w = .ok (.bool (o k)) w := by
  rcases (show k = 0 ∨ k = 1 ∨ k = 2 by omega) with rfl | rfl | rfl <;> kernel_rfl
theorem idxS (t : Nat → Bool) (s : Nat → Int) (k : Nat) (h : k < 3) (w : World) : (Instr.index 39 (.agg #[.bool (t 0), .int .i64 (s 0), .bool (t 1), .int .i64 (s 1), .bool (t 2), .int .i64 (s 2)]) (.int .i64 k)).run Try.prog w = .ok (.agg #[.bool (t k), .int .i64 (s k)]) w := by
  rcases (show k = 0 ∨ k = 1 ∨ k = 2 by omega) with rfl | rfl | rfl <;> kernel_rfl

theorem bankCheck_any (b : Nat → Int) (o : Nat → Bool) (l : Int) (w : World) :
    Calls Try.prog 65 #[.agg #[.int .i64 (b 0), .int .i64 (b 1), .int .i64 (b 2), .bool (o 0), .bool (o 1), .bool (o 2), .int .i64 l]] w fun e w' => e = .returned (errV (bankE b l)) ∧ Below w.heap.size w w' := by
  have HW : Hid (bankE b l = if okU b 3 && within l then 0 else 3) := rfl
  go_enter Try.func65, Try.ntmps65
  go_wp2
  go_loop [7] (fun i => ∃ k : Nat, k ≤ 3 ∧ i = .int .i64 k ∧ Hid (okU b k = true)) (fun i => 3 - (intOf i).toNat)
  case atStart => exact ⟨0, by omega, rfl, rfl⟩
  case round =>
    obtain ⟨k, hk, rfl, hok⟩ := hrel
    by_cases hlt : k < 3
    · have hix := idxI b k hlt
      by_cases hg : gb (b k) = true
      · have HS : Hid (okU b (k + 1) = true) := by show (okU b k && gb (b k)) = true; rw [hok.out, hg]; rfl
        obtain ⟨g0, g1⟩ := gb_true hg
        clear hg
        generalize b k = z at *
        go_wp2
        go_round
        case rel => exact ⟨k + 1, by omega, by go_num, HS⟩
        case measure => simp [intOf]; omega
      · have HS : Hid (okU b 3 = false) := okU_false hlt (by simpa using hg)
        have hg' : b k < 0 ∨ 10 < b k := by simp [gb] at hg; omega
        clear hg
        generalize b k = z at *
        rcases hg' with g | g
        · go_wp2
          go_ret
          exact ⟨by rw [HW.out, HS.out]; rfl, vbelow_alloc _ _⟩
        · go_wp2
          go_ret
          exact ⟨by rw [HW.out, HS.out]; rfl, vbelow_alloc _ _⟩
    · have e : k = 3 := by omega
      subst e
      have hby := beyond_any l
      have HL : Hid (bankE b l = if within l then 0 else 3) := by show bankE b l = _; rw [HW.out, hok.out, Bool.true_and]
      generalize within l = x at *
      cases x
      · go_wp2_with (go_at_call 66; refine (hby _).mono ?_; rintro e w' ⟨rfl, hq⟩; have hq := hq.symm; subst hq)
        go_ret
        exact ⟨by rw [HL.out]; rfl, vbelow_alloc _ _⟩
      · go_wp2_with (go_at_call 66; refine (hby _).mono ?_; rintro e w' ⟨rfl, hq⟩; have hq := hq.symm; subst hq)
        go_ret
        exact ⟨by rw [HL.out]; rfl, vbelow_alloc _ _⟩

def leftU (o : Nat → Bool) : Nat → Int
  | 0 => 0
  | k + 1 => leftU o k + if o k then 0 else 1
theorem leftU_bd (o : Nat → Bool) : ∀ k : Nat, 0 ≤ leftU o k ∧ leftU o k ≤ k
  | 0 => by simp [leftU]
  | k + 1 => by have := leftU_bd o k; simp only [leftU]; split <;> omega

end Go.Proofs.Ythijegfacnjooaa
