/-
  Contracts of vote.Check, fulmarref.BankMay, vote.Left and fulmarref.ChannelsLeft: what is asked of a bank.
-/
import Derived.Test.YtmainmldndidhaaVoteA
namespace Go.Proofs.Ytmainmldndidhaa
open Go.RowKit Plain

/-- May a channel have been bad so often? -/
def gb (x : Int) : Bool := decide (0 ≤ x) && decide (x ≤ 10)
theorem gb_true {x : Int} (h : gb x = true) : 0 ≤ x ∧ x ≤ 10 := by simp [gb] at h; omega
def okU (b : Nat → Int) : Nat → Bool
  | 0 => true
  | k + 1 => okU b k && gb (b k)
theorem okU_false {b : Nat → Int} {k : Nat} (hk : k < 3) (h : gb (b k) = false) : okU b 3 = false := by
  rcases (show k = 0 ∨ k = 1 ∨ k = 2 by omega) with rfl | rfl | rfl <;> simp [okU, h]
theorem okU_true {b : Nat → Int} (h : okU b 3 = true) : ∀ k, k < 3 → 0 ≤ b k ∧ b k ≤ 10 := by
  intro k hk
  simp only [okU, Bool.true_and, Bool.and_eq_true] at h
  rcases (show k = 0 ∨ k = 1 ∨ k = 2 by omega) with rfl | rfl | rfl
  · exact gb_true h.1.1
  · exact gb_true h.1.2
  · exact gb_true h.2
/-- May a bank be? -/
def bankE (b : Nat → Int) (l : Int) : Int := if okU b 3 && within l then 0 else 3

/-- The k-th of three. -/
theorem idxI (b : Nat → Int) (k : Nat) (h : k < 3) (w : World) : (Instr.index 43 (.agg #[.int .i64 (b 0), .int .i64 (b 1), .int .i64 (b 2)]) (.int .i64 k)).run Try.prog w = .ok (.int .i64 (b k)) w := by
  rcases (show k = 0 ∨ k = 1 ∨ k = 2 by omega) with rfl | rfl | rfl <;> kernel_rfl
theorem idxB (o : Nat → Bool) (k : Nat) (h : k < 3) (w : World) : (Instr.index 44 (.agg #[.bool (o 0), .bool (o 1), .bool (o 2)]) (.int .i64 k)).run Try.prog w = .ok (.bool (o k)) w := by
  rcases (show k = 0 ∨ k = 1 ∨ k = 2 by omega) with rfl | rfl | rfl <;> kernel_rfl
theorem idxS (t : Nat → Bool) (s : Nat → Int) (k : Nat) (h : k < 3) (w : World) : (Instr.index 55 (.agg #[.bool (t 0), .int .i64 (s 0), .bool (t 1), .int .i64 (s 1), .bool (t 2), .int .i64 (s 2)]) (.int .i64 k)).run Try.prog w = .ok (.agg #[.bool (t k), .int .i64 (s k)]) w := by
  rcases (show k = 0 ∨ k = 1 ∨ k = 2 by omega) with rfl | rfl | rfl <;> kernel_rfl

theorem bankCheck_any (b : Nat → Int) (o : Nat → Bool) (l : Int) (w : World) :
    Calls Try.prog 54 #[.agg #[.int .i64 (b 0), .int .i64 (b 1), .int .i64 (b 2), .bool (o 0), .bool (o 1), .bool (o 2), .int .i64 l]] w fun e w' => e = .returned (errV (bankE b l)) ∧ Below w.heap.size w w' := by
  have HW : Hid (bankE b l = if okU b 3 && within l then 0 else 3) := rfl
  go_enter Try.func54, Try.ntmps54
  go_wp2
  go_loop [7] (fun i => ∃ k : Nat, k ≤ 3 ∧ i = .int .i64 k ∧ Hid (okU b k = true)) (fun i => 3 - (intOf i).toNat)
  case atStart => exact ⟨0, by omega, rfl, rfl⟩
  case round =>
    obtain ⟨k, hk, rfl, hok⟩ := hrel
    by_cases hlt : k < 3
    · have hix := idxI b k hlt
      by_cases hg : gb (b k) = true
      · have HS : Hid (okU b (k + 1) = true) := by show (okU b k && gb (b k)) = true; rw [hok.out, hg]; rfl
        obtain ⟨g0, g1⟩ := gb_true hg
        clear hg
        generalize b k = z at *
        go_wp2
        go_round
        case rel => exact ⟨k + 1, by omega, by go_num, HS⟩
        case measure => simp [intOf]; omega
      · have HS : Hid (okU b 3 = false) := okU_false hlt (by simpa using hg)
        have hg' : b k < 0 ∨ 10 < b k := by simp [gb] at hg; omega
        clear hg
        generalize b k = z at *
        rcases hg' with g | g
        · go_wp2
          go_ret
          exact ⟨by rw [HW.out, HS.out]; rfl, vbelow_alloc _ _⟩
        · go_wp2
          go_ret
          exact ⟨by rw [HW.out, HS.out]; rfl, vbelow_alloc _ _⟩
    · have e : k = 3 := by omega
      subst e
      have hby := beyond_any l
      have HL : Hid (bankE b l = if within l then 0 else 3) := by show bankE b l = _; rw [HW.out, hok.out, Bool.true_and]
      generalize within l = x at *
      cases x
      · go_wp2_with (go_at_call 86; refine (hby _).mono ?_; rintro e w' ⟨rfl, hq⟩; have hq := hq.symm; subst hq)
        go_ret
        exact ⟨by rw [HL.out]; rfl, vbelow_alloc _ _⟩
      · go_wp2_with (go_at_call 86; refine (hby _).mono ?_; rintro e w' ⟨rfl, hq⟩; have hq := hq.symm; subst hq)
        go_ret
        exact ⟨by rw [HL.out]; rfl, vbelow_alloc _ _⟩

theorem bankMay_any (b : Nat → Int) (o : Nat → Bool) (l : Int) (w : World) :
    Calls Try.prog 51 #[.agg #[.int .i64 (b 0), .int .i64 (b 1), .int .i64 (b 2), .bool (o 0), .bool (o 1), .bool (o 2), .int .i64 l]] w fun e w' => e = .returned (.int .i64 (bankE b l)) ∧ Below w.heap.size w w' := by
  have hl := between_worth l
  have HW : Hid (bankE b l = if (within l && okU b 3) = true then 0 else 3) := by show bankE b l = _; rw [bankE, Bool.and_comm]
  generalize within l = y at *
  have hc : ∀ k, k < 3 → (w.alloc (.cells #[.int .i64 (b 0), .int .i64 (b 1), .int .i64 (b 2), .bool (o 0), .bool (o 1), .bool (o 2), .int .i64 l] 46)).cell? ⟨w.heap.size, k, none⟩ = some (.int .i64 (b k)) := by
    intro k hk
    rcases (show k = 0 ∨ k = 1 ∨ k = 2 by omega) with rfl | rfl | rfl <;> simp [go_sem]
  go_enter Try.func51, Try.ntmps51
  have HC : Hid _ := hc
  clear hc
  go_wp2_with (go_at_call 32; refine (hl _).mono ?_; rintro e w' ⟨rfl, hq⟩; have hq := hq.symm; subst hq)
  go_loop [3, 4] (fun f i => ∃ k : Nat, k ≤ 3 ∧ i = .int .i64 k ∧ f = .bool (y && okU b k)) (fun f i => 3 - (intOf i).toNat)
  case atStart => exact ⟨0, by omega, rfl, by simp [okU]⟩
  case round =>
    obtain ⟨k, hk, rfl, rfl⟩ := hrel
    by_cases hlt : k < 3
    · have hcell := HC.out k hlt
      have HS : Hid ((y && okU b (k + 1)) = (y && okU b k && gb (b k))) := by show (y && (okU b k && gb (b k))) = _; rw [Bool.and_assoc]
      have hb : ∀ w, Calls Try.prog 32 #[.int .i64 (b k), .int .i64 0, .int .i64 10] w fun e w' => e = .returned (.bool (gb (b k))) ∧ w' = w := between_any (b k) 0 10
      generalize (y && okU b k) = f at *
      generalize gb (b k) = g at *
      cases f
      · go_wp2
        go_round
        case rel => exact ⟨k + 1, by omega, by go_num, by rw [HS.out]; rfl⟩
        case measure => simp [intOf]; omega
      · generalize b k = z at *
        go_wp2_with (go_at_call 32; refine (hb _).mono ?_; rintro e w' ⟨rfl, hq⟩; have hq := hq.symm; subst hq)
        go_round
        case rel => exact ⟨k + 1, by omega, by go_num, by rw [HS.out]; rfl⟩
        case measure => simp [intOf]; omega
    · have e : k = 3 := by omega
      subst e
      generalize (y && okU b 3) = f at *
      cases f
      · go_wp2_with (go_at_call 9; refine (when_any _ _ _).mono ?_; rintro e w' ⟨rfl, hq⟩; have hq := hq.symm; subst hq)
        go_ret
        exact ⟨by rw [HW.out]; rfl, vbelow_alloc _ _⟩
      · go_wp2_with (go_at_call 9; refine (when_any _ _ _).mono ?_; rintro e w' ⟨rfl, hq⟩; have hq := hq.symm; subst hq)
        go_ret
        exact ⟨by rw [HW.out]; rfl, vbelow_alloc _ _⟩

def leftU (o : Nat → Bool) : Nat → Int
  | 0 => 0
  | k + 1 => leftU o k + if o k then 0 else 1
theorem leftU_bd (o : Nat → Bool) : ∀ k : Nat, 0 ≤ leftU o k ∧ leftU o k ≤ k
  | 0 => by simp [leftU]
  | k + 1 => by have := leftU_bd o k; simp only [leftU]; split <;> omega

theorem left_any (b : Nat → Int) (o : Nat → Bool) (l : Int) (w : World) :
    Calls Try.prog 55 #[.agg #[.int .i64 (b 0), .int .i64 (b 1), .int .i64 (b 2), .bool (o 0), .bool (o 1), .bool (o 2), .int .i64 l]] w fun e w' => e = .returned (.int .i64 (leftU o 3)) ∧ Below w.heap.size w w' := by
  go_enter Try.func55, Try.ntmps55
  go_wp2
  go_loop [3, 8] (fun n i => ∃ k : Nat, k ≤ 3 ∧ i = .int .i64 k ∧ n = .int .i64 (leftU o k)) (fun n i => 3 - (intOf i).toNat)
  case atStart => exact ⟨0, by omega, rfl, rfl⟩
  case round =>
    obtain ⟨k, hk, rfl, rfl⟩ := hrel
    by_cases hlt : k < 3
    · have hix := idxB o k hlt
      have hbd := leftU_bd o k
      have HS : Hid (leftU o (k + 1) = leftU o k + if o k then 0 else 1) := rfl
      generalize leftU o k = n at *
      generalize o k = x at *
      cases x
      · go_wp2
        go_round
        case rel => exact ⟨k + 1, by omega, by go_num, by rw [HS.out]; rfl⟩
        case measure => simp [intOf]; omega
      · go_wp2
        go_round
        case rel => exact ⟨k + 1, by omega, by go_num, by rw [HS.out]; simp⟩
        case measure => simp [intOf]; omega
    · have e : k = 3 := by omega
      subst e
      go_wp2
      go_ret
      exact ⟨rfl, vbelow_alloc _ _⟩

theorem channelsLeft_any (b : Nat → Int) (o : Nat → Bool) (l : Int) (w : World) :
    Calls Try.prog 56 #[.agg #[.int .i64 (b 0), .int .i64 (b 1), .int .i64 (b 2), .bool (o 0), .bool (o 1), .bool (o 2), .int .i64 l]] w fun e w' => e = .returned (.int .i64 (leftU o 3)) ∧ Below w.heap.size w w' := by
  have hc : ∀ k, k < 3 → (w.alloc (.cells #[.int .i64 (b 0), .int .i64 (b 1), .int .i64 (b 2), .bool (o 0), .bool (o 1), .bool (o 2), .int .i64 l] 46)).cell? ⟨w.heap.size, 3 + k, none⟩ = some (.bool (o k)) := by
    intro k hk
    rcases (show k = 0 ∨ k = 1 ∨ k = 2 by omega) with rfl | rfl | rfl <;> simp [go_sem]
  have HC : Hid _ := hc
  clear hc
  go_enter Try.func56, Try.ntmps56
  go_wp2
  go_loop [3, 4] (fun n i => ∃ k : Nat, k ≤ 3 ∧ i = .int .i64 k ∧ n = .int .i64 (3 - (k : Int) + leftU o k)) (fun n i => 3 - (intOf i).toNat)
  case atStart => exact ⟨0, by omega, rfl, by simp [leftU]⟩
  case round =>
    obtain ⟨k, hk, rfl, rfl⟩ := hrel
    by_cases hlt : k < 3
    · have hcell := HC.out k hlt
      have hbd := leftU_bd o k
      have HS : Hid (leftU o (k + 1) = leftU o k + if o k then 0 else 1) := rfl
      generalize leftU o k = n at *
      generalize o k = x at *
      cases x
      · go_wp2
        go_round
        case rel => exact ⟨k + 1, by omega, by go_num, by rw [HS.out]; simp only [Bool.false_eq_true, if_false]; congr 1; omega⟩
        case measure => simp [intOf]; omega
      · go_wp2
        go_round
        case rel => exact ⟨k + 1, by omega, by go_num, by rw [HS.out]; simp only [if_true]; congr 1; omega⟩
        case measure => simp [intOf]; omega
    · have e : k = 3 := by omega
      subst e
      go_wp2
      go_ret
      exact ⟨by simp, vbelow_alloc _ _⟩

end Go.Proofs.Ytmainmldndidhaa
