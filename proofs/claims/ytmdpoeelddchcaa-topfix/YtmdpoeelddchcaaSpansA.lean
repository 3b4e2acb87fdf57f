/-
  Contracts of the functions that take a span and answer a number, a bool or an error: each returns what the plain words say, and nothing that was there has turned.
-/
import Derived.Test.YtmdpoeelddchcaaWalksC
import Derived.Deep.RegionHeld3
import Derived.Deep.CutRange
namespace Go.Proofs.Ytmdpoeelddchcaa
open Go.RowKit Plain

/-- May a span be? -/
def mayB (lo hi : Int) : Bool := decide (lo ≤ hi) && decide (-2147483647 ≤ lo) && decide (hi ≤ 2147483647)
theorem may_true {lo hi : Int} (h : mayB lo hi = true) : lo ≤ hi ∧ -2147483647 ≤ lo ∧ hi ≤ 2147483647 := by
  simp [mayB] at h; omega
theorem may_false {lo hi : Int} (h : mayB lo hi = false) : hi < lo ∨ lo < -2147483647 ∨ 2147483647 < hi := by
  simp [mayB] at h; omega
def span (lo hi : Int) : Value := .agg #[.int .i64 lo, .int .i64 hi]

theorem spanMay_yes (lo hi : Int) (h : mayB lo hi = true) (w : World) :
    Calls Try.prog 22 #[.agg #[.int .i64 lo, .int .i64 hi]] w fun e w' => e = .returned (.int .i64 0) ∧ Below w.heap.size w w' := by
  obtain ⟨h1, h2, h3⟩ := may_true h
  clear h
  have g1 : ¬ hi < lo := by omega
  have g2 : ¬ lo < -2147483647 := by omega
  have g3 : ¬ 2147483647 < hi := by omega
  go_enter Try.func22, Try.ntmps22
  go_wp2_with (go_at_call 9; refine (when_false _ _).mono ?_; rintro e w' ⟨rfl, rfl⟩)
  go_ret
  exact ⟨rfl, (Below.refl _ _).alloc (Nat.le_refl _) _⟩

theorem spanMay_no (lo hi : Int) (h : mayB lo hi = false) (w : World) :
    Calls Try.prog 22 #[.agg #[.int .i64 lo, .int .i64 hi]] w fun e w' => e = .returned (.int .i64 3) ∧ Below w.heap.size w w' := by
  have hh := may_false h
  clear h
  by_cases g1 : hi < lo
  · clear hh
    go_enter Try.func22, Try.ntmps22
    go_wp2_with (go_at_call 9; refine (when_true _ _).mono ?_; rintro e w' ⟨rfl, rfl⟩)
    go_ret
    exact ⟨rfl, (Below.refl _ _).alloc (Nat.le_refl _) _⟩
  · by_cases g2 : lo < -2147483647
    · clear hh
      go_enter Try.func22, Try.ntmps22
      go_wp2_with (go_at_call 9; refine (when_true _ _).mono ?_; rintro e w' ⟨rfl, rfl⟩)
      go_ret
      exact ⟨rfl, (Below.refl _ _).alloc (Nat.le_refl _) _⟩
    · have g3 : 2147483647 < hi := by omega
      clear hh
      go_enter Try.func22, Try.ntmps22
      go_wp2_with (go_at_call 9; refine (when_true _ _).mono ?_; rintro e w' ⟨rfl, rfl⟩)
      go_ret
      exact ⟨rfl, (Below.refl _ _).alloc (Nat.le_refl _) _⟩

theorem in_any (x lo hi : Int) (w : World) :
    Calls Try.prog 26 #[.int .i64 x, .agg #[.int .i64 lo, .int .i64 hi]] w fun e w' => e = .returned (.bool (decide (lo ≤ x) && decide (x ≤ hi))) ∧ Below w.heap.size w w' := by
  by_cases g1 : lo ≤ x
  · by_cases g2 : x ≤ hi
    · rw [decide_eq_true g1, decide_eq_true g2]
      go_enter Try.func26, Try.ntmps26
      go_wp2
      go_ret
      exact ⟨rfl, (Below.refl _ _).alloc (Nat.le_refl _) _⟩
    · rw [decide_eq_true g1, decide_eq_false g2]
      go_enter Try.func26, Try.ntmps26
      go_wp2
      go_ret
      exact ⟨by simp, (Below.refl _ _).alloc (Nat.le_refl _) _⟩
  · rw [decide_eq_false g1]
    go_enter Try.func26, Try.ntmps26
    go_wp2
    go_ret
    exact ⟨rfl, (Below.refl _ _).alloc (Nat.le_refl _) _⟩

theorem between_any (x lo hi : Int) (w : World) :
    Calls Try.prog 27 #[.int .i64 x, .int .i64 lo, .int .i64 hi] w fun e w' => e = .returned (.bool (decide (lo ≤ x) && decide (x ≤ hi))) ∧ w' = w := by
  by_cases g1 : lo ≤ x
  · by_cases g2 : x ≤ hi
    · rw [decide_eq_true g1, decide_eq_true g2]
      go_enter Try.func27, Try.ntmps27
      go_wp2
      go_ret
      exact ⟨rfl, rfl⟩
    · rw [decide_eq_true g1, decide_eq_false g2]
      go_enter Try.func27, Try.ntmps27
      go_wp2
      go_ret
      exact ⟨by simp, rfl⟩
  · rw [decide_eq_false g1]
    go_enter Try.func27, Try.ntmps27
    go_wp2
    go_ret
    exact ⟨rfl, rfl⟩

theorem ofI_out {x : Int} (h : x < -2147483647 ∨ 2147483647 < x) : (ofI x != x) = true := by
  rw [bne_iff_ne]; unfold ofI; split <;> (try split) <;> omega
theorem ofI_in {x : Int} (h1 : -2147483647 ≤ x) (h2 : x ≤ 2147483647) : (ofI x != x) = false := by
  rw [ofI_id h1 h2]; simp

theorem check_yes (lo hi : Int) (h : mayB lo hi = true) (w : World) :
    Calls Try.prog 25 #[.agg #[.int .i64 lo, .int .i64 hi]] w fun e w' => e = .returned .nilIface ∧ Below w.heap.size w w' := by
  obtain ⟨h1, h2, h3⟩ := may_true h
  clear h
  have g1 : decide (hi < lo) = false := by simp; omega
  have g2 := ofI_in h2 (by omega)
  have g3 := ofI_in (show -2147483647 ≤ hi by omega) h3
  go_enter Try.func25, Try.ntmps25
  go_wp2
  go_quiet ((go_at_call 13; exact Calls.quiet_of_same (fixOf_any _ _)))
  go_wp2
  go_ret
  exact ⟨rfl, below_drewN ((Below.refl _ _).alloc (Nat.le_refl _) _) _⟩

theorem check_no (lo hi : Int) (h : mayB lo hi = false) (w : World) :
    Calls Try.prog 25 #[.agg #[.int .i64 lo, .int .i64 hi]] w fun e w' => e = .returned (.iface 26 (.int .i64 3)) ∧ Below w.heap.size w w' := by
  have hh := may_false h
  clear h
  by_cases g1 : hi < lo
  · clear hh
    have g1' : decide (hi < lo) = true := decide_eq_true g1
    go_enter Try.func25, Try.ntmps25
    go_wp2
    go_quiet ((go_at_call 13; exact Calls.quiet_of_same (fixOf_any _ _)))
    go_wp2
    go_ret
    exact ⟨rfl, below_drewN ((Below.refl _ _).alloc (Nat.le_refl _) _) _⟩
  · have g1' : decide (hi < lo) = false := decide_eq_false g1
    by_cases g2 : lo < -2147483647 ∨ 2147483647 < lo
    · have g2' := ofI_out g2
      clear hh g2 g1
      go_enter Try.func25, Try.ntmps25
      go_wp2
      go_quiet ((go_at_call 13; exact Calls.quiet_of_same (fixOf_any _ _)))
      go_wp2
      go_ret
      exact ⟨rfl, below_drewN ((Below.refl _ _).alloc (Nat.le_refl _) _) _⟩
    · have g2' := ofI_in (show -2147483647 ≤ lo by omega) (by omega)
      have g3' := ofI_out (show hi < -2147483647 ∨ 2147483647 < hi by omega)
      clear hh g2 g1
      go_enter Try.func25, Try.ntmps25
      go_wp2
      go_quiet ((go_at_call 13; exact Calls.quiet_of_same (fixOf_any _ _)))
      go_wp2
      go_ret
      exact ⟨rfl, below_drewN ((Below.refl _ _).alloc (Nat.le_refl _) _) _⟩

/-- The first that is one. -/
def firstI : List Int → Int
  | [] => 0
  | x :: l => if x = 0 then firstI l else x
theorem first_step (zs : List Int) (k : Nat) (h : k < zs.length) : firstI (zs.drop k) = if zs.getD k 0 = 0 then firstI (zs.drop (k + 1)) else zs.getD k 0 := by
  rw [List.drop_eq_getElem_cons h, List.getD_eq_getElem?_getD, List.getElem?_eq_getElem h]; rfl

theorem first_any (b off cap : Nat) (zs : List Int) (w : World) (hm : zs.length ≤ 1000000) (hc : ∀ k, k < zs.length → w.cell? ⟨b, off + k, none⟩ = some (.int .i64 (zs.getD k 0))) :
    Calls Try.prog 21 #[.slice (some ⟨b, off, none⟩) zs.length cap] w fun r w' => r = .returned (.int .i64 (firstI zs)) ∧ w' = w := by
  have HC : Hid (∀ k, k < zs.length → w.cell? ⟨b, off + k, none⟩ = some (.int .i64 (zs.getD k 0))) := hc; clear hc
  go_enter Try.func21, Try.ntmps21
  go_wp2
  go_loop [3] (fun i => ∃ k : Nat, k ≤ zs.length ∧ i = .int .i64 k ∧ Hid (firstI zs = firstI (zs.drop k))) (fun i => zs.length - (intOf i).toNat)
  case atStart => exact ⟨0, Nat.zero_le _, rfl, by show firstI zs = firstI (zs.drop 0); rw [List.drop_zero]⟩
  case round =>
    obtain ⟨k, hk, rfl, hf⟩ := hrel
    by_cases hlt : k < zs.length
    · have hcell := HC.out k hlt
      have hs := first_step zs k hlt
      generalize zs.getD k 0 = z at hcell hs
      by_cases hz : z = 0
      · subst hz
        rw [if_pos rfl] at hs
        have HS : Hid (firstI zs = firstI (zs.drop (k + 1))) := hf.out.trans hs
        clear hs hf
        go_wp2
        go_round
        case rel => exact ⟨k + 1, by omega, by go_num, HS⟩
        case measure => simp [intOf]; omega
      · rw [if_neg hz] at hs
        have HS : Hid (firstI zs = z) := hf.out.trans hs
        clear hs hf
        have hz' : (z != 0) = true := by simpa using hz
        clear hz
        go_wp2
        go_ret
        exact ⟨by rw [HS.out]; rfl, rfl⟩
    · go_wp2
      go_ret
      have : k = zs.length := by omega
      subst this
      exact ⟨by rw [hf.out, List.drop_length]; rfl, rfl⟩

theorem first_two (b cap : Nat) (x y : Int) (w : World) (h0 : w.cell? ⟨b, 0, none⟩ = some (.int .i64 x)) (h1 : w.cell? ⟨b, 1, none⟩ = some (.int .i64 y)) :
    Calls Try.prog 21 #[.slice (some ⟨b, 0, none⟩) 2 cap] w fun r w' => r = .returned (.int .i64 (firstI [x, y])) ∧ w' = w := by
  refine first_any b 0 cap [x, y] w (by simp) ?_
  intro k hk
  simp only [List.length_cons, List.length_nil] at hk
  match k, hk with
  | 0, _ => exact h0
  | 1, _ => exact h1

end Go.Proofs.Ytmdpoeelddchcaa
