/-
  Contracts for the law Names: fix.Clip, fix.Of, fix.nearest, fix.Div; and the law walked.
-/
import Derived.Test.YtmdpoeelddchcaaDoorRows
import Derived.Test.YtmdpoeelddchcaaDoorPlain
import Derived.WalkKit
import Derived.WalkLawsBesides
import Derived.WalkSpells
import Derived.ProofKit
import Derived.Outline
import Derived.RegionTactic
import Derived.ChangeAlike
namespace Go.Proofs.YtmdpoeelddchcaaDoor
open Go.RowKit Plain

def clipI (x lo hi : Int) : Int := if x < lo then lo else if hi < lo then lo else if hi < x then hi else x

theorem fixClip_any (x lo hi : Int) (w : World) : Calls Tryd.prog 10 #[.int .i64 x, .int .i64 lo, .int .i64 hi] w fun e w' => e = .returned (.int .i64 (clipI x lo hi)) ∧ w' = w := by
  unfold clipI
  by_cases h1 : x < lo
  · rw [if_pos h1]
    go_enter Tryd.func10, Tryd.ntmps10
    go_wp2
    go_ret
    exact ⟨rfl, rfl⟩
  · rw [if_neg h1]
    by_cases h2 : hi < lo
    · rw [if_pos h2]
      go_enter Tryd.func10, Tryd.ntmps10
      go_wp2
      go_ret
      exact ⟨rfl, rfl⟩
    · rw [if_neg h2]
      by_cases h3 : hi < x
      · rw [if_pos h3]
        go_enter Tryd.func10, Tryd.ntmps10
        go_wp2
        go_ret
        exact ⟨rfl, rfl⟩
      · rw [if_neg h3]
        go_enter Tryd.func10, Tryd.ntmps10
        go_wp2
        go_ret
        exact ⟨rfl, rfl⟩

theorem clip_of (x : Int) : clipI x (-2147483647) 2147483647 = ofI x := by
  unfold clipI ofI; rw [if_neg (show ¬ ((2147483647 : Int) < -2147483647) by omega)]

theorem fixOf_any (x : Int) (w : World) : Calls Tryd.prog 7 #[.int .i64 x] w fun e w' => e = .returned (.int .i64 (ofI x)) ∧ w' = w := by
  go_enter Tryd.func7, Tryd.ntmps7
  go_wp2_with (go_at_call 10; refine (fixClip_any _ _ _ _).mono ?_; rintro e w' ⟨rfl, rfl⟩)
  go_ret
  rw [clip_of]
  exact ⟨rfl, rfl⟩

theorem size_any (x : Int) (h1 : -4611686018427387904 ≤ x) (h2 : x ≤ 4611686018427387904) (w : World) : Calls Tryd.prog 11 #[.int .i64 x] w fun e w' => e = .returned (.int .i64 (max x (-x))) ∧ w' = w := by
  by_cases h : x < 0
  · have e : max x (-x) = -x := by omega
    rw [e]
    have g : x < -x := by omega
    go_enter Tryd.func11, Tryd.ntmps11
    go_wp2
    go_ret
    exact ⟨rfl, rfl⟩
  · have e : max x (-x) = x := by omega
    rw [e]
    have g : ¬ x < -x := by omega
    go_enter Tryd.func11, Tryd.ntmps11
    go_wp2
    go_ret
    exact ⟨rfl, rfl⟩

theorem nearest_any (n d : Int) (h0 : -4611686014132420609 ≤ n) (h1 : n ≤ 4611686014132420609) (d0 : -2147483647 ≤ d) (d1 : d ≤ 2147483647) (hd : d ≠ 0) (w : World) :
    Calls Tryd.prog 8 #[.int .i64 n, .int .i64 d] w fun e w' => e = .returned (.int .i64 (nearI n d)) ∧ w' = w.drew := by
  have q := tdiv_bd n d 4611686014132420609 h0 h1
  have r := tmod_bd n d 2147483647 hd d0 d1
  obtain ⟨q0, q1⟩ := q; obtain ⟨r0, r1⟩ := r
  have hd' : (d == 0) = false := by simpa using hd
  by_cases c1 : 2 * max (n.tmod d) (-(n.tmod d)) < max d (-d)
  · have e : nearI n d = n.tdiv d := by unfold nearI; rw [if_pos c1]
    rw [e]; clear e
    go_enter Tryd.func8, Tryd.ntmps8
    go_wp2
    go_region
    go_wp2_with (go_at_call 11; refine (size_any _ (by omega) (by omega) _).mono ?_; rintro e w' ⟨rfl, rfl⟩)
    go_ret
    exact ⟨rfl, rfl⟩
  · by_cases c2 : n < 0
    · by_cases c3 : d < 0
      · have e : nearI n d = n.tdiv d + 1 := by unfold nearI; rw [if_neg c1, decide_eq_true c2, decide_eq_true c3]; rfl
        rw [e]; clear e
        go_enter Tryd.func8, Tryd.ntmps8
        go_wp2
        go_region
        go_wp2_with (go_at_call 11; refine (size_any _ (by omega) (by omega) _).mono ?_; rintro e w' ⟨rfl, rfl⟩)
        go_ret
        exact ⟨rfl, rfl⟩
      · have e : nearI n d = n.tdiv d - 1 := by unfold nearI; rw [if_neg c1, decide_eq_true c2, decide_eq_false c3]; rfl
        rw [e]; clear e
        have c3' : decide (d < 0) = false := decide_eq_false c3
        go_enter Tryd.func8, Tryd.ntmps8
        go_wp2
        go_region
        go_wp2_with (go_at_call 11; refine (size_any _ (by omega) (by omega) _).mono ?_; rintro e w' ⟨rfl, rfl⟩)
        go_ret
        exact ⟨rfl, rfl⟩
    · by_cases c3 : d < 0
      · have e : nearI n d = n.tdiv d - 1 := by unfold nearI; rw [if_neg c1, decide_eq_false c2, decide_eq_true c3]; rfl
        rw [e]; clear e
        have c2' : decide (n < 0) = false := decide_eq_false c2
        have hn : 0 ≤ n := by omega
        rw [Int.tmod_eq_emod_of_nonneg hn] at c1 r0 r1
        go_enter Tryd.func8, Tryd.ntmps8
        go_wp2
        go_region
        go_wp2_with (go_at_call 11; refine (size_any _ (by omega) (by omega) _).mono ?_; rintro e w' ⟨rfl, rfl⟩)
        go_ret
        exact ⟨rfl, rfl⟩
      · have e : nearI n d = n.tdiv d + 1 := by unfold nearI; rw [if_neg c1, decide_eq_false c2, decide_eq_false c3]; rfl
        rw [e]; clear e
        have c2' : decide (n < 0) = false := decide_eq_false c2
        have c3' : decide (d < 0) = false := decide_eq_false c3
        have hn : 0 ≤ n := by omega
        rw [Int.tmod_eq_emod_of_nonneg hn] at c1 r0 r1
        rw [Int.tdiv_eq_ediv_of_nonneg hn] at q0 q1 ⊢
        go_enter Tryd.func8, Tryd.ntmps8
        go_wp2
        go_region
        go_wp2_with (go_at_call 11; refine (size_any _ (by omega) (by omega) _).mono ?_; rintro e w' ⟨rfl, rfl⟩)
        go_ret
        exact ⟨rfl, rfl⟩

theorem fixDiv_any (a b : Int) (hb : b ≠ 0) (w : World) : Calls Tryd.prog 5 #[.int .i64 a, .int .i64 b] w fun e w' => e = .returned (.tuple #[.int .i64 (divI a b), .nilIface]) ∧ w' = w.drew := by
  have a0 := ofI_lo a; have a1 := ofI_hi a; have b0 := ofI_lo b; have b1 := ofI_hi b
  have hz := ofI_ne hb
  have hb' : (b == 0) = false := by simpa using hb
  rw [← div_near a b hz]
  go_enter Tryd.func5, Tryd.ntmps5
  go_wp2_with (first
    | (go_at_call 7; refine (fixOf_any _ _).mono ?_; rintro e w' ⟨rfl, rfl⟩)
    | (go_at_call 8; refine (nearest_any _ _ (by omega) (by omega) (by omega) (by omega) (by omega) _).mono ?_; rintro e w' ⟨rfl, rfl⟩))
  go_ret2
  exact ⟨rfl, rfl⟩

theorem small_one (w : World) : Calls Tryd.prog 13 #[.int .i64 1] w fun e w' => e = .returned (.string ⟨#[49]⟩) ∧ w' = w := by
  go_enter Tryd.func13, Tryd.ntmps13
  go_wp2
  go_ret
  exact ⟨rfl, rfl⟩
theorem format_one (w : World) : Calls Tryd.prog 12 #[.int .i64 1, .int .i64 10] w fun e w' => e = .returned (.string ⟨#[49]⟩) ∧ w' = w := by
  go_enter Tryd.func12, Tryd.ntmps12
  go_wp2_with (go_at_call 13; refine (small_one _).mono ?_; rintro e w' ⟨rfl, rfl⟩)
  go_ret
  exact ⟨rfl, rfl⟩
theorem itoa_one (w : World) : Calls Tryd.prog 9 #[.int .i64 1] w fun e w' => e = .returned (.string ⟨#[49]⟩) ∧ w' = w := by
  go_enter Tryd.func9, Tryd.ntmps9
  go_wp2_with (go_at_call 12; refine (format_one _).mono ?_; rintro e w' ⟨rfl, rfl⟩)
  go_ret
  exact ⟨rfl, rfl⟩
theorem itoa_one' (w : World) : Calls Tryd.prog 6 #[.int .i64 1] w fun e w' => e = .returned (.string ⟨#[49]⟩) ∧ w' = w := by
  go_enter Tryd.func6, Tryd.ntmps6
  go_wp2_with (go_at_call 9; refine (itoa_one _).mono ?_; rintro e w' ⟨rfl, rfl⟩)
  go_ret
  exact ⟨rfl, rfl⟩
theorem error_one (w : World) : Calls Tryd.prog 4 #[.int .i64 1] w fun e w' => e = .returned (.string ⟨#[102, 117, 108, 109, 97, 114, 58, 32, 101, 114, 114, 111, 114, 32, 49]⟩) ∧ w' = w := by
  go_enter Tryd.func4, Tryd.ntmps4
  go_wp2_with (go_at_call 6; refine (itoa_one' _).mono ?_; rintro e w' ⟨rfl, rfl⟩)
  go_ret
  exact ⟨rfl, rfl⟩
theorem names_walk (w : World) : Calls Tryd.prog 3 #[] w fun e w' => e = .returned (.bool true) ∧ Grown w w' := by
  have d : divI 256 768 = 85 := by decide
  go_enter Tryd.func3, Tryd.ntmps3
  go_wp2_with (first
    | (go_at_call 5; refine (fixDiv_any _ _ (by omega) _).mono ?_; rintro e w' ⟨rfl, rfl⟩)
    | (go_at_call 4; refine (error_one _).mono ?_; rintro e w' ⟨rfl, rfl⟩))
  go_ret
  exact ⟨rfl, by repeat (first | exact Grown.refl _ | apply Grown.drew | apply Grown.alloc)⟩

end Go.Proofs.YtmdpoeelddchcaaDoor
