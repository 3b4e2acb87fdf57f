/-
  Contracts of the functions of packages fix and fulmarref that reckon products and quotients: each returns what the plain arithmetic says, and changes nothing.
-/
import Derived.Test.YthijegfacnjooaaWalksA
import Derived.RegionTactic
import Derived.ChangeAlike
import Derived.Deep.QuietTactic
import Derived.BigQuiet
namespace Go.Proofs.Ythijegfacnjooaa
open Go.RowKit Plain

theorem size_any (x : Int) (h1 : -4611686018427387904 ≤ x) (h2 : x ≤ 4611686018427387904) (w : World) : Calls Try.prog 89 #[.int .i64 x] w fun e w' => e = .returned (.int .i64 (max x (-x))) ∧ w' = w := by
  by_cases h : x < 0
  · have e : max x (-x) = -x := by omega
    rw [e]
    have g : x < -x := by omega
    go_enter Try.func89, Try.ntmps89
    go_wp2
    go_ret
    exact ⟨rfl, rfl⟩
  · have e : max x (-x) = x := by omega
    rw [e]
    have g : ¬ x < -x := by omega
    go_enter Try.func89, Try.ntmps89
    go_wp2
    go_ret
    exact ⟨rfl, rfl⟩

theorem fnearest_any (n d : Int) (h0 : -4611686014132420609 ≤ n) (h1 : n ≤ 4611686014132420609) (d0 : -2147483647 ≤ d) (d1 : d ≤ 2147483647) (hd : d ≠ 0) (w : World) :
    Calls Try.prog 63 #[.int .i64 n, .int .i64 d] w fun e w' => e = .returned (.int .i64 (nearI n d)) ∧ w' = w.drew := by
  have q := tdiv_bd n d 4611686014132420609 h0 h1
  have r := tmod_bd n d 2147483647 hd d0 d1
  obtain ⟨q0, q1⟩ := q; obtain ⟨r0, r1⟩ := r
  have hd' : (d == 0) = false := by simpa using hd
  by_cases c1 : 2 * max (n.tmod d) (-(n.tmod d)) < max d (-d)
  · have e : nearI n d = n.tdiv d := by unfold nearI; rw [if_pos c1]
    rw [e]; clear e
    go_enter Try.func63, Try.ntmps63
    go_wp2
    go_region
    go_wp2_with (go_at_call 89; refine (size_any _ (by omega) (by omega) _).mono ?_; rintro e w' ⟨rfl, rfl⟩)
    go_ret
    exact ⟨rfl, rfl⟩
  · by_cases c2 : n < 0
    · by_cases c3 : d < 0
      · have e : nearI n d = n.tdiv d + 1 := by unfold nearI; rw [if_neg c1, decide_eq_true c2, decide_eq_true c3]; rfl
        rw [e]; clear e
        go_enter Try.func63, Try.ntmps63
        go_wp2
        go_region
        go_wp2_with (go_at_call 89; refine (size_any _ (by omega) (by omega) _).mono ?_; rintro e w' ⟨rfl, rfl⟩)
        go_ret
        exact ⟨rfl, rfl⟩
      · have e : nearI n d = n.tdiv d - 1 := by unfold nearI; rw [if_neg c1, decide_eq_true c2, decide_eq_false c3]; rfl
        rw [e]; clear e
        have c3' : decide (d < 0) = false := decide_eq_false c3
        go_enter Try.func63, Try.ntmps63
        go_wp2
        go_region
        go_wp2_with (go_at_call 89; refine (size_any _ (by omega) (by omega) _).mono ?_; rintro e w' ⟨rfl, rfl⟩)
        go_ret
        exact ⟨rfl, rfl⟩
    · by_cases c3 : d < 0
      · have e : nearI n d = n.tdiv d - 1 := by unfold nearI; rw [if_neg c1, decide_eq_false c2, decide_eq_true c3]; rfl
        rw [e]; clear e
        have c2' : decide (n < 0) = false := decide_eq_false c2
        have hn : 0 ≤ n := by omega
        rw [Int.tmod_eq_emod_of_nonneg hn] at c1 r0 r1
        go_enter Try.func63, Try.ntmps63
        go_wp2
        go_region
        go_wp2_with (go_at_call 89; refine (size_any _ (by omega) (by omega) _).mono ?_; rintro e w' ⟨rfl, rfl⟩)
        go_ret
        exact ⟨rfl, rfl⟩
      · have e : nearI n d = n.tdiv d + 1 := by unfold nearI; rw [if_neg c1, decide_eq_false c2, decide_eq_false c3]; rfl
        rw [e]; clear e
        have c2' : decide (n < 0) = false := decide_eq_false c2
        have c3' : decide (d < 0) = false := decide_eq_false c3
        have hn : 0 ≤ n := by omega
        rw [Int.tmod_eq_emod_of_nonneg hn] at c1 r0 r1
        rw [Int.tdiv_eq_ediv_of_nonneg hn] at q0 q1 ⊢
        go_enter Try.func63, Try.ntmps63
        go_wp2
        go_region
        go_wp2_with (go_at_call 89; refine (size_any _ (by omega) (by omega) _).mono ?_; rintro e w' ⟨rfl, rfl⟩)
        go_ret
        exact ⟨rfl, rfl⟩

theorem fixMul_any (a b : Int) (w : World) : Calls Try.prog 34 #[.int .i64 a, .int .i64 b] w fun e w' => e = .returned (.int .i64 (mulI a b)) ∧ w' = w.drew := by
  have m := mul_bd (ofI_lo a) (ofI_hi a) (ofI_lo b) (ofI_hi b)
  obtain ⟨m0, m1⟩ := m
  rw [← mul_near]
  go_enter Try.func34, Try.ntmps34
  go_wp2_with (first
    | (go_at_call 62; refine (fixOf_any _ _).mono ?_; rintro e w' ⟨rfl, rfl⟩)
    | (go_at_call 63; refine (fnearest_any _ _ (by omega) (by omega) (by omega) (by omega) (by omega) _).mono ?_; rintro e w' ⟨rfl, rfl⟩))
  go_ret
  exact ⟨rfl, rfl⟩

end Go.Proofs.Ythijegfacnjooaa
