/-
  Contracts of fulmarref.GuardMay, guard.checkMove and guard.Brake.
-/
import Derived.Test.YthijegfacnjooaaGuardB
namespace Go.Proofs.Ythijegfacnjooaa
open Go.RowKit Plain

set_option maxHeartbeats 2000000 in
theorem guardMay_no (L H N P M R : Int) (hg : grB L H N P M R = false) (w : World) :
    Calls Try.prog 25 #[.agg #[.int .i64 L, .int .i64 H, .int .i64 N, .int .i64 P, .int .i64 M, .int .i64 R]] w fun e w' => e = .returned (.int .i64 1) ∧ Below w.heap.size w w' := by
  have f1 := refBetw_any L (-100000) 100000
  have f2 := refBetw_any H (-100000) 100000
  have f3 := refBetw_any N 0 1000
  have f4 := refBetw_any P 0 2000
  have f5 := refBetw_any M 1 4000
  have f6 := refBetw_any R 1 M
  rw [grB_eq] at hg
  generalize betw L (-100000) 100000 = x1 at *
  generalize betw H (-100000) 100000 = x2 at *
  generalize betw N 0 1000 = x3 at *
  generalize betw P 0 2000 = x4 at *
  generalize betw M 1 4000 = x5 at *
  generalize betw R 1 M = x6 at *
  rcases (show (x1 = false) ∨ (x1 = true ∧ x2 = false) ∨ (x1 = true ∧ x2 = true ∧ x3 = false) ∨ (x1 = true ∧ x2 = true ∧ x3 = true ∧ x4 = false) ∨ (x1 = true ∧ x2 = true ∧ x3 = true ∧ x4 = true ∧ x5 = false) ∨ (x1 = true ∧ x2 = true ∧ x3 = true ∧ x4 = true ∧ x5 = true ∧ x6 = false) by cases x1 <;> cases x2 <;> cases x3 <;> cases x4 <;> cases x5 <;> cases x6 <;> simp_all) with rfl | ⟨rfl, rfl⟩ | ⟨rfl, rfl, rfl⟩ | ⟨rfl, rfl, rfl, rfl⟩ | ⟨rfl, rfl, rfl, rfl, rfl⟩ | ⟨rfl, rfl, rfl, rfl, rfl, rfl⟩
  all_goals
    clear hg
    go_enter Try.func25, Try.ntmps25
    go_wp2_with (first | (go_at_call_of 12 (Value.int .i64 R); refine (f6 _).mono ?_; rintro e w' ⟨rfl, rfl⟩) | (go_at_call_of 12 (Value.int .i64 M); refine (f5 _).mono ?_; rintro e w' ⟨rfl, rfl⟩) | (go_at_call_of 12 (Value.int .i64 P); refine (f4 _).mono ?_; rintro e w' ⟨rfl, rfl⟩) | (go_at_call_of 12 (Value.int .i64 N); refine (f3 _).mono ?_; rintro e w' ⟨rfl, rfl⟩) | (go_at_call_of 12 (Value.int .i64 H); refine (f2 _).mono ?_; rintro e w' ⟨rfl, rfl⟩) | (go_at_call_of 12 (Value.int .i64 L); refine (f1 _).mono ?_; rintro e w' ⟨rfl, rfl⟩))
    go_ret
    exact ⟨rfl, abelow_alloc _ _⟩

set_option maxHeartbeats 2000000 in
theorem guardMay_yes (L H N P M R : Int) (hg : grB L H N P M R = true) (w : World) :
    Calls Try.prog 25 #[.agg #[.int .i64 L, .int .i64 H, .int .i64 N, .int .i64 P, .int .i64 M, .int .i64 R]] w fun e w' => e = .returned (.int .i64 (grE L H N P M R)) ∧ Below w.heap.size w w' := by
  have hE : grE L H N P M R = if gfB L H N P M R then 0 else 3 := by unfold grE; rw [if_pos hg]
  obtain ⟨l0, l1, h0, h1, n0, n1, p0, p1, m0, m1, r0, r1⟩ := grB_true hg
  have f1 := refBetw_any L (-100000) 100000
  have f2 := refBetw_any H (-100000) 100000
  have f3 := refBetw_any N 0 1000
  have f4 := refBetw_any P 0 2000
  have f5 := refBetw_any M 1 4000
  have f6 := refBetw_any R 1 M
  rw [betw_mk l0 l1] at f1
  rw [betw_mk h0 h1] at f2
  rw [betw_mk n0 n1] at f3
  rw [betw_mk p0 p1] at f4
  rw [betw_mk m0 m1] at f5
  rw [betw_mk r0 r1] at f6
  have HX := ahide (GB.new w L H N P M R)
  clear hg
  by_cases c1 : P ≤ M
  · by_cases c2 : P ≤ R
    · have hbr := fun w => (refBrake_ex L H N P M R M p0 p1 r0 (by omega) (by omega) (by omega) w).mono (fun e w' h => (⟨h.1, by rw [h.2]; exact abelow_alloc _ _⟩ : e = _ ∧ Below w.heap.size w w'))
      have hk := bk_lt (R := R) (f := M + P) (by omega) (by omega)
      have hk0 := bk_nonneg R (M + P)
      have hf : gfB L H N P M R = decide (2 * (N + bk R (M + P)) ≤ H - L) := by unfold gfB; rw [decide_eq_true c1, decide_eq_true c2]; rfl
      generalize bk R (M + P) = k at *
      have v1 : IntKind.i64.wrap (N + k) = N + k := gwrap_id (by omega) (by omega)
      have v2 : IntKind.i64.wrap (2 * (N + k)) = 2 * (N + k) := gwrap_id (by omega) (by omega)
      have v3 : IntKind.i64.wrap (H - L) = H - L := gwrap_id (by omega) (by omega)
      have d1 : decide (M < P) = false := decide_eq_false (by omega)
      have d2 : decide (R < P) = false := decide_eq_false (by omega)
      by_cases c3 : 2 * (N + k) ≤ H - L
      · have HE : Hid (grE L H N P M R = 0) := by show _ = _; rw [hE, hf, decide_eq_true c3]; rfl
        have d3 : decide (H - L < 2 * (N + k)) = false := decide_eq_false (by omega)
        clear hE hf
        go_enter Try.func25, Try.ntmps25
        go_upto_region 4 with (first | (go_at_call_of 12 (Value.int .i64 R); refine (f6 _).mono ?_; rintro e w' ⟨rfl, rfl⟩) | (go_at_call_of 12 (Value.int .i64 M); refine (f5 _).mono ?_; rintro e w' ⟨rfl, rfl⟩) | (go_at_call_of 12 (Value.int .i64 P); refine (f4 _).mono ?_; rintro e w' ⟨rfl, rfl⟩) | (go_at_call_of 12 (Value.int .i64 N); refine (f3 _).mono ?_; rintro e w' ⟨rfl, rfl⟩) | (go_at_call_of 12 (Value.int .i64 H); refine (f2 _).mono ?_; rintro e w' ⟨rfl, rfl⟩) | (go_at_call_of 12 (Value.int .i64 L); refine (f1 _).mono ?_; rintro e w' ⟨rfl, rfl⟩))
        generalize w.alloc (.cells #[.int .i64 L, .int .i64 H, .int .i64 N, .int .i64 P, .int .i64 M, .int .i64 R] 78) = w1 at *
        obtain ⟨⟨q0, q1, q2, q3, q4, q5⟩, _⟩ := HX.out
        have S0 : (w1.cell? ⟨w.heap.size, 0, none⟩ = some (.int .i64 L) ∧ w1.cell? ⟨w.heap.size, 1, none⟩ = some (.int .i64 H) ∧ w1.cell? ⟨w.heap.size, 2, none⟩ = some (.int .i64 N) ∧ w1.cell? ⟨w.heap.size, 3, none⟩ = some (.int .i64 P) ∧ w1.cell? ⟨w.heap.size, 4, none⟩ = some (.int .i64 M) ∧ w1.cell? ⟨w.heap.size, 5, none⟩ = some (.int .i64 R)) ∧ Below w.heap.size w w1 := HX.out
        have Z := ahide S0
        go_region_held3 (fun u => (u.cell? ⟨w.heap.size, 0, none⟩ = some (.int .i64 L) ∧ u.cell? ⟨w.heap.size, 1, none⟩ = some (.int .i64 H) ∧ u.cell? ⟨w.heap.size, 2, none⟩ = some (.int .i64 N) ∧ u.cell? ⟨w.heap.size, 3, none⟩ = some (.int .i64 P) ∧ u.cell? ⟨w.heap.size, 4, none⟩ = some (.int .i64 M) ∧ u.cell? ⟨w.heap.size, 5, none⟩ = some (.int .i64 R)) ∧ Below w.heap.size w u)
          (first
            | (with_reducible assumption)
            | (with_reducible apply keepGB; with_reducible assumption; with_reducible assumption)
            | (refine keepGB ?_ Z.out; exact (Below.refl _ _).drew))
          (first
            | (go_at_call 48; refine (hbr _).mono ?_; rintro e w' ⟨rfl, hb⟩)
            | (go_at_call 35; refine (when_any _ _ _).mono ?_; rintro e w' ⟨rfl, rfl⟩))
        all_goals
          rename_i hH
          have HB := ahide hH.2
          clear hH
          go_wp2_with fail
          go_ret
          exact ⟨by rw [HE.out]; rfl, HB.out⟩
      · have HE : Hid (grE L H N P M R = 3) := by show _ = _; rw [hE, hf, decide_eq_false c3]; rfl
        have d3 : decide (H - L < 2 * (N + k)) = true := decide_eq_true (by omega)
        clear hE hf
        go_enter Try.func25, Try.ntmps25
        go_upto_region 4 with (first | (go_at_call_of 12 (Value.int .i64 R); refine (f6 _).mono ?_; rintro e w' ⟨rfl, rfl⟩) | (go_at_call_of 12 (Value.int .i64 M); refine (f5 _).mono ?_; rintro e w' ⟨rfl, rfl⟩) | (go_at_call_of 12 (Value.int .i64 P); refine (f4 _).mono ?_; rintro e w' ⟨rfl, rfl⟩) | (go_at_call_of 12 (Value.int .i64 N); refine (f3 _).mono ?_; rintro e w' ⟨rfl, rfl⟩) | (go_at_call_of 12 (Value.int .i64 H); refine (f2 _).mono ?_; rintro e w' ⟨rfl, rfl⟩) | (go_at_call_of 12 (Value.int .i64 L); refine (f1 _).mono ?_; rintro e w' ⟨rfl, rfl⟩))
        generalize w.alloc (.cells #[.int .i64 L, .int .i64 H, .int .i64 N, .int .i64 P, .int .i64 M, .int .i64 R] 78) = w1 at *
        obtain ⟨⟨q0, q1, q2, q3, q4, q5⟩, _⟩ := HX.out
        have S0 : (w1.cell? ⟨w.heap.size, 0, none⟩ = some (.int .i64 L) ∧ w1.cell? ⟨w.heap.size, 1, none⟩ = some (.int .i64 H) ∧ w1.cell? ⟨w.heap.size, 2, none⟩ = some (.int .i64 N) ∧ w1.cell? ⟨w.heap.size, 3, none⟩ = some (.int .i64 P) ∧ w1.cell? ⟨w.heap.size, 4, none⟩ = some (.int .i64 M) ∧ w1.cell? ⟨w.heap.size, 5, none⟩ = some (.int .i64 R)) ∧ Below w.heap.size w w1 := HX.out
        have Z := ahide S0
        go_region_held3 (fun u => (u.cell? ⟨w.heap.size, 0, none⟩ = some (.int .i64 L) ∧ u.cell? ⟨w.heap.size, 1, none⟩ = some (.int .i64 H) ∧ u.cell? ⟨w.heap.size, 2, none⟩ = some (.int .i64 N) ∧ u.cell? ⟨w.heap.size, 3, none⟩ = some (.int .i64 P) ∧ u.cell? ⟨w.heap.size, 4, none⟩ = some (.int .i64 M) ∧ u.cell? ⟨w.heap.size, 5, none⟩ = some (.int .i64 R)) ∧ Below w.heap.size w u)
          (first
            | (with_reducible assumption)
            | (with_reducible apply keepGB; with_reducible assumption; with_reducible assumption)
            | (refine keepGB ?_ Z.out; exact (Below.refl _ _).drew))
          (first
            | (go_at_call 48; refine (hbr _).mono ?_; rintro e w' ⟨rfl, hb⟩)
            | (go_at_call 35; refine (when_any _ _ _).mono ?_; rintro e w' ⟨rfl, rfl⟩))
        all_goals
          rename_i hH
          have HB := ahide hH.2
          clear hH
          go_wp2_with fail
          go_ret
          exact ⟨by rw [HE.out]; rfl, HB.out⟩
    · have HE : Hid (grE L H N P M R = 3) := by show _ = _; rw [hE]; unfold gfB; rw [decide_eq_false c2]; simp
      have d1 : decide (M < P) = false := decide_eq_false (by omega)
      have d2 : decide (R < P) = true := decide_eq_true (by omega)
      clear hE
      go_enter Try.func25, Try.ntmps25
      go_upto_region 4 with (first | (go_at_call_of 12 (Value.int .i64 R); refine (f6 _).mono ?_; rintro e w' ⟨rfl, rfl⟩) | (go_at_call_of 12 (Value.int .i64 M); refine (f5 _).mono ?_; rintro e w' ⟨rfl, rfl⟩) | (go_at_call_of 12 (Value.int .i64 P); refine (f4 _).mono ?_; rintro e w' ⟨rfl, rfl⟩) | (go_at_call_of 12 (Value.int .i64 N); refine (f3 _).mono ?_; rintro e w' ⟨rfl, rfl⟩) | (go_at_call_of 12 (Value.int .i64 H); refine (f2 _).mono ?_; rintro e w' ⟨rfl, rfl⟩) | (go_at_call_of 12 (Value.int .i64 L); refine (f1 _).mono ?_; rintro e w' ⟨rfl, rfl⟩))
      generalize w.alloc (.cells #[.int .i64 L, .int .i64 H, .int .i64 N, .int .i64 P, .int .i64 M, .int .i64 R] 78) = w1 at *
      obtain ⟨⟨q0, q1, q2, q3, q4, q5⟩, _⟩ := HX.out
      go_quiet ((go_at_call 35; exact Calls.quiet_of_same (when_any _ _ _)))
      go_wp2
      go_ret
      exact ⟨by rw [HE.out]; rfl, abelow_up HX.out.2 (below_drewN (Below.refl _ _) _)⟩
  · have HE : Hid (grE L H N P M R = 3) := by show _ = _; rw [hE]; unfold gfB; rw [decide_eq_false c1]; simp
    have d1 : decide (M < P) = true := decide_eq_true (by omega)
    clear hE
    go_enter Try.func25, Try.ntmps25
    go_upto_region 4 with (first | (go_at_call_of 12 (Value.int .i64 R); refine (f6 _).mono ?_; rintro e w' ⟨rfl, rfl⟩) | (go_at_call_of 12 (Value.int .i64 M); refine (f5 _).mono ?_; rintro e w' ⟨rfl, rfl⟩) | (go_at_call_of 12 (Value.int .i64 P); refine (f4 _).mono ?_; rintro e w' ⟨rfl, rfl⟩) | (go_at_call_of 12 (Value.int .i64 N); refine (f3 _).mono ?_; rintro e w' ⟨rfl, rfl⟩) | (go_at_call_of 12 (Value.int .i64 H); refine (f2 _).mono ?_; rintro e w' ⟨rfl, rfl⟩) | (go_at_call_of 12 (Value.int .i64 L); refine (f1 _).mono ?_; rintro e w' ⟨rfl, rfl⟩))
    generalize w.alloc (.cells #[.int .i64 L, .int .i64 H, .int .i64 N, .int .i64 P, .int .i64 M, .int .i64 R] 78) = w1 at *
    obtain ⟨⟨q0, q1, q2, q3, q4, q5⟩, _⟩ := HX.out
    go_quiet ((go_at_call 35; exact Calls.quiet_of_same (when_any _ _ _)))
    go_wp2
    go_ret
    exact ⟨by rw [HE.out]; rfl, abelow_up HX.out.2 (below_drewN (Below.refl _ _) _)⟩

theorem guardMay_any (L H N P M R : Int) (w : World) :
    Calls Try.prog 25 #[.agg #[.int .i64 L, .int .i64 H, .int .i64 N, .int .i64 P, .int .i64 M, .int .i64 R]] w fun e w' => e = .returned (.int .i64 (grE L H N P M R)) ∧ Below w.heap.size w w' := by
  by_cases hg : grB L H N P M R = true
  · exact guardMay_yes L H N P M R hg w
  · have hg' : grB L H N P M R = false := by simpa using hg
    rw [show grE L H N P M R = 1 by unfold grE; rw [if_neg hg]]
    exact guardMay_no L H N P M R hg' w

/-- May an axis have been moved so? -/
def gmE (L H N P M R s : Int) : Int := if grE L H N P M R = 0 then (if betw s (-M) M then 0 else 1) else grE L H N P M R

theorem gIsFrom_any (x lo hi : Int) (w : World) :
    Calls Try.prog 69 #[.int .i64 x, .int .i64 lo, .int .i64 hi] w fun e w' => e = .returned (.bool (betw x lo hi)) ∧ Below w.heap.size w w' :=
  (isFrom_ex x lo hi w).mono fun e w' h => ⟨h.1, by rw [h.2]; exact abelow_alloc _ _⟩

set_option maxHeartbeats 2000000 in
theorem checkMove_any (L H N P M R s : Int) (w : World) :
    Calls Try.prog 50 #[.agg #[.int .i64 L, .int .i64 H, .int .i64 N, .int .i64 P, .int .i64 M, .int .i64 R], .int .i64 s] w fun e w' => e = .returned (errV (gmE L H N P M R s)) ∧ Below w.heap.size w w' := by
  have hc := guardCheck_any L H N P M R
  have HX := ahide (GB.new w L H N P M R)
  by_cases he : grE L H N P M R = 0
  · have hE : gmE L H N P M R s = if betw s (-M) M then 0 else 1 := by unfold gmE; rw [if_pos he]
    rw [he, errV_zero] at hc
    obtain ⟨⟨l0, l1, h0, h1, n0, n1, p0, p1, m0, m1, r0, r1⟩, pm, pr, room⟩ := grE_ok he
    have f1 := gIsFrom_any s (-M) M
    clear he room
    generalize betw s (-M) M = x1 at *
    cases x1
    · have HE : Hid (gmE L H N P M R s = 1) := hE
      clear hE
      go_enter Try.func50, Try.ntmps50
      go_wp2_with (first | (go_at_call 78; refine (hc _).mono ?_; rintro e w1 ⟨rfl, hb1⟩; have HX := ahide (HX.out.later hb1); obtain ⟨⟨q0, q1, q2, q3, q4, q5⟩, _⟩ := HX.out; clear hb1) | (go_at_call 69; refine (f1 _).mono ?_; rintro e w2 ⟨rfl, hb2⟩; have HX := ahide (HX.out.later hb2); obtain ⟨⟨q0, q1, q2, q3, q4, q5⟩, _⟩ := HX.out; clear hb2))
      go_ret
      exact ⟨by rw [HE.out]; rfl, HX.out.2⟩
    · have HE : Hid (gmE L H N P M R s = 0) := hE
      clear hE
      go_enter Try.func50, Try.ntmps50
      go_wp2_with (first | (go_at_call 78; refine (hc _).mono ?_; rintro e w1 ⟨rfl, hb1⟩; have HX := ahide (HX.out.later hb1); obtain ⟨⟨q0, q1, q2, q3, q4, q5⟩, _⟩ := HX.out; clear hb1) | (go_at_call 69; refine (f1 _).mono ?_; rintro e w2 ⟨rfl, hb2⟩; have HX := ahide (HX.out.later hb2); obtain ⟨⟨q0, q1, q2, q3, q4, q5⟩, _⟩ := HX.out; clear hb2))
      go_ret
      exact ⟨by rw [HE.out]; rfl, HX.out.2⟩
  · have hE : gmE L H N P M R s = grE L H N P M R := by unfold gmE; rw [if_neg he]
    rw [hE]
    rw [errV_ne he] at hc ⊢
    clear hE
    generalize grE L H N P M R = x at *
    clear he
    go_enter Try.func50, Try.ntmps50
    go_wp2_with (go_at_call 78; refine (hc _).mono ?_; rintro e w1 ⟨rfl, hb1⟩; have HX := ahide (HX.out.later hb1); obtain ⟨⟨q0, q1, q2, q3, q4, q5⟩, _⟩ := HX.out; clear hb1)
    go_ret
    exact ⟨rfl, HX.out.2⟩

set_option maxHeartbeats 2000000 in
theorem gBrake_any (L H N P M R s : Int) (w : World) :
    Calls Try.prog 30 #[.agg #[.int .i64 L, .int .i64 H, .int .i64 N, .int .i64 P, .int .i64 M, .int .i64 R], .int .i64 s] w fun e w' => e = .returned (.tuple #[.int .i64 (if gmE L H N P M R s = 0 then bk R (s + P) else 0), errV (gmE L H N P M R s)]) ∧ Below w.heap.size w w' := by
  have hc := checkMove_any L H N P M R s
  have HX := ahide (GB.new w L H N P M R)
  by_cases he : gmE L H N P M R s = 0
  · have he1 : grE L H N P M R = 0 := by unfold gmE at he; split at he <;> simp_all
    have hs : betw s (-M) M = true := by
      unfold gmE at he; rw [if_pos he1] at he
      by_cases h : betw s (-M) M = true
      · exact h
      · rw [if_neg h] at he; cases he
    obtain ⟨s0, s1⟩ := betw_true hs
    obtain ⟨⟨l0, l1, h0, h1, n0, n1, p0, p1, m0, m1, r0, r1⟩, pm, pr, room⟩ := grE_ok he1
    have hbr := fun w => (brake_ex L H N P M R s p0 p1 r0 (by omega) (by omega) (by omega) w).mono (fun e w' h => (⟨h.1, by rw [h.2]; exact abelow_alloc _ _⟩ : e = _ ∧ Below w.heap.size w w'))
    rw [if_pos he, he, errV_zero]
    rw [he, errV_zero] at hc
    clear he he1 hs room
    generalize bk R (s + P) = k at *
    go_enter Try.func30, Try.ntmps30
    go_wp2_with (first | (go_at_call 50; refine (hc _).mono ?_; rintro e w1 ⟨rfl, hb1⟩; have HX := ahide (HX.out.later hb1); obtain ⟨⟨q0, q1, q2, q3, q4, q5⟩, _⟩ := HX.out; clear hb1) | (go_at_call 51; refine (hbr _).mono ?_; rintro e w2 ⟨rfl, hb2⟩; have HX := ahide (HX.out.later hb2); obtain ⟨⟨q0, q1, q2, q3, q4, q5⟩, _⟩ := HX.out; clear hb2))
    go_ret2
    exact ⟨rfl, HX.out.2⟩
  · rw [if_neg he, errV_ne he]
    rw [errV_ne he] at hc
    generalize gmE L H N P M R s = x at *
    clear he
    go_enter Try.func30, Try.ntmps30
    go_wp2_with (first | (go_at_call 50; refine (hc _).mono ?_; rintro e w1 ⟨rfl, hb1⟩; have HX := ahide (HX.out.later hb1); obtain ⟨⟨q0, q1, q2, q3, q4, q5⟩, _⟩ := HX.out; clear hb1))
    go_ret2
    exact ⟨rfl, HX.out.2⟩

end Go.Proofs.Ythijegfacnjooaa
