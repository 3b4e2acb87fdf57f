/-
  Contracts of fulmarref.ServoMay, fulmarref.Reached and act.Reach.
-/
import Derived.Test.YtbgabomjiibphaaActB
namespace Go.Proofs.Ytbgabomjiibphaa
open Go.RowKit Plain

set_option maxHeartbeats 2000000 in
theorem servoMay_any (T R S C i b : Int) (o : Bool) (w : World) :
    Calls Try.prog 16 #[.agg #[.int .i64 T, .int .i64 R, .int .i64 S, .int .i64 C], .agg #[.int .i64 i, .int .i64 b, .bool o]] w fun e w' => e = .returned (.int .i64 (svE T R S C i b o)) ∧ Below w.heap.size w w' := by
  have hr := refActRule_any T R S C
  have HN := ahide (RS.new w T R S C i b o).2.2
  by_cases e1 : arE T R S C = 0
  · rw [e1] at hr
    have f1 := refBetw_any i (-T) T
    have f2 := refBetw_any b 0 C
    have hE : svE T R S C i b o = if svB T C i b o then 0 else 3 := by unfold svE; rw [if_pos e1]
    obtain ⟨⟨t0, t1⟩, _, _, c0, c1⟩ := arB_true (arE_zero e1)
    have hb2 : betw b 0 C = true → b ≤ C := fun h => (betw_true h).2
    unfold svB at hE
    clear e1
    generalize betw i (-T) T = x1 at *
    generalize betw b 0 C = x2 at *
    cases x1
    · have HE : Hid (svE T R S C i b o = 3) := hE
      clear hE hb2
      go_enter Try.func16, Try.ntmps16
      go_wp2_with (first
        | (go_at_call 24; refine (hr _).mono ?_; rintro e w1 ⟨rfl, hb1⟩)
        | (go_at_call_of 28 (Value.int .i64 i); refine (f1 _).mono ?_; rintro e w' ⟨rfl, hq⟩; have hq := hq.symm; subst hq)
        | (go_at_call 9; refine (when_true 3 _).mono ?_; rintro e w' ⟨rfl, hq⟩; have hq := hq.symm; subst hq)
        | (go_at_call 38; refine (first_new2 _ _ _ _).mono ?_; rintro e w' ⟨rfl, hq⟩; have hq := hq.symm; subst hq))
      go_ret
      exact ⟨by rw [HE.out]; rfl, abelow_up (abelow_up HN.out hb1) (abelow_alloc _ _)⟩
    · cases x2
      · have HE : Hid (svE T R S C i b o = 3) := hE
        clear hE hb2
        go_enter Try.func16, Try.ntmps16
        go_wp2_with (first
          | (go_at_call 24; refine (hr _).mono ?_; rintro e w1 ⟨rfl, hb1⟩)
          | (go_at_call_of 28 (Value.int .i64 i); refine (f1 _).mono ?_; rintro e w' ⟨rfl, hq⟩; have hq := hq.symm; subst hq)
          | (go_at_call_of 28 (Value.int .i64 b); refine (f2 _).mono ?_; rintro e w' ⟨rfl, hq⟩; have hq := hq.symm; subst hq)
          | (go_at_call 9; refine (when_true 3 _).mono ?_; rintro e w' ⟨rfl, hq⟩; have hq := hq.symm; subst hq)
          | (go_at_call 38; refine (first_new2 _ _ _ _).mono ?_; rintro e w' ⟨rfl, hq⟩; have hq := hq.symm; subst hq))
        go_ret
        exact ⟨by rw [HE.out]; rfl, abelow_up (abelow_up HN.out hb1) (abelow_alloc _ _)⟩
      · have hbC := hb2 rfl
        clear hb2
        cases o
        · by_cases hlt : b < C
          · have HE : Hid (svE T R S C i b false = 0) := by show svE T R S C i b false = 0; rw [hE]; simp [hlt]
            clear hE
            go_enter Try.func16, Try.ntmps16
            go_wp2_with (first
              | (go_at_call 24; refine (hr _).mono ?_; rintro e w1 ⟨rfl, hb1⟩)
              | (go_at_call_of 28 (Value.int .i64 i); refine (f1 _).mono ?_; rintro e w' ⟨rfl, hq⟩; have hq := hq.symm; subst hq)
              | (go_at_call_of 28 (Value.int .i64 b); refine (f2 _).mono ?_; rintro e w' ⟨rfl, hq⟩; have hq := hq.symm; subst hq)
              | (go_at_call 9; refine (when_false 3 _).mono ?_; rintro e w' ⟨rfl, hq⟩; have hq := hq.symm; subst hq)
              | (go_at_call 38; refine (first_new2 _ _ _ _).mono ?_; rintro e w' ⟨rfl, hq⟩; have hq := hq.symm; subst hq))
            go_ret
            exact ⟨by rw [HE.out]; rfl, abelow_up (abelow_up HN.out hb1) (abelow_alloc _ _)⟩
          · have HE : Hid (svE T R S C i b false = 3) := by show svE T R S C i b false = 3; rw [hE]; simp [hlt]
            have hd : decide (b < C) = false := by simpa using hlt
            have hle : C ≤ b := by omega
            clear hE hlt
            go_enter Try.func16, Try.ntmps16
            go_wp2_with (first
              | (go_at_call 24; refine (hr _).mono ?_; rintro e w1 ⟨rfl, hb1⟩)
              | (go_at_call_of 28 (Value.int .i64 i); refine (f1 _).mono ?_; rintro e w' ⟨rfl, hq⟩; have hq := hq.symm; subst hq)
              | (go_at_call_of 28 (Value.int .i64 b); refine (f2 _).mono ?_; rintro e w' ⟨rfl, hq⟩; have hq := hq.symm; subst hq)
              | (go_at_call 9; refine (when_true 3 _).mono ?_; rintro e w' ⟨rfl, hq⟩; have hq := hq.symm; subst hq)
              | (go_at_call 38; refine (first_new2 _ _ _ _).mono ?_; rintro e w' ⟨rfl, hq⟩; have hq := hq.symm; subst hq))
            go_ret
            exact ⟨by rw [HE.out]; rfl, abelow_up (abelow_up HN.out hb1) (abelow_alloc _ _)⟩
        · by_cases hi : i = 0
          · have HE : Hid (svE T R S C i b true = 0) := by show svE T R S C i b true = 0; rw [hE]; simp [hi]
            have hq : (i == 0) = true := by simp [hi]
            clear hE hi
            go_enter Try.func16, Try.ntmps16
            go_wp2_with (first
              | (go_at_call 24; refine (hr _).mono ?_; rintro e w1 ⟨rfl, hb1⟩)
              | (go_at_call_of 28 (Value.int .i64 i); refine (f1 _).mono ?_; rintro e w' ⟨rfl, hq⟩; have hq := hq.symm; subst hq)
              | (go_at_call_of 28 (Value.int .i64 b); refine (f2 _).mono ?_; rintro e w' ⟨rfl, hq⟩; have hq := hq.symm; subst hq)
              | (go_at_call 9; refine (when_false 3 _).mono ?_; rintro e w' ⟨rfl, hq⟩; have hq := hq.symm; subst hq)
              | (go_at_call 38; refine (first_new2 _ _ _ _).mono ?_; rintro e w' ⟨rfl, hq⟩; have hq := hq.symm; subst hq))
            go_ret
            exact ⟨by rw [HE.out]; rfl, abelow_up (abelow_up HN.out hb1) (abelow_alloc _ _)⟩
          · have HE : Hid (svE T R S C i b true = 3) := by show svE T R S C i b true = 3; rw [hE]; simp [hi]
            have hq : (i == 0) = false := by simpa using hi
            clear hE hi
            go_enter Try.func16, Try.ntmps16
            go_wp2_with (first
              | (go_at_call 24; refine (hr _).mono ?_; rintro e w1 ⟨rfl, hb1⟩)
              | (go_at_call_of 28 (Value.int .i64 i); refine (f1 _).mono ?_; rintro e w' ⟨rfl, hq⟩; have hq := hq.symm; subst hq)
              | (go_at_call_of 28 (Value.int .i64 b); refine (f2 _).mono ?_; rintro e w' ⟨rfl, hq⟩; have hq := hq.symm; subst hq)
              | (go_at_call 9; refine (when_true 3 _).mono ?_; rintro e w' ⟨rfl, hq⟩; have hq := hq.symm; subst hq)
              | (go_at_call 38; refine (first_new2 _ _ _ _).mono ?_; rintro e w' ⟨rfl, hq⟩; have hq := hq.symm; subst hq))
            go_ret
            exact ⟨by rw [HE.out]; rfl, abelow_up (abelow_up HN.out hb1) (abelow_alloc _ _)⟩
  · have HE : Hid (svE T R S C i b o = 1) := by show svE T R S C i b o = 1; unfold svE; rw [if_neg e1, arE_ne e1]
    rw [arE_ne e1] at hr
    have f1 : ∀ lo hi w, Calls Try.prog 28 #[.int .i64 i, .int .i64 lo, .int .i64 hi] w fun e w' => (e = .returned (.bool true) ∨ e = .returned (.bool false)) ∧ w' = w := by
      intro lo hi w
      refine (refBetw_any i lo hi w).mono fun e w' h => ⟨?_, h.2⟩
      rw [h.1]; cases betw i lo hi <;> simp
    have f2 := refBetw_any b 0 C
    have hwh : ∀ (x : Bool) w, Calls Try.prog 9 #[.bool x, .int .i64 3] w fun r w' => ∃ y, r = .returned (.int .i64 y) ∧ w' = w := fun x w => (when_any x 3 w).mono fun e w' h => ⟨_, h.1, h.2⟩
    clear e1
    generalize betw b 0 C = x2 at *
    cases x2 <;> cases o <;> rcases Bool.eq_false_or_eq_true (i == 0) with hq | hq <;> by_cases hlt : b < C
    all_goals
      go_enter Try.func16, Try.ntmps16
      go_wp2_with (first
        | (go_at_call 24; refine (hr _).mono ?_; rintro e w1 ⟨rfl, hb1⟩)
        | (go_at_call_of 28 (Value.int .i64 i); refine (f1 _ _ _).mono ?_; rintro e w' ⟨he, hq⟩; have hq := hq.symm; subst hq; rcases he with rfl | rfl)
        | (go_at_call_of 28 (Value.int .i64 b); refine (f2 _).mono ?_; rintro e w' ⟨rfl, hq⟩; have hq := hq.symm; subst hq)
        | (go_at_call 9; refine (hwh _ _).mono ?_; rintro e w' ⟨y, rfl, hq⟩; have hq := hq.symm; subst hq)
        | (go_at_call 38; refine (first_new2 _ _ _ _).mono ?_; rintro e w' ⟨rfl, hq⟩; have hq := hq.symm; subst hq))
      all_goals
        go_ret
        exact ⟨by rw [HE.out]; rfl, abelow_up (abelow_up HN.out hb1) (abelow_alloc _ _)⟩


end Go.Proofs.Ytbgabomjiibphaa
