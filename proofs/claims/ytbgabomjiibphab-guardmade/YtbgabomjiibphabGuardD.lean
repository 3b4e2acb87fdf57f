/-
  The walk of the law GuardSays.
-/
import Derived.Test.YtbgabomjiibphabGuardC
namespace Go.Proofs.Ytbgabomjiibphab
open Go.RowKit Plain

theorem gfirst_ne {x : Int} (hx : x ≠ 0) (T : TypeId) (y : Int) (w : World) :
    Calls Try.prog 31 #[.slice (some ⟨w.heap.size, 0, none⟩) 2 2] (w.alloc (.cells #[.int .i64 x, .int .i64 y] T)) fun r w' => r = .returned (.int .i64 x) ∧ Below w.heap.size w w' := by
  have h := first_new2 T x y w
  rw [show firstI [x, y] = x by simp [firstI, hx]] at h
  exact h.mono fun e w' h => ⟨h.1, by rw [h.2]; exact abelow_alloc _ _⟩
theorem gfirst_zero (T : TypeId) (y : Int) (w : World) :
    Calls Try.prog 31 #[.slice (some ⟨w.heap.size, 0, none⟩) 2 2] (w.alloc (.cells #[.int .i64 0, .int .i64 y] T)) fun r w' => r = .returned (.int .i64 y) ∧ Below w.heap.size w w' := by
  have h := first_new2 T 0 y w
  rw [show firstI [0, y] = y by simp [firstI]; omega] at h
  exact h.mono fun e w' h => ⟨h.1, by rw [h.2]; exact abelow_alloc _ _⟩
theorem gis_same (x : Int) (w : World) : Calls Try.prog 34 #[errV x, .int .i64 x] w fun r w' => r = .returned (.bool true) ∧ w' = w :=
  (is_any x x w).mono fun e w' h => ⟨by rw [h.1]; simp, h.2⟩
theorem gis_zero (w : World) : Calls Try.prog 34 #[.nilIface, .int .i64 0] w fun r w' => r = .returned (.bool true) ∧ w' = w := gis_same 0 w
theorem gis_one (w : World) : Calls Try.prog 34 #[.iface 42 (.int .i64 1), .int .i64 1] w fun r w' => r = .returned (.bool true) ∧ w' = w := gis_same 1 w
theorem gis_iface {x : Int} (h : x ≠ 0) (w : World) : Calls Try.prog 34 #[.iface 42 (.int .i64 x), .int .i64 x] w fun r w' => r = .returned (.bool true) ∧ w' = w := by
  have := gis_same x w
  rw [errV_ne h] at this
  exact this

set_option maxHeartbeats 2000000 in
theorem guardSays_walk (L H N P M R s : Int) (w : World) :
    Calls Try.prog 12 #[.agg #[.int .i64 L, .int .i64 H, .int .i64 N, .int .i64 P, .int .i64 M, .int .i64 R], .int .i64 s] w fun e w' => e = .returned (.bool true) ∧ Below w.heap.size w w' := by
  have hgm := guardMay_any L H N P M R
  have hck := guardCheck_any L H N P M R
  have hbk := gBrake_any L H N P M R s
  have HX := ahide (GB.new w L H N P M R)
  by_cases he : grE L H N P M R = 0
  · obtain ⟨⟨l0, l1, h0, h1, n0, n1, p0, p1, m0, m1, r0, r1⟩, pm, pr, room⟩ := grE_ok he
    have hfi := gfirst_zero
    have f1 := refBetw_any s (-M) M
    have hE : gmE L H N P M R s = if betw s (-M) M then 0 else 1 := by unfold gmE; rw [if_pos he]
    rw [hE] at hbk
    rw [he] at hgm hck
    rw [errV_zero] at hck
    clear room he hE
    by_cases hs : betw s (-M) M = true
    · obtain ⟨s0, s1⟩ := betw_true hs
      have hrb := fun w => (refBrake_ex L H N P M R s p0 p1 r0 (by omega) (by omega) (by omega) w).mono (fun e w' h => (⟨h.1, by rw [h.2]; exact abelow_alloc _ _⟩ : e = _ ∧ Below w.heap.size w w'))
      rw [hs] at f1 hbk
      rw [if_pos rfl, if_pos rfl, errV_zero] at hbk
      generalize bk R (s + P) = k at *
      clear hs
      go_enter Try.func12, Try.ntmps12
      go_wp2_with (first
        | (go_at_call 25; refine (hgm _).mono ?_; rintro e w1 ⟨rfl, hb1⟩; have HX := ahide (HX.out.later hb1); obtain ⟨⟨q0, q1, q2, q3, q4, q5⟩, _⟩ := HX.out; clear hb1)
        | (go_at_call 16; with_reducible refine (f1 _).mono ?_; rintro e w' ⟨rfl, hq⟩; have hq := hq.symm; subst hq)
        | (go_at_call 32; with_reducible refine (when_any _ _ _).mono ?_; rintro e w' ⟨rfl, hq⟩; have hq := hq.symm; subst hq)
        | (go_at_call 31; refine (hfi _ _ _).mono ?_; rintro e w5 ⟨rfl, hb5⟩; have HX := ahide (HX.out.later hb5); obtain ⟨⟨q0, q1, q2, q3, q4, q5⟩, _⟩ := HX.out; clear hb5)
        | (go_at_call 33; refine (hrb _).mono ?_; rintro e w2 ⟨rfl, hb2⟩; have HX := ahide (HX.out.later hb2); obtain ⟨⟨q0, q1, q2, q3, q4, q5⟩, _⟩ := HX.out; clear hb2)
        | (go_at_call 29; refine (hbk _).mono ?_; rintro e w3 ⟨rfl, hb3⟩; have HX := ahide (HX.out.later hb3); obtain ⟨⟨q0, q1, q2, q3, q4, q5⟩, _⟩ := HX.out; clear hb3)
        | (go_at_call 35; refine (hck _).mono ?_; rintro e w4 ⟨rfl, hb4⟩; have HX := ahide (HX.out.later hb4); obtain ⟨⟨q0, q1, q2, q3, q4, q5⟩, _⟩ := HX.out; clear hb4)
        | (go_at_call 34; with_reducible refine (gis_zero _).mono ?_; rintro e w' ⟨rfl, hq⟩; have hq := hq.symm; subst hq))
      go_ret
      exact ⟨by simp, HX.out.2⟩
    · have hs' : betw s (-M) M = false := by simpa using hs
      rw [hs'] at f1 hbk
      rw [show (if (if false = true then (0 : Int) else 1) = 0 then bk R (s + P) else 0) = 0 from rfl, show (if false = true then (0 : Int) else 1) = 1 from rfl, errV_ne (by decide)] at hbk
      clear hs hs'
      go_enter Try.func12, Try.ntmps12
      go_wp2_with (first
        | (go_at_call 25; refine (hgm _).mono ?_; rintro e w1 ⟨rfl, hb1⟩; have HX := ahide (HX.out.later hb1); obtain ⟨⟨q0, q1, q2, q3, q4, q5⟩, _⟩ := HX.out; clear hb1)
        | (go_at_call 16; with_reducible refine (f1 _).mono ?_; rintro e w' ⟨rfl, hq⟩; have hq := hq.symm; subst hq)
        | (go_at_call 32; with_reducible refine (when_any _ _ _).mono ?_; rintro e w' ⟨rfl, hq⟩; have hq := hq.symm; subst hq)
        | (go_at_call 31; refine (hfi _ _ _).mono ?_; rintro e w5 ⟨rfl, hb5⟩; have HX := ahide (HX.out.later hb5); obtain ⟨⟨q0, q1, q2, q3, q4, q5⟩, _⟩ := HX.out; clear hb5)
        | (go_at_call 29; refine (hbk _).mono ?_; rintro e w3 ⟨rfl, hb3⟩; have HX := ahide (HX.out.later hb3); obtain ⟨⟨q0, q1, q2, q3, q4, q5⟩, _⟩ := HX.out; clear hb3)
        | (go_at_call 35; refine (hck _).mono ?_; rintro e w4 ⟨rfl, hb4⟩; have HX := ahide (HX.out.later hb4); obtain ⟨⟨q0, q1, q2, q3, q4, q5⟩, _⟩ := HX.out; clear hb4)
        | (go_at_call 34; with_reducible refine (gis_one _).mono ?_; rintro e w' ⟨rfl, hq⟩; have hq := hq.symm; subst hq)
        | (go_at_call 34; with_reducible refine (gis_zero _).mono ?_; rintro e w' ⟨rfl, hq⟩; have hq := hq.symm; subst hq))
      go_ret
      exact ⟨by simp, HX.out.2⟩
  · have hfi := gfirst_ne he
    have hE : gmE L H N P M R s = grE L H N P M R := by unfold gmE; rw [if_neg he]
    have hx : (grE L H N P M R == 0) = false := by simpa using he
    have his := gis_iface he
    have f1 : ∀ lo hi w, Calls Try.prog 16 #[.int .i64 s, .int .i64 lo, .int .i64 hi] w fun e w' => (∃ b, e = .returned (.bool b)) ∧ w' = w := fun lo hi w => (refBetw_any s lo hi w).mono fun e w' h => ⟨⟨_, h.1⟩, h.2⟩
    have hwh : ∀ (x : Bool) w, Calls Try.prog 32 #[.bool x, .int .i64 1] w fun r w' => (∃ y, r = .returned (.int .i64 y)) ∧ w' = w := fun x w => (when_any x 1 w).mono fun e w' h => ⟨⟨_, h.1⟩, h.2⟩
    rw [hE, if_neg he, errV_ne he] at hbk
    rw [errV_ne he] at hck
    generalize grE L H N P M R = x at *
    clear he hE
    go_enter Try.func12, Try.ntmps12
    go_wp2_with (first
      | (go_at_call 25; refine (hgm _).mono ?_; rintro e w1 ⟨rfl, hb1⟩; have HX := ahide (HX.out.later hb1); obtain ⟨⟨q0, q1, q2, q3, q4, q5⟩, _⟩ := HX.out; clear hb1)
      | (go_at_call 16; refine (f1 _ _ _).mono ?_; rintro e w' ⟨⟨b, rfl⟩, hq⟩; have hq := hq.symm; subst hq)
      | (go_at_call 32; refine (hwh _ _).mono ?_; rintro e w' ⟨⟨y, rfl⟩, hq⟩; have hq := hq.symm; subst hq)
      | (go_at_call 31; refine (hfi _ _ _).mono ?_; rintro e w5 ⟨rfl, hb5⟩; have HX := ahide (HX.out.later hb5); obtain ⟨⟨q0, q1, q2, q3, q4, q5⟩, _⟩ := HX.out; clear hb5)
      | (go_at_call 29; refine (hbk _).mono ?_; rintro e w3 ⟨rfl, hb3⟩; have HX := ahide (HX.out.later hb3); obtain ⟨⟨q0, q1, q2, q3, q4, q5⟩, _⟩ := HX.out; clear hb3)
      | (go_at_call 35; refine (hck _).mono ?_; rintro e w4 ⟨rfl, hb4⟩; have HX := ahide (HX.out.later hb4); obtain ⟨⟨q0, q1, q2, q3, q4, q5⟩, _⟩ := HX.out; clear hb4)
      | (go_at_call 34; with_reducible refine (his _).mono ?_; rintro e w' ⟨rfl, hq⟩; have hq := hq.symm; subst hq))
    go_ret
    exact ⟨by simp, HX.out.2⟩

end Go.Proofs.Ytbgabomjiibphab
