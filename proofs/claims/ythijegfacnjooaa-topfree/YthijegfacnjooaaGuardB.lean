/-
  Contracts of guard.isInRange, guard.Check, guard.checkMove, guard.Brake and fulmarref.GuardMay.
-/
import Derived.Test.YthijegfacnjooaaGuardA
namespace Go.Proofs.Ythijegfacnjooaa
open Go.RowKit Plain

/-- Six numbers lie in a box. -/
def B6 (w : World) (B : Nat) (L H N P M R : Int) : Prop := (w.cell? ⟨B, 0, none⟩ = some (.int .i64 L) ∧ w.cell? ⟨B, 1, none⟩ = some (.int .i64 H) ∧ w.cell? ⟨B, 2, none⟩ = some (.int .i64 N) ∧ w.cell? ⟨B, 3, none⟩ = some (.int .i64 P) ∧ w.cell? ⟨B, 4, none⟩ = some (.int .i64 M) ∧ w.cell? ⟨B, 5, none⟩ = some (.int .i64 R))
theorem gcell_later {w w' : World} {p : Addr} {v : Value} (hb : Below w.heap.size w w') (h : w.cell? p = some v) : w'.cell? p = some v := by
  rw [hb.cell (World.block_lt_of_cell? w p h)]; exact h
theorem B6.later {w w' : World} {B : Nat} {L H N P M R : Int} (h : B6 w B L H N P M R) (hb : Below w.heap.size w w') : B6 w' B L H N P M R :=
  ⟨gcell_later hb h.1, gcell_later hb h.2.1, gcell_later hb h.2.2.1, gcell_later hb h.2.2.2.1, gcell_later hb h.2.2.2.2.1, gcell_later hb h.2.2.2.2.2⟩
theorem B6.new (w : World) (L H N P M R : Int) (t : TypeId) : B6 (w.alloc (.cells #[.int .i64 L, .int .i64 H, .int .i64 N, .int .i64 P, .int .i64 M, .int .i64 R] t)) w.heap.size L H N P M R := by
  refine ⟨?_, ?_, ?_, ?_, ?_, ?_⟩ <;> simp [go_sem]
/-- A rule lies in its box; what was there is there. -/
def GB (w0 w : World) (L H N P M R : Int) : Prop := B6 w w0.heap.size L H N P M R ∧ Below w0.heap.size w0 w
theorem GB.later {w0 w w' : World} {L H N P M R : Int} (h : GB w0 w L H N P M R) (hb : Below w.heap.size w w') : GB w0 w' L H N P M R := ⟨h.1.later hb, abelow_up h.2 hb⟩
theorem GB.new (w : World) (L H N P M R : Int) : GB w (w.alloc (.cells #[.int .i64 L, .int .i64 H, .int .i64 N, .int .i64 P, .int .i64 M, .int .i64 R] 78)) L H N P M R := ⟨B6.new w _ _ _ _ _ _ _, abelow_alloc _ _⟩
theorem keepGB {w u u' : World} {L H N P M R : Int} (hb : Below u.heap.size u u') (h : (u.cell? ⟨w.heap.size, 0, none⟩ = some (.int .i64 L) ∧ u.cell? ⟨w.heap.size, 1, none⟩ = some (.int .i64 H) ∧ u.cell? ⟨w.heap.size, 2, none⟩ = some (.int .i64 N) ∧ u.cell? ⟨w.heap.size, 3, none⟩ = some (.int .i64 P) ∧ u.cell? ⟨w.heap.size, 4, none⟩ = some (.int .i64 M) ∧ u.cell? ⟨w.heap.size, 5, none⟩ = some (.int .i64 R)) ∧ Below w.heap.size w u) : (u'.cell? ⟨w.heap.size, 0, none⟩ = some (.int .i64 L) ∧ u'.cell? ⟨w.heap.size, 1, none⟩ = some (.int .i64 H) ∧ u'.cell? ⟨w.heap.size, 2, none⟩ = some (.int .i64 N) ∧ u'.cell? ⟨w.heap.size, 3, none⟩ = some (.int .i64 P) ∧ u'.cell? ⟨w.heap.size, 4, none⟩ = some (.int .i64 M) ∧ u'.cell? ⟨w.heap.size, 5, none⟩ = some (.int .i64 R)) ∧ Below w.heap.size w u' := ⟨B6.later h.1 hb, abelow_up h.2 hb⟩
theorem grB_eq (L H N P M R : Int) : grB L H N P M R = (betw L (-100000) 100000 && betw H (-100000) 100000 && betw N 0 1000 && betw P 0 2000 && betw M 1 4000 && betw R 1 M) := rfl

set_option maxHeartbeats 2000000 in
theorem isInRange_any (L H N P M R : Int) (w : World) :
    Calls Try.prog 95 #[.agg #[.int .i64 L, .int .i64 H, .int .i64 N, .int .i64 P, .int .i64 M, .int .i64 R]] w fun e w' => e = .returned (.bool (grB L H N P M R)) ∧ Below w.heap.size w w' := by
  have f1 := isFrom_ex L (-100000) 100000
  have f2 := isFrom_ex H (-100000) 100000
  have f3 := isFrom_ex N 0 1000
  have f4 := isFrom_ex P 0 2000
  have f5 := isFrom_ex M 1 4000
  have f6 := isFrom_ex R 1 M
  rw [grB_eq]
  generalize betw L (-100000) 100000 = x1 at *
  generalize betw H (-100000) 100000 = x2 at *
  generalize betw N 0 1000 = x3 at *
  generalize betw P 0 2000 = x4 at *
  generalize betw M 1 4000 = x5 at *
  generalize betw R 1 M = x6 at *
  rcases (show (x1 = false) ∨ (x1 = true ∧ x2 = false) ∨ (x1 = true ∧ x2 = true ∧ x3 = false) ∨ (x1 = true ∧ x2 = true ∧ x3 = true ∧ x4 = false) ∨ (x1 = true ∧ x2 = true ∧ x3 = true ∧ x4 = true ∧ x5 = false) ∨ (x1 = true ∧ x2 = true ∧ x3 = true ∧ x4 = true ∧ x5 = true ∧ x6 = false) ∨ (x1 = true ∧ x2 = true ∧ x3 = true ∧ x4 = true ∧ x5 = true ∧ x6 = true) by cases x1 <;> cases x2 <;> cases x3 <;> cases x4 <;> cases x5 <;> cases x6 <;> simp) with rfl | ⟨rfl, rfl⟩ | ⟨rfl, rfl, rfl⟩ | ⟨rfl, rfl, rfl, rfl⟩ | ⟨rfl, rfl, rfl, rfl, rfl⟩ | ⟨rfl, rfl, rfl, rfl, rfl, rfl⟩ | ⟨rfl, rfl, rfl, rfl, rfl, rfl⟩
  all_goals
    go_enter Try.func95, Try.ntmps95
    go_wp2_with (first | (go_at_call_of 69 (Value.int .i64 R); refine (f6 _).mono ?_; rintro e w' ⟨rfl, rfl⟩) | (go_at_call_of 69 (Value.int .i64 M); refine (f5 _).mono ?_; rintro e w' ⟨rfl, rfl⟩) | (go_at_call_of 69 (Value.int .i64 P); refine (f4 _).mono ?_; rintro e w' ⟨rfl, rfl⟩) | (go_at_call_of 69 (Value.int .i64 N); refine (f3 _).mono ?_; rintro e w' ⟨rfl, rfl⟩) | (go_at_call_of 69 (Value.int .i64 H); refine (f2 _).mono ?_; rintro e w' ⟨rfl, rfl⟩) | (go_at_call_of 69 (Value.int .i64 L); refine (f1 _).mono ?_; rintro e w' ⟨rfl, rfl⟩))
    go_ret
    exact ⟨rfl, by repeat (first | exact abelow_alloc _ _ | refine abelow_up ?_ (abelow_alloc _ _))⟩

set_option maxHeartbeats 2000000 in
theorem guardCheck_any (L H N P M R : Int) (w : World) :
    Calls Try.prog 78 #[.agg #[.int .i64 L, .int .i64 H, .int .i64 N, .int .i64 P, .int .i64 M, .int .i64 R]] w fun e w' => e = .returned (errV (grE L H N P M R)) ∧ Below w.heap.size w w' := by
  have hin := isInRange_any L H N P M R
  have HX := ahide (GB.new w L H N P M R)
  have hE : grE L H N P M R = if grB L H N P M R then (if gfB L H N P M R then 0 else 3) else 1 := rfl
  by_cases hg : grB L H N P M R = true
  · rw [hg] at hin hE
    obtain ⟨l0, l1, h0, h1, n0, n1, p0, p1, m0, m1, r0, r1⟩ := grB_true hg
    by_cases c1 : P ≤ M
    · by_cases c2 : P ≤ R
      · have hbr := fun w => (brake_ex L H N P M R M p0 p1 r0 (by omega) (by omega) (by omega) w).mono (fun e w' h => (⟨h.1, by rw [h.2]; exact abelow_alloc _ _⟩ : e = _ ∧ Below w.heap.size w w'))
        have hk := bk_lt (R := R) (f := M + P) (by omega) (by omega)
        have hk0 := bk_nonneg R (M + P)
        have hf : gfB L H N P M R = decide (2 * (N + bk R (M + P)) ≤ H - L) := by unfold gfB; rw [decide_eq_true c1, decide_eq_true c2]; rfl
        generalize bk R (M + P) = k at *
        have v1 : IntKind.i64.wrap (N + k) = N + k := gwrap_id (by omega) (by omega)
        have v2 : IntKind.i64.wrap (2 * (N + k)) = 2 * (N + k) := gwrap_id (by omega) (by omega)
        have v3 : IntKind.i64.wrap (H - L) = H - L := gwrap_id (by omega) (by omega)
        by_cases c3 : 2 * (N + k) ≤ H - L
        · have HE : Hid (grE L H N P M R = 0) := by show _ = _; rw [hE, hf, decide_eq_true c3]; rfl
          have d3 : decide (H - L < 2 * (N + k)) = false := decide_eq_false (by omega)
          clear hE hf hg
          go_enter Try.func78, Try.ntmps78
          go_upto_region 5 with (go_at_call 95; refine (hin _).mono ?_; rintro e w1 ⟨rfl, hb1⟩; have HX := ahide (HX.out.later hb1); obtain ⟨⟨q0, q1, q2, q3, q4, q5⟩, _⟩ := HX.out; clear hb1)
          obtain ⟨⟨q0, q1, q2, q3, q4, q5⟩, _⟩ := HX.out
          have S0 : (w1.cell? ⟨w.heap.size, 0, none⟩ = some (.int .i64 L) ∧ w1.cell? ⟨w.heap.size, 1, none⟩ = some (.int .i64 H) ∧ w1.cell? ⟨w.heap.size, 2, none⟩ = some (.int .i64 N) ∧ w1.cell? ⟨w.heap.size, 3, none⟩ = some (.int .i64 P) ∧ w1.cell? ⟨w.heap.size, 4, none⟩ = some (.int .i64 M) ∧ w1.cell? ⟨w.heap.size, 5, none⟩ = some (.int .i64 R)) ∧ Below w.heap.size w w1 := HX.out
          have Z := ahide S0
          go_region_held3 (fun u => (u.cell? ⟨w.heap.size, 0, none⟩ = some (.int .i64 L) ∧ u.cell? ⟨w.heap.size, 1, none⟩ = some (.int .i64 H) ∧ u.cell? ⟨w.heap.size, 2, none⟩ = some (.int .i64 N) ∧ u.cell? ⟨w.heap.size, 3, none⟩ = some (.int .i64 P) ∧ u.cell? ⟨w.heap.size, 4, none⟩ = some (.int .i64 M) ∧ u.cell? ⟨w.heap.size, 5, none⟩ = some (.int .i64 R)) ∧ Below w.heap.size w u)
            (first
              | (with_reducible assumption)
              | (with_reducible apply keepGB; with_reducible assumption; with_reducible assumption)
              | (refine keepGB ?_ Z.out; exact (Below.refl _ _).drew))
            (first
              | (go_at_call 51; refine (hbr _).mono ?_; rintro e w' ⟨rfl, hb⟩))
          all_goals
            rename_i hH
            have HB := ahide hH.2
            clear hH
            go_wp2_with fail
            go_ret
            exact ⟨by rw [HE.out]; rfl, HB.out⟩
        · have HE : Hid (grE L H N P M R = 3) := by show _ = _; rw [hE, hf, decide_eq_false c3]; rfl
          have d3 : decide (H - L < 2 * (N + k)) = true := decide_eq_true (by omega)
          clear hE hf hg
          go_enter Try.func78, Try.ntmps78
          go_upto_region 5 with (go_at_call 95; refine (hin _).mono ?_; rintro e w1 ⟨rfl, hb1⟩; have HX := ahide (HX.out.later hb1); obtain ⟨⟨q0, q1, q2, q3, q4, q5⟩, _⟩ := HX.out; clear hb1)
          obtain ⟨⟨q0, q1, q2, q3, q4, q5⟩, _⟩ := HX.out
          have S0 : (w1.cell? ⟨w.heap.size, 0, none⟩ = some (.int .i64 L) ∧ w1.cell? ⟨w.heap.size, 1, none⟩ = some (.int .i64 H) ∧ w1.cell? ⟨w.heap.size, 2, none⟩ = some (.int .i64 N) ∧ w1.cell? ⟨w.heap.size, 3, none⟩ = some (.int .i64 P) ∧ w1.cell? ⟨w.heap.size, 4, none⟩ = some (.int .i64 M) ∧ w1.cell? ⟨w.heap.size, 5, none⟩ = some (.int .i64 R)) ∧ Below w.heap.size w w1 := HX.out
          have Z := ahide S0
          go_region_held3 (fun u => (u.cell? ⟨w.heap.size, 0, none⟩ = some (.int .i64 L) ∧ u.cell? ⟨w.heap.size, 1, none⟩ = some (.int .i64 H) ∧ u.cell? ⟨w.heap.size, 2, none⟩ = some (.int .i64 N) ∧ u.cell? ⟨w.heap.size, 3, none⟩ = some (.int .i64 P) ∧ u.cell? ⟨w.heap.size, 4, none⟩ = some (.int .i64 M) ∧ u.cell? ⟨w.heap.size, 5, none⟩ = some (.int .i64 R)) ∧ Below w.heap.size w u)
            (first
              | (with_reducible assumption)
              | (with_reducible apply keepGB; with_reducible assumption; with_reducible assumption)
              | (refine keepGB ?_ Z.out; exact (Below.refl _ _).drew))
            (first
              | (go_at_call 51; refine (hbr _).mono ?_; rintro e w' ⟨rfl, hb⟩))
          all_goals
            rename_i hH
            have HB := ahide hH.2
            clear hH
            go_wp2_with fail
            go_ret
            exact ⟨by rw [HE.out]; rfl, HB.out⟩
      · have HE : Hid (grE L H N P M R = 3) := by show _ = _; rw [hE]; unfold gfB; rw [decide_eq_false c2]; simp
        clear hE hg
        go_enter Try.func78, Try.ntmps78
        go_wp2_with (go_at_call 95; refine (hin _).mono ?_; rintro e w1 ⟨rfl, hb1⟩; have HX := ahide (HX.out.later hb1); obtain ⟨⟨q0, q1, q2, q3, q4, q5⟩, _⟩ := HX.out; clear hb1)
        go_ret
        exact ⟨by rw [HE.out]; rfl, HX.out.2⟩
    · have HE : Hid (grE L H N P M R = 3) := by show _ = _; rw [hE]; unfold gfB; rw [decide_eq_false c1]; simp
      clear hE hg
      go_enter Try.func78, Try.ntmps78
      go_wp2_with (go_at_call 95; refine (hin _).mono ?_; rintro e w1 ⟨rfl, hb1⟩; have HX := ahide (HX.out.later hb1); obtain ⟨⟨q0, q1, q2, q3, q4, q5⟩, _⟩ := HX.out; clear hb1)
      go_ret
      exact ⟨by rw [HE.out]; rfl, HX.out.2⟩
  · have hg' : grB L H N P M R = false := by simpa using hg
    rw [hg'] at hin hE
    have HE : Hid (grE L H N P M R = 1) := hE
    clear hE hg hg'
    go_enter Try.func78, Try.ntmps78
    go_wp2_with (go_at_call 95; refine (hin _).mono ?_; rintro e w1 ⟨rfl, hb1⟩; have HX := ahide (HX.out.later hb1); obtain ⟨⟨q0, q1, q2, q3, q4, q5⟩, _⟩ := HX.out; clear hb1)
    go_ret
    exact ⟨by rw [HE.out]; rfl, HX.out.2⟩

end Go.Proofs.Ythijegfacnjooaa
