import Derived.RegionTactic
import Derived.ChangeAlike
import Derived.Deep.QuietTactic
import Derived.BigQuiet
import Derived.Deep.RegionHeld3
import Derived.Deep.CutRange
import Derived.Test.YtnfdfiholcelaaaGreatDoorJe00
import Derived.Test.YtnfdfiholcelaaaGreatDoorJe01
import Derived.Test.YtnfdfiholcelaaaGreatDoorJe12
set_option maxRecDepth 100000
set_option maxHeartbeats 20000000
namespace Go.Proofs.YtnfdfiholcelaaaGreatDoor
open Go.RowKit Plain Tryz
theorem guardMay_no (L H N P M R : Int) (hg : grB L H N P M R = false) (w : World) :
 Calls prog 139 #[.agg #[Vi L, Vi H, Vi N, Vi P, Vi M, Vi R]] w fun e w' => e = .returned (Vi 1) ∧ Below w.heap.size w w' := by
 have f1 := Zai L (-100000) 100000; have f2 := Zai H (-100000) 100000; have f3 := Zai N 0 1000; have f4 := Zai P 0 2000; have f5 := Zai M 1 4000; have f6 := Zai R 1 M; rw [grB_eq] at hg; generalize betw L (-100000) 100000 = x1 at *; generalize betw H (-100000) 100000 = x2 at *; generalize betw N 0 1000 = x3 at *; generalize betw P 0 2000 = x4 at *; generalize betw M 1 4000 = x5 at *; generalize betw R 1 M = x6 at *
 rcases (show (x1 = false) ∨ (x1 = true ∧ x2 = false) ∨ (x1 = true ∧ x2 = true ∧ x3 = false) ∨ (x1 = true ∧ x2 = true ∧ x3 = true ∧ x4 = false) ∨ (x1 = true ∧ x2 = true ∧ x3 = true ∧ x4 = true ∧ x5 = false) ∨ (x1 = true ∧ x2 = true ∧ x3 = true ∧ x4 = true ∧ x5 = true ∧ x6 = false) by cases x1 <;> cases x2 <;> cases x3 <;> cases x4 <;> cases x5 <;> cases x6 <;> simp_all) with rfl | ⟨rfl, rfl⟩ | ⟨rfl, rfl, rfl⟩ | ⟨rfl, rfl, rfl, rfl⟩ | ⟨rfl, rfl, rfl, rfl, rfl⟩ | ⟨rfl, rfl, rfl, rfl, rfl, rfl⟩
 all_goals
  clear hg
  go_enter func139, ntmps139
  go_wp2_with (first | ((first | go_at_call_of 38 (Vi R) | go_at_call_of 38 (Value.int .i64 R)); refine (f6 _).mono ?_; rintro e w' ⟨rfl, rfl⟩) | ((first | go_at_call_of 38 (Vi M) | go_at_call_of 38 (Value.int .i64 M)); refine (f5 _).mono ?_; rintro e w' ⟨rfl, rfl⟩) | ((first | go_at_call_of 38 (Vi P) | go_at_call_of 38 (Value.int .i64 P)); refine (f4 _).mono ?_; rintro e w' ⟨rfl, rfl⟩) | ((first | go_at_call_of 38 (Vi N) | go_at_call_of 38 (Value.int .i64 N)); refine (f3 _).mono ?_; rintro e w' ⟨rfl, rfl⟩) | ((first | go_at_call_of 38 (Vi H) | go_at_call_of 38 (Value.int .i64 H)); refine (f2 _).mono ?_; rintro e w' ⟨rfl, rfl⟩) | ((first | go_at_call_of 38 (Vi L) | go_at_call_of 38 (Value.int .i64 L)); refine (f1 _).mono ?_; rintro e w' ⟨rfl, rfl⟩)); go_ret; exact ⟨rfl, Zaa _ _⟩
theorem guardMay_yes (L H N P M R : Int) (hg : grB L H N P M R = true) (w : World) :
 Calls prog 139 #[.agg #[Vi L, Vi H, Vi N, Vi P, Vi M, Vi R]] w fun e w' => e = .returned (Vi (grE L H N P M R)) ∧ Below w.heap.size w w' := by
 have hE : grE L H N P M R = if gfB L H N P M R then 0 else 3 := by unfold grE; rw [if_pos hg]
 obtain ⟨l0, l1, h0, h1, n0, n1, p0, p1, m0, m1, r0, r1⟩ := grB_true hg; have f1 := Zai L (-100000) 100000; have f2 := Zai H (-100000) 100000; have f3 := Zai N 0 1000; have f4 := Zai P 0 2000; have f5 := Zai M 1 4000; have f6 := Zai R 1 M; rw [Zbz l0 l1] at f1; rw [Zbz h0 h1] at f2; rw [Zbz n0 n1] at f3; rw [Zbz p0 p1] at f4; rw [Zbz m0 m1] at f5; rw [Zbz r0 r1] at f6; have HX := Zab (GB.new w L H N P M R); clear hg
 by_cases c1 : P ≤ M
 · by_cases c2 : P ≤ R
   · have hbr := fun w => (Zef L H N P M R M p0 p1 r0 (by omega) (by omega) (by omega) w).mono (fun e w' h => (⟨h.1, by rw [h.2]; exact Zaa _ _⟩ : e = _ ∧ Below w.heap.size w w')); have hk := bk_lt (R := R) (f := M + P) (by omega) (by omega); have hk0 := Zbm R (M + P)
     have hf : gfB L H N P M R = decide (2 * (N + bk R (M + P)) ≤ H - L) := by unfold gfB; rw [decide_eq_true c1, decide_eq_true c2]; rfl
     generalize bk R (M + P) = k at *; have v1 := Wr (N + k); have v2 := Wr (2 * (N + k)); have v3 := Wr (H - L); have d1 : decide (M < P) = false := decide_eq_false (by omega); have d2 : decide (R < P) = false := decide_eq_false (by omega)
     by_cases c3 : 2 * (N + k) ≤ H - L
     · have HE : Hid (grE L H N P M R = 0) := by show _ = _; rw [hE, hf, decide_eq_true c3]; rfl
       have d3 : decide (H - L < 2 * (N + k)) = false := decide_eq_false (by omega); clear hE hf
       go_enter func139, ntmps139
       go_upto_region 4 with (first | ((first | go_at_call_of 38 (Vi R) | go_at_call_of 38 (Value.int .i64 R)); refine (f6 _).mono ?_; rintro e w' ⟨rfl, rfl⟩) | ((first | go_at_call_of 38 (Vi M) | go_at_call_of 38 (Value.int .i64 M)); refine (f5 _).mono ?_; rintro e w' ⟨rfl, rfl⟩) | ((first | go_at_call_of 38 (Vi P) | go_at_call_of 38 (Value.int .i64 P)); refine (f4 _).mono ?_; rintro e w' ⟨rfl, rfl⟩) | ((first | go_at_call_of 38 (Vi N) | go_at_call_of 38 (Value.int .i64 N)); refine (f3 _).mono ?_; rintro e w' ⟨rfl, rfl⟩) | ((first | go_at_call_of 38 (Vi H) | go_at_call_of 38 (Value.int .i64 H)); refine (f2 _).mono ?_; rintro e w' ⟨rfl, rfl⟩) | ((first | go_at_call_of 38 (Vi L) | go_at_call_of 38 (Value.int .i64 L)); refine (f1 _).mono ?_; rintro e w' ⟨rfl, rfl⟩)); generalize w.alloc (.cells #[Vi L, Vi H, Vi N, Vi P, Vi M, Vi R] 99) = w1 at *; obtain ⟨⟨q0, q1, q2, q3, q4, q5⟩, _⟩ := HX.out; have S0 : (w1.cell? (Ad w.heap.size 0) = some (Vi L) ∧ w1.cell? (Ad w.heap.size 1) = some (Vi H) ∧ w1.cell? (Ad w.heap.size 2) = some (Vi N) ∧ w1.cell? (Ad w.heap.size 3) = some (Vi P) ∧ w1.cell? (Ad w.heap.size 4) = some (Vi M) ∧ w1.cell? (Ad w.heap.size 5) = some (Vi R)) ∧ Below w.heap.size w w1 := HX.out; have Z := Zab S0
       go_region_held3 (fun u => (u.cell? (Ad w.heap.size 0) = some (Vi L) ∧ u.cell? (Ad w.heap.size 1) = some (Vi H) ∧ u.cell? (Ad w.heap.size 2) = some (Vi N) ∧ u.cell? (Ad w.heap.size 3) = some (Vi P) ∧ u.cell? (Ad w.heap.size 4) = some (Vi M) ∧ u.cell? (Ad w.heap.size 5) = some (Vi R)) ∧ Below w.heap.size w u)
        (first
         | (with_reducible assumption)
         | (with_reducible apply keepGB; with_reducible assumption; with_reducible assumption)
         | (refine keepGB ?_ Z.out; exact (Below.refl _ _).drew))
        (first
         | (go_at_call 39; refine Sb (hbr _) fun w' hb => ?_)
         | (go_at_call 14; refine (Zea _ _ _).mono ?_; rintro e w' ⟨rfl, rfl⟩))
       all_goals
        rename_i hH
        have HB := Zab hH.2; clear hH; go_wp2_with fail; go_ret; exact ⟨by rw [HE.out]; rfl, HB.out⟩
     · have HE : Hid (grE L H N P M R = 3) := by show _ = _; rw [hE, hf, decide_eq_false c3]; rfl
       have d3 : decide (H - L < 2 * (N + k)) = true := decide_eq_true (by omega); clear hE hf
       go_enter func139, ntmps139
       go_upto_region 4 with (first | ((first | go_at_call_of 38 (Vi R) | go_at_call_of 38 (Value.int .i64 R)); refine (f6 _).mono ?_; rintro e w' ⟨rfl, rfl⟩) | ((first | go_at_call_of 38 (Vi M) | go_at_call_of 38 (Value.int .i64 M)); refine (f5 _).mono ?_; rintro e w' ⟨rfl, rfl⟩) | ((first | go_at_call_of 38 (Vi P) | go_at_call_of 38 (Value.int .i64 P)); refine (f4 _).mono ?_; rintro e w' ⟨rfl, rfl⟩) | ((first | go_at_call_of 38 (Vi N) | go_at_call_of 38 (Value.int .i64 N)); refine (f3 _).mono ?_; rintro e w' ⟨rfl, rfl⟩) | ((first | go_at_call_of 38 (Vi H) | go_at_call_of 38 (Value.int .i64 H)); refine (f2 _).mono ?_; rintro e w' ⟨rfl, rfl⟩) | ((first | go_at_call_of 38 (Vi L) | go_at_call_of 38 (Value.int .i64 L)); refine (f1 _).mono ?_; rintro e w' ⟨rfl, rfl⟩)); generalize w.alloc (.cells #[Vi L, Vi H, Vi N, Vi P, Vi M, Vi R] 99) = w1 at *; obtain ⟨⟨q0, q1, q2, q3, q4, q5⟩, _⟩ := HX.out; have S0 : (w1.cell? (Ad w.heap.size 0) = some (Vi L) ∧ w1.cell? (Ad w.heap.size 1) = some (Vi H) ∧ w1.cell? (Ad w.heap.size 2) = some (Vi N) ∧ w1.cell? (Ad w.heap.size 3) = some (Vi P) ∧ w1.cell? (Ad w.heap.size 4) = some (Vi M) ∧ w1.cell? (Ad w.heap.size 5) = some (Vi R)) ∧ Below w.heap.size w w1 := HX.out; have Z := Zab S0
       go_region_held3 (fun u => (u.cell? (Ad w.heap.size 0) = some (Vi L) ∧ u.cell? (Ad w.heap.size 1) = some (Vi H) ∧ u.cell? (Ad w.heap.size 2) = some (Vi N) ∧ u.cell? (Ad w.heap.size 3) = some (Vi P) ∧ u.cell? (Ad w.heap.size 4) = some (Vi M) ∧ u.cell? (Ad w.heap.size 5) = some (Vi R)) ∧ Below w.heap.size w u)
        (first
         | (with_reducible assumption)
         | (with_reducible apply keepGB; with_reducible assumption; with_reducible assumption)
         | (refine keepGB ?_ Z.out; exact (Below.refl _ _).drew))
        (first
         | (go_at_call 39; refine Sb (hbr _) fun w' hb => ?_)
         | (go_at_call 14; refine (Zea _ _ _).mono ?_; rintro e w' ⟨rfl, rfl⟩))
       all_goals
        rename_i hH
        have HB := Zab hH.2; clear hH; go_wp2_with fail; go_ret; exact ⟨by rw [HE.out]; rfl, HB.out⟩
   · have HE : Hid (grE L H N P M R = 3) := by show _ = _; rw [hE]; unfold gfB; rw [decide_eq_false c2]; simp
     have d1 : decide (M < P) = false := decide_eq_false (by omega); have d2 : decide (R < P) = true := decide_eq_true (by omega); clear hE
     go_enter func139, ntmps139
     go_upto_region 4 with (first | ((first | go_at_call_of 38 (Vi R) | go_at_call_of 38 (Value.int .i64 R)); refine (f6 _).mono ?_; rintro e w' ⟨rfl, rfl⟩) | ((first | go_at_call_of 38 (Vi M) | go_at_call_of 38 (Value.int .i64 M)); refine (f5 _).mono ?_; rintro e w' ⟨rfl, rfl⟩) | ((first | go_at_call_of 38 (Vi P) | go_at_call_of 38 (Value.int .i64 P)); refine (f4 _).mono ?_; rintro e w' ⟨rfl, rfl⟩) | ((first | go_at_call_of 38 (Vi N) | go_at_call_of 38 (Value.int .i64 N)); refine (f3 _).mono ?_; rintro e w' ⟨rfl, rfl⟩) | ((first | go_at_call_of 38 (Vi H) | go_at_call_of 38 (Value.int .i64 H)); refine (f2 _).mono ?_; rintro e w' ⟨rfl, rfl⟩) | ((first | go_at_call_of 38 (Vi L) | go_at_call_of 38 (Value.int .i64 L)); refine (f1 _).mono ?_; rintro e w' ⟨rfl, rfl⟩)); generalize w.alloc (.cells #[Vi L, Vi H, Vi N, Vi P, Vi M, Vi R] 99) = w1 at *; obtain ⟨⟨q0, q1, q2, q3, q4, q5⟩, _⟩ := HX.out; go_quiet ((go_at_call 14; exact Calls.quiet_of_same (Zea _ _ _))); go_wp2; go_ret; exact ⟨by rw [HE.out]; rfl, Zac HX.out.2 (below_drewN (Below.refl _ _) _)⟩
 · have HE : Hid (grE L H N P M R = 3) := by show _ = _; rw [hE]; unfold gfB; rw [decide_eq_false c1]; simp
   have d1 : decide (M < P) = true := decide_eq_true (by omega); clear hE
   go_enter func139, ntmps139
   go_upto_region 4 with (first | ((first | go_at_call_of 38 (Vi R) | go_at_call_of 38 (Value.int .i64 R)); refine (f6 _).mono ?_; rintro e w' ⟨rfl, rfl⟩) | ((first | go_at_call_of 38 (Vi M) | go_at_call_of 38 (Value.int .i64 M)); refine (f5 _).mono ?_; rintro e w' ⟨rfl, rfl⟩) | ((first | go_at_call_of 38 (Vi P) | go_at_call_of 38 (Value.int .i64 P)); refine (f4 _).mono ?_; rintro e w' ⟨rfl, rfl⟩) | ((first | go_at_call_of 38 (Vi N) | go_at_call_of 38 (Value.int .i64 N)); refine (f3 _).mono ?_; rintro e w' ⟨rfl, rfl⟩) | ((first | go_at_call_of 38 (Vi H) | go_at_call_of 38 (Value.int .i64 H)); refine (f2 _).mono ?_; rintro e w' ⟨rfl, rfl⟩) | ((first | go_at_call_of 38 (Vi L) | go_at_call_of 38 (Value.int .i64 L)); refine (f1 _).mono ?_; rintro e w' ⟨rfl, rfl⟩)); generalize w.alloc (.cells #[Vi L, Vi H, Vi N, Vi P, Vi M, Vi R] 99) = w1 at *; obtain ⟨⟨q0, q1, q2, q3, q4, q5⟩, _⟩ := HX.out; go_quiet ((go_at_call 14; exact Calls.quiet_of_same (Zea _ _ _))); go_wp2; go_ret; exact ⟨by rw [HE.out]; rfl, Zac HX.out.2 (below_drewN (Below.refl _ _) _)⟩
theorem guardMay_any (L H N P M R : Int) (w : World) :
 Calls prog 139 #[.agg #[Vi L, Vi H, Vi N, Vi P, Vi M, Vi R]] w fun e w' => e = .returned (Vi (grE L H N P M R)) ∧ Below w.heap.size w w' := by
 by_cases hg : grB L H N P M R = true
 · exact guardMay_yes L H N P M R hg w
 · have hg' : grB L H N P M R = false := by simpa using hg
   rw [show grE L H N P M R = 1 by unfold grE; rw [if_neg hg]]; exact guardMay_no L H N P M R hg' w
def gmE (L H N P M R s : Int) : Int := if grE L H N P M R = 0 then (if betw s (-M) M then 0 else 1) else grE L H N P M R
theorem checkMove_any (L H N P M R s : Int) (w : World) :
 Calls prog 241 #[.agg #[Vi L, Vi H, Vi N, Vi P, Vi M, Vi R], Vi s] w fun e w' => e = .returned (errV (gmE L H N P M R s)) ∧ Below w.heap.size w w' := by
 have hc := Zgh L H N P M R; have HX := Zab (GB.new w L H N P M R)
 by_cases he : grE L H N P M R = 0
 · have hE : gmE L H N P M R s = if betw s (-M) M then 0 else 1 := by unfold gmE; rw [if_pos he]
   rw [he, Zaq] at hc; obtain ⟨⟨l0, l1, h0, h1, n0, n1, p0, p1, m0, m1, r0, r1⟩, pm, pr, room⟩ := grE_ok he; have f1 := Zca s (-M) M; clear he room; generalize betw s (-M) M = x1 at *
   cases x1
   · have HE : Hid (gmE L H N P M R s = 1) := hE; clear hE
     go_enter func241, ntmps241
     go_wp2_with (first | (go_at_call 182; refine Sb (hc _) fun w1 hb1 => ?_; have HX := Zab (HX.out.later hb1); obtain ⟨⟨q0, q1, q2, q3, q4, q5⟩, _⟩ := HX.out; clear hb1) | (go_at_call 76; refine Sb (f1 _) fun w2 hb2 => ?_; have HX := Zab (HX.out.later hb2); obtain ⟨⟨q0, q1, q2, q3, q4, q5⟩, _⟩ := HX.out; clear hb2)); go_ret; exact ⟨by rw [HE.out]; rfl, HX.out.2⟩
   · have HE : Hid (gmE L H N P M R s = 0) := hE; clear hE
     go_enter func241, ntmps241
     go_wp2_with (first | (go_at_call 182; refine Sb (hc _) fun w1 hb1 => ?_; have HX := Zab (HX.out.later hb1); obtain ⟨⟨q0, q1, q2, q3, q4, q5⟩, _⟩ := HX.out; clear hb1) | (go_at_call 76; refine Sb (f1 _) fun w2 hb2 => ?_; have HX := Zab (HX.out.later hb2); obtain ⟨⟨q0, q1, q2, q3, q4, q5⟩, _⟩ := HX.out; clear hb2)); go_ret; exact ⟨by rw [HE.out]; rfl, HX.out.2⟩
 · have hE : gmE L H N P M R s = grE L H N P M R := by unfold gmE; rw [if_neg he]
   rw [hE]; rw [Zbc he] at hc ⊢; clear hE; generalize grE L H N P M R = x at *; clear he
   go_enter func241, ntmps241
   go_wp2_with (go_at_call 182; refine Sb (hc _) fun w1 hb1 => ?_; have HX := Zab (HX.out.later hb1); obtain ⟨⟨q0, q1, q2, q3, q4, q5⟩, _⟩ := HX.out; clear hb1); go_ret; exact ⟨rfl, HX.out.2⟩
def heB (c s n : Int) : Bool := betw c 0 3 && betw n 1 4 && betw s 0 n
def heE (c s n : Int) : Int := if heB c s n then 0 else 1
theorem heB_true {c s n : Int} (h : heB c s n = true) : (0 ≤ c ∧ c ≤ 3) ∧ (1 ≤ n ∧ n ≤ 4) ∧ 0 ≤ s ∧ s ≤ n := by
 simp only [heB, Bool.and_eq_true] at h; exact ⟨Zal h.1.1, Zal h.1.2, Zal h.2⟩
theorem heE_zero {c s n : Int} (h : heE c s n = 0) : heB c s n = true := by
 unfold heE at h; split at h
 · assumption
 · omega
def lawI (c s n : Int) : Int := if s = 0 then 3 else if c < 2 then 2 else if s + 2 ≤ n then 2 else if s < n then 1 else 0
def mxL (a b : Int) : Int := if a < b then b else a
theorem lwrun_max2 (ts : Array TypeId) (t : TypeId) (p q : Int) (w : World) : (Builtin.max_ ts t #[Vi p, Vi q]).run prog w = .ok (Vi (mxL p q)) w := by
 unfold mxL
 by_cases h : p < q
 · rw [if_pos h]; simp [Builtin.max_, Builtin.max2, h]
 · rw [if_neg h]; simp [Builtin.max_, Builtin.max2, h]
theorem lawCheck_any (c s n : Int) (w : World) :
 Calls prog 162 #[.agg #[Vi c, Vi s, Vi n]] w fun e w' => e = .returned (errV (heE c s n)) ∧ Below w.heap.size w w' := by
 have f1 := Zav c 0 3; have f2 := Zav n 1 4; have f3 := Zav s 0 n
 unfold heE heB
 generalize betw c 0 3 = x1 at *; generalize betw n 1 4 = x2 at *; generalize betw s 0 n = x3 at *
 rcases (show x1 = false ∨ (x1 = true ∧ x2 = false) ∨ (x1 = true ∧ x2 = true ∧ x3 = false) ∨ (x1 = true ∧ x2 = true ∧ x3 = true) by cases x1 <;> cases x2 <;> cases x3 <;> simp) with rfl | ⟨rfl, rfl⟩ | ⟨rfl, rfl, rfl⟩ | ⟨rfl, rfl, rfl⟩
 all_goals
  go_enter func162, ntmps162
  go_wp2_with (first | ((first | go_at_call_of 76 (Vi s) | go_at_call_of 76 (Value.int .i64 s)); refine (f3 _).mono ?_; rintro e w' ⟨rfl, rfl⟩) | ((first | go_at_call_of 76 (Vi n) | go_at_call_of 76 (Value.int .i64 n)); refine (f2 _).mono ?_; rintro e w' ⟨rfl, rfl⟩) | ((first | go_at_call_of 76 (Vi c) | go_at_call_of 76 (Value.int .i64 c)); refine (f1 _).mono ?_; rintro e w' ⟨rfl, rfl⟩)); go_ret; exact ⟨rfl, by repeat (first | exact Zaa _ _ | refine Zac ?_ (Zaa _ _))⟩
theorem worse_any (a b : Int) (w : World) :
 Calls prog 163 #[Vi a, Vi b] w fun e w' => e = .returned (Vi (mxL a b)) ∧ w' = w := by
 have hx := fun ts t p q w => lwrun_max2 ts t p q w
 go_enter func163, ntmps163
 go_wp2; go_ret; exact ⟨rfl, rfl⟩
theorem asked_any (c s n : Int) (h : heB c s n = true) (w : World) :
 Calls prog 164 #[.agg #[Vi c, Vi s, Vi n]] w fun e w' => e = .returned (Vi (lawI c s n)) ∧ Below w.heap.size w w' := by
 obtain ⟨⟨c0, c1⟩, ⟨n0, n1⟩, s0, s1⟩ := heB_true h
 unfold lawI
 by_cases h1 : s = 0
 · rw [if_pos h1]; subst h1; clear h
   go_enter func164, ntmps164
   go_wp2; go_ret; exact ⟨rfl, Zaa _ _⟩
 · rw [if_neg h1]
   have h1' : (s == 0) = false := by simpa using h1
   by_cases h2 : c < 2
   · rw [if_pos h2]; clear h
     go_enter func164, ntmps164
     go_wp2; go_ret; exact ⟨rfl, Zaa _ _⟩
   · rw [if_neg h2]
     by_cases h3 : s + 2 ≤ n
     · rw [if_pos h3]; clear h
       have h4 : 1 < n - s := by omega
       go_enter func164, ntmps164
       go_wp2; go_ret; exact ⟨rfl, Zaa _ _⟩
     · rw [if_neg h3]
       have h4 : ¬ 1 < n - s := by omega
       by_cases h5 : s < n
       · rw [if_pos h5]; clear h
         have h6 : (n - s == 1) = true := by simp; omega
         go_enter func164, ntmps164
         go_wp2; go_ret; exact ⟨rfl, Zaa _ _⟩
       · rw [if_neg h5]; clear h
         have h6 : (n - s == 1) = false := by simp; omega
         go_enter func164, ntmps164
         go_wp2; go_ret; exact ⟨rfl, Zaa _ _⟩
theorem Zfi (x : Int) (w : World) :
 Calls prog 165 #[Vi x] w fun e w' => e = .returned (.bool (betw x 0 3)) ∧ Below w.heap.size w w' := by
 go_enter func165, ntmps165
 go_wp2_with (go_at_call 76; refine (Zav _ _ _ _).mono ?_; rintro e w' ⟨rfl, rfl⟩); go_ret; exact ⟨rfl, Zaa _ _⟩
def neE (a b : Int) : Int := if betw a 0 3 && betw b 0 3 then 0 else 1
def neI (a b : Int) (g : Bool) : Int := if betw a 0 3 && betw b 0 3 then (if g then b else mxL a b) else 0
theorem next_any (a b : Int) (g : Bool) (w : World) :
 Calls prog 111 #[Vi a, Vi b, .bool g] w fun e w' => e = .returned (.tuple #[Vi (neI a b g), errV (neE a b)]) ∧ Below w.heap.size w w' := by
 have f1 := Zfi a; have f2 := Zfi b; have f3 := worse_any a b
 unfold neE neI
 generalize betw a 0 3 = x1 at *; generalize betw b 0 3 = x2 at *; generalize mxL a b = m at *
 cases x1
 · simp only [Bool.false_and, Bool.false_eq_true, if_false]
   go_enter func111, ntmps111
   go_wp2_with (go_at_call 165; refine Sb (f1 _) fun w1 hb1 => ?_); go_ret2; exact ⟨rfl, hb1⟩
 · cases x2
   · simp only [Bool.and_false, Bool.false_eq_true, if_false]
     go_enter func111, ntmps111
     go_wp2_with (first | ((first | go_at_call_of 165 (Vi b) | go_at_call_of 165 (Value.int .i64 b)); refine Sb (f2 _) fun w2 hb2 => ?_) | ((first | go_at_call_of 165 (Vi a) | go_at_call_of 165 (Value.int .i64 a)); refine Sb (f1 _) fun w1 hb1 => ?_)); go_ret2; exact ⟨rfl, Zac hb1 hb2⟩
   · simp only [Bool.and_self, if_true]
     cases g
     · simp only [Bool.false_eq_true, if_false]
       go_enter func111, ntmps111
       go_wp2_with (first | ((first | go_at_call_of 165 (Vi b) | go_at_call_of 165 (Value.int .i64 b)); refine Sb (f2 _) fun w2 hb2 => ?_) | ((first | go_at_call_of 165 (Vi a) | go_at_call_of 165 (Value.int .i64 a)); refine Sb (f1 _) fun w1 hb1 => ?_) | (go_at_call 163; refine (f3 _).mono ?_; rintro e w' ⟨rfl, rfl⟩)); go_ret2; exact ⟨rfl, Zac hb1 hb2⟩
     · simp only [if_true]
       go_enter func111, ntmps111
       go_wp2_with (first | ((first | go_at_call_of 165 (Vi b) | go_at_call_of 165 (Value.int .i64 b)); refine Sb (f2 _) fun w2 hb2 => ?_) | ((first | go_at_call_of 165 (Vi a) | go_at_call_of 165 (Value.int .i64 a)); refine Sb (f1 _) fun w1 hb1 => ?_)); go_ret2; exact ⟨rfl, Zac hb1 hb2⟩
theorem Zgr (x : Int) (w : World) :
 Calls prog 216 #[Vi x] w fun e w' => e = .returned (.bool (betw x 0 1)) ∧ w' = w := by
 by_cases h0 : x = 0
 · subst h0
   go_enter func216, ntmps216
   go_wp2; go_ret; exact ⟨rfl, rfl⟩
 · have h0' : (x == 0) = false := by simpa using h0
   have e : betw x 0 1 = (x == 1) := by
    unfold betw
    by_cases h1 : x = 1
    · subst h1; rfl
    · have h2 : (x == 1) = false := by simpa using h1
      rw [h2]; simp; omega
   rw [e]
   go_enter func216, ntmps216
   go_wp2; go_ret; exact ⟨by simp, rfl⟩
theorem Zhe (x : Int) (h1 : -4611686018427387904 ≤ x) (h2 : x ≤ 4611686018427387904) (w : World) : Calls prog 195 #[Vi x] w fun e w' => e = .returned (Vi (max x (-x))) ∧ w' = w := by
 by_cases h : x < 0
 · have e : max x (-x) = -x := by omega
   rw [e]
   have g : x < -x := by omega
   go_enter func195, ntmps195
   go_wp2; go_ret; exact ⟨rfl, rfl⟩
 · have e : max x (-x) = x := by omega
   rw [e]
   have g : ¬ x < -x := by omega
   go_enter func195, ntmps195
   go_wp2; go_ret; exact ⟨rfl, rfl⟩
theorem fnearest_any (n d : Int) (h0 : -4611686014132420609 ≤ n) (h1 : n ≤ 4611686014132420609) (d0 : -2147483647 ≤ d) (d1 : d ≤ 2147483647) (hd : d ≠ 0) (w : World) :
 Calls prog 138 #[Vi n, Vi d] w fun e w' => e = .returned (Vi (Zei n d)) ∧ w' = w.drew := by
 have q := tdiv_bd n d 4611686014132420609 h0 h1; have r := tmod_bd n d 2147483647 hd d0 d1; obtain ⟨q0, q1⟩ := q; obtain ⟨r0, r1⟩ := r
 have hd' : (d == 0) = false := by simpa using hd
 by_cases c1 : 2 * max (n.tmod d) (-(n.tmod d)) < max d (-d)
 · have e : Zei n d = n.tdiv d := by unfold Zei; rw [if_pos c1]
   rw [e]; clear e
   go_enter func138, ntmps138
   go_wp2
   go_region
   go_wp2_with (go_at_call 195; refine (Zhe _ (by omega) (by omega) _).mono ?_; rintro e w' ⟨rfl, rfl⟩); go_ret; exact ⟨rfl, rfl⟩
 · by_cases c2 : n < 0
   · by_cases c3 : d < 0
     · have e : Zei n d = n.tdiv d + 1 := by unfold Zei; rw [if_neg c1, decide_eq_true c2, decide_eq_true c3]; rfl
       rw [e]; clear e
       go_enter func138, ntmps138
       go_wp2
       go_region
       go_wp2_with (go_at_call 195; refine (Zhe _ (by omega) (by omega) _).mono ?_; rintro e w' ⟨rfl, rfl⟩); go_ret; exact ⟨rfl, rfl⟩
     · have e : Zei n d = n.tdiv d - 1 := by unfold Zei; rw [if_neg c1, decide_eq_true c2, decide_eq_false c3]; rfl
       rw [e]; clear e; have c3' : decide (d < 0) = false := decide_eq_false c3
       go_enter func138, ntmps138
       go_wp2
       go_region
       go_wp2_with (go_at_call 195; refine (Zhe _ (by omega) (by omega) _).mono ?_; rintro e w' ⟨rfl, rfl⟩); go_ret; exact ⟨rfl, rfl⟩
   · by_cases c3 : d < 0
     · have e : Zei n d = n.tdiv d - 1 := by unfold Zei; rw [if_neg c1, decide_eq_false c2, decide_eq_true c3]; rfl
       rw [e]; clear e; have c2' : decide (n < 0) = false := decide_eq_false c2
       have hn : 0 ≤ n := by omega
       rw [Int.tmod_eq_emod_of_nonneg hn] at c1 r0 r1
       go_enter func138, ntmps138
       go_wp2
       go_region
       go_wp2_with (go_at_call 195; refine (Zhe _ (by omega) (by omega) _).mono ?_; rintro e w' ⟨rfl, rfl⟩); go_ret; exact ⟨rfl, rfl⟩
     · have e : Zei n d = n.tdiv d + 1 := by unfold Zei; rw [if_neg c1, decide_eq_false c2, decide_eq_false c3]; rfl
       rw [e]; clear e; have c2' : decide (n < 0) = false := decide_eq_false c2; have c3' : decide (d < 0) = false := decide_eq_false c3
       have hn : 0 ≤ n := by omega
       rw [Int.tmod_eq_emod_of_nonneg hn] at c1 r0 r1; rw [Int.tdiv_eq_ediv_of_nonneg hn] at q0 q1 ⊢
       go_enter func138, ntmps138
       go_wp2
       go_region
       go_wp2_with (go_at_call 195; refine (Zhe _ (by omega) (by omega) _).mono ?_; rintro e w' ⟨rfl, rfl⟩); go_ret; exact ⟨rfl, rfl⟩
theorem fixMul_any (a b : Int) (w : World) : Calls prog 85 #[Vi a, Vi b] w fun e w' => e = .returned (Vi (mulI a b)) ∧ w' = w.drew := by
 have m := mul_bd (ofI_lo a) (ofI_hi a) (ofI_lo b) (ofI_hi b); obtain ⟨m0, m1⟩ := m; rw [← mul_near]
 go_enter func85, ntmps85
 go_wp2_with (first
  | (go_at_call 137; refine (Zhq _ _).mono ?_; rintro e w' ⟨rfl, rfl⟩)
  | (go_at_call 138; refine (fnearest_any _ _ (by omega) (by omega) (by omega) (by omega) (by omega) _).mono ?_; rintro e w' ⟨rfl, rfl⟩))
 go_ret; exact ⟨rfl, rfl⟩
def Lst (w : World) (a : Option Addr) (l : List Int) : Prop := l = [] ∨ ∃ b off, a = some (Ad b off) ∧ ∀ k, k < l.length → w.cell? (Ad b (off + k)) = some (Vi (at0 l k))
theorem Lst.later {w w' : World} {a : Option Addr} {l : List Int} (h : Lst w a l) (hb : Below w.heap.size w w') : Lst w' a l := by
 rcases h with h | ⟨b, off, h, hc⟩
 · exact .inl h
 · exact .inr ⟨b, off, h, fun k hk => cell_later hb (hc k hk)⟩
theorem Lst.at {w : World} {a : Option Addr} {l : List Int} (h : Lst w a l) (hn : l ≠ []) : ∃ b off, a = some (Ad b off) ∧ ∀ k, k < l.length → w.cell? (Ad b (off + k)) = some (Vi (at0 l k)) := by
 rcases h with h | h
 · exact absurd h hn
 · exact h
theorem Zbt {l : List Int} {k : Nat} (h : k < l.length) : l ≠ [] := by intro e; subst e; simp at h
theorem worth_any (a : Option Addr) (cap : Nat) (l : List Int) (w : World) (hm : l.length ≤ 9223372036854775807) (hc : Lst w a l) :
 Calls prog 197 #[.slice a l.length cap] w fun r w' => r = .returned (Vi (Zbe l)) ∧ w' = w := by
 have HC : Hid (Lst w a l) := hc; clear hc
 go_enter func197, ntmps197
 go_wp2
 go_loop [3] (fun i => ∃ k : Nat, k ≤ l.length ∧ i = Vi k ∧ Hid (Zbe l = Zbe (l.drop k))) (fun i => l.length - (intOf i).toNat)
 case atStart => exact ⟨0, Nat.zero_le _, rfl, by show Zbe l = Zbe (l.drop 0); rw [List.drop_zero]⟩
 case round =>
  obtain ⟨k, hk, rfl, hf⟩ := hrel
  by_cases hlt : k < l.length
  · obtain ⟨b, off, rfl, hcs⟩ := HC.out.at (Zbt hlt); have hcell := hcs k hlt; clear hcs; have hs := worth_step l k hlt; generalize at0 l k = z at hcell hs
    by_cases hz : Zba z = true
    · rw [if_pos hz] at hs; have HS : Hid (Zbe l = Zbe (l.drop (k + 1))) := hf.out.trans hs; clear hs hf
      go_wp2_with (go_at_call 38; refine (Zhu _ _).mono ?_; rintro e w' ⟨rfl, rfl⟩)
      go_round
      case rel => exact ⟨k + 1, by omega, by go_num, HS⟩
      case measure => simp [intOf]; omega
    · rw [if_neg hz] at hs; have HS : Hid (Zbe l = 1) := hf.out.trans hs
      have hz' : Zba z = false := by simpa using hz
      clear hs hf hz
      go_wp2_with (go_at_call 38; refine (Zhu _ _).mono ?_; rintro e w' ⟨rfl, rfl⟩); go_ret; exact ⟨by rw [HS.out]; rfl, rfl⟩
  · go_wp2; go_ret
    have : k = l.length := by omega
    subst this; exact ⟨by rw [hf.out, List.drop_length]; rfl, rfl⟩
def Zcm (l : List Int) : Nat → Int
 | 0 => -1
 | n + 1 => if Zba (at0 l (l.length - (n + 1))) then Zcm l n else ((l.length - (n + 1) : Nat) : Int)
theorem beyond_neg (l : List Int) : ∀ n, n ≤ l.length → (0 ≤ Zcm l n ↔ Zbe (l.drop (l.length - n)) = 1)
 | 0, _ => by simp [Zcm, Zbe]
 | n + 1, h => by
  have hs := worth_step l (l.length - (n + 1)) (by omega)
  have e : l.length - (n + 1) + 1 = l.length - n := by omega
  rw [e] at hs; rw [hs]; simp only [Zcm]
  split
  · rw [beyond_neg l n (by omega)]
  · simp
theorem index_any (a : Option Addr) (cap : Nat) (l : List Int) (w : World) (hm : l.length ≤ 9223372036854775807) (hc : Lst w a l) :
 Calls prog 283 #[.slice a l.length cap, .func (.func 266) #[] #[]] w fun r w' => r = .returned (Vi (Zcm l l.length)) ∧ w' = w := by
 have HC : Hid (Lst w a l) := hc; clear hc
 go_enter func283, ntmps283
 go_wp2
 go_loop [8] (fun i => ∃ k : Nat, k ≤ l.length ∧ i = Vi k ∧ Hid (Zcm l l.length = Zcm l (l.length - k))) (fun i => l.length - (intOf i).toNat)
 case atStart => exact ⟨0, Nat.zero_le _, rfl, rfl⟩
 case round =>
  obtain ⟨k, hk, rfl, hf⟩ := hrel
  by_cases hlt : k < l.length
  · obtain ⟨b, off, rfl, hcs⟩ := HC.out.at (Zbt hlt); have hcell := hcs k hlt; clear hcs
    have hs : Zcm l (l.length - k) = if Zba (at0 l k) then Zcm l (l.length - (k + 1)) else (k : Int) := by
     have e : l.length - k = (l.length - (k + 1)) + 1 := by omega
     have e2 : l.length - (l.length - (k + 1) + 1) = k := by omega
     rw [e]; simp only [Zcm, e2]
    generalize at0 l k = z at hcell hs
    by_cases hz : Zba z = true
    · rw [if_pos hz] at hs; have HS : Hid (Zcm l l.length = Zcm l (l.length - (k + 1))) := hf.out.trans hs; clear hs hf
      go_wp2_with (go_at_call 266; refine (isBeyond_any _ _).mono ?_; rintro e w' ⟨rfl, rfl⟩)
      go_round
      case rel => exact ⟨k + 1, by omega, by go_num, HS⟩
      case measure => simp [intOf]; omega
    · rw [if_neg hz] at hs; have HS : Hid (Zcm l l.length = k) := hf.out.trans hs
      have hz' : Zba z = false := by simpa using hz
      clear hs hf hz
      go_wp2_with (go_at_call 266; refine (isBeyond_any _ _).mono ?_; rintro e w' ⟨rfl, rfl⟩); go_ret; exact ⟨by rw [HS.out]; rfl, rfl⟩
  · go_wp2; go_ret
    have : k = l.length := by omega
    subst this; exact ⟨by rw [hf.out, Nat.sub_self]; rfl, rfl⟩
theorem contains_any (a : Option Addr) (cap : Nat) (l : List Int) (w : World) (hm : l.length ≤ 9223372036854775807) (hc : Lst w a l) :
 Calls prog 265 #[.slice a l.length cap, .func (.func 266) #[] #[]] w fun r w' => r = .returned (.bool (Zbe l == 1)) ∧ w' = w := by
 have e := beyond_neg l l.length (Nat.le_refl _); rw [Nat.sub_self, List.drop_zero] at e; have hi := index_any a cap l w hm hc; generalize Zcm l l.length = n at e hi
 have e' : (Zbe l == 1) = decide (0 ≤ n) := by
  by_cases h : 0 ≤ n
  · rw [decide_eq_true h]; simpa using e.mp h
  · rw [decide_eq_false h]; simpa using fun q => h (e.mpr q)
 rw [e']; clear e e' hc
 go_enter func265, ntmps265
 go_wp2_with (go_at_call 283; refine hi.mono ?_; rintro e w' ⟨rfl, rfl⟩); go_ret; exact ⟨rfl, rfl⟩
theorem Zfm (a : Option Addr) (cap : Nat) (l : List Int) (w : World) (hm : l.length ≤ 9223372036854775807) (hc : Lst w a l) :
 Calls prog 249 #[.slice a l.length cap] w fun r w' => r = .returned (errV (Zbe l)) ∧ w' = w := by
 have hi := contains_any a cap l w hm hc; clear hc
 rcases Zdz l with h | h
 · rw [h] at hi ⊢
   go_enter func249, ntmps249
   go_wp2_with (go_at_call 265; refine hi.mono ?_; rintro e w' ⟨rfl, rfl⟩); go_ret; exact ⟨rfl, rfl⟩
 · rw [h] at hi ⊢
   go_enter func249, ntmps249
   go_wp2_with (go_at_call 265; refine hi.mono ?_; rintro e w' ⟨rfl, rfl⟩); go_ret; exact ⟨rfl, rfl⟩
theorem rising_first (l : List Int) (b : Bool) (hb : b = Zbn l (l.length - 1)) : Zan [if decide ((l.length : Int) < 2) = true then 3 else 0, if decide (8 < (l.length : Int)) = true then 2 else 0, Zbe l, if b = true then 3 else 0] = Zbl l := by
 subst hb
 unfold Zbl
 by_cases h1 : l.length < 2
 · rw [if_pos h1, decide_eq_true (show (l.length : Int) < 2 by omega)]; rfl
 · rw [if_neg h1, decide_eq_false (show ¬ (l.length : Int) < 2 by omega)]
   by_cases h2 : 8 < l.length
   · rw [if_pos h2, decide_eq_true (show 8 < (l.length : Int) by omega)]; rfl
   · rw [if_neg h2, decide_eq_false (show ¬ 8 < (l.length : Int) by omega)]
     rcases Zdz l with h | h
     · rw [h, if_pos rfl]; cases Zbn l (l.length - 1) <;> rfl
     · rw [h]; rfl
theorem rising_any (a : Option Addr) (cap : Nat) (l : List Int) (w : World) (hm : l.length ≤ 9223372036854775807) (hc : Lst w a l) :
 Calls prog 196 #[.slice a l.length cap] w fun r w' => r = .returned (Vi (Zbl l)) ∧ Below w.heap.size w w' := by
 have HC : Hid (Lst w a l) := hc; clear hc
 go_enter func196, ntmps196
 go_wp2
 go_loopw [3, 4] (fun f i wr => ∃ j : Nat, j ≤ l.length - 1 ∧ i = Vi ((j + 1 : Nat) : Int) ∧ f = .bool (Zbn l j) ∧ Below w.heap.size w wr) (fun f i _ => l.length - (intOf i).toNat)
 case atStart => exact ⟨0, Nat.zero_le _, rfl, rfl, Below.refl _ _⟩
 case round =>
  obtain ⟨j, hj, rfl, rfl, hbr⟩ := hrel
  by_cases hlt : j + 1 < l.length
  · obtain ⟨b, off, rfl, hcs⟩ := (HC.out.later hbr).at (Zbt hlt); have hcell1 := hcs (j + 1) hlt; have hcell0 := hcs j (by omega); clear hcs; have hs : Zbn l (j + 1) = (Zbn l j || decide (at0 l (j + 1) ≤ at0 l j)) := rfl; generalize at0 l j = y at hcell0 hs; generalize at0 l (j + 1) = z at hcell1 hs; generalize Zbn l j = f at hs ⊢; have HS : Hid (Zbn l (j + 1) = (f || decide (z ≤ y))) := hs; clear hs
    have t1 : (((j + 1 : Nat) : Int) - 1).toNat = j := by omega
    have t0 : (((j + 1 : Nat) : Int)).toNat = j + 1 := by omega
    have b0 : (0 : Int) ≤ ((j + 1 : Nat) : Int) - 1 := by omega
    have b1 : ((j + 1 : Nat) : Int) - 1 < (l.length : Int) := by omega
    have b2 : ((j + 1 : Nat) : Int) < (l.length : Int) := by omega
    have b3 : (0 : Int) ≤ ((j + 1 : Nat) : Int) := by omega
    generalize hi : ((j + 1 : Nat) : Int) = i at *
    cases f
    · go_wp2; go_quiet (fail); go_wp2; go_roundw
      case rel => exact ⟨j + 1, by omega, by subst hi; go_num, by rw [HS.out]; simp, below_drewN hbr _⟩
      case measure => simp [intOf]; omega
    · go_wp2; go_quiet (fail); go_wp2; go_roundw
      case rel => exact ⟨j + 1, by omega, by subst hi; go_num, by rw [HS.out]; simp, below_drewN hbr _⟩
      case measure => simp [intOf]; omega
  · have ej : j = l.length - 1 := by omega
    have hw := worth_any a cap l wr hm (HC.out.later hbr)
    have b2 : ¬ ((j + 1 : Nat) : Int) < (l.length : Int) := by omega
    generalize hi : ((j + 1 : Nat) : Int) = i at *; generalize hf : Zbn l j = f; have hfirst := rising_first l f (by rw [← hf, ej])
    go_wp2_with (first
     | (go_at_call 14; refine (when_named _ _ _).mono ?_; rintro e w' ⟨x, rfl, hx, rfl⟩)
     | (go_at_call 197; refine hw.mono ?_; rintro e w' ⟨rfl, rfl⟩)
     | (go_at_call 13; refine (first_new4 _ _ _ _ _ _).mono ?_; rintro e w' ⟨rfl, rfl⟩))
    go_ret
    rename_i x0 h0 x1 h1
    rw [← hfirst]; refine ⟨?_, hbr.alloc hbr.size _⟩; rw [← h0.out, ← h1.out, ← hx.out]; rfl
theorem falls_iff (l : List Int) : ∀ n, Zbn l n = false ↔ ∀ k, k < n → at0 l k < at0 l (k + 1)
 | 0 => by simp [Zbn]
 | n + 1 => by
  simp only [Zbn, Bool.or_eq_false_iff, decide_eq_false_iff_not, falls_iff l n]
  constructor
  · rintro ⟨h, q⟩ k hk
    by_cases e : k = n
    · subst e; omega
    · exact h k (by omega)
  · intro h; exact ⟨fun k hk => h k (by omega), by have := h n (by omega); omega⟩
theorem checkPlaces_any (a : Option Addr) (cap : Nat) (l : List Int) (w : World) (hm : l.length ≤ 9223372036854775807) (hcap : l.length ≤ cap) (hc : Lst w a l) :
 Calls prog 248 #[.slice a l.length cap] w fun r w' => r = .returned (errV (Zbl l)) ∧ Below w.heap.size w w' := by
 have hw := Zfm a cap l w hm hc
 by_cases h1 : l.length < 2
 · have e : Zbl l = 3 := by unfold Zbl; rw [if_pos h1]
   rw [e]; clear e
   have h1' : (l.length : Int) < 2 := by omega
   go_enter func248, ntmps248
   go_wp2_with fail; go_ret; exact ⟨rfl, Below.refl _ _⟩
 by_cases h2 : 8 < l.length
 · have e : Zbl l = 2 := by unfold Zbl; rw [if_neg h1, if_pos h2]
   rw [e]; clear e
   have h1' : ¬ (l.length : Int) < 2 := by omega
   have h2' : 8 < (l.length : Int) := by omega
   go_enter func248, ntmps248
   go_wp2_with fail; go_ret; exact ⟨rfl, Below.refl _ _⟩
 have h1' : ¬ (l.length : Int) < 2 := by omega
 have h2' : ¬ 8 < (l.length : Int) := by omega
 rcases Zdz l with h3 | h3
 · have e : Zbl l = if Zbn l (l.length - 1) then 3 else 0 := by unfold Zbl; rw [if_neg h1, if_neg h2, if_pos h3]
   have HE : Hid (Zbl l = if Zbn l (l.length - 1) then 3 else 0) := e; clear e; rw [h3] at hw; obtain ⟨b, off, rfl, hcs⟩ := hc.at (Zbt (k := 0) (by omega)); have HC : Hid (∀ k, k < l.length → w.cell? (Ad b (off + k)) = some (Vi (at0 l k))) := hcs; clear hc hcs h3
   have hw' : ∀ w0, w0 = w → Calls prog 249 #[.slice (some (Ad b off)) l.length cap] w0 fun r w' => r = .returned .nilIface ∧ w' = w0 := by rintro w0 rfl; exact hw
   clear hw
   go_enter func248, ntmps248
   go_wp2_with (go_at_call 249; refine (hw' _ rfl).mono ?_; rintro e w' ⟨rfl, rfl⟩)
   go_loop [22] (fun i => ∃ k : Nat, k + 1 ≤ l.length ∧ i = Vi k ∧ Hid (Zbn l k = false)) (fun i => l.length - (intOf i).toNat)
   case atStart => exact ⟨0, by omega, rfl, rfl⟩
   case round =>
    obtain ⟨k, hk, rfl, hf⟩ := hrel
    by_cases hlt : k + 1 < l.length
    · have hcell0 := HC.out k (by omega); have hcell1 := HC.out (k + 1) hlt
      have ea : off + (k + 1) = off + 1 + k := by omega
      rw [ea] at hcell1
      by_cases hz : at0 l (k + 1) ≤ at0 l k
      · have HS : Hid (Zbn l (l.length - 1) = true) := by
         show Zbn l (l.length - 1) = true
         cases e : Zbn l (l.length - 1)
         · have := (falls_iff l _).mp e k (by omega); omega
         · rfl
        clear hf; generalize at0 l (k + 1) = z at *; generalize at0 l k = y at *; go_wp2_with fail; go_ret; exact ⟨by rw [HE.out, HS.out]; rfl, Below.refl _ _⟩
      · have HS : Hid (Zbn l (k + 1) = false) := by
         show Zbn l (k + 1) = false
         simp only [Zbn, Bool.or_eq_false_iff, decide_eq_false_iff_not]; exact ⟨hf.out, hz⟩
        clear hf; generalize at0 l (k + 1) = z at *; generalize at0 l k = y at *; go_wp2_with fail
        go_round
        case rel => exact ⟨k + 1, by omega, by go_num, HS⟩
        case measure => simp [intOf]; omega
    · have HS : Hid (Zbn l (l.length - 1) = false) := by
       have : k = l.length - 1 := by omega
       subst this; exact hf
      clear hf; go_wp2_with fail; go_ret; exact ⟨by rw [HE.out, HS.out]; rfl, Below.refl _ _⟩
 · have e : Zbl l = 1 := by unfold Zbl; rw [if_neg h1, if_neg h2, h3]; rfl
   rw [e]; clear e; rw [h3] at hw; have hw' : Calls prog 249 #[.slice a l.length cap] w fun r w' => r = .returned (.iface 44 (Vi 1)) ∧ w' = w := hw; clear hw hc h3
   go_enter func248, ntmps248
   go_wp2_with (go_at_call 249; refine hw'.mono ?_; rintro e w' ⟨rfl, rfl⟩); go_ret; exact ⟨rfl, Below.refl _ _⟩
theorem ends_any (b off cap : Nat) (l : List Int) (w : World) (hm : l.length ≤ 9223372036854775807) (hl : 0 < l.length) (hc : ∀ k, k < l.length → w.cell? (Ad b (off + k)) = some (Vi (at0 l k))) :
 Calls prog 288 #[.slice (some (Ad b off)) l.length cap] w fun r w' => r = .returned (.tuple #[Vi (at0 l 0), Vi (at0 l (l.length - 1))]) ∧ ∃ n, w' = w.drewN n := by
 have c0 := hc 0 hl; have c1 := hc (l.length - 1) (by omega); clear hc; rw [Nat.add_zero] at c0; generalize at0 l 0 = y at *; generalize at0 l (l.length - 1) = z at *
 have t1 : ((l.length : Int) - 1).toNat = l.length - 1 := by omega
 go_enter func288, ntmps288
 go_wp2; go_quiet (fail); go_wp2; go_ret2; exact ⟨rfl, _, rfl⟩
theorem stand_any (b off cap : Nat) (l : List Int) (x : Int) (w : World) (p : Places l) (hc : ∀ k, k < l.length → w.cell? (Ad b (off + k)) = some (Vi (at0 l k))) :
 Calls prog 281 #[.slice (some (Ad b off)) l.length cap, Vi x] w fun r w' => ∃ i : Nat, r = .returned (.tuple #[Vi i, Vi (Zep l x - at0 l i), Vi (at0 l (i + 1) - Zep l x)]) ∧ Stands l (Zep l x) i ∧ ∃ n, w' = w.drewN n := by
 have hl2 := p.lo; have hl8 := p.hi; have HP : Hid (Places l) := p; have HC : Hid (∀ k, k < l.length → w.cell? (Ad b (off + k)) = some (Vi (at0 l k))) := hc; have he := ends_any b off cap l w (by omega) (by omega) hc; have hb := clipE_bd p x; have w0 := Zcu p.worth 0 (by omega); have w1 := Zcu p.worth (l.length - 1) (by omega); have hx : Zar x (at0 l 0) (at0 l (l.length - 1)) = Zep l x := rfl
 have c0 : -1000000 ≤ Zep l x := by omega
 have c1 : Zep l x ≤ 1000000 := by omega
 have HB : Hid (at0 l 0 ≤ Zep l x ∧ Zep l x ≤ at0 l (l.length - 1)) := hb; have hk : ∀ w, Calls prog 172 #[Vi x, Vi (at0 l 0), Vi (at0 l (l.length - 1))] w fun e w' => e = .returned (Vi (Zep l x)) ∧ w' = w := fun w => Zat x _ _ w; clear hc hb w0 w1 hx p; generalize Zep l x = c at *; generalize hy : at0 l 0 = y at he hk; generalize hz : at0 l (l.length - 1) = z at he hk
 go_enter func281, ntmps281
 go_wp2_with (first
  | (go_at_call 288; refine he.mono ?_; rintro e w' ⟨rfl, n, rfl⟩)
  | (go_at_call 172; refine (hk _).mono ?_; rintro e w' ⟨rfl, rfl⟩))
 clear he hk hy hz
 go_loop [4] (fun i => ∃ k : Nat, k + 1 < l.length ∧ i = Vi k ∧ Hid (at0 l k ≤ c)) (fun i => l.length - (intOf i).toNat)
 case atStart => exact ⟨0, by omega, rfl, HB.out.1⟩
 case round =>
  obtain ⟨k, hk, rfl, hf⟩ := hrel; have hcell1 := HC.out (k + 1) hk; have hcell0 := HC.out k (by omega); have q0 := Zcu HP.out.worth k (by omega); have q1 := Zcu HP.out.worth (k + 1) hk
  have t1 : ((k : Int) + 1).toNat = k + 1 := by omega
  by_cases hlt : k + 2 < l.length
  · by_cases hz : at0 l (k + 1) ≤ c
    · clear hf q0 q1 hcell0; have HS : Hid (at0 l (k + 1) ≤ c) := hz; generalize at0 l (k + 1) = z at hcell1 hz; go_wp2
      go_round
      case rel => exact ⟨k + 1, by omega, by go_num, HS⟩
      case measure => simp [intOf]; omega
    · have HS : Hid (Stands l c k) := ⟨hk, hf.out, by omega, fun _ => by omega⟩; clear hf; generalize hz1 : at0 l (k + 1) = z at *; generalize hz0 : at0 l k = y at *; go_wp2; go_quiet (fail); go_wp2; refine bodyPost_ret (v := .tuple #[Vi k, Vi (c - y), Vi (z - c)]) (by simp [results, results281, go_sem]) rfl ⟨k, by rw [hz1, hz0], HS, ?_⟩; exact ⟨_, World.drewN_drewN _ _ _⟩
  · have HS : Hid (Stands l c k) := ⟨hk, hf.out, by have := HB.out.2; rw [show l.length - 1 = k + 1 by omega] at this; exact this, fun h => absurd h hlt⟩
    have hlt' : ¬ (k : Int) + 2 < (l.length : Int) := by omega
    clear hf; generalize hz1 : at0 l (k + 1) = z at *; generalize hz0 : at0 l k = y at *; go_wp2; go_quiet (fail); go_wp2; refine bodyPost_ret (v := .tuple #[Vi k, Vi (c - y), Vi (z - c)]) (by simp [results, results281, go_sem]) rfl ⟨k, by rw [hz1, hz0], HS, ?_⟩; exact ⟨_, World.drewN_drewN _ _ _⟩
end Go.Proofs.YtnfdfiholcelaaaGreatDoor
