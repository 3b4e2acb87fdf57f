/-
  Contracts of act.isAtPlace, act.Watch and fulmarref.Watched: what a servo is behind having been seen.
-/
import Derived.Test.YthijegfacnjooaaActE
namespace Go.Proofs.Ythijegfacnjooaa
open Go.RowKit Plain

/-- Was it seen where it should be (or is it out)? -/
def atB (S i z : Int) (y : Bool) : Bool := y && betw z (i - S) (i + S)
def fineW (S i z : Int) (o y : Bool) : Bool := o || atB S i z y
def wI (S C i b z : Int) (o y : Bool) : Int := if fineW S i z o y then i else if b + 1 = C then 0 else i
def wB (S i b z : Int) (o y : Bool) : Int := if fineW S i z o y then b else b + 1
def wO (S C i b z : Int) (o y : Bool) : Bool := if fineW S i z o y then o else decide (b + 1 = C)

theorem w_fine {S C i b z : Int} {o y : Bool} (h : fineW S i z o y = true) : wI S C i b z o y = i ∧ wB S i b z o y = b ∧ wO S C i b z o y = o := by
  unfold wI wB wO; rw [if_pos h, if_pos h, if_pos h]; exact ⟨rfl, rfl, rfl⟩
theorem w_last {S C i b z : Int} {o y : Bool} (h : fineW S i z o y = false) (hq : b + 1 = C) : wI S C i b z o y = 0 ∧ wB S i b z o y = b + 1 ∧ wO S C i b z o y = true := by
  unfold wI wB wO; rw [h]; simp [hq]
theorem w_more {S C i b z : Int} {o y : Bool} (h : fineW S i z o y = false) (hq : b + 1 ≠ C) : wI S C i b z o y = i ∧ wB S i b z o y = b + 1 ∧ wO S C i b z o y = false := by
  unfold wI wB wO; rw [h]; simp [hq]

set_option maxHeartbeats 1000000 in
theorem atPlace_any (T R S C i b : Int) (o y : Bool) (z : Int) (i0 : -1000 ≤ i) (i1 : i ≤ 1000) (s0 : 0 ≤ S) (s1 : S ≤ 1000) (w : World) :
    Calls Try.prog 42 #[.agg #[.int .i64 T, .int .i64 R, .int .i64 S, .int .i64 C], .agg #[.int .i64 i, .int .i64 b, .bool o], .agg #[.bool y, .int .i64 z]] w fun e w' => e = .returned (.bool (atB S i z y)) ∧ Below w.heap.size w w' := by
  have f1 := isFrom_any z (i - S) (i + S)
  have HN := ahide (abelow_up (RS.new w T R S C i b o).2.2 (abelow_alloc _ (.cells #[.bool y, .int .i64 z] 36)))
  unfold atB
  generalize betw z (i - S) (i + S) = x at *
  cases y
  · go_enter Try.func42, Try.ntmps42
    go_wp2
    go_ret
    exact ⟨rfl, HN.out⟩
  · go_enter Try.func42, Try.ntmps42
    go_wp2_with (go_at_call 69; refine (f1 _).mono ?_; rintro e w1 ⟨rfl, hb1⟩)
    go_ret
    exact ⟨by simp, abelow_up HN.out hb1⟩

set_option maxHeartbeats 2000000 in
theorem watch_ok (T R S C i b : Int) (o y : Bool) (z : Int) (h0 : svE T R S C i b o = 0) (w : World) :
    Calls Try.prog 17 #[.agg #[.int .i64 T, .int .i64 R, .int .i64 S, .int .i64 C], .agg #[.int .i64 i, .int .i64 b, .bool o], .agg #[.bool y, .int .i64 z]] w fun e w' => e = .returned (.tuple #[.agg #[.int .i64 (wI S C i b z o y), .int .i64 (wB S i b z o y), .bool (wO S C i b z o y)], .nilIface]) ∧ Below w.heap.size w w' := by
  have hck := servoCheck_any T R S C i b o
  rw [h0, errV_zero] at hck
  have HX := ahide (RSQ.new3 w T R S C i b o y z)
  obtain ⟨hr, hs⟩ := svE_zero h0
  have ⟨⟨t0, t1⟩, _, ⟨k0, k1⟩, c0, c1⟩ := arB_true hr
  have i0 := (svB_true hs).1.1
  have i1 := (svB_true hs).1.2
  have b0 := (svB_true hs).2.1.1
  have b1 := (svB_true hs).2.1.2
  have hap := atPlace_any T R S C i b o y z (by omega) (by omega) (by omega) (by omega)
  clear hr hs h0
  have hfi : fineW S i z o y = (o || atB S i z y) := rfl
  generalize atB S i z y = a at *
  cases o
  · cases a
    · by_cases hq : b + 1 = C
      · obtain ⟨e1, e2, e3⟩ := w_last (C := C) (b := b) hfi hq; rw [e1, e2, e3]; clear hfi e1 e2 e3
        have hq' : (b + 1 == C) = true := by simpa using hq
        clear hq
        go_enter Try.func17, Try.ntmps17
        go_wp2_with (first
          | (go_at_call 41; refine (hck _).mono ?_; rintro e w1 ⟨rfl, hb1⟩; have HX := ahide (⟨HX.out.1.later hb1, HX.out.2.later hb1⟩ : RSQ w w1 (w.heap.size + 1 + 1 + 1) T R S C i b false ∧ B2 w1 (w.heap.size + 1 + 1) (.bool y) (.int .i64 z)); obtain ⟨⟨⟨⟨q0, q1, q2, q3⟩, ⟨s0, s1, s2⟩, _⟩, ⟨sf, _⟩, ⟨p0, p1, p2⟩, pf, _⟩, m0, m1⟩ := HX.out; have g0 := sf 0 (by omega); have g1 := sf 1 (by omega); have g2 := sf 2 (by omega); have f0 := pf 0 (by omega); have f1 := pf 1 (by omega); have f2 := pf 2 (by omega); clear hb1 sf pf)
          | (go_at_call 42; refine (hap _).mono ?_; rintro e w2 ⟨rfl, hb2⟩; have HX := ahide (⟨HX.out.1.later hb2, HX.out.2.later hb2⟩ : RSQ w w2 (w.heap.size + 1 + 1 + 1) T R S C i b false ∧ B2 w2 (w.heap.size + 1 + 1) (.bool y) (.int .i64 z)); obtain ⟨⟨⟨⟨q0, q1, q2, q3⟩, ⟨s0, s1, s2⟩, _⟩, ⟨sf, _⟩, ⟨p0, p1, p2⟩, pf, _⟩, m0, m1⟩ := HX.out; have g0 := sf 0 (by omega); have g1 := sf 1 (by omega); have g2 := sf 2 (by omega); have f0 := pf 0 (by omega); have f1 := pf 1 (by omega); have f2 := pf 2 (by omega); clear hb2 sf pf))
        exact bodyPost_ret (v := .tuple #[.agg #[.int .i64 0, .int .i64 (b + 1), .bool true], .nilIface]) (by simp [results, Try.results17, go_sem, p0, p1, p2]) rfl ⟨rfl, (((((HX.out.1.1.2.2.setCell (by simp) _).setCell (by simp) _).setCell (by simp) _).setCell (by simp; omega) _).setCell (by simp; omega) _).setCell (by simp; omega) _⟩
      · obtain ⟨e1, e2, e3⟩ := w_more (C := C) (b := b) hfi hq; rw [e1, e2, e3]; clear hfi e1 e2 e3
        have hq' : (b + 1 == C) = false := by simpa using hq
        clear hq
        go_enter Try.func17, Try.ntmps17
        go_wp2_with (first
          | (go_at_call 41; refine (hck _).mono ?_; rintro e w1 ⟨rfl, hb1⟩; have HX := ahide (⟨HX.out.1.later hb1, HX.out.2.later hb1⟩ : RSQ w w1 (w.heap.size + 1 + 1 + 1) T R S C i b false ∧ B2 w1 (w.heap.size + 1 + 1) (.bool y) (.int .i64 z)); obtain ⟨⟨⟨⟨q0, q1, q2, q3⟩, ⟨s0, s1, s2⟩, _⟩, ⟨sf, _⟩, ⟨p0, p1, p2⟩, pf, _⟩, m0, m1⟩ := HX.out; have g0 := sf 0 (by omega); have g1 := sf 1 (by omega); have g2 := sf 2 (by omega); have f0 := pf 0 (by omega); have f1 := pf 1 (by omega); have f2 := pf 2 (by omega); clear hb1 sf pf)
          | (go_at_call 42; refine (hap _).mono ?_; rintro e w2 ⟨rfl, hb2⟩; have HX := ahide (⟨HX.out.1.later hb2, HX.out.2.later hb2⟩ : RSQ w w2 (w.heap.size + 1 + 1 + 1) T R S C i b false ∧ B2 w2 (w.heap.size + 1 + 1) (.bool y) (.int .i64 z)); obtain ⟨⟨⟨⟨q0, q1, q2, q3⟩, ⟨s0, s1, s2⟩, _⟩, ⟨sf, _⟩, ⟨p0, p1, p2⟩, pf, _⟩, m0, m1⟩ := HX.out; have g0 := sf 0 (by omega); have g1 := sf 1 (by omega); have g2 := sf 2 (by omega); have f0 := pf 0 (by omega); have f1 := pf 1 (by omega); have f2 := pf 2 (by omega); clear hb2 sf pf))
        exact bodyPost_ret (v := .tuple #[.agg #[.int .i64 i, .int .i64 (b + 1), .bool false], .nilIface]) (by simp [results, Try.results17, go_sem, p0, p1, p2]) rfl ⟨rfl, (((HX.out.1.1.2.2.setCell (by simp) _).setCell (by simp; omega) _).setCell (by simp; omega) _).setCell (by simp; omega) _⟩
    · obtain ⟨e1, e2, e3⟩ := w_fine (C := C) (b := b) hfi; rw [e1, e2, e3]; clear hfi e1 e2 e3
      go_enter Try.func17, Try.ntmps17
      go_wp2_with (first
        | (go_at_call 41; refine (hck _).mono ?_; rintro e w1 ⟨rfl, hb1⟩; have HX := ahide (⟨HX.out.1.later hb1, HX.out.2.later hb1⟩ : RSQ w w1 (w.heap.size + 1 + 1 + 1) T R S C i b false ∧ B2 w1 (w.heap.size + 1 + 1) (.bool y) (.int .i64 z)); obtain ⟨⟨⟨⟨q0, q1, q2, q3⟩, ⟨s0, s1, s2⟩, _⟩, ⟨sf, _⟩, ⟨p0, p1, p2⟩, pf, _⟩, m0, m1⟩ := HX.out; have g0 := sf 0 (by omega); have g1 := sf 1 (by omega); have g2 := sf 2 (by omega); have f0 := pf 0 (by omega); have f1 := pf 1 (by omega); have f2 := pf 2 (by omega); clear hb1 sf pf)
        | (go_at_call 42; refine (hap _).mono ?_; rintro e w2 ⟨rfl, hb2⟩; have HX := ahide (⟨HX.out.1.later hb2, HX.out.2.later hb2⟩ : RSQ w w2 (w.heap.size + 1 + 1 + 1) T R S C i b false ∧ B2 w2 (w.heap.size + 1 + 1) (.bool y) (.int .i64 z)); obtain ⟨⟨⟨⟨q0, q1, q2, q3⟩, ⟨s0, s1, s2⟩, _⟩, ⟨sf, _⟩, ⟨p0, p1, p2⟩, pf, _⟩, m0, m1⟩ := HX.out; have g0 := sf 0 (by omega); have g1 := sf 1 (by omega); have g2 := sf 2 (by omega); have f0 := pf 0 (by omega); have f1 := pf 1 (by omega); have f2 := pf 2 (by omega); clear hb2 sf pf))
      exact bodyPost_ret (v := .tuple #[.agg #[.int .i64 i, .int .i64 b, .bool false], .nilIface]) (by simp [results, Try.results17, go_sem, p0, p1, p2]) rfl ⟨rfl, ((HX.out.1.1.2.2.setCell (by simp; omega) _).setCell (by simp; omega) _).setCell (by simp; omega) _⟩
  · obtain ⟨e1, e2, e3⟩ := w_fine (C := C) (b := b) hfi; rw [e1, e2, e3]; clear hfi e1 e2 e3
    go_enter Try.func17, Try.ntmps17
    go_wp2_with (first
      | (go_at_call 41; refine (hck _).mono ?_; rintro e w1 ⟨rfl, hb1⟩; have HX := ahide (⟨HX.out.1.later hb1, HX.out.2.later hb1⟩ : RSQ w w1 (w.heap.size + 1 + 1 + 1) T R S C i b true ∧ B2 w1 (w.heap.size + 1 + 1) (.bool y) (.int .i64 z)); obtain ⟨⟨⟨⟨q0, q1, q2, q3⟩, ⟨s0, s1, s2⟩, _⟩, ⟨sf, _⟩, ⟨p0, p1, p2⟩, pf, _⟩, m0, m1⟩ := HX.out; have g0 := sf 0 (by omega); have g1 := sf 1 (by omega); have g2 := sf 2 (by omega); have f0 := pf 0 (by omega); have f1 := pf 1 (by omega); have f2 := pf 2 (by omega); clear hb1 sf pf))
    exact bodyPost_ret (v := .tuple #[.agg #[.int .i64 i, .int .i64 b, .bool true], .nilIface]) (by simp [results, Try.results17, go_sem, p0, p1, p2]) rfl ⟨rfl, ((HX.out.1.1.2.2.setCell (by simp; omega) _).setCell (by simp; omega) _).setCell (by simp; omega) _⟩
theorem watch_err (T R S C i b : Int) (o y : Bool) (z : Int) (h0 : svE T R S C i b o ≠ 0) (w : World) :
    Calls Try.prog 17 #[.agg #[.int .i64 T, .int .i64 R, .int .i64 S, .int .i64 C], .agg #[.int .i64 i, .int .i64 b, .bool o], .agg #[.bool y, .int .i64 z]] w fun e w' => e = .returned (.tuple #[.agg #[.int .i64 0, .int .i64 0, .bool false], .iface 26 (.int .i64 (svE T R S C i b o))]) ∧ Below w.heap.size w w' := by
  have hck := servoCheck_any T R S C i b o
  rw [errV_ne h0] at hck
  have HX := ahide (RSQ.new3 w T R S C i b o y z)
  clear h0
  generalize svE T R S C i b o = x at *
  go_enter Try.func17, Try.ntmps17
  go_wp2_with (go_at_call 41; refine (hck _).mono ?_; rintro e w1 ⟨rfl, hb1⟩; have HX := ahide (⟨HX.out.1.later hb1, HX.out.2.later hb1⟩ : RSQ w w1 (w.heap.size + 1 + 1 + 1) T R S C i b o ∧ B2 w1 (w.heap.size + 1 + 1) (.bool y) (.int .i64 z)); obtain ⟨⟨⟨⟨q0, q1, q2, q3⟩, ⟨s0, s1, s2⟩, _⟩, ⟨sf, _⟩, ⟨p0, p1, p2⟩, pf, _⟩, m0, m1⟩ := HX.out; have g0 := sf 0 (by omega); have g1 := sf 1 (by omega); have g2 := sf 2 (by omega); have f0 := pf 0 (by omega); have f1 := pf 1 (by omega); have f2 := pf 2 (by omega); clear hb1 sf pf)
  exact bodyPost_ret (v := .tuple #[.agg #[.int .i64 0, .int .i64 0, .bool false], .iface 26 (.int .i64 x)]) (by simp [results, Try.results17, go_sem, p0, p1, p2]) rfl ⟨rfl, ((HX.out.1.1.2.2.setCell (by simp; omega) _).setCell (by simp; omega) _).setCell (by simp; omega) _⟩

end Go.Proofs.Ythijegfacnjooaa
