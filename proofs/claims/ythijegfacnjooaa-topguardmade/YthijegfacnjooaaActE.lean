/-
  Contracts of act.Move, act.isAtPlace, act.Watch and fulmarref.Watched: where a servo goes, and what it is behind having been seen.
-/
import Derived.Test.YthijegfacnjooaaActD
namespace Go.Proofs.Ythijegfacnjooaa
open Go.RowKit Plain

/-- A rule, a servo that may be written, and the room for a servo at Q. -/
def RSQ (w0 w : World) (Q : Nat) (T R S C i b : Int) (o : Bool) : Prop := RS w0 w T R S C i b o ∧ FrA w (w0.heap.size + 1) 3 ∧ B3 w Q (.int .i64 0) (.int .i64 0) (.bool false) ∧ FrA w Q 3
theorem RSQ.later {w0 w w' : World} {Q : Nat} {T R S C i b : Int} {o : Bool} (h : RSQ w0 w Q T R S C i b o) (hb : Below w.heap.size w w') : RSQ w0 w' Q T R S C i b o := ⟨h.1.later hb, h.2.1.later hb, h.2.2.1.later hb, h.2.2.2.later hb⟩
theorem frS (w : World) (T R S C i b : Int) (o : Bool) : FrA ((w.alloc (.cells #[.int .i64 T, .int .i64 R, .int .i64 S, .int .i64 C] 48)).alloc (.cells #[.int .i64 i, .int .i64 b, .bool o] 53)) (w.heap.size + 1) 3 := by
  rw [← size_alloc w (.cells #[.int .i64 T, .int .i64 R, .int .i64 S, .int .i64 C] 48)]; exact FrA.new
theorem RSQ.new2 (w : World) (T R S C i b : Int) (o : Bool) : RSQ w (((w.alloc (.cells #[.int .i64 T, .int .i64 R, .int .i64 S, .int .i64 C] 48)).alloc (.cells #[.int .i64 i, .int .i64 b, .bool o] 53)).alloc (.cells #[.int .i64 0, .int .i64 0, .bool false] 53)) (w.heap.size + 1 + 1) T R S C i b o := by
  have e : ((w.alloc (.cells #[.int .i64 T, .int .i64 R, .int .i64 S, .int .i64 C] 48)).alloc (.cells #[.int .i64 i, .int .i64 b, .bool o] 53)).heap.size = w.heap.size + 1 + 1 := by simp [go_sem]
  refine ⟨(RS.new w T R S C i b o).later (abelow_alloc _ _), (frS w T R S C i b o).later (abelow_alloc _ _), ?_, ?_⟩
  · rw [← e]; exact B3.new _ _ _ _ _
  · rw [← e]; exact FrA.new
theorem RSQ.new3 (w : World) (T R S C i b : Int) (o y : Bool) (z : Int) : RSQ w ((((w.alloc (.cells #[.int .i64 T, .int .i64 R, .int .i64 S, .int .i64 C] 48)).alloc (.cells #[.int .i64 i, .int .i64 b, .bool o] 53)).alloc (.cells #[.bool y, .int .i64 z] 36)).alloc (.cells #[.int .i64 0, .int .i64 0, .bool false] 53)) (w.heap.size + 1 + 1 + 1) T R S C i b o ∧ B2 ((((w.alloc (.cells #[.int .i64 T, .int .i64 R, .int .i64 S, .int .i64 C] 48)).alloc (.cells #[.int .i64 i, .int .i64 b, .bool o] 53)).alloc (.cells #[.bool y, .int .i64 z] 36)).alloc (.cells #[.int .i64 0, .int .i64 0, .bool false] 53)) (w.heap.size + 1 + 1) (.bool y) (.int .i64 z) := by
  have e : (((w.alloc (.cells #[.int .i64 T, .int .i64 R, .int .i64 S, .int .i64 C] 48)).alloc (.cells #[.int .i64 i, .int .i64 b, .bool o] 53)).alloc (.cells #[.bool y, .int .i64 z] 36)).heap.size = w.heap.size + 1 + 1 + 1 := by simp [go_sem]
  have e2 : ((w.alloc (.cells #[.int .i64 T, .int .i64 R, .int .i64 S, .int .i64 C] 48)).alloc (.cells #[.int .i64 i, .int .i64 b, .bool o] 53)).heap.size = w.heap.size + 1 + 1 := by simp [go_sem]
  refine ⟨⟨((RS.new w T R S C i b o).later (abelow_alloc _ _)).later (abelow_alloc _ _), ((frS w T R S C i b o).later (abelow_alloc _ _)).later (abelow_alloc _ _), ?_, ?_⟩, ?_⟩
  · rw [← e]; exact B3.new _ _ _ _ _
  · rw [← e]; exact FrA.new
  · rw [← e2]; exact (B2.new _ _ _ _).later (abelow_alloc _ _)

set_option maxHeartbeats 1000000 in
theorem move_ok (T R S C i b : Int) (o : Bool) (tg : Int) (h0 : svE T R S C i b o = 0) (w : World) :
    Calls Try.prog 18 #[.agg #[.int .i64 T, .int .i64 R, .int .i64 S, .int .i64 C], .agg #[.int .i64 i, .int .i64 b, .bool o], .int .i64 tg] w fun e w' => e = .returned (.tuple #[.agg #[.int .i64 (clipI tg (loR T R i o) (hiR T R i o)), .int .i64 b, .bool o], .nilIface]) ∧ Below w.heap.size w w' := by
  have hre := reach_ok T R S C i b o h0
  have hcl := fixClip_any tg (loR T R i o) (hiR T R i o)
  have HX := ahide (RSQ.new2 w T R S C i b o)
  clear h0
  generalize clipI tg (loR T R i o) (hiR T R i o) = v at *
  generalize loR T R i o = lo at *
  generalize hiR T R i o = hi at *
  go_enter Try.func18, Try.ntmps18
  go_wp2_with (first
    | (go_at_call 43; refine (hre _).mono ?_; rintro e w1 ⟨rfl, hb1⟩; have HX := ahide ((HX.out.later hb1).later (abelow_alloc w1 (.cells #[.int .i64 lo, .int .i64 hi] 93))); obtain ⟨⟨⟨q0, q1, q2, q3⟩, ⟨s0, s1, s2⟩, _⟩, ⟨sf, _⟩, ⟨p0, p1, p2⟩, pf, _⟩ := HX.out; have g0 := sf 0 (by omega); have f0 := pf 0 (by omega); have f1 := pf 1 (by omega); have f2 := pf 2 (by omega); clear hb1 sf pf)
    | (go_at_call 44; refine (hcl _).mono ?_; rintro e w2 ⟨rfl, hq⟩; have hq := hq.symm; subst hq))
  exact bodyPost_ret (v := .tuple #[.agg #[.int .i64 v, .int .i64 b, .bool o], .nilIface]) (by simp [results, Try.results18, go_sem, p0, p1, p2]) rfl ⟨rfl, (((HX.out.1.2.2.setCell (by simp) _).setCell (by simp; omega) _).setCell (by simp; omega) _).setCell (by simp; omega) _⟩
theorem move_err (T R S C i b : Int) (o : Bool) (tg : Int) (h0 : svE T R S C i b o ≠ 0) (w : World) :
    Calls Try.prog 18 #[.agg #[.int .i64 T, .int .i64 R, .int .i64 S, .int .i64 C], .agg #[.int .i64 i, .int .i64 b, .bool o], .int .i64 tg] w fun e w' => e = .returned (.tuple #[.agg #[.int .i64 0, .int .i64 0, .bool false], .iface 26 (.int .i64 (svE T R S C i b o))]) ∧ Below w.heap.size w w' := by
  have hre := reach_err T R S C i b o h0
  have HX := ahide (RSQ.new2 w T R S C i b o)
  clear h0
  generalize svE T R S C i b o = x at *
  go_enter Try.func18, Try.ntmps18
  go_wp2_with (go_at_call 43; refine (hre _).mono ?_; rintro e w1 ⟨rfl, hb1⟩; have HX := ahide ((HX.out.later hb1).later (abelow_alloc w1 (.cells #[.int .i64 0, .int .i64 0] 93))); obtain ⟨⟨⟨q0, q1, q2, q3⟩, ⟨s0, s1, s2⟩, _⟩, ⟨sf, _⟩, ⟨p0, p1, p2⟩, pf, _⟩ := HX.out; have g0 := sf 0 (by omega); have f0 := pf 0 (by omega); have f1 := pf 1 (by omega); have f2 := pf 2 (by omega); clear hb1 sf pf)
  exact bodyPost_ret (v := .tuple #[.agg #[.int .i64 0, .int .i64 0, .bool false], .iface 26 (.int .i64 x)]) (by simp [results, Try.results18, go_sem, p0, p1, p2]) rfl ⟨rfl, ((HX.out.1.2.2.setCell (by simp; omega) _).setCell (by simp; omega) _).setCell (by simp; omega) _⟩


end Go.Proofs.Ythijegfacnjooaa
