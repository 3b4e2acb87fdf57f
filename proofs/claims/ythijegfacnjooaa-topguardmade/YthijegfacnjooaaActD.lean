/-
  Contracts of fulmarref.Reached and act.Reach: where a servo can go.
-/
import Derived.Test.YthijegfacnjooaaActC
namespace Go.Proofs.Ythijegfacnjooaa
open Go.RowKit Plain

/-- The less and the greater of two. -/
def mnA (x y : Int) : Int := min x y
def mxA (x y : Int) : Int := max x y
theorem run_minA (ts : Array TypeId) (t : TypeId) (p q : Int) (w : World) : (Builtin.min_ ts t #[.int .i64 p, .int .i64 q]).run Try.prog w = .ok (.int .i64 (mnA p q)) w := by
  unfold mnA; by_cases h : q < p
  · rw [Int.min_eq_right (by omega)]; simp [Builtin.min_, Builtin.min2, h]
  · rw [Int.min_eq_left (by omega)]; simp [Builtin.min_, Builtin.min2, h]
theorem run_maxA (ts : Array TypeId) (t : TypeId) (p q : Int) (w : World) : (Builtin.max_ ts t #[.int .i64 p, .int .i64 q]).run Try.prog w = .ok (.int .i64 (mxA p q)) w := by
  unfold mxA; by_cases h : p < q
  · rw [Int.max_eq_right (by omega)]; simp [Builtin.max_, Builtin.max2, h]
  · rw [Int.max_eq_left (by omega)]; simp [Builtin.max_, Builtin.max2, h]

/-- The least and the greatest place that it can reach. -/
def loR (T R i : Int) (o : Bool) : Int := if o then 0 else mxA (i - R) (-T)
def hiR (T R i : Int) (o : Bool) : Int := if o then 0 else mnA (i + R) T

set_option maxHeartbeats 1000000 in
theorem reached_any (T R S C i b : Int) (o : Bool) (hr : arB T R S C = true) (hs : svB T C i b o = true) (w : World) :
    Calls Try.prog 70 #[.agg #[.int .i64 T, .int .i64 R, .int .i64 S, .int .i64 C], .agg #[.int .i64 i, .int .i64 b, .bool o]] w fun e w' => e = .returned (.agg #[.int .i64 (loR T R i o), .int .i64 (hiR T R i o)]) ∧ Below w.heap.size w w' := by
  obtain ⟨⟨t0, t1⟩, ⟨r0, r1⟩, _, _, _⟩ := arB_true hr
  have i0 := (svB_true hs).1.1
  have i1 := (svB_true hs).1.2
  have m2 := fun ts t p q w => run_minA ts t p q w
  have x2 := fun ts t p q w => run_maxA ts t p q w
  have HN := ahide (RS.new w T R S C i b o).2.2
  clear hr hs
  unfold loR hiR
  cases o
  · simp only [Bool.false_eq_true, if_false]
    go_enter Try.func70, Try.ntmps70
    go_wp2
    exact bodyPost_ret (v := .agg #[.int .i64 (mxA (i - R) (-T)), .int .i64 (mnA (i + R) T)]) (by simp [results, Try.results70, go_sem]) rfl ⟨rfl, abelow_up HN.out (abelow_alloc _ _)⟩
  · simp only [if_true]
    go_enter Try.func70, Try.ntmps70
    go_wp2
    exact bodyPost_ret (v := .agg #[.int .i64 0, .int .i64 0]) (by simp [results, Try.results70, go_sem]) rfl ⟨rfl, abelow_up HN.out (abelow_alloc _ _)⟩

/-- May be written. -/
def FrA (w : World) (B n : Nat) : Prop := (∀ j, j < n → w.frozen? ⟨B, j, none⟩ = false) ∧ B < w.heap.size
theorem FrA.later {w w' : World} {B n : Nat} (h : FrA w B n) (hb : Below w.heap.size w w') : FrA w' B n :=
  ⟨fun j hj => (hb.frozen (p := ⟨B, j, none⟩) h.2).trans (h.1 j hj), Nat.lt_of_lt_of_le h.2 hb.size⟩
theorem FrA.new {w : World} {cs : Array Value} {T : TypeId} {n : Nat} : FrA (w.alloc (.cells cs T)) w.heap.size n :=
  ⟨fun j _ => by simp [go_sem], by simp [go_sem]⟩
theorem FrA.set {w : World} {B n : Nat} {a : Addr} {v : Value} (h : FrA w B n) : FrA (w.setCell a v) B n :=
  ⟨fun j hj => by simpa [go_sem] using h.1 j hj, by simpa [go_sem] using h.2⟩

/-- A rule, a servo and the room for a span lie in three boxes. -/
def RSP (w0 w : World) (T R S C i b : Int) (o : Bool) : Prop := RS w0 w T R S C i b o ∧ B2 w (w0.heap.size + 1 + 1) (.int .i64 0) (.int .i64 0) ∧ FrA w (w0.heap.size + 1 + 1) 2
theorem RSP.later {w0 w w' : World} {T R S C i b : Int} {o : Bool} (h : RSP w0 w T R S C i b o) (hb : Below w.heap.size w w') : RSP w0 w' T R S C i b o := ⟨h.1.later hb, h.2.1.later hb, h.2.2.later hb⟩
theorem RSP.new (w : World) (T R S C i b : Int) (o : Bool) : RSP w (((w.alloc (.cells #[.int .i64 T, .int .i64 R, .int .i64 S, .int .i64 C] 48)).alloc (.cells #[.int .i64 i, .int .i64 b, .bool o] 53)).alloc (.cells #[.int .i64 0, .int .i64 0] 93)) T R S C i b o := by
  refine ⟨(RS.new w T R S C i b o).later (abelow_alloc _ _), ?_, ?_⟩
  · rw [← size_alloc w (.cells #[.int .i64 T, .int .i64 R, .int .i64 S, .int .i64 C] 48), ← size_alloc (w.alloc (.cells #[.int .i64 T, .int .i64 R, .int .i64 S, .int .i64 C] 48)) (.cells #[.int .i64 i, .int .i64 b, .bool o] 53)]; exact B2.new _ _ _ _
  · rw [← size_alloc w (.cells #[.int .i64 T, .int .i64 R, .int .i64 S, .int .i64 C] 48), ← size_alloc (w.alloc (.cells #[.int .i64 T, .int .i64 R, .int .i64 S, .int .i64 C] 48)) (.cells #[.int .i64 i, .int .i64 b, .bool o] 53)]; exact FrA.new

set_option maxHeartbeats 1000000 in
theorem reach_ok (T R S C i b : Int) (o : Bool) (h0 : svE T R S C i b o = 0) (w : World) :
    Calls Try.prog 43 #[.agg #[.int .i64 T, .int .i64 R, .int .i64 S, .int .i64 C], .agg #[.int .i64 i, .int .i64 b, .bool o]] w fun e w' => e = .returned (.tuple #[.agg #[.int .i64 (loR T R i o), .int .i64 (hiR T R i o)], .nilIface]) ∧ Below w.heap.size w w' := by
  obtain ⟨hr, hs⟩ := svE_zero h0
  obtain ⟨⟨t0, t1⟩, ⟨r0, r1⟩, _, _, _⟩ := arB_true hr
  have i0 := (svB_true hs).1.1
  have i1 := (svB_true hs).1.2
  have m2 := fun ts t p q w => run_minA ts t p q w
  have x2 := fun ts t p q w => run_maxA ts t p q w
  have hck := servoCheck_any T R S C i b o
  rw [h0, errV_zero] at hck
  have HX := ahide (RSP.new w T R S C i b o)
  clear hr hs h0
  unfold loR hiR
  cases o
  · simp only [Bool.false_eq_true, if_false]
    go_enter Try.func43, Try.ntmps43
    go_wp2_with (go_at_call 41; refine (hck _).mono ?_; rintro e w1 ⟨rfl, hb1⟩; have HX := ahide (HX.out.later hb1); obtain ⟨⟨⟨q0, q1, q2, q3⟩, ⟨s0, s1, s2⟩, _⟩, ⟨p0, p1⟩, pf, _⟩ := HX.out; have f0 := pf 0 (by omega); have f1 := pf 1 (by omega); clear hb1 pf)
    exact bodyPost_ret (v := .tuple #[.agg #[.int .i64 (mxA (i - R) (-T)), .int .i64 (mnA (i + R) T)], .nilIface]) (by simp [results, Try.results43, go_sem, p0, p1]) rfl ⟨rfl, (HX.out.1.2.2.setCell (by simp; omega) _).setCell (by simp; omega) _⟩
  · simp only [if_true]
    go_enter Try.func43, Try.ntmps43
    go_wp2_with (go_at_call 41; refine (hck _).mono ?_; rintro e w1 ⟨rfl, hb1⟩; have HX := ahide (HX.out.later hb1); obtain ⟨⟨⟨q0, q1, q2, q3⟩, ⟨s0, s1, s2⟩, _⟩, ⟨p0, p1⟩, pf, _⟩ := HX.out; have f0 := pf 0 (by omega); have f1 := pf 1 (by omega); clear hb1 pf)
    exact bodyPost_ret (v := .tuple #[.agg #[.int .i64 0, .int .i64 0], .nilIface]) (by simp [results, Try.results43, go_sem, p0, p1]) rfl ⟨rfl, (HX.out.1.2.2.setCell (by simp; omega) _).setCell (by simp; omega) _⟩
theorem reach_err (T R S C i b : Int) (o : Bool) (h0 : svE T R S C i b o ≠ 0) (w : World) :
    Calls Try.prog 43 #[.agg #[.int .i64 T, .int .i64 R, .int .i64 S, .int .i64 C], .agg #[.int .i64 i, .int .i64 b, .bool o]] w fun e w' => e = .returned (.tuple #[.agg #[.int .i64 0, .int .i64 0], .iface 26 (.int .i64 (svE T R S C i b o))]) ∧ Below w.heap.size w w' := by
  have hck := servoCheck_any T R S C i b o
  rw [errV_ne h0] at hck
  have HX := ahide (RSP.new w T R S C i b o)
  clear h0
  generalize svE T R S C i b o = x at *
  go_enter Try.func43, Try.ntmps43
  go_wp2_with (go_at_call 41; refine (hck _).mono ?_; rintro e w1 ⟨rfl, hb1⟩; have HX := ahide (HX.out.later hb1); obtain ⟨⟨⟨q0, q1, q2, q3⟩, ⟨s0, s1, s2⟩, _⟩, ⟨p0, p1⟩, pf, _⟩ := HX.out; have f0 := pf 0 (by omega); have f1 := pf 1 (by omega); clear hb1 pf)
  exact bodyPost_ret (v := .tuple #[.agg #[.int .i64 0, .int .i64 0], .iface 26 (.int .i64 x)]) (by simp [results, Try.results43, go_sem, p0, p1]) rfl ⟨rfl, (HX.out.1.2.2.setCell (by simp; omega) _).setCell (by simp; omega) _⟩

end Go.Proofs.Ythijegfacnjooaa
