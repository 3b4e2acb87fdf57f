/-
  Contracts of act.Check and fulmarref.ServoMay: may a servo be, by a rule?
-/
import Derived.Test.YthijegfacnjooaaActA
namespace Go.Proofs.Ythijegfacnjooaa
open Go.RowKit Plain

/-- Two, three, four values lie in a box. -/
def B2 (w : World) (B : Nat) (a b : Value) : Prop := w.cell? ⟨B, 0, none⟩ = some a ∧ w.cell? ⟨B, 1, none⟩ = some b
def B3 (w : World) (B : Nat) (a b c : Value) : Prop := w.cell? ⟨B, 0, none⟩ = some a ∧ w.cell? ⟨B, 1, none⟩ = some b ∧ w.cell? ⟨B, 2, none⟩ = some c
def B4 (w : World) (B : Nat) (a b c d : Value) : Prop := w.cell? ⟨B, 0, none⟩ = some a ∧ w.cell? ⟨B, 1, none⟩ = some b ∧ w.cell? ⟨B, 2, none⟩ = some c ∧ w.cell? ⟨B, 3, none⟩ = some d
theorem B2.later {w w' : World} {B : Nat} {a b : Value} (h : B2 w B a b) (hb : Below w.heap.size w w') : B2 w' B a b := ⟨cell_later hb h.1, cell_later hb h.2⟩
theorem B3.later {w w' : World} {B : Nat} {a b c : Value} (h : B3 w B a b c) (hb : Below w.heap.size w w') : B3 w' B a b c := ⟨cell_later hb h.1, cell_later hb h.2.1, cell_later hb h.2.2⟩
theorem B4.later {w w' : World} {B : Nat} {a b c d : Value} (h : B4 w B a b c d) (hb : Below w.heap.size w w') : B4 w' B a b c d := ⟨cell_later hb h.1, cell_later hb h.2.1, cell_later hb h.2.2.1, cell_later hb h.2.2.2⟩
theorem B2.new (w : World) (a b : Value) (t : TypeId) : B2 (w.alloc (.cells #[a, b] t)) w.heap.size a b := by refine ⟨?_, ?_⟩ <;> simp [go_sem]
theorem B3.new (w : World) (a b c : Value) (t : TypeId) : B3 (w.alloc (.cells #[a, b, c] t)) w.heap.size a b c := by refine ⟨?_, ?_, ?_⟩ <;> simp [go_sem]
theorem B4.new (w : World) (a b c d : Value) (t : TypeId) : B4 (w.alloc (.cells #[a, b, c, d] t)) w.heap.size a b c d := by refine ⟨?_, ?_, ?_, ?_⟩ <;> simp [go_sem]
theorem size_alloc (w : World) (o : Obj) : (w.alloc o).heap.size = w.heap.size + 1 := by simp [go_sem]
/-- A rule and a servo lie in two boxes. -/
def RS (w0 w : World) (T R S C i b : Int) (o : Bool) : Prop :=
  B4 w w0.heap.size (.int .i64 T) (.int .i64 R) (.int .i64 S) (.int .i64 C) ∧ B3 w (w0.heap.size + 1) (.int .i64 i) (.int .i64 b) (.bool o) ∧ Below w0.heap.size w0 w
theorem RS.later {w0 w w' : World} {T R S C i b : Int} {o : Bool} (h : RS w0 w T R S C i b o) (hb : Below w.heap.size w w') : RS w0 w' T R S C i b o := ⟨h.1.later hb, h.2.1.later hb, abelow_up h.2.2 hb⟩
theorem RS.new (w : World) (T R S C i b : Int) (o : Bool) : RS w ((w.alloc (.cells #[.int .i64 T, .int .i64 R, .int .i64 S, .int .i64 C] 48)).alloc (.cells #[.int .i64 i, .int .i64 b, .bool o] 53)) T R S C i b o := by
  refine ⟨(B4.new w _ _ _ _ _).later (abelow_alloc _ _), ?_, abelow_up (abelow_alloc _ _) (abelow_alloc _ _)⟩
  rw [← size_alloc w (.cells #[.int .i64 T, .int .i64 R, .int .i64 S, .int .i64 C] 48)]; exact B3.new _ _ _ _ _
theorem isFrom_any (x lo hi : Int) (w : World) :
    Calls Try.prog 69 #[.int .i64 x, .int .i64 lo, .int .i64 hi] w fun e w' => e = .returned (.bool (betw x lo hi)) ∧ Below w.heap.size w w' :=
  (isFrom_ex x lo hi w).mono fun e w' h => ⟨h.1, by rw [h.2]; exact abelow_alloc _ _⟩

/-- May a servo be? -/
def svB (T C i b : Int) (o : Bool) : Bool := betw i (-T) T && betw b 0 C && (!o || i == 0) && (o || decide (b < C))
def svE (T R S C i b : Int) (o : Bool) : Int := if arE T R S C = 0 then (if svB T C i b o then 0 else 3) else arE T R S C
theorem svE_zero {T R S C i b : Int} {o : Bool} (h : svE T R S C i b o = 0) : arB T R S C = true ∧ svB T C i b o = true := by
  unfold svE at h
  split at h
  · split at h
    · exact ⟨arE_zero (by assumption), by assumption⟩
    · omega
  · exact absurd h (by assumption)
theorem svE_mk {T R S C i b : Int} {o : Bool} (h : arB T R S C = true) (h' : svB T C i b o = true) : svE T R S C i b o = 0 := by
  unfold svE arE; rw [if_pos h, if_pos rfl, if_pos h']
theorem svB_true {T C i b : Int} {o : Bool} (h : svB T C i b o = true) : (-T ≤ i ∧ i ≤ T) ∧ (0 ≤ b ∧ b ≤ C) ∧ (o = true → i = 0) ∧ (o = false → b < C) := by
  simp only [svB, Bool.and_eq_true, Bool.or_eq_true, Bool.not_eq_true', beq_iff_eq, decide_eq_true_eq] at h
  obtain ⟨⟨⟨h1, h2⟩, h3⟩, h4⟩ := h
  refine ⟨betw_true h1, betw_true h2, ?_, ?_⟩
  · rintro rfl; simpa using h3
  · rintro rfl; simpa using h4
theorem svE_ne {T R S C i b : Int} {o : Bool} (h : svE T R S C i b o ≠ 0) : svE T R S C i b o = 1 ∨ svE T R S C i b o = 3 := by
  unfold svE at *
  split at h
  · rename_i h1
    split at h
    · exact absurd rfl h
    · rename_i h2; rw [if_pos h1, if_neg h2]; exact .inr rfl
  · rename_i h1; rw [if_neg h1]; exact .inl (arE_ne h1)

set_option maxHeartbeats 2000000 in
theorem servoCheck_any (T R S C i b : Int) (o : Bool) (w : World) :
    Calls Try.prog 41 #[.agg #[.int .i64 T, .int .i64 R, .int .i64 S, .int .i64 C], .agg #[.int .i64 i, .int .i64 b, .bool o]] w fun e w' => e = .returned (errV (svE T R S C i b o)) ∧ Below w.heap.size w w' := by
  have hr := actRule_any T R S C
  have HX := ahide (RS.new w T R S C i b o)
  by_cases e1 : arE T R S C = 0
  · rw [e1, errV_zero] at hr
    have f1 := isFrom_any i (-T) T
    have f2 := isFrom_any b 0 C
    have hE : svE T R S C i b o = if svB T C i b o then 0 else 3 := by unfold svE; rw [if_pos e1]
    obtain ⟨⟨t0, t1⟩, _, _, c0, c1⟩ := arB_true (arE_zero e1)
    have hb2 : betw b 0 C = true → b ≤ C := fun h => (betw_true h).2
    unfold svB at hE
    clear e1
    generalize betw i (-T) T = x1 at *
    generalize betw b 0 C = x2 at *
    cases x1
    · have HE : Hid (svE T R S C i b o = 3) := hE
      clear hE hb2
      go_enter Try.func41, Try.ntmps41
      go_wp2_with (first
        | (go_at_call 68; refine (hr _).mono ?_; rintro e w1 ⟨rfl, hb1⟩; have HX := ahide (HX.out.later hb1); obtain ⟨⟨r0, r1, r2, r3⟩, ⟨s0, s1, s2⟩, _⟩ := HX.out; clear hb1)
        | (go_at_call_of 69 (Value.int .i64 i); refine (f1 _).mono ?_; rintro e w2 ⟨rfl, hb2⟩; have HX := ahide (HX.out.later hb2); obtain ⟨⟨r0, r1, r2, r3⟩, ⟨s0, s1, s2⟩, _⟩ := HX.out; clear hb2))
      go_ret
      exact ⟨by rw [HE.out]; rfl, HX.out.2.2⟩
    · cases x2
      · have HE : Hid (svE T R S C i b o = 3) := hE
        clear hE hb2
        go_enter Try.func41, Try.ntmps41
        go_wp2_with (first
          | (go_at_call 68; refine (hr _).mono ?_; rintro e w1 ⟨rfl, hb1⟩; have HX := ahide (HX.out.later hb1); obtain ⟨⟨r0, r1, r2, r3⟩, ⟨s0, s1, s2⟩, _⟩ := HX.out; clear hb1)
          | (go_at_call_of 69 (Value.int .i64 i); refine (f1 _).mono ?_; rintro e w2 ⟨rfl, hb2⟩; have HX := ahide (HX.out.later hb2); obtain ⟨⟨r0, r1, r2, r3⟩, ⟨s0, s1, s2⟩, _⟩ := HX.out; clear hb2)
          | (go_at_call_of 69 (Value.int .i64 b); refine (f2 _).mono ?_; rintro e w3 ⟨rfl, hb3⟩; have HX := ahide (HX.out.later hb3); obtain ⟨⟨r0, r1, r2, r3⟩, ⟨s0, s1, s2⟩, _⟩ := HX.out; clear hb3))
        go_ret
        exact ⟨by rw [HE.out]; rfl, HX.out.2.2⟩
      · have hbC := hb2 rfl
        clear hb2
        cases o
        · by_cases hlt : b < C
          · have HE : Hid (svE T R S C i b false = 0) := by show svE T R S C i b false = 0; rw [hE]; simp [hlt]
            have hq : (b == C) = false := by simp; omega
            clear hE
            go_enter Try.func41, Try.ntmps41
            go_wp2_with (first
              | (go_at_call 68; refine (hr _).mono ?_; rintro e w1 ⟨rfl, hb1⟩; have HX := ahide (HX.out.later hb1); obtain ⟨⟨r0, r1, r2, r3⟩, ⟨s0, s1, s2⟩, _⟩ := HX.out; clear hb1)
              | (go_at_call_of 69 (Value.int .i64 i); refine (f1 _).mono ?_; rintro e w2 ⟨rfl, hb2⟩; have HX := ahide (HX.out.later hb2); obtain ⟨⟨r0, r1, r2, r3⟩, ⟨s0, s1, s2⟩, _⟩ := HX.out; clear hb2)
              | (go_at_call_of 69 (Value.int .i64 b); refine (f2 _).mono ?_; rintro e w3 ⟨rfl, hb3⟩; have HX := ahide (HX.out.later hb3); obtain ⟨⟨r0, r1, r2, r3⟩, ⟨s0, s1, s2⟩, _⟩ := HX.out; clear hb3))
            go_ret
            exact ⟨by rw [HE.out]; rfl, HX.out.2.2⟩
          · have HE : Hid (svE T R S C i b false = 3) := by show svE T R S C i b false = 3; rw [hE]; simp [hlt]
            have hq : (b == C) = true := by simp; omega
            clear hE
            go_enter Try.func41, Try.ntmps41
            go_wp2_with (first
              | (go_at_call 68; refine (hr _).mono ?_; rintro e w1 ⟨rfl, hb1⟩; have HX := ahide (HX.out.later hb1); obtain ⟨⟨r0, r1, r2, r3⟩, ⟨s0, s1, s2⟩, _⟩ := HX.out; clear hb1)
              | (go_at_call_of 69 (Value.int .i64 i); refine (f1 _).mono ?_; rintro e w2 ⟨rfl, hb2⟩; have HX := ahide (HX.out.later hb2); obtain ⟨⟨r0, r1, r2, r3⟩, ⟨s0, s1, s2⟩, _⟩ := HX.out; clear hb2)
              | (go_at_call_of 69 (Value.int .i64 b); refine (f2 _).mono ?_; rintro e w3 ⟨rfl, hb3⟩; have HX := ahide (HX.out.later hb3); obtain ⟨⟨r0, r1, r2, r3⟩, ⟨s0, s1, s2⟩, _⟩ := HX.out; clear hb3))
            go_ret
            exact ⟨by rw [HE.out]; rfl, HX.out.2.2⟩
        · by_cases hi : i = 0
          · have HE : Hid (svE T R S C i b true = 0) := by show svE T R S C i b true = 0; rw [hE]; simp [hi]
            have hq : (i != 0) = false := by simp [hi]
            clear hE hi
            go_enter Try.func41, Try.ntmps41
            go_wp2_with (first
              | (go_at_call 68; refine (hr _).mono ?_; rintro e w1 ⟨rfl, hb1⟩; have HX := ahide (HX.out.later hb1); obtain ⟨⟨r0, r1, r2, r3⟩, ⟨s0, s1, s2⟩, _⟩ := HX.out; clear hb1)
              | (go_at_call_of 69 (Value.int .i64 i); refine (f1 _).mono ?_; rintro e w2 ⟨rfl, hb2⟩; have HX := ahide (HX.out.later hb2); obtain ⟨⟨r0, r1, r2, r3⟩, ⟨s0, s1, s2⟩, _⟩ := HX.out; clear hb2)
              | (go_at_call_of 69 (Value.int .i64 b); refine (f2 _).mono ?_; rintro e w3 ⟨rfl, hb3⟩; have HX := ahide (HX.out.later hb3); obtain ⟨⟨r0, r1, r2, r3⟩, ⟨s0, s1, s2⟩, _⟩ := HX.out; clear hb3))
            go_ret
            exact ⟨by rw [HE.out]; rfl, HX.out.2.2⟩
          · have HE : Hid (svE T R S C i b true = 3) := by show svE T R S C i b true = 3; rw [hE]; simp [hi]
            have hq : (i != 0) = true := by simpa using hi
            clear hE hi
            go_enter Try.func41, Try.ntmps41
            go_wp2_with (first
              | (go_at_call 68; refine (hr _).mono ?_; rintro e w1 ⟨rfl, hb1⟩; have HX := ahide (HX.out.later hb1); obtain ⟨⟨r0, r1, r2, r3⟩, ⟨s0, s1, s2⟩, _⟩ := HX.out; clear hb1)
              | (go_at_call_of 69 (Value.int .i64 i); refine (f1 _).mono ?_; rintro e w2 ⟨rfl, hb2⟩; have HX := ahide (HX.out.later hb2); obtain ⟨⟨r0, r1, r2, r3⟩, ⟨s0, s1, s2⟩, _⟩ := HX.out; clear hb2)
              | (go_at_call_of 69 (Value.int .i64 b); refine (f2 _).mono ?_; rintro e w3 ⟨rfl, hb3⟩; have HX := ahide (HX.out.later hb3); obtain ⟨⟨r0, r1, r2, r3⟩, ⟨s0, s1, s2⟩, _⟩ := HX.out; clear hb3))
            go_ret
            exact ⟨by rw [HE.out]; rfl, HX.out.2.2⟩
  · have HE : Hid (svE T R S C i b o = 1) := by show svE T R S C i b o = 1; unfold svE; rw [if_neg e1, arE_ne e1]
    rw [arE_ne e1, errV_ne (by decide)] at hr
    clear e1
    go_enter Try.func41, Try.ntmps41
    go_wp2_with (first
      | (go_at_call 68; refine (hr _).mono ?_; rintro e w1 ⟨rfl, hb1⟩; have HX := ahide (HX.out.later hb1); obtain ⟨⟨r0, r1, r2, r3⟩, ⟨s0, s1, s2⟩, _⟩ := HX.out; clear hb1))
    go_ret
    exact ⟨by rw [HE.out]; rfl, HX.out.2.2⟩

end Go.Proofs.Ythijegfacnjooaa
