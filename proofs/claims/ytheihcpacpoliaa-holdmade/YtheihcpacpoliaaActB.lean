/-
  Contracts of act.Check and fulmarref.ServoMay: may a servo be, by a rule?
-/
import Derived.Test.YtheihcpacpoliaaActA
namespace Go.Proofs.Ytheihcpacpoliaa
open Go.RowKit Plain

/-- Two, three, four values lie in a box. -/
def B2 (w : World) (B : Nat) (a b : Value) : Prop := w.cell? ⟨B, 0, none⟩ = some a ∧ w.cell? ⟨B, 1, none⟩ = some b
def B3 (w : World) (B : Nat) (a b c : Value) : Prop := w.cell? ⟨B, 0, none⟩ = some a ∧ w.cell? ⟨B, 1, none⟩ = some b ∧ w.cell? ⟨B, 2, none⟩ = some c
def B4 (w : World) (B : Nat) (a b c d : Value) : Prop := w.cell? ⟨B, 0, none⟩ = some a ∧ w.cell? ⟨B, 1, none⟩ = some b ∧ w.cell? ⟨B, 2, none⟩ = some c ∧ w.cell? ⟨B, 3, none⟩ = some d
theorem B2.later {w w' : World} {B : Nat} {a b : Value} (h : B2 w B a b) (hb : Below w.heap.size w w') : B2 w' B a b := ⟨cell_later hb h.1, cell_later hb h.2⟩
theorem B3.later {w w' : World} {B : Nat} {a b c : Value} (h : B3 w B a b c) (hb : Below w.heap.size w w') : B3 w' B a b c := ⟨cell_later hb h.1, cell_later hb h.2.1, cell_later hb h.2.2⟩
theorem B4.later {w w' : World} {B : Nat} {a b c d : Value} (h : B4 w B a b c d) (hb : Below w.heap.size w w') : B4 w' B a b c d := ⟨cell_later hb h.1, cell_later hb h.2.1, cell_later hb h.2.2.1, cell_later hb h.2.2.2⟩
theorem B2.new (w : World) (a b : Value) (t : TypeId) : B2 (w.alloc (.cells #[a, b] t)) w.heap.size a b := by refine ⟨?_, ?_⟩ <;> simp [go_sem]
theorem B3.new (w : World) (a b c : Value) (t : TypeId) : B3 (w.alloc (.cells #[a, b, c] t)) w.heap.size a b c := by refine ⟨?_, ?_, ?_⟩ <;> simp [go_sem]
theorem B4.new (w : World) (a b c d : Value) (t : TypeId) : B4 (w.alloc (.cells #[a, b, c, d] t)) w.heap.size a b c d := by refine ⟨?_, ?_, ?_, ?_⟩ <;> simp [go_sem]
theorem size_alloc (w : World) (o : Obj) : (w.alloc o).heap.size = w.heap.size + 1 := by simp [go_sem]
/-- A rule and a servo lie in two boxes. -/
def RS (w0 w : World) (T R S C i b : Int) (o : Bool) : Prop :=
  B4 w w0.heap.size (.int .i64 T) (.int .i64 R) (.int .i64 S) (.int .i64 C) ∧ B3 w (w0.heap.size + 1) (.int .i64 i) (.int .i64 b) (.bool o) ∧ Below w0.heap.size w0 w
theorem RS.later {w0 w w' : World} {T R S C i b : Int} {o : Bool} (h : RS w0 w T R S C i b o) (hb : Below w.heap.size w w') : RS w0 w' T R S C i b o := ⟨h.1.later hb, h.2.1.later hb, abelow_up h.2.2 hb⟩
theorem isFrom_any (x lo hi : Int) (w : World) :
    Calls Try.prog 62 #[.int .i64 x, .int .i64 lo, .int .i64 hi] w fun e w' => e = .returned (.bool (betw x lo hi)) ∧ Below w.heap.size w w' :=
  (isFrom_ex x lo hi w).mono fun e w' h => ⟨h.1, by rw [h.2]; exact abelow_alloc _ _⟩

/-- May a servo be? -/
def svB (T C i b : Int) (o : Bool) : Bool := betw i (-T) T && betw b 0 C && (!o || i == 0) && (o || decide (b < C))
def svE (T R S C i b : Int) (o : Bool) : Int := if arE T R S C = 0 then (if svB T C i b o then 0 else 3) else arE T R S C
theorem svE_zero {T R S C i b : Int} {o : Bool} (h : svE T R S C i b o = 0) : arB T R S C = true ∧ svB T C i b o = true := by
  unfold svE at h
  split at h
  · split at h
    · exact ⟨arE_zero (by assumption), by assumption⟩
    · omega
  · exact absurd h (by assumption)
theorem svE_mk {T R S C i b : Int} {o : Bool} (h : arB T R S C = true) (h' : svB T C i b o = true) : svE T R S C i b o = 0 := by
  unfold svE arE; rw [if_pos h, if_pos rfl, if_pos h']
theorem svB_true {T C i b : Int} {o : Bool} (h : svB T C i b o = true) : (-T ≤ i ∧ i ≤ T) ∧ (0 ≤ b ∧ b ≤ C) ∧ (o = true → i = 0) ∧ (o = false → b < C) := by
  simp only [svB, Bool.and_eq_true, Bool.or_eq_true, Bool.not_eq_true', beq_iff_eq, decide_eq_true_eq] at h
  obtain ⟨⟨⟨h1, h2⟩, h3⟩, h4⟩ := h
  refine ⟨betw_true h1, betw_true h2, ?_, ?_⟩
  · rintro rfl; simpa using h3
  · rintro rfl; simpa using h4
theorem svE_ne {T R S C i b : Int} {o : Bool} (h : svE T R S C i b o ≠ 0) : svE T R S C i b o = 1 ∨ svE T R S C i b o = 3 := by
  unfold svE at *
  split at h
  · rename_i h1
    split at h
    · exact absurd rfl h
    · rename_i h2; rw [if_pos h1, if_neg h2]; exact .inr rfl
  · rename_i h1; rw [if_neg h1]; exact .inl (arE_ne h1)

end Go.Proofs.Ytheihcpacpoliaa
