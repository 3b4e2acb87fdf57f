/-
  The contract of fulmarref.Voted: what is voted, and the bank behind it.
-/
import Derived.Test.YthijegfacnjooaaVoteD
namespace Go.Proofs.Ythijegfacnjooaa
open Go.RowKit Plain

def zI (_ : Nat) : Int := 0
def zB (_ : Nat) : Bool := false
/-- All that a step works on: the bank, the rule, the samples, and the room for what is answered. -/
def StAt (w0 w : World) (b : Nat → Int) (o : Nat → Bool) (l m c : Int) (t : Nat → Bool) (s : Nat → Int) : Prop :=
  (BankAt w w0.heap.size b o l ∧ Frz w w0.heap.size 7) ∧ RuleAt w (w0.heap.size + 1) m c ∧ SampAt w (w0.heap.size + 1 + 1) t s ∧ (BankAt w (w0.heap.size + 1 + 1 + 1) zI zB 0 ∧ Frz w (w0.heap.size + 1 + 1 + 1) 7) ∧ (RuleAt w (w0.heap.size + 1 + 1 + 1 + 1) 0 0 ∧ Frz w (w0.heap.size + 1 + 1 + 1 + 1) 2) ∧ Below w0.heap.size w0 w
theorem StAt.later {w0 w w' : World} {b o l m c t s} (h : StAt w0 w b o l m c t s) (hb : Below w.heap.size w w') : StAt w0 w' b o l m c t s := by
  obtain ⟨⟨h1, h2⟩, h3, h4, ⟨h5, h6⟩, ⟨h7, h8⟩, h9⟩ := h
  exact ⟨⟨h1.later hb, h2.later hb⟩, h3.later hb, h4.later hb, ⟨h5.later hb, h6.later hb⟩, ⟨h7.later hb, h8.later hb⟩, vbelow_up h9 hb⟩
theorem StAt.lt {w0 w : World} {b o l m c t s} (h : StAt w0 w b o l m c t s) : w0.heap.size + 1 + 1 + 1 + 1 < w.heap.size := h.2.2.2.2.1.2.2
theorem StAt.setBad {w0 w : World} {b o l m c t s} (h : StAt w0 w b o l m c t s) (k : Nat) (hk : k < 3) (v : Int) : StAt w0 (w.setCell ⟨w0.heap.size, k, none⟩ (.int .i64 v)) (updI b k v) o l m c t s := by
  obtain ⟨⟨h1, h2⟩, h3, h4, ⟨h5, h6⟩, ⟨h7, h8⟩, h9⟩ := h
  exact ⟨⟨h1.setBad k hk v, h2.set⟩, h3.set (by omega), h4.set (by omega), ⟨h5.set (by omega), h6.set⟩, ⟨h7.set (by omega), h8.set⟩, h9.setCell (Nat.le_refl _) _⟩
theorem StAt.setOut {w0 w : World} {b o l m c t s} (h : StAt w0 w b o l m c t s) (k : Nat) (hk : k < 3) (v : Bool) : StAt w0 (w.setCell ⟨w0.heap.size, 3 + k, none⟩ (.bool v)) b (updB o k v) l m c t s := by
  obtain ⟨⟨h1, h2⟩, h3, h4, ⟨h5, h6⟩, ⟨h7, h8⟩, h9⟩ := h
  exact ⟨⟨h1.setOut k hk v, h2.set⟩, h3.set (by omega), h4.set (by omega), ⟨h5.set (by omega), h6.set⟩, ⟨h7.set (by omega), h8.set⟩, h9.setCell (Nat.le_refl _) _⟩
theorem StAt.setLast {w0 w : World} {b o l m c t s} (h : StAt w0 w b o l m c t s) (v : Int) : StAt w0 (w.setCell ⟨w0.heap.size, 6, none⟩ (.int .i64 v)) b o v m c t s := by
  obtain ⟨⟨h1, h2⟩, h3, h4, ⟨h5, h6⟩, ⟨h7, h8⟩, h9⟩ := h
  exact ⟨⟨h1.setLast v, h2.set⟩, h3.set (by omega), h4.set (by omega), ⟨h5.set (by omega), h6.set⟩, ⟨h7.set (by omega), h8.set⟩, h9.setCell (Nat.le_refl _) _⟩
theorem StAt.setElse {w0 w : World} {b o l m c t s} (h : StAt w0 w b o l m c t s) {C q : Nat} (hC : w0.heap.size + 1 + 1 + 1 + 1 < C) (v : Value) : StAt w0 (w.setCell ⟨C, q, none⟩ v) b o l m c t s := by
  obtain ⟨⟨h1, h2⟩, h3, h4, ⟨h5, h6⟩, ⟨h7, h8⟩, h9⟩ := h
  exact ⟨⟨h1.set (by omega), h2.set⟩, h3.set (by omega), h4.set (by omega), ⟨h5.set (by omega), h6.set⟩, ⟨h7.set (by omega), h8.set⟩, h9.setCell (by simp; omega) _⟩
theorem Frz.new {w : World} {cs : Array Value} {T : TypeId} {n : Nat} : Frz (w.alloc (.cells cs T)) w.heap.size n :=
  ⟨fun j _ => by simp [go_sem], by simp [go_sem]⟩
theorem st_new (w : World) (b : Nat → Int) (o : Nat → Bool) (l m c : Int) (t : Nat → Bool) (s : Nat → Int) :
    StAt w (((((w.alloc (.cells #[.int .i64 (b 0), .int .i64 (b 1), .int .i64 (b 2), .bool (o 0), .bool (o 1), .bool (o 2), .int .i64 l] 33)).alloc (.cells #[.int .i64 m, .int .i64 c] 23)).alloc (.cells #[.bool (t 0), .int .i64 (s 0), .bool (t 1), .int .i64 (s 1), .bool (t 2), .int .i64 (s 2)] 39)).alloc (.cells #[.int .i64 0, .int .i64 0, .int .i64 0, .bool false, .bool false, .bool false, .int .i64 0] 33)).alloc (.cells #[.int .i64 0, .int .i64 0] 41)) b o l m c t s := by
  have A := args_new w b o l m c t s
  have F1 : Frz (w.alloc (.cells #[.int .i64 (b 0), .int .i64 (b 1), .int .i64 (b 2), .bool (o 0), .bool (o 1), .bool (o 2), .int .i64 l] 33)) w.heap.size 7 := Frz.new
  have F2 := (F1.later (vbelow_alloc _ (.cells #[.int .i64 m, .int .i64 c] 23))).later (vbelow_alloc _ (.cells #[.bool (t 0), .int .i64 (s 0), .bool (t 1), .int .i64 (s 1), .bool (t 2), .int .i64 (s 2)] 39))
  have hz : ((((w.alloc (.cells #[.int .i64 (b 0), .int .i64 (b 1), .int .i64 (b 2), .bool (o 0), .bool (o 1), .bool (o 2), .int .i64 l] 33)).alloc (.cells #[.int .i64 m, .int .i64 c] 23)).alloc (.cells #[.bool (t 0), .int .i64 (s 0), .bool (t 1), .int .i64 (s 1), .bool (t 2), .int .i64 (s 2)] 39))).heap.size = w.heap.size + 1 + 1 + 1 := by simp [go_sem]
  generalize ((((w.alloc (.cells #[.int .i64 (b 0), .int .i64 (b 1), .int .i64 (b 2), .bool (o 0), .bool (o 1), .bool (o 2), .int .i64 l] 33)).alloc (.cells #[.int .i64 m, .int .i64 c] 23)).alloc (.cells #[.bool (t 0), .int .i64 (s 0), .bool (t 1), .int .i64 (s 1), .bool (t 2), .int .i64 (s 2)] 39))) = w3 at *
  have F3 : Frz (w3.alloc (.cells #[.int .i64 0, .int .i64 0, .int .i64 0, .bool false, .bool false, .bool false, .int .i64 0] 33)) (w.heap.size + 1 + 1 + 1) 7 := by rw [← hz]; exact Frz.new
  have B3 : BankAt (w3.alloc (.cells #[.int .i64 0, .int .i64 0, .int .i64 0, .bool false, .bool false, .bool false, .int .i64 0] 33)) (w.heap.size + 1 + 1 + 1) zI zB 0 := by
    rw [← hz]
    refine ⟨?_, ?_, ?_, ?_, ?_, ?_, ?_⟩ <;> simp [go_sem, zI, zB]
  have A3 := A.later A.le (vbelow_alloc w3 (.cells #[.int .i64 0, .int .i64 0, .int .i64 0, .bool false, .bool false, .bool false, .int .i64 0] 33))
  have F23 := F2.later (vbelow_alloc w3 (.cells #[.int .i64 0, .int .i64 0, .int .i64 0, .bool false, .bool false, .bool false, .int .i64 0] 33))
  have hz4 : (w3.alloc (.cells #[.int .i64 0, .int .i64 0, .int .i64 0, .bool false, .bool false, .bool false, .int .i64 0] 33)).heap.size = w.heap.size + 1 + 1 + 1 + 1 := by simp [go_sem, hz]
  generalize (w3.alloc (.cells #[.int .i64 0, .int .i64 0, .int .i64 0, .bool false, .bool false, .bool false, .int .i64 0] 33)) = w4 at *
  have L := vbelow_alloc w4 (.cells #[.int .i64 0, .int .i64 0] 41)
  have A4 := A3.later A3.le L
  refine ⟨⟨A4.1, F23.later L⟩, A4.2.1, A4.2.2.1, ⟨B3.later L, F3.later L⟩, ⟨?_, ?_⟩, A4.2.2.2⟩
  · rw [← hz4]; exact ⟨by simp [go_sem], by simp [go_sem]⟩
  · rw [← hz4]; exact Frz.new

theorem RuleAt.setBoth {w : World} {B : Nat} {m c} (h : RuleAt w B m c) (p q : Int) : RuleAt ((w.setCell ⟨B, 0, none⟩ (.int .i64 p)).setCell ⟨B, 1, none⟩ (.int .i64 q)) B p q :=
  ⟨cell_other (cell_same h.1) (ne_off (by decide)), cell_same (cell_other h.2 (ne_off (by decide)))⟩
/-- The world with the answer laid. -/
def ansW (w : World) (B C : Nat) (y0 y1 y2 : Int) (x0 x1 x2 : Bool) (l v n : Int) : World :=
  ((((((((w.setCell ⟨B, 0, none⟩ (.int .i64 y0)).setCell ⟨B, 1, none⟩ (.int .i64 y1)).setCell ⟨B, 2, none⟩ (.int .i64 y2)).setCell ⟨B, 3, none⟩ (.bool x0)).setCell ⟨B, 4, none⟩ (.bool x1)).setCell ⟨B, 5, none⟩ (.bool x2)).setCell ⟨B, 6, none⟩ (.int .i64 l)).setCell ⟨C, 0, none⟩ (.int .i64 v)).setCell ⟨C, 1, none⟩ (.int .i64 n)
theorem ansW_at {w : World} {B C : Nat} (hb : BankAt w B zI zB 0) (hr : RuleAt w C 0 0) (hne : C ≠ B) (y0 y1 y2 : Int) (x0 x1 x2 : Bool) (l v n : Int) :
    ((ansW w B C y0 y1 y2 x0 x1 x2 l v n).cell? ⟨B, 0, none⟩ = some (.int .i64 y0) ∧ (ansW w B C y0 y1 y2 x0 x1 x2 l v n).cell? ⟨B, 1, none⟩ = some (.int .i64 y1) ∧ (ansW w B C y0 y1 y2 x0 x1 x2 l v n).cell? ⟨B, 2, none⟩ = some (.int .i64 y2) ∧ (ansW w B C y0 y1 y2 x0 x1 x2 l v n).cell? ⟨B, 3, none⟩ = some (.bool x0) ∧ (ansW w B C y0 y1 y2 x0 x1 x2 l v n).cell? ⟨B, 4, none⟩ = some (.bool x1) ∧ (ansW w B C y0 y1 y2 x0 x1 x2 l v n).cell? ⟨B, 5, none⟩ = some (.bool x2) ∧ (ansW w B C y0 y1 y2 x0 x1 x2 l v n).cell? ⟨B, 6, none⟩ = some (.int .i64 l))
    ∧ RuleAt (ansW w B C y0 y1 y2 x0 x1 x2 l v n) C v n := by
  refine ⟨?_, ?_⟩
  · have h := ((((((((hb.setBad0 y0).setBad1 y1).setBad2 y2).setOut0 x0).setOut1 x1).setOut2 x2).setLast l).set (q := 0) (v := .int .i64 v) hne).set (q := 1) (v := .int .i64 n) hne
    exact h
  · exact (((((((hr.set (q := 0) (v := .int .i64 y0) (Ne.symm hne)).set (q := 1) (v := .int .i64 y1) (Ne.symm hne)).set (q := 2) (v := .int .i64 y2) (Ne.symm hne)).set (q := 3) (v := .bool x0) (Ne.symm hne)).set (q := 4) (v := .bool x1) (Ne.symm hne)).set (q := 5) (v := .bool x2) (Ne.symm hne)).set (q := 6) (v := .int .i64 l) (Ne.symm hne)).setBoth v n
theorem ansW_below {w0 w : World} {K B C : Nat} (h : Below K w0 w) (hB : K ≤ B) (hC : K ≤ C) (y0 y1 y2 : Int) (x0 x1 x2 : Bool) (l v n : Int) : Below K w0 (ansW w B C y0 y1 y2 x0 x1 x2 l v n) :=
  ((((((((h.setCell hB _).setCell hB _).setCell hB _).setCell hB _).setCell hB _).setCell hB _).setCell hB _).setCell hC _).setCell hC _

end Go.Proofs.Ythijegfacnjooaa
