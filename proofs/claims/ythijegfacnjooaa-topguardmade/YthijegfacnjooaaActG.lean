/-
  The walk of the law ActSays: for every rule, servo, sample and place it returns true.
-/
import Derived.Test.YthijegfacnjooaaActF
namespace Go.Proofs.Ythijegfacnjooaa
open Go.RowKit Plain

theorem acell_other {w : World} {a c : Addr} {v u : Value} (h : w.cell? a = some u) (hc : c ≠ a) : (w.setCell c v).cell? a = some u := (World.cell?_setCell_other _ _ _ _ hc).trans h
theorem acell_same {w : World} {a : Addr} {v u : Value} (h : w.cell? a = some u) : (w.setCell a v).cell? a = some v := by simp [go_sem, h]
theorem ane_blk {C B q j : Nat} (hc : C ≠ B) : (⟨C, q, none⟩ : Addr) ≠ ⟨B, j, none⟩ := fun e => hc (congrArg Addr.block e)
theorem ane_off {B q j : Nat} (hc : q ≠ j) : (⟨B, q, none⟩ : Addr) ≠ ⟨B, j, none⟩ := fun e => hc (congrArg Addr.off e)
theorem B2.set {w : World} {B C q : Nat} {a b v : Value} (h : B2 w B a b) (hc : C ≠ B) : B2 (w.setCell ⟨C, q, none⟩ v) B a b := ⟨acell_other h.1 (ane_blk hc), acell_other h.2 (ane_blk hc)⟩
theorem B3.set {w : World} {B C q : Nat} {a b c v : Value} (h : B3 w B a b c) (hc : C ≠ B) : B3 (w.setCell ⟨C, q, none⟩ v) B a b c := ⟨acell_other h.1 (ane_blk hc), acell_other h.2.1 (ane_blk hc), acell_other h.2.2 (ane_blk hc)⟩
theorem B4.set {w : World} {B C q : Nat} {a b c d v : Value} (h : B4 w B a b c d) (hc : C ≠ B) : B4 (w.setCell ⟨C, q, none⟩ v) B a b c d := ⟨acell_other h.1 (ane_blk hc), acell_other h.2.1 (ane_blk hc), acell_other h.2.2.1 (ane_blk hc), acell_other h.2.2.2 (ane_blk hc)⟩
theorem B2.put {w : World} {B : Nat} {a b : Value} (h : B2 w B a b) (p q : Value) : B2 ((w.setCell ⟨B, 0, none⟩ p).setCell ⟨B, 1, none⟩ q) B p q :=
  ⟨acell_other (acell_same h.1) (ane_off (by decide)), acell_same (acell_other h.2 (ane_off (by decide)))⟩
theorem B3.put {w : World} {B : Nat} {a b c : Value} (h : B3 w B a b c) (p q r : Value) : B3 (((w.setCell ⟨B, 0, none⟩ p).setCell ⟨B, 1, none⟩ q).setCell ⟨B, 2, none⟩ r) B p q r :=
  ⟨acell_other (acell_other (acell_same h.1) (ane_off (by decide))) (ane_off (by decide)), acell_other (acell_same (acell_other h.2.1 (ane_off (by decide)))) (ane_off (by decide)), acell_same (acell_other (acell_other h.2.2 (ane_off (by decide))) (ane_off (by decide)))⟩
theorem B3.put0 {w : World} {B : Nat} {a b c : Value} (h : B3 w B a b c) (p : Value) : B3 (w.setCell ⟨B, 0, none⟩ p) B p b c :=
  ⟨acell_same h.1, acell_other h.2.1 (ane_off (by decide)), acell_other h.2.2 (ane_off (by decide))⟩
theorem RS.set {w0 w : World} {T R S C i b : Int} {o : Bool} {A q : Nat} {v : Value} (h : RS w0 w T R S C i b o) (hA : w0.heap.size + 1 < A) : RS w0 (w.setCell ⟨A, q, none⟩ v) T R S C i b o :=
  ⟨h.1.set (by omega), h.2.1.set (by omega), h.2.2.setCell (by simp; omega) _⟩

/-- All that ActSays works on, and its answers so far, from P on. -/
def AS (w0 w : World) (P : Nat) (T R S C i b : Int) (o y : Bool) (z : Int) (lo hi mi mb xi xb : Int) (mo xo : Bool) : Prop :=
  RS w0 w T R S C i b o ∧ B2 w (w0.heap.size + 1 + 1) (.bool y) (.int .i64 z) ∧ (B2 w P (.int .i64 lo) (.int .i64 hi) ∧ FrA w P 2) ∧ (B3 w (P + 1) (.int .i64 mi) (.int .i64 mb) (.bool mo) ∧ FrA w (P + 1) 3) ∧ (B3 w (P + 1 + 1) (.int .i64 xi) (.int .i64 xb) (.bool xo) ∧ FrA w (P + 1 + 1) 3) ∧ w0.heap.size + 1 + 1 < P
theorem AS.later {w0 w w' : World} {P : Nat} {T R S C i b : Int} {o y : Bool} {z : Int} {lo hi mi mb xi xb : Int} {mo xo : Bool} (h : AS w0 w P T R S C i b o y z lo hi mi mb xi xb mo xo) (hb : Below w.heap.size w w') : AS w0 w' P T R S C i b o y z lo hi mi mb xi xb mo xo :=
  ⟨h.1.later hb, h.2.1.later hb, ⟨h.2.2.1.1.later hb, h.2.2.1.2.later hb⟩, ⟨h.2.2.2.1.1.later hb, h.2.2.2.1.2.later hb⟩, ⟨h.2.2.2.2.1.1.later hb, h.2.2.2.2.1.2.later hb⟩, h.2.2.2.2.2⟩
/-- Behind the answers being stored. -/
def stW (w : World) (P : Nat) (lo hi i b xi xb : Int) (o xo : Bool) : World :=
  (((((((w.setCell ⟨P, 0, none⟩ (.int .i64 lo)).setCell ⟨P, 1, none⟩ (.int .i64 hi)).setCell ⟨P + 1, 0, none⟩ (.int .i64 i)).setCell ⟨P + 1, 1, none⟩ (.int .i64 b)).setCell ⟨P + 1, 2, none⟩ (.bool o)).setCell ⟨P + 1 + 1, 0, none⟩ (.int .i64 xi)).setCell ⟨P + 1 + 1, 1, none⟩ (.int .i64 xb)).setCell ⟨P + 1 + 1, 2, none⟩ (.bool xo)
theorem AS.store {w0 w : World} {P : Nat} {T R S C i b : Int} {o y : Bool} {z : Int} {lo hi mi mb xi xb : Int} {mo xo : Bool} (h : AS w0 w P T R S C i b o y z lo hi mi mb xi xb mo xo) (lo' hi' xi' xb' : Int) (xo' : Bool) : AS w0 (stW w P lo' hi' i b xi' xb' o xo') P T R S C i b o y z lo' hi' i b xi' xb' o xo' := by
  obtain ⟨h1, h2, ⟨h3, h4⟩, ⟨h5, h6⟩, ⟨h7, h8⟩, h9⟩ := h
  unfold stW
  refine ⟨?_, ?_, ⟨?_, ?_⟩, ⟨?_, ?_⟩, ⟨?_, ?_⟩, h9⟩
  · exact (((((((h1.set (by omega)).set (by omega)).set (by omega)).set (by omega)).set (by omega)).set (by omega)).set (by omega)).set (by omega)
  · exact (((((((h2.set (by omega)).set (by omega)).set (by omega)).set (by omega)).set (by omega)).set (by omega)).set (by omega)).set (by omega)
  · exact ((((((h3.put _ _).set (by omega)).set (by omega)).set (by omega)).set (by omega)).set (by omega)).set (by omega)
  · exact h4.set.set.set.set.set.set.set.set
  · exact (((((h5.set (by omega)).set (by omega)).put _ _ _).set (by omega)).set (by omega)).set (by omega)
  · exact h6.set.set.set.set.set.set.set.set
  · exact (((((h7.set (by omega)).set (by omega)).set (by omega)).set (by omega)).set (by omega)).put _ _ _
  · exact h8.set.set.set.set.set.set.set.set
theorem AS.move {w0 w : World} {P : Nat} {T R S C i b : Int} {o y : Bool} {z : Int} {lo hi mi mb xi xb : Int} {mo xo : Bool} (h : AS w0 w P T R S C i b o y z lo hi mi mb xi xb mo xo) (v : Int) : AS w0 (w.setCell ⟨P + 1, 0, none⟩ (.int .i64 v)) P T R S C i b o y z lo hi v mb xi xb mo xo := by
  obtain ⟨h1, h2, ⟨h3, h4⟩, ⟨h5, h6⟩, ⟨h7, h8⟩, h9⟩ := h
  exact ⟨h1.set (by omega), h2.set (by omega), ⟨h3.set (by omega), h4.set⟩, ⟨h5.put0 _, h6.set⟩, ⟨h7.set (by omega), h8.set⟩, h9⟩
theorem AS.new {w0 w1 : World} {T R S C i b : Int} {o y : Bool} {z : Int} (h : RS w0 w1 T R S C i b o) (h' : B2 w1 (w0.heap.size + 1 + 1) (.bool y) (.int .i64 z)) : AS w0 (((w1.alloc (.cells #[.int .i64 0, .int .i64 0] 93)).alloc (.cells #[.int .i64 0, .int .i64 0, .bool false] 53)).alloc (.cells #[.int .i64 0, .int .i64 0, .bool false] 53)) w1.heap.size T R S C i b o y z 0 0 0 0 0 0 false false := by
  have hl := World.block_lt_of_cell? w1 ⟨w0.heap.size + 1 + 1, 0, none⟩ h'.1
  have e1 := size_alloc w1 (.cells #[.int .i64 0, .int .i64 0] 93)
  have e2 := size_alloc (w1.alloc (.cells #[.int .i64 0, .int .i64 0] 93)) (.cells #[.int .i64 0, .int .i64 0, .bool false] 53)
  refine ⟨((h.later (abelow_alloc _ _)).later (abelow_alloc _ _)).later (abelow_alloc _ _), ((h'.later (abelow_alloc _ _)).later (abelow_alloc _ _)).later (abelow_alloc _ _), ⟨((B2.new _ _ _ _).later (abelow_alloc _ _)).later (abelow_alloc _ _), (FrA.new.later (abelow_alloc _ _)).later (abelow_alloc _ _)⟩, ⟨?_, ?_⟩, ⟨?_, ?_⟩, hl⟩
  · rw [← e1]; exact (B3.new _ _ _ _ _).later (abelow_alloc _ _)
  · rw [← e1]; exact FrA.new.later (abelow_alloc _ _)
  · rw [← e1, ← e2]; exact B3.new _ _ _ _ _
  · rw [← e1, ← e2]; exact FrA.new
theorem keep4 {w u u' : World} {T R S C i b : Int} {o y : Bool} {z : Int} (hb : Below u.heap.size u u') (h : ((u.cell? ⟨w.heap.size, 0, none⟩ = some (.int .i64 T) ∧ u.cell? ⟨w.heap.size, 1, none⟩ = some (.int .i64 R) ∧ u.cell? ⟨w.heap.size, 2, none⟩ = some (.int .i64 S) ∧ u.cell? ⟨w.heap.size, 3, none⟩ = some (.int .i64 C)) ∧ (u.cell? ⟨w.heap.size + 1, 0, none⟩ = some (.int .i64 i) ∧ u.cell? ⟨w.heap.size + 1, 1, none⟩ = some (.int .i64 b) ∧ u.cell? ⟨w.heap.size + 1, 2, none⟩ = some (.bool o))) ∧ (u.cell? ⟨w.heap.size + 1 + 1, 0, none⟩ = some (.bool y) ∧ u.cell? ⟨w.heap.size + 1 + 1, 1, none⟩ = some (.int .i64 z))) : ((u'.cell? ⟨w.heap.size, 0, none⟩ = some (.int .i64 T) ∧ u'.cell? ⟨w.heap.size, 1, none⟩ = some (.int .i64 R) ∧ u'.cell? ⟨w.heap.size, 2, none⟩ = some (.int .i64 S) ∧ u'.cell? ⟨w.heap.size, 3, none⟩ = some (.int .i64 C)) ∧ (u'.cell? ⟨w.heap.size + 1, 0, none⟩ = some (.int .i64 i) ∧ u'.cell? ⟨w.heap.size + 1, 1, none⟩ = some (.int .i64 b) ∧ u'.cell? ⟨w.heap.size + 1, 2, none⟩ = some (.bool o))) ∧ (u'.cell? ⟨w.heap.size + 1 + 1, 0, none⟩ = some (.bool y) ∧ u'.cell? ⟨w.heap.size + 1 + 1, 1, none⟩ = some (.int .i64 z)) :=
  ⟨⟨B4.later h.1.1 hb, B3.later h.1.2 hb⟩, B2.later h.2 hb⟩
theorem keep4s {w u : World} {T R S C i b : Int} {o y : Bool} {z : Int} {A q : Nat} {v : Value} (hA : w.heap.size + 1 + 1 < A) (h : ((u.cell? ⟨w.heap.size, 0, none⟩ = some (.int .i64 T) ∧ u.cell? ⟨w.heap.size, 1, none⟩ = some (.int .i64 R) ∧ u.cell? ⟨w.heap.size, 2, none⟩ = some (.int .i64 S) ∧ u.cell? ⟨w.heap.size, 3, none⟩ = some (.int .i64 C)) ∧ (u.cell? ⟨w.heap.size + 1, 0, none⟩ = some (.int .i64 i) ∧ u.cell? ⟨w.heap.size + 1, 1, none⟩ = some (.int .i64 b) ∧ u.cell? ⟨w.heap.size + 1, 2, none⟩ = some (.bool o))) ∧ (u.cell? ⟨w.heap.size + 1 + 1, 0, none⟩ = some (.bool y) ∧ u.cell? ⟨w.heap.size + 1 + 1, 1, none⟩ = some (.int .i64 z))) : (((u.setCell ⟨A, q, none⟩ v).cell? ⟨w.heap.size, 0, none⟩ = some (.int .i64 T) ∧ (u.setCell ⟨A, q, none⟩ v).cell? ⟨w.heap.size, 1, none⟩ = some (.int .i64 R) ∧ (u.setCell ⟨A, q, none⟩ v).cell? ⟨w.heap.size, 2, none⟩ = some (.int .i64 S) ∧ (u.setCell ⟨A, q, none⟩ v).cell? ⟨w.heap.size, 3, none⟩ = some (.int .i64 C)) ∧ ((u.setCell ⟨A, q, none⟩ v).cell? ⟨w.heap.size + 1, 0, none⟩ = some (.int .i64 i) ∧ (u.setCell ⟨A, q, none⟩ v).cell? ⟨w.heap.size + 1, 1, none⟩ = some (.int .i64 b) ∧ (u.setCell ⟨A, q, none⟩ v).cell? ⟨w.heap.size + 1, 2, none⟩ = some (.bool o))) ∧ ((u.setCell ⟨A, q, none⟩ v).cell? ⟨w.heap.size + 1 + 1, 0, none⟩ = some (.bool y) ∧ (u.setCell ⟨A, q, none⟩ v).cell? ⟨w.heap.size + 1 + 1, 1, none⟩ = some (.int .i64 z)) :=
  ⟨⟨B4.set h.1.1 (by omega), B3.set h.1.2 (by omega)⟩, B2.set h.2 (by omega)⟩
theorem keep9 {w u u' : World} {P A1 A2 A3 : Nat} {T R S C i b : Int} {o y : Bool} {z : Int} {lo hi mi mb xi xb : Int} {mo xo : Bool} (hb : Below u.heap.size u u') (h : ((u.cell? ⟨w.heap.size, 0, none⟩ = some (.int .i64 T) ∧ u.cell? ⟨w.heap.size, 1, none⟩ = some (.int .i64 R) ∧ u.cell? ⟨w.heap.size, 2, none⟩ = some (.int .i64 S) ∧ u.cell? ⟨w.heap.size, 3, none⟩ = some (.int .i64 C)) ∧ (u.cell? ⟨w.heap.size + 1, 0, none⟩ = some (.int .i64 i) ∧ u.cell? ⟨w.heap.size + 1, 1, none⟩ = some (.int .i64 b) ∧ u.cell? ⟨w.heap.size + 1, 2, none⟩ = some (.bool o))) ∧ AS w u P T R S C i b o y z lo hi mi mb xi xb mo xo ∧ B2 u A1 (.int .i64 lo) (.int .i64 hi) ∧ B3 u A2 (.int .i64 mi) (.int .i64 mb) (.bool mo) ∧ B3 u A3 (.int .i64 xi) (.int .i64 xb) (.bool xo)) : ((u'.cell? ⟨w.heap.size, 0, none⟩ = some (.int .i64 T) ∧ u'.cell? ⟨w.heap.size, 1, none⟩ = some (.int .i64 R) ∧ u'.cell? ⟨w.heap.size, 2, none⟩ = some (.int .i64 S) ∧ u'.cell? ⟨w.heap.size, 3, none⟩ = some (.int .i64 C)) ∧ (u'.cell? ⟨w.heap.size + 1, 0, none⟩ = some (.int .i64 i) ∧ u'.cell? ⟨w.heap.size + 1, 1, none⟩ = some (.int .i64 b) ∧ u'.cell? ⟨w.heap.size + 1, 2, none⟩ = some (.bool o))) ∧ AS w u' P T R S C i b o y z lo hi mi mb xi xb mo xo ∧ B2 u' A1 (.int .i64 lo) (.int .i64 hi) ∧ B3 u' A2 (.int .i64 mi) (.int .i64 mb) (.bool mo) ∧ B3 u' A3 (.int .i64 xi) (.int .i64 xb) (.bool xo) :=
  ⟨⟨B4.later h.1.1 hb, B3.later h.1.2 hb⟩, h.2.1.later hb, h.2.2.1.later hb, h.2.2.2.1.later hb, h.2.2.2.2.later hb⟩
theorem lo_le_hi {T R S C i b : Int} {o : Bool} (h : svE T R S C i b o = 0) : loR T R i o ≤ hiR T R i o := by
  obtain ⟨hr, hs⟩ := svE_zero h
  have a := arB_true hr
  have c := svB_true hs
  unfold loR hiR mxA mnA
  cases o
  · simp only [Bool.false_eq_true, if_false]; omega
  · simp

end Go.Proofs.Ythijegfacnjooaa
