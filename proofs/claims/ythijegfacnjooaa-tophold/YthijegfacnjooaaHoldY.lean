/-
  The walk of the law HoldSays.
-/
import Derived.Test.YthijegfacnjooaaHoldM
import Derived.Test.YthijegfacnjooaaHoldU
namespace Go.Proofs.Ythijegfacnjooaa
open Go.RowKit Plain

/-- A rule, a state, an ask in three boxes. -/
def HS (w u : World) (L H U B M : Int) (a z : Option Addr) (la lz ca cz : Nat) (A D W k p v n q : Int) : Prop := (u.cell? ⟨w.heap.size, 0, none⟩ = some (.int .i64 L) ∧ u.cell? ⟨w.heap.size, 1, none⟩ = some (.int .i64 H) ∧ u.cell? ⟨w.heap.size, 2, none⟩ = some (.int .i64 U) ∧ u.cell? ⟨w.heap.size, 3, none⟩ = some (.int .i64 B) ∧ u.cell? ⟨w.heap.size, 4, none⟩ = some (.int .i64 M) ∧ u.cell? ⟨w.heap.size, 5, none⟩ = some (.slice a la ca) ∧ u.cell? ⟨w.heap.size, 6, none⟩ = some (.slice z lz cz)) ∧ (u.cell? ⟨w.heap.size + 1, 0, none⟩ = some (.int .i64 A) ∧ u.cell? ⟨w.heap.size + 1, 1, none⟩ = some (.int .i64 D) ∧ u.cell? ⟨w.heap.size + 1, 2, none⟩ = some (.int .i64 W)) ∧ (u.cell? ⟨w.heap.size + 1 + 1, 0, none⟩ = some (.int .i64 k) ∧ u.cell? ⟨w.heap.size + 1 + 1, 1, none⟩ = some (.int .i64 p) ∧ u.cell? ⟨w.heap.size + 1 + 1, 2, none⟩ = some (.int .i64 v) ∧ u.cell? ⟨w.heap.size + 1 + 1, 3, none⟩ = some (.int .i64 n) ∧ u.cell? ⟨w.heap.size + 1 + 1, 4, none⟩ = some (.int .i64 q)) ∧ Below w.heap.size w u
/-- Three numbers in a box that may be written. -/
def R3 (u : World) (P : Nat) (x y z : Int) : Prop := (u.cell? ⟨P, 0, none⟩ = some (.int .i64 x) ∧ u.cell? ⟨P, 1, none⟩ = some (.int .i64 y) ∧ u.cell? ⟨P, 2, none⟩ = some (.int .i64 z)) ∧ (u.frozen? ⟨P, 0, none⟩ = false ∧ u.frozen? ⟨P, 1, none⟩ = false ∧ u.frozen? ⟨P, 2, none⟩ = false)
section
variable {w u u' : World} {L H U B M : Int} {a z : Option Addr} {la lz ca cz : Nat} {A D W k p v n q : Int}
theorem HS.later (h : HS w u L H U B M a z la lz ca cz A D W k p v n q) (hb : Below u.heap.size u u') : HS w u' L H U B M a z la lz ca cz A D W k p v n q := by
  obtain ⟨⟨q0, q1, q2, q3, q4, q5, q6⟩, ⟨s0, s1, s2⟩, ⟨r0, r1, r2, r3, r4⟩, hB⟩ := h
  exact ⟨⟨hcell_later hb q0, hcell_later hb q1, hcell_later hb q2, hcell_later hb q3, hcell_later hb q4, hcell_later hb q5, hcell_later hb q6⟩, ⟨hcell_later hb s0, hcell_later hb s1, hcell_later hb s2⟩, ⟨hcell_later hb r0, hcell_later hb r1, hcell_later hb r2, hcell_later hb r3, hcell_later hb r4⟩, abelow_up hB hb⟩
theorem HS.set (h : HS w u L H U B M a z la lz ca cz A D W k p v n q) {Q j : Nat} {x : Value} (hQ : w.heap.size + 1 + 1 < Q) : HS w (u.setCell ⟨Q, j, none⟩ x) L H U B M a z la lz ca cz A D W k p v n q := by
  obtain ⟨⟨q0, q1, q2, q3, q4, q5, q6⟩, ⟨s0, s1, s2⟩, ⟨r0, r1, r2, r3, r4⟩, hB⟩ := h
  have n0 : Q ≠ w.heap.size := by omega
  have n1 : Q ≠ w.heap.size + 1 := by omega
  have n2 : Q ≠ w.heap.size + 1 + 1 := by omega
  exact ⟨⟨hset_far n0 q0, hset_far n0 q1, hset_far n0 q2, hset_far n0 q3, hset_far n0 q4, hset_far n0 q5, hset_far n0 q6⟩, ⟨hset_far n1 s0, hset_far n1 s1, hset_far n1 s2⟩, ⟨hset_far n2 r0, hset_far n2 r1, hset_far n2 r2, hset_far n2 r3, hset_far n2 r4⟩, hB.setCell (by simp; omega) _⟩
theorem HS.new (w : World) (L H U B M : Int) (a z : Option Addr) (la lz ca cz : Nat) (A D W k p v n q : Int) : HS w (((w.alloc (.cells #[.int .i64 L, .int .i64 H, .int .i64 U, .int .i64 B, .int .i64 M, .slice a la ca, .slice z lz cz] 95)).alloc (.cells #[.int .i64 A, .int .i64 D, .int .i64 W] 97)).alloc (.cells #[.int .i64 k, .int .i64 p, .int .i64 v, .int .i64 n, .int .i64 q] 99)) L H U B M a z la lz ca cz A D W k p v n q := by
  refine ⟨?_, ?_, ?_, abelow_up (abelow_up (abelow_alloc _ _) (abelow_alloc _ _)) (abelow_alloc _ _)⟩
  · refine ⟨?_, ?_, ?_, ?_, ?_, ?_, ?_⟩ <;> simp [go_sem]
  · refine ⟨?_, ?_, ?_⟩ <;> simp [go_sem]
  · refine ⟨?_, ?_, ?_, ?_, ?_⟩ <;> simp [go_sem]
theorem R3.later {P : Nat} {x y z : Int} (h : R3 u P x y z) (hb : Below u.heap.size u u') : R3 u' P x y z :=
  ⟨⟨hcell_later hb h.1.1, hcell_later hb h.1.2.1, hcell_later hb h.1.2.2⟩, ⟨hfr_later hb h.1.1 h.2.1, hfr_later hb h.1.2.1 h.2.2.1, hfr_later hb h.1.2.2 h.2.2.2⟩⟩
theorem R3.new (u : World) (x y z : Int) (t : TypeId) : R3 (u.alloc (.cells #[.int .i64 x, .int .i64 y, .int .i64 z] t)) u.heap.size x y z := by
  refine ⟨⟨?_, ?_, ?_⟩, ?_, ?_, ?_⟩ <;> simp [go_sem]
theorem R3.set {P Q j : Nat} {x y z : Int} {c : Value} (h : R3 u P x y z) (hQ : Q ≠ P) : R3 (u.setCell ⟨Q, j, none⟩ c) P x y z :=
  ⟨⟨hset_far hQ h.1.1, hset_far hQ h.1.2.1, hset_far hQ h.1.2.2⟩, ⟨hset_fr h.2.1, hset_fr h.2.2.1, hset_fr h.2.2.2⟩⟩
theorem R3.put {P : Nat} {x y z : Int} (h : R3 u P x y z) (x' y' z' : Int) : R3 (((u.setCell ⟨P, 0, none⟩ (.int .i64 x')).setCell ⟨P, 1, none⟩ (.int .i64 y')).setCell ⟨P, 2, none⟩ (.int .i64 z')) P x' y' z' :=
  ⟨⟨hset_off (by decide) (hset_off (by decide) (hset_same h.1.1)), hset_off (by decide) (hset_same (hset_off (by decide) h.1.2.1)), hset_same (hset_off (by decide) (hset_off (by decide) h.1.2.2))⟩, ⟨hset_fr (hset_fr (hset_fr h.2.1)), hset_fr (hset_fr (hset_fr h.2.2.1)), hset_fr (hset_fr (hset_fr h.2.2.2))⟩⟩
theorem R3.two (u : World) (t : TypeId) : R3 ((u.alloc (.cells #[.int .i64 0, .int .i64 0, .int .i64 0] t)).alloc (.cells #[.int .i64 0, .int .i64 0, .int .i64 0] t)) u.heap.size 0 0 0 ∧ R3 ((u.alloc (.cells #[.int .i64 0, .int .i64 0, .int .i64 0] t)).alloc (.cells #[.int .i64 0, .int .i64 0, .int .i64 0] t)) (u.heap.size + 1) 0 0 0 :=
  ⟨(R3.new u 0 0 0 t).later (abelow_alloc _ _), by refine ⟨⟨?_, ?_, ?_⟩, ?_, ?_, ?_⟩ <;> simp [go_sem]⟩
end
theorem keepS9 {w u u' : World} {A1 A2 P : Nat} {L H U B M : Int} {a z : Option Addr} {al zl : List Int} {ca cz : Nat} {xa xd n A td W : Int} (hb : Below u.heap.size u u') (h : (u.cell? ⟨w.heap.size, 0, none⟩ = some (.int .i64 L) ∧ u.cell? ⟨w.heap.size, 1, none⟩ = some (.int .i64 H) ∧ u.cell? ⟨w.heap.size, 2, none⟩ = some (.int .i64 U) ∧ u.cell? ⟨w.heap.size, 3, none⟩ = some (.int .i64 B) ∧ u.cell? ⟨w.heap.size, 4, none⟩ = some (.int .i64 M) ∧ u.cell? ⟨w.heap.size, 5, none⟩ = some (.slice a al.length ca) ∧ u.cell? ⟨w.heap.size, 6, none⟩ = some (.slice z zl.length cz)) ∧ (u.cell? ⟨A1, 0, none⟩ = some (.int .i64 xa) ∧ u.cell? ⟨A1, 1, none⟩ = some (.int .i64 xd) ∧ u.cell? ⟨A1, 2, none⟩ = some (.int .i64 n)) ∧ (u.cell? ⟨P, 0, none⟩ = some (.int .i64 xa) ∧ u.cell? ⟨P, 1, none⟩ = some (.int .i64 xd) ∧ u.cell? ⟨P, 2, none⟩ = some (.int .i64 n)) ∧ (u.cell? ⟨A2, 0, none⟩ = some (.int .i64 A) ∧ u.cell? ⟨A2, 1, none⟩ = some (.int .i64 td) ∧ u.cell? ⟨A2, 2, none⟩ = some (.int .i64 W)) ∧ (u.cell? ⟨P + 1, 0, none⟩ = some (.int .i64 A) ∧ u.cell? ⟨P + 1, 1, none⟩ = some (.int .i64 td) ∧ u.cell? ⟨P + 1, 2, none⟩ = some (.int .i64 W)) ∧ Below w.heap.size w u) : (u'.cell? ⟨w.heap.size, 0, none⟩ = some (.int .i64 L) ∧ u'.cell? ⟨w.heap.size, 1, none⟩ = some (.int .i64 H) ∧ u'.cell? ⟨w.heap.size, 2, none⟩ = some (.int .i64 U) ∧ u'.cell? ⟨w.heap.size, 3, none⟩ = some (.int .i64 B) ∧ u'.cell? ⟨w.heap.size, 4, none⟩ = some (.int .i64 M) ∧ u'.cell? ⟨w.heap.size, 5, none⟩ = some (.slice a al.length ca) ∧ u'.cell? ⟨w.heap.size, 6, none⟩ = some (.slice z zl.length cz)) ∧ (u'.cell? ⟨A1, 0, none⟩ = some (.int .i64 xa) ∧ u'.cell? ⟨A1, 1, none⟩ = some (.int .i64 xd) ∧ u'.cell? ⟨A1, 2, none⟩ = some (.int .i64 n)) ∧ (u'.cell? ⟨P, 0, none⟩ = some (.int .i64 xa) ∧ u'.cell? ⟨P, 1, none⟩ = some (.int .i64 xd) ∧ u'.cell? ⟨P, 2, none⟩ = some (.int .i64 n)) ∧ (u'.cell? ⟨A2, 0, none⟩ = some (.int .i64 A) ∧ u'.cell? ⟨A2, 1, none⟩ = some (.int .i64 td) ∧ u'.cell? ⟨A2, 2, none⟩ = some (.int .i64 W)) ∧ (u'.cell? ⟨P + 1, 0, none⟩ = some (.int .i64 A) ∧ u'.cell? ⟨P + 1, 1, none⟩ = some (.int .i64 td) ∧ u'.cell? ⟨P + 1, 2, none⟩ = some (.int .i64 W)) ∧ Below w.heap.size w u' := by
  obtain ⟨⟨q0, q1, q2, q3, q4, q5, q6⟩, ⟨s0, s1, s2⟩, ⟨r0, r1, r2⟩, ⟨f0, f1, f2⟩, ⟨g0, g1, g2⟩, hB⟩ := h
  exact ⟨⟨hcell_later hb q0, hcell_later hb q1, hcell_later hb q2, hcell_later hb q3, hcell_later hb q4, hcell_later hb q5, hcell_later hb q6⟩, ⟨hcell_later hb s0, hcell_later hb s1, hcell_later hb s2⟩, ⟨hcell_later hb r0, hcell_later hb r1, hcell_later hb r2⟩, ⟨hcell_later hb f0, hcell_later hb f1, hcell_later hb f2⟩, ⟨hcell_later hb g0, hcell_later hb g1, hcell_later hb g2⟩, abelow_up hB hb⟩
end Go.Proofs.Ythijegfacnjooaa
