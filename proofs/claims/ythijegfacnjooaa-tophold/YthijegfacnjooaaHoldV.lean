/-
  What is wanted and held, in plain words; a rule, a state, an ask and the room for a state in four boxes.
-/
import Derived.Test.YthijegfacnjooaaHoldC
import Derived.OrdersHeld
namespace Go.Proofs.Ythijegfacnjooaa
open Go.RowKit Plain

/-- Where it should be, the pull, what is held, what is wanted: behind an ask under a law that holds. -/
def a1I (L H A W p n : Int) : Int := if n = W then A else clipI p L H
def a2I (L H U A W k p n : Int) : Int := clipI (a1I L H A W p n + hunI k U) L H
def ppI (L H U : Int) (al zl : List Int) (A W k p v n : Int) : Int := pullI (lookI al zl v) (a2I L H U A W k p n) p
def d2I (L H U M : Int) (al zl : List Int) (A D W k p v n q : Int) : Int := if n = W then D else clipI (q - ppI L H U al zl A W k p v n) (-M) M
def wtI (L H U M : Int) (al zl : List Int) (A D W k p v n q : Int) : Int := clipI (ppI L H U al zl A W k p v n + d2I L H U M al zl A D W k p v n q) (-M) M
/-- The same under every law. -/
def wX (L H U M : Int) (al zl : List Int) (A D W k p v n q : Int) : Int := if n ≤ 1 then wtI L H U M al zl A D W k p v n q else if n = 2 then hunI k M else 0
def wA (L H U A W k p n : Int) : Int := if n ≤ 1 then a2I L H U A W k p n else A
def wD (L H U M : Int) (al zl : List Int) (A D W k p v n q : Int) : Int := if n ≤ 1 then d2I L H U M al zl A D W k p v n q else D
/-- What is held behind having been told. -/
def toD (B M A D p n want got : Int) : Int := if n = 0 ∧ got = want then clipI (D + pullI B A p) (-M) M else D

theorem hline_lies {u : World} {a z : Option Addr} {al zl : List Int} (h : lineI al zl = 0) (ha : Lst u a al) (hz : Lst u z zl) : ∃ ba oa bz oz, a = some ⟨ba, oa, none⟩ ∧ z = some ⟨bz, oz, none⟩ ∧ Line u ba oa bz oz al zl := by
  obtain ⟨hl, p, _⟩ := line_of h
  have l2 := p.lo
  obtain ⟨ba, oa, e1, h1⟩ := ha.at (ne_nil_of_lt (k := 0) (by omega))
  obtain ⟨bz, oz, e2, h2⟩ := hz.at (ne_nil_of_lt (k := 0) (by omega))
  exact ⟨ba, oa, bz, oz, e1, e2, h, h1, h2⟩

/-- A proof in two steps: what is shown of the first may be used of the second. -/
theorem htwice {X G : Prop} (h : X → G) (x : X) : G := h x

/-- A rule, a state, an ask, the room for a state, in four boxes. -/
def HW (w u : World) (L H U B M : Int) (a z : Option Addr) (la lz ca cz : Nat) (A D W k p v n q : Int) : Prop := (u.cell? ⟨w.heap.size, 0, none⟩ = some (.int .i64 L) ∧ u.cell? ⟨w.heap.size, 1, none⟩ = some (.int .i64 H) ∧ u.cell? ⟨w.heap.size, 2, none⟩ = some (.int .i64 U) ∧ u.cell? ⟨w.heap.size, 3, none⟩ = some (.int .i64 B) ∧ u.cell? ⟨w.heap.size, 4, none⟩ = some (.int .i64 M) ∧ u.cell? ⟨w.heap.size, 5, none⟩ = some (.slice a la ca) ∧ u.cell? ⟨w.heap.size, 6, none⟩ = some (.slice z lz cz)) ∧ (u.cell? ⟨w.heap.size + 1, 0, none⟩ = some (.int .i64 A) ∧ u.cell? ⟨w.heap.size + 1, 1, none⟩ = some (.int .i64 D) ∧ u.cell? ⟨w.heap.size + 1, 2, none⟩ = some (.int .i64 W)) ∧ (u.cell? ⟨w.heap.size + 1 + 1, 0, none⟩ = some (.int .i64 k) ∧ u.cell? ⟨w.heap.size + 1 + 1, 1, none⟩ = some (.int .i64 p) ∧ u.cell? ⟨w.heap.size + 1 + 1, 2, none⟩ = some (.int .i64 v) ∧ u.cell? ⟨w.heap.size + 1 + 1, 3, none⟩ = some (.int .i64 n) ∧ u.cell? ⟨w.heap.size + 1 + 1, 4, none⟩ = some (.int .i64 q)) ∧ (u.cell? ⟨w.heap.size + 1 + 1 + 1, 0, none⟩ = some (.int .i64 0) ∧ u.cell? ⟨w.heap.size + 1 + 1 + 1, 1, none⟩ = some (.int .i64 0) ∧ u.cell? ⟨w.heap.size + 1 + 1 + 1, 2, none⟩ = some (.int .i64 0)) ∧ (u.frozen? ⟨w.heap.size + 1, 0, none⟩ = false ∧ u.frozen? ⟨w.heap.size + 1, 1, none⟩ = false ∧ u.frozen? ⟨w.heap.size + 1, 2, none⟩ = false) ∧ (u.frozen? ⟨w.heap.size + 1 + 1 + 1, 0, none⟩ = false ∧ u.frozen? ⟨w.heap.size + 1 + 1 + 1, 1, none⟩ = false ∧ u.frozen? ⟨w.heap.size + 1 + 1 + 1, 2, none⟩ = false) ∧ Below w.heap.size w u
theorem hfr_later {w w' : World} {Q j : Nat} {x : Value} (hb : Below w.heap.size w w') (h : w.cell? ⟨Q, j, none⟩ = some x) (k : w.frozen? ⟨Q, j, none⟩ = false) : w'.frozen? ⟨Q, j, none⟩ = false :=
  (hb.frozen (p := ⟨Q, j, none⟩) (World.block_lt_of_cell? w _ h)).trans k
theorem hcell_later {w w' : World} {Q j : Nat} {x : Value} (hb : Below w.heap.size w w') (h : w.cell? ⟨Q, j, none⟩ = some x) : w'.cell? ⟨Q, j, none⟩ = some x := cell_later hb h
section
variable {w u u' : World} {L H U B M : Int} {a z : Option Addr} {la lz ca cz : Nat} {A D W k p v n q : Int}
theorem HW.later (h : HW w u L H U B M a z la lz ca cz A D W k p v n q) (hb : Below u.heap.size u u') : HW w u' L H U B M a z la lz ca cz A D W k p v n q := by
  obtain ⟨⟨q0, q1, q2, q3, q4, q5, q6⟩, ⟨s0, s1, s2⟩, ⟨r0, r1, r2, r3, r4⟩, ⟨p0, p1, p2⟩, ⟨g0, g1, g2⟩, ⟨f0, f1, f2⟩, hB⟩ := h
  exact ⟨⟨hcell_later hb q0, hcell_later hb q1, hcell_later hb q2, hcell_later hb q3, hcell_later hb q4, hcell_later hb q5, hcell_later hb q6⟩, ⟨hcell_later hb s0, hcell_later hb s1, hcell_later hb s2⟩, ⟨hcell_later hb r0, hcell_later hb r1, hcell_later hb r2, hcell_later hb r3, hcell_later hb r4⟩, ⟨hcell_later hb p0, hcell_later hb p1, hcell_later hb p2⟩, ⟨hfr_later hb s0 g0, hfr_later hb s1 g1, hfr_later hb s2 g2⟩, ⟨hfr_later hb p0 f0, hfr_later hb p1 f1, hfr_later hb p2 f2⟩, abelow_up hB hb⟩
theorem hset_far {Q R i j : Nat} {x c : Value} (hQ : Q ≠ R) (h : u.cell? ⟨R, i, none⟩ = some c) : (u.setCell ⟨Q, j, none⟩ x).cell? ⟨R, i, none⟩ = some c := by
  rw [World.cell?_setCell_other _ _ _ _ (fun e => hQ (congrArg Addr.block e))]; exact h
theorem hset_off {Q i j : Nat} {x c : Value} (hQ : j ≠ i) (h : u.cell? ⟨Q, i, none⟩ = some c) : (u.setCell ⟨Q, j, none⟩ x).cell? ⟨Q, i, none⟩ = some c := by
  rw [World.cell?_setCell_other _ _ _ _ (fun e => hQ (congrArg Addr.off e))]; exact h
theorem hset_same {Q i : Nat} {x c : Value} (h : u.cell? ⟨Q, i, none⟩ = some c) : (u.setCell ⟨Q, i, none⟩ x).cell? ⟨Q, i, none⟩ = some x := by simp [go_sem, h]
theorem hset_fr {Q : Addr} {R i : Nat} {x : Value} (h : u.frozen? ⟨R, i, none⟩ = false) : (u.setCell Q x).frozen? ⟨R, i, none⟩ = false := by simpa [go_sem] using h
theorem HW.setA (h : HW w u L H U B M a z la lz ca cz A D W k p v n q) (x : Int) : HW w (u.setCell ⟨w.heap.size + 1, 0, none⟩ (.int .i64 x)) L H U B M a z la lz ca cz x D W k p v n q := by
  obtain ⟨⟨q0, q1, q2, q3, q4, q5, q6⟩, ⟨s0, s1, s2⟩, ⟨r0, r1, r2, r3, r4⟩, ⟨p0, p1, p2⟩, ⟨g0, g1, g2⟩, ⟨f0, f1, f2⟩, hB⟩ := h
  have n0 : w.heap.size + 1 ≠ w.heap.size := by omega
  have n2 : w.heap.size + 1 ≠ w.heap.size + 1 + 1 := by omega
  have n3 : w.heap.size + 1 ≠ w.heap.size + 1 + 1 + 1 := by omega
  exact ⟨⟨hset_far n0 q0, hset_far n0 q1, hset_far n0 q2, hset_far n0 q3, hset_far n0 q4, hset_far n0 q5, hset_far n0 q6⟩, ⟨hset_same s0, hset_off (by decide) s1, hset_off (by decide) s2⟩, ⟨hset_far n2 r0, hset_far n2 r1, hset_far n2 r2, hset_far n2 r3, hset_far n2 r4⟩, ⟨hset_far n3 p0, hset_far n3 p1, hset_far n3 p2⟩, ⟨hset_fr g0, hset_fr g1, hset_fr g2⟩, ⟨hset_fr f0, hset_fr f1, hset_fr f2⟩, hB.setCell (by simp) _⟩
theorem HW.setD (h : HW w u L H U B M a z la lz ca cz A D W k p v n q) (x : Int) : HW w (u.setCell ⟨w.heap.size + 1, 1, none⟩ (.int .i64 x)) L H U B M a z la lz ca cz A x W k p v n q := by
  obtain ⟨⟨q0, q1, q2, q3, q4, q5, q6⟩, ⟨s0, s1, s2⟩, ⟨r0, r1, r2, r3, r4⟩, ⟨p0, p1, p2⟩, ⟨g0, g1, g2⟩, ⟨f0, f1, f2⟩, hB⟩ := h
  have n0 : w.heap.size + 1 ≠ w.heap.size := by omega
  have n2 : w.heap.size + 1 ≠ w.heap.size + 1 + 1 := by omega
  have n3 : w.heap.size + 1 ≠ w.heap.size + 1 + 1 + 1 := by omega
  exact ⟨⟨hset_far n0 q0, hset_far n0 q1, hset_far n0 q2, hset_far n0 q3, hset_far n0 q4, hset_far n0 q5, hset_far n0 q6⟩, ⟨hset_off (by decide) s0, hset_same s1, hset_off (by decide) s2⟩, ⟨hset_far n2 r0, hset_far n2 r1, hset_far n2 r2, hset_far n2 r3, hset_far n2 r4⟩, ⟨hset_far n3 p0, hset_far n3 p1, hset_far n3 p2⟩, ⟨hset_fr g0, hset_fr g1, hset_fr g2⟩, ⟨hset_fr f0, hset_fr f1, hset_fr f2⟩, hB.setCell (by simp) _⟩
theorem HW.setW (h : HW w u L H U B M a z la lz ca cz A D W k p v n q) (x : Int) : HW w (u.setCell ⟨w.heap.size + 1, 2, none⟩ (.int .i64 x)) L H U B M a z la lz ca cz A D x k p v n q := by
  obtain ⟨⟨q0, q1, q2, q3, q4, q5, q6⟩, ⟨s0, s1, s2⟩, ⟨r0, r1, r2, r3, r4⟩, ⟨p0, p1, p2⟩, ⟨g0, g1, g2⟩, ⟨f0, f1, f2⟩, hB⟩ := h
  have n0 : w.heap.size + 1 ≠ w.heap.size := by omega
  have n2 : w.heap.size + 1 ≠ w.heap.size + 1 + 1 := by omega
  have n3 : w.heap.size + 1 ≠ w.heap.size + 1 + 1 + 1 := by omega
  exact ⟨⟨hset_far n0 q0, hset_far n0 q1, hset_far n0 q2, hset_far n0 q3, hset_far n0 q4, hset_far n0 q5, hset_far n0 q6⟩, ⟨hset_off (by decide) s0, hset_off (by decide) s1, hset_same s2⟩, ⟨hset_far n2 r0, hset_far n2 r1, hset_far n2 r2, hset_far n2 r3, hset_far n2 r4⟩, ⟨hset_far n3 p0, hset_far n3 p1, hset_far n3 p2⟩, ⟨hset_fr g0, hset_fr g1, hset_fr g2⟩, ⟨hset_fr f0, hset_fr f1, hset_fr f2⟩, hB.setCell (by simp) _⟩
theorem HW.new (w : World) (L H U B M : Int) (a z : Option Addr) (la lz ca cz : Nat) (A D W k p v n q : Int) : HW w ((((w.alloc (.cells #[.int .i64 L, .int .i64 H, .int .i64 U, .int .i64 B, .int .i64 M, .slice a la ca, .slice z lz cz] 95)).alloc (.cells #[.int .i64 A, .int .i64 D, .int .i64 W] 97)).alloc (.cells #[.int .i64 k, .int .i64 p, .int .i64 v, .int .i64 n, .int .i64 q] 99)).alloc (.cells #[.int .i64 0, .int .i64 0, .int .i64 0] 97)) L H U B M a z la lz ca cz A D W k p v n q := by
  refine ⟨?_, ?_, ?_, ?_, ?_, ?_, abelow_up (abelow_up (abelow_up (abelow_alloc _ _) (abelow_alloc _ _)) (abelow_alloc _ _)) (abelow_alloc _ _)⟩
  · refine ⟨?_, ?_, ?_, ?_, ?_, ?_, ?_⟩ <;> simp [go_sem]
  · refine ⟨?_, ?_, ?_⟩ <;> simp [go_sem]
  · refine ⟨?_, ?_, ?_, ?_, ?_⟩ <;> simp [go_sem]
  · refine ⟨?_, ?_, ?_⟩ <;> simp [go_sem]
  · refine ⟨?_, ?_, ?_⟩ <;> simp [go_sem]
  · refine ⟨?_, ?_, ?_⟩ <;> simp [go_sem]
end
end Go.Proofs.Ythijegfacnjooaa
