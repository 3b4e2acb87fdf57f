/-
  Contracts of hold.checkAll and fulmarref.HoldMay: may a rule, a state, an ask be?
-/
import Derived.Test.YthijegfacnjooaaHoldB
namespace Go.Proofs.Ythijegfacnjooaa
open Go.RowKit Plain

/-- May a state, an ask be? -/
def stB (L H M A D W : Int) : Bool := betw A L H && betw D (-M) M && betw W 0 3
def asB (M k n q : Int) : Bool := betw k (-100) 100 && betw n 0 3 && betw q (-M) M
theorem stB_true {L H M A D W : Int} (h : stB L H M A D W = true) : (L ≤ A ∧ A ≤ H) ∧ (-M ≤ D ∧ D ≤ M) ∧ 0 ≤ W ∧ W ≤ 3 := by
  simp only [stB, Bool.and_eq_true] at h
  exact ⟨betw_true h.1.1, betw_true h.1.2, betw_true h.2⟩
theorem asB_true {M k n q : Int} (h : asB M k n q = true) : (-100 ≤ k ∧ k ≤ 100) ∧ (0 ≤ n ∧ n ≤ 3) ∧ -M ≤ q ∧ q ≤ M := by
  simp only [asB, Bool.and_eq_true] at h
  exact ⟨betw_true h.1.1, betw_true h.1.2, betw_true h.2⟩
def hoE (L H U B M : Int) (al zl : List Int) (A D W k n q : Int) : Int := if ruE L H U B M al zl = 0 then (if stB L H M A D W then (if asB M k n q then 0 else 1) else 3) else ruE L H U B M al zl
theorem hoE_zero {L H U B M : Int} {al zl : List Int} {A D W k n q : Int} (h : hoE L H U B M al zl A D W k n q = 0) : ruE L H U B M al zl = 0 ∧ stB L H M A D W = true ∧ asB M k n q = true := by
  unfold hoE at h
  split at h
  · rename_i h0
    split at h
    · rename_i h1
      split at h
      · rename_i h2; exact ⟨h0, h1, h2⟩
      · cases h
    · cases h
  · rename_i h0; exact absurd h h0

/-- A rule, a state, an ask in three boxes. -/
theorem keepHS {w u u' : World} {L H U B M : Int} {a z : Option Addr} {ca cz : Nat} {al zl : List Int} {A D W k p v n q : Int} (hb : Below u.heap.size u u') (h : (u.cell? ⟨w.heap.size, 0, none⟩ = some (.int .i64 L) ∧ u.cell? ⟨w.heap.size, 1, none⟩ = some (.int .i64 H) ∧ u.cell? ⟨w.heap.size, 2, none⟩ = some (.int .i64 U) ∧ u.cell? ⟨w.heap.size, 3, none⟩ = some (.int .i64 B) ∧ u.cell? ⟨w.heap.size, 4, none⟩ = some (.int .i64 M) ∧ u.cell? ⟨w.heap.size, 5, none⟩ = some (.slice a al.length ca) ∧ u.cell? ⟨w.heap.size, 6, none⟩ = some (.slice z zl.length cz)) ∧ (u.cell? ⟨w.heap.size + 1, 0, none⟩ = some (.int .i64 A) ∧ u.cell? ⟨w.heap.size + 1, 1, none⟩ = some (.int .i64 D) ∧ u.cell? ⟨w.heap.size + 1, 2, none⟩ = some (.int .i64 W)) ∧ (u.cell? ⟨w.heap.size + 1 + 1, 0, none⟩ = some (.int .i64 k) ∧ u.cell? ⟨w.heap.size + 1 + 1, 1, none⟩ = some (.int .i64 p) ∧ u.cell? ⟨w.heap.size + 1 + 1, 2, none⟩ = some (.int .i64 v) ∧ u.cell? ⟨w.heap.size + 1 + 1, 3, none⟩ = some (.int .i64 n) ∧ u.cell? ⟨w.heap.size + 1 + 1, 4, none⟩ = some (.int .i64 q)) ∧ Lst u a al ∧ Lst u z zl ∧ Below w.heap.size w u) : (u'.cell? ⟨w.heap.size, 0, none⟩ = some (.int .i64 L) ∧ u'.cell? ⟨w.heap.size, 1, none⟩ = some (.int .i64 H) ∧ u'.cell? ⟨w.heap.size, 2, none⟩ = some (.int .i64 U) ∧ u'.cell? ⟨w.heap.size, 3, none⟩ = some (.int .i64 B) ∧ u'.cell? ⟨w.heap.size, 4, none⟩ = some (.int .i64 M) ∧ u'.cell? ⟨w.heap.size, 5, none⟩ = some (.slice a al.length ca) ∧ u'.cell? ⟨w.heap.size, 6, none⟩ = some (.slice z zl.length cz)) ∧ (u'.cell? ⟨w.heap.size + 1, 0, none⟩ = some (.int .i64 A) ∧ u'.cell? ⟨w.heap.size + 1, 1, none⟩ = some (.int .i64 D) ∧ u'.cell? ⟨w.heap.size + 1, 2, none⟩ = some (.int .i64 W)) ∧ (u'.cell? ⟨w.heap.size + 1 + 1, 0, none⟩ = some (.int .i64 k) ∧ u'.cell? ⟨w.heap.size + 1 + 1, 1, none⟩ = some (.int .i64 p) ∧ u'.cell? ⟨w.heap.size + 1 + 1, 2, none⟩ = some (.int .i64 v) ∧ u'.cell? ⟨w.heap.size + 1 + 1, 3, none⟩ = some (.int .i64 n) ∧ u'.cell? ⟨w.heap.size + 1 + 1, 4, none⟩ = some (.int .i64 q)) ∧ Lst u' a al ∧ Lst u' z zl ∧ Below w.heap.size w u' := by
  obtain ⟨⟨h0, h1, h2, h3, h4, h5, h6⟩, ⟨s0, s1, s2⟩, ⟨r0, r1, r2, r3, r4⟩, k1, k2, k3⟩ := h
  exact ⟨⟨cell_later hb h0, cell_later hb h1, cell_later hb h2, cell_later hb h3, cell_later hb h4, cell_later hb h5, cell_later hb h6⟩, ⟨cell_later hb s0, cell_later hb s1, cell_later hb s2⟩, ⟨cell_later hb r0, cell_later hb r1, cell_later hb r2, cell_later hb r3, cell_later hb r4⟩, k1.later hb, k2.later hb, abelow_up k3 hb⟩
theorem newHS (L H U B M : Int) (a z : Option Addr) (ca cz : Nat) (al zl : List Int) (A D W k p v n q : Int) (w : World) (ha : Lst w a al) (hz : Lst w z zl) : (fun u => (u.cell? ⟨w.heap.size, 0, none⟩ = some (.int .i64 L) ∧ u.cell? ⟨w.heap.size, 1, none⟩ = some (.int .i64 H) ∧ u.cell? ⟨w.heap.size, 2, none⟩ = some (.int .i64 U) ∧ u.cell? ⟨w.heap.size, 3, none⟩ = some (.int .i64 B) ∧ u.cell? ⟨w.heap.size, 4, none⟩ = some (.int .i64 M) ∧ u.cell? ⟨w.heap.size, 5, none⟩ = some (.slice a al.length ca) ∧ u.cell? ⟨w.heap.size, 6, none⟩ = some (.slice z zl.length cz)) ∧ (u.cell? ⟨w.heap.size + 1, 0, none⟩ = some (.int .i64 A) ∧ u.cell? ⟨w.heap.size + 1, 1, none⟩ = some (.int .i64 D) ∧ u.cell? ⟨w.heap.size + 1, 2, none⟩ = some (.int .i64 W)) ∧ (u.cell? ⟨w.heap.size + 1 + 1, 0, none⟩ = some (.int .i64 k) ∧ u.cell? ⟨w.heap.size + 1 + 1, 1, none⟩ = some (.int .i64 p) ∧ u.cell? ⟨w.heap.size + 1 + 1, 2, none⟩ = some (.int .i64 v) ∧ u.cell? ⟨w.heap.size + 1 + 1, 3, none⟩ = some (.int .i64 n) ∧ u.cell? ⟨w.heap.size + 1 + 1, 4, none⟩ = some (.int .i64 q)) ∧ Lst u a al ∧ Lst u z zl ∧ Below w.heap.size w u) (((w.alloc (.cells #[.int .i64 L, .int .i64 H, .int .i64 U, .int .i64 B, .int .i64 M, .slice a al.length ca, .slice z zl.length cz] 95)).alloc (.cells #[.int .i64 A, .int .i64 D, .int .i64 W] 97)).alloc (.cells #[.int .i64 k, .int .i64 p, .int .i64 v, .int .i64 n, .int .i64 q] 99)) := by
  refine ⟨?_, ?_, ?_, ((ha.later (abelow_alloc _ _)).later (abelow_alloc _ _)).later (abelow_alloc _ _), ((hz.later (abelow_alloc _ _)).later (abelow_alloc _ _)).later (abelow_alloc _ _), abelow_up (abelow_up (abelow_alloc _ _) (abelow_alloc _ _)) (abelow_alloc _ _)⟩
  · refine ⟨?_, ?_, ?_, ?_, ?_, ?_, ?_⟩ <;> simp [go_sem]
  · refine ⟨?_, ?_, ?_⟩ <;> simp [go_sem]
  · refine ⟨?_, ?_, ?_, ?_, ?_⟩ <;> simp [go_sem]
theorem fixIn_any (x lo hi : Int) (w : World) :
    Calls Try.prog 81 #[.int .i64 x, .agg #[.int .i64 lo, .int .i64 hi]] w fun e w' => e = .returned (.bool (betw x lo hi)) ∧ Below w.heap.size w w' :=
  (fixIn_ex x lo hi w).mono fun e w' h => ⟨h.1, by rw [h.2]; exact abelow_alloc _ _⟩

set_option maxRecDepth 100000 in
set_option maxHeartbeats 4000000 in
theorem checkAll_any (L H U B M : Int) (a z : Option Addr) (ca cz : Nat) (al zl : List Int) (A D W k p v n q : Int) (hm : al.length ≤ 9223372036854775807) (hn : zl.length ≤ 9223372036854775807) (hca : al.length ≤ ca) (w : World) (ha : Lst w a al) (hz : Lst w z zl) :
    Calls Try.prog 54 #[.agg #[.int .i64 L, .int .i64 H, .int .i64 U, .int .i64 B, .int .i64 M, .slice a al.length ca, .slice z zl.length cz], .agg #[.int .i64 A, .int .i64 D, .int .i64 W], .agg #[.int .i64 k, .int .i64 p, .int .i64 v, .int .i64 n, .int .i64 q]] w fun e w' => e = .returned (errV (hoE L H U B M al zl A D W k n q)) ∧ Below w.heap.size w w' := by
  have hck := fun u (h1 : Lst u a al) (h2 : Lst u z zl) => holdCheck_any L H U B M a z ca cz al zl hm hn hca u h1 h2
  have HX := ahide (newHS L H U B M a z ca cz al zl A D W k p v n q w ha hz)
  dsimp only at HX
  clear ha hz
  by_cases h0 : ruE L H U B M al zl = 0
  · obtain ⟨_, _, _, _, m0, m1⟩ := ruB_true (ruE_zero h0).1
    have HE := ahide (show hoE L H U B M al zl A D W k n q = if stB L H M A D W then (if asB M k n q then 0 else 1) else 3 by unfold hoE; rw [if_pos h0])
    simp only [h0, errV_zero] at hck
    have f1 := fixIn_any A L H
    have f2 := isFrom_any' D (-M) M
    have f3 := isLaw_any W
    have f4 := isFrom_any' k (-100) 100
    have f5 := isLaw_any n
    have f6 := isFrom_any' q (-M) M
    unfold stB asB at HE
    generalize hoE L H U B M al zl A D W k n q = E at *
    clear h0
    generalize betw A L H = x1 at *
    generalize betw D (-M) M = x2 at *
    generalize betw W 0 3 = x3 at *
    generalize betw k (-100) 100 = y1 at *
    generalize betw n 0 3 = y2 at *
    generalize betw q (-M) M = y3 at *
    rcases (show (E = 3 ∧ (x1 = false ∨ (x1 = true ∧ x2 = false) ∨ (x1 = true ∧ x2 = true ∧ x3 = false))) ∨ (E = 1 ∧ x1 = true ∧ x2 = true ∧ x3 = true ∧ (y1 = false ∨ (y1 = true ∧ y2 = false) ∨ (y1 = true ∧ y2 = true ∧ y3 = false))) ∨ (E = 0 ∧ x1 = true ∧ x2 = true ∧ x3 = true ∧ y1 = true ∧ y2 = true ∧ y3 = true) by
      have := HE.out; cases x1 <;> cases x2 <;> cases x3 <;> cases y1 <;> cases y2 <;> cases y3 <;> simp_all) with
      ⟨rfl, (rfl | ⟨rfl, rfl⟩ | ⟨rfl, rfl, rfl⟩)⟩ | ⟨rfl, rfl, rfl, rfl, (rfl | ⟨rfl, rfl⟩ | ⟨rfl, rfl, rfl⟩)⟩ | ⟨rfl, rfl, rfl, rfl, rfl, rfl, rfl⟩
    all_goals
      clear HE
      go_enter Try.func54, Try.ntmps54
      go_wp2_with (first
        | (go_at_call 80; refine (hck _ HX.out.2.2.2.1 HX.out.2.2.2.2.1).mono ?_; rintro e w1 ⟨rfl, hb⟩; have HX := ahide (keepHS hb HX.out); obtain ⟨⟨q0, q1, q2, q3, q4, q5, q6⟩, ⟨s0, s1, s2⟩, ⟨r0, r1, r2, r3, r4⟩, _⟩ := HX.out; clear hb)
        | (go_at_call 81; refine (f1 _).mono ?_; rintro e w2 ⟨rfl, hb⟩; have HX := ahide (keepHS hb HX.out); obtain ⟨⟨q0, q1, q2, q3, q4, q5, q6⟩, ⟨s0, s1, s2⟩, ⟨r0, r1, r2, r3, r4⟩, _⟩ := HX.out; clear hb)
        | (go_at_call_of 69 (Value.int .i64 D); refine (f2 _).mono ?_; rintro e w3 ⟨rfl, hb⟩; have HX := ahide (keepHS hb HX.out); obtain ⟨⟨q0, q1, q2, q3, q4, q5, q6⟩, ⟨s0, s1, s2⟩, ⟨r0, r1, r2, r3, r4⟩, _⟩ := HX.out; clear hb)
        | (go_at_call_of 82 (Value.int .i64 W); refine (f3 _).mono ?_; rintro e w4 ⟨rfl, hb⟩; have HX := ahide (keepHS hb HX.out); obtain ⟨⟨q0, q1, q2, q3, q4, q5, q6⟩, ⟨s0, s1, s2⟩, ⟨r0, r1, r2, r3, r4⟩, _⟩ := HX.out; clear hb)
        | (go_at_call_of 69 (Value.int .i64 k); refine (f4 _).mono ?_; rintro e w5 ⟨rfl, hb⟩; have HX := ahide (keepHS hb HX.out); obtain ⟨⟨q0, q1, q2, q3, q4, q5, q6⟩, ⟨s0, s1, s2⟩, ⟨r0, r1, r2, r3, r4⟩, _⟩ := HX.out; clear hb)
        | (go_at_call_of 82 (Value.int .i64 n); refine (f5 _).mono ?_; rintro e w6 ⟨rfl, hb⟩; have HX := ahide (keepHS hb HX.out); obtain ⟨⟨q0, q1, q2, q3, q4, q5, q6⟩, ⟨s0, s1, s2⟩, ⟨r0, r1, r2, r3, r4⟩, _⟩ := HX.out; clear hb)
        | (go_at_call_of 69 (Value.int .i64 q); refine (f6 _).mono ?_; rintro e w7 ⟨rfl, hb⟩; have HX := ahide (keepHS hb HX.out); obtain ⟨⟨q0, q1, q2, q3, q4, q5, q6⟩, ⟨s0, s1, s2⟩, ⟨r0, r1, r2, r3, r4⟩, _⟩ := HX.out; clear hb))
      go_ret
      exact ⟨rfl, HX.out.2.2.2.2.2⟩
  · have HE := ahide (show hoE L H U B M al zl A D W k n q = ruE L H U B M al zl by unfold hoE; rw [if_neg h0])
    rw [HE.out]
    simp only [errV_ne h0] at hck ⊢
    clear h0 HE
    generalize ruE L H U B M al zl = E at *
    go_enter Try.func54, Try.ntmps54
    go_wp2_with (first
        | (go_at_call 80; refine (hck _ HX.out.2.2.2.1 HX.out.2.2.2.2.1).mono ?_; rintro e w1 ⟨rfl, hb⟩; have HX := ahide (keepHS hb HX.out); obtain ⟨⟨q0, q1, q2, q3, q4, q5, q6⟩, ⟨s0, s1, s2⟩, ⟨r0, r1, r2, r3, r4⟩, _⟩ := HX.out; clear hb))
    go_ret
    exact ⟨rfl, HX.out.2.2.2.2.2⟩

end Go.Proofs.Ythijegfacnjooaa
