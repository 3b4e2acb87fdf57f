/-
  The walk of the law HoldSays.
-/
import Derived.Test.YtheihcpacpoliaaHoldM
import Derived.Test.YtheihcpacpoliaaHoldU
namespace Go.Proofs.Ytheihcpacpoliaa
open Go.RowKit Plain

/-- A rule, a state, an ask in three boxes. -/
def HS (w u : World) (L H U B M : Int) (a z : Option Addr) (la lz ca cz : Nat) (A D W k p v n q : Int) : Prop := (u.cell? ⟨w.heap.size, 0, none⟩ = some (.int .i64 L) ∧ u.cell? ⟨w.heap.size, 1, none⟩ = some (.int .i64 H) ∧ u.cell? ⟨w.heap.size, 2, none⟩ = some (.int .i64 U) ∧ u.cell? ⟨w.heap.size, 3, none⟩ = some (.int .i64 B) ∧ u.cell? ⟨w.heap.size, 4, none⟩ = some (.int .i64 M) ∧ u.cell? ⟨w.heap.size, 5, none⟩ = some (.slice a la ca) ∧ u.cell? ⟨w.heap.size, 6, none⟩ = some (.slice z lz cz)) ∧ (u.cell? ⟨w.heap.size + 1, 0, none⟩ = some (.int .i64 A) ∧ u.cell? ⟨w.heap.size + 1, 1, none⟩ = some (.int .i64 D) ∧ u.cell? ⟨w.heap.size + 1, 2, none⟩ = some (.int .i64 W)) ∧ (u.cell? ⟨w.heap.size + 1 + 1, 0, none⟩ = some (.int .i64 k) ∧ u.cell? ⟨w.heap.size + 1 + 1, 1, none⟩ = some (.int .i64 p) ∧ u.cell? ⟨w.heap.size + 1 + 1, 2, none⟩ = some (.int .i64 v) ∧ u.cell? ⟨w.heap.size + 1 + 1, 3, none⟩ = some (.int .i64 n) ∧ u.cell? ⟨w.heap.size + 1 + 1, 4, none⟩ = some (.int .i64 q)) ∧ Below w.heap.size w u
/-- Three numbers in a box that may be written. -/
def R3 (u : World) (P : Nat) (x y z : Int) : Prop := (u.cell? ⟨P, 0, none⟩ = some (.int .i64 x) ∧ u.cell? ⟨P, 1, none⟩ = some (.int .i64 y) ∧ u.cell? ⟨P, 2, none⟩ = some (.int .i64 z)) ∧ (u.frozen? ⟨P, 0, none⟩ = false ∧ u.frozen? ⟨P, 1, none⟩ = false ∧ u.frozen? ⟨P, 2, none⟩ = false)
section
variable {w u u' : World} {L H U B M : Int} {a z : Option Addr} {la lz ca cz : Nat} {A D W k p v n q : Int}
theorem HS.later (h : HS w u L H U B M a z la lz ca cz A D W k p v n q) (hb : Below u.heap.size u u') : HS w u' L H U B M a z la lz ca cz A D W k p v n q := by
  obtain ⟨⟨q0, q1, q2, q3, q4, q5, q6⟩, ⟨s0, s1, s2⟩, ⟨r0, r1, r2, r3, r4⟩, hB⟩ := h
  exact ⟨⟨hcell_later hb q0, hcell_later hb q1, hcell_later hb q2, hcell_later hb q3, hcell_later hb q4, hcell_later hb q5, hcell_later hb q6⟩, ⟨hcell_later hb s0, hcell_later hb s1, hcell_later hb s2⟩, ⟨hcell_later hb r0, hcell_later hb r1, hcell_later hb r2, hcell_later hb r3, hcell_later hb r4⟩, abelow_up hB hb⟩
theorem HS.set (h : HS w u L H U B M a z la lz ca cz A D W k p v n q) {Q j : Nat} {x : Value} (hQ : w.heap.size + 1 + 1 < Q) : HS w (u.setCell ⟨Q, j, none⟩ x) L H U B M a z la lz ca cz A D W k p v n q := by
  obtain ⟨⟨q0, q1, q2, q3, q4, q5, q6⟩, ⟨s0, s1, s2⟩, ⟨r0, r1, r2, r3, r4⟩, hB⟩ := h
  have n0 : Q ≠ w.heap.size := by omega
  have n1 : Q ≠ w.heap.size + 1 := by omega
  have n2 : Q ≠ w.heap.size + 1 + 1 := by omega
  exact ⟨⟨hset_far n0 q0, hset_far n0 q1, hset_far n0 q2, hset_far n0 q3, hset_far n0 q4, hset_far n0 q5, hset_far n0 q6⟩, ⟨hset_far n1 s0, hset_far n1 s1, hset_far n1 s2⟩, ⟨hset_far n2 r0, hset_far n2 r1, hset_far n2 r2, hset_far n2 r3, hset_far n2 r4⟩, hB.setCell (by simp; omega) _⟩
theorem HS.new (w : World) (L H U B M : Int) (a z : Option Addr) (la lz ca cz : Nat) (A D W k p v n q : Int) : HS w (((w.alloc (.cells #[.int .i64 L, .int .i64 H, .int .i64 U, .int .i64 B, .int .i64 M, .slice a la ca, .slice z lz cz] 45)).alloc (.cells #[.int .i64 A, .int .i64 D, .int .i64 W] 58)).alloc (.cells #[.int .i64 k, .int .i64 p, .int .i64 v, .int .i64 n, .int .i64 q] 61)) L H U B M a z la lz ca cz A D W k p v n q := by
  refine ⟨?_, ?_, ?_, abelow_up (abelow_up (abelow_alloc _ _) (abelow_alloc _ _)) (abelow_alloc _ _)⟩
  · refine ⟨?_, ?_, ?_, ?_, ?_, ?_, ?_⟩ <;> simp [go_sem]
  · refine ⟨?_, ?_, ?_⟩ <;> simp [go_sem]
  · refine ⟨?_, ?_, ?_, ?_, ?_⟩ <;> simp [go_sem]
theorem R3.later {P : Nat} {x y z : Int} (h : R3 u P x y z) (hb : Below u.heap.size u u') : R3 u' P x y z :=
  ⟨⟨hcell_later hb h.1.1, hcell_later hb h.1.2.1, hcell_later hb h.1.2.2⟩, ⟨hfr_later hb h.1.1 h.2.1, hfr_later hb h.1.2.1 h.2.2.1, hfr_later hb h.1.2.2 h.2.2.2⟩⟩
theorem R3.new (u : World) (x y z : Int) (t : TypeId) : R3 (u.alloc (.cells #[.int .i64 x, .int .i64 y, .int .i64 z] t)) u.heap.size x y z := by
  refine ⟨⟨?_, ?_, ?_⟩, ?_, ?_, ?_⟩ <;> simp [go_sem]
theorem R3.set {P Q j : Nat} {x y z : Int} {c : Value} (h : R3 u P x y z) (hQ : Q ≠ P) : R3 (u.setCell ⟨Q, j, none⟩ c) P x y z :=
  ⟨⟨hset_far hQ h.1.1, hset_far hQ h.1.2.1, hset_far hQ h.1.2.2⟩, ⟨hset_fr h.2.1, hset_fr h.2.2.1, hset_fr h.2.2.2⟩⟩
theorem R3.put {P : Nat} {x y z : Int} (h : R3 u P x y z) (x' y' z' : Int) : R3 (((u.setCell ⟨P, 0, none⟩ (.int .i64 x')).setCell ⟨P, 1, none⟩ (.int .i64 y')).setCell ⟨P, 2, none⟩ (.int .i64 z')) P x' y' z' :=
  ⟨⟨hset_off (by decide) (hset_off (by decide) (hset_same h.1.1)), hset_off (by decide) (hset_same (hset_off (by decide) h.1.2.1)), hset_same (hset_off (by decide) (hset_off (by decide) h.1.2.2))⟩, ⟨hset_fr (hset_fr (hset_fr h.2.1)), hset_fr (hset_fr (hset_fr h.2.2.1)), hset_fr (hset_fr (hset_fr h.2.2.2))⟩⟩
theorem R3.two (u : World) (t : TypeId) : R3 ((u.alloc (.cells #[.int .i64 0, .int .i64 0, .int .i64 0] t)).alloc (.cells #[.int .i64 0, .int .i64 0, .int .i64 0] t)) u.heap.size 0 0 0 ∧ R3 ((u.alloc (.cells #[.int .i64 0, .int .i64 0, .int .i64 0] t)).alloc (.cells #[.int .i64 0, .int .i64 0, .int .i64 0] t)) (u.heap.size + 1) 0 0 0 :=
  ⟨(R3.new u 0 0 0 t).later (abelow_alloc _ _), by refine ⟨⟨?_, ?_, ?_⟩, ?_, ?_, ?_⟩ <;> simp [go_sem]⟩
end
theorem keepS9 {w u u' : World} {A1 A2 P : Nat} {L H U B M : Int} {a z : Option Addr} {al zl : List Int} {ca cz : Nat} {xa xd n A td W : Int} (hb : Below u.heap.size u u') (h : (u.cell? ⟨w.heap.size, 0, none⟩ = some (.int .i64 L) ∧ u.cell? ⟨w.heap.size, 1, none⟩ = some (.int .i64 H) ∧ u.cell? ⟨w.heap.size, 2, none⟩ = some (.int .i64 U) ∧ u.cell? ⟨w.heap.size, 3, none⟩ = some (.int .i64 B) ∧ u.cell? ⟨w.heap.size, 4, none⟩ = some (.int .i64 M) ∧ u.cell? ⟨w.heap.size, 5, none⟩ = some (.slice a al.length ca) ∧ u.cell? ⟨w.heap.size, 6, none⟩ = some (.slice z zl.length cz)) ∧ (u.cell? ⟨A1, 0, none⟩ = some (.int .i64 xa) ∧ u.cell? ⟨A1, 1, none⟩ = some (.int .i64 xd) ∧ u.cell? ⟨A1, 2, none⟩ = some (.int .i64 n)) ∧ (u.cell? ⟨P, 0, none⟩ = some (.int .i64 xa) ∧ u.cell? ⟨P, 1, none⟩ = some (.int .i64 xd) ∧ u.cell? ⟨P, 2, none⟩ = some (.int .i64 n)) ∧ (u.cell? ⟨A2, 0, none⟩ = some (.int .i64 A) ∧ u.cell? ⟨A2, 1, none⟩ = some (.int .i64 td) ∧ u.cell? ⟨A2, 2, none⟩ = some (.int .i64 W)) ∧ (u.cell? ⟨P + 1, 0, none⟩ = some (.int .i64 A) ∧ u.cell? ⟨P + 1, 1, none⟩ = some (.int .i64 td) ∧ u.cell? ⟨P + 1, 2, none⟩ = some (.int .i64 W)) ∧ Below w.heap.size w u) : (u'.cell? ⟨w.heap.size, 0, none⟩ = some (.int .i64 L) ∧ u'.cell? ⟨w.heap.size, 1, none⟩ = some (.int .i64 H) ∧ u'.cell? ⟨w.heap.size, 2, none⟩ = some (.int .i64 U) ∧ u'.cell? ⟨w.heap.size, 3, none⟩ = some (.int .i64 B) ∧ u'.cell? ⟨w.heap.size, 4, none⟩ = some (.int .i64 M) ∧ u'.cell? ⟨w.heap.size, 5, none⟩ = some (.slice a al.length ca) ∧ u'.cell? ⟨w.heap.size, 6, none⟩ = some (.slice z zl.length cz)) ∧ (u'.cell? ⟨A1, 0, none⟩ = some (.int .i64 xa) ∧ u'.cell? ⟨A1, 1, none⟩ = some (.int .i64 xd) ∧ u'.cell? ⟨A1, 2, none⟩ = some (.int .i64 n)) ∧ (u'.cell? ⟨P, 0, none⟩ = some (.int .i64 xa) ∧ u'.cell? ⟨P, 1, none⟩ = some (.int .i64 xd) ∧ u'.cell? ⟨P, 2, none⟩ = some (.int .i64 n)) ∧ (u'.cell? ⟨A2, 0, none⟩ = some (.int .i64 A) ∧ u'.cell? ⟨A2, 1, none⟩ = some (.int .i64 td) ∧ u'.cell? ⟨A2, 2, none⟩ = some (.int .i64 W)) ∧ (u'.cell? ⟨P + 1, 0, none⟩ = some (.int .i64 A) ∧ u'.cell? ⟨P + 1, 1, none⟩ = some (.int .i64 td) ∧ u'.cell? ⟨P + 1, 2, none⟩ = some (.int .i64 W)) ∧ Below w.heap.size w u' := by
  obtain ⟨⟨q0, q1, q2, q3, q4, q5, q6⟩, ⟨s0, s1, s2⟩, ⟨r0, r1, r2⟩, ⟨f0, f1, f2⟩, ⟨g0, g1, g2⟩, hB⟩ := h
  exact ⟨⟨hcell_later hb q0, hcell_later hb q1, hcell_later hb q2, hcell_later hb q3, hcell_later hb q4, hcell_later hb q5, hcell_later hb q6⟩, ⟨hcell_later hb s0, hcell_later hb s1, hcell_later hb s2⟩, ⟨hcell_later hb r0, hcell_later hb r1, hcell_later hb r2⟩, ⟨hcell_later hb f0, hcell_later hb f1, hcell_later hb f2⟩, ⟨hcell_later hb g0, hcell_later hb g1, hcell_later hb g2⟩, abelow_up hB hb⟩
theorem his_same (x : Int) (w : World) : Calls Try.prog 10 #[errV x, .int .i64 x] w fun r w' => r = .returned (.bool true) ∧ w' = w := by
  have h := is_any x x w
  rwa [beq_self_eq_true] at h

set_option maxRecDepth 100000 in
set_option maxHeartbeats 4000000 in
theorem holdSays_no (L H U B M : Int) (a z : Option Addr) (ca cz : Nat) (al zl : List Int) (A D W k p v n q : Int) (want got : Int) (hm : al.length ≤ 20) (hn : zl.length ≤ 20) (hca : al.length ≤ ca) (he : hoE L H U B M al zl A D W k n q ≠ 0) (w : World) (ha : Lst w a al) (hz : Lst w z zl) :
    Calls Try.prog 17 #[.agg #[.int .i64 L, .int .i64 H, .int .i64 U, .int .i64 B, .int .i64 M, .slice a al.length ca, .slice z zl.length cz], .agg #[.int .i64 A, .int .i64 D, .int .i64 W], .agg #[.int .i64 k, .int .i64 p, .int .i64 v, .int .i64 n, .int .i64 q], .int .i64 want, .int .i64 got] w fun e w' => e = .returned (.bool true) ∧ Below w.heap.size w w' := by
  have hmm : al.length ≤ 9223372036854775807 := by omega
  have hnn : zl.length ≤ 9223372036854775807 := by omega
  have hho := fun u (h : Below w.heap.size w u) => holdMay_any L H U B M a z ca cz al zl A D W k p v n q hmm hnn u (ha.later h) (hz.later h)
  have hck0 := fun u (h : Below w.heap.size w u) => holdCheck_any L H U B M a z ca cz al zl hmm hnn hca u (ha.later h) (hz.later h)
  have hrm0 := fun u (h : Below w.heap.size w u) => holdRuleMay_any L H U B M a z ca cz al zl hmm hnn u (ha.later h) (hz.later h)
  have HX := ahide (HS.new w L H U B M a z al.length zl.length ca cz A D W k p v n q)
  have m1 : (al.length : Int) ≤ 20 := by omega
  have n1 : (zl.length : Int) ≤ 20 := by omega
  have hwa := fun u (h : Below w.heap.size w u) => want_err L H U B M a z ca cz al zl A D W k p v n q hmm hnn hca he u (ha.later h) (hz.later h)
  have hto := fun u (h : Below w.heap.size w u) => told_err L H U B M a z ca cz al zl A D W k p v n q want got hmm hnn hca he u (ha.later h) (hz.later h)
  simp only [← errV_ne he] at hwa hto
  have hx : (hoE L H U B M al zl A D W k n q == 0) = false := by simpa using he
  clear he ha hz hmm hnn
  generalize hoE L H U B M al zl A D W k n q = E at *
  generalize ruE L H U B M al zl = F at *
  go_enter Try.func17, Try.ntmps17
  go_upto_region 8 with (go_at_call 32; refine (hho _ HX.out.2.2.2).mono ?_; rintro e w1 ⟨rfl, hb1⟩; have HX := ahide (HX.out.later hb1); have HL := ahide (World.block_lt_of_cell? w1 ⟨w.heap.size + 1 + 1, 0, none⟩ HX.out.2.2.1.1); have HX := ahide ((HX.out.later (abelow_alloc _ (.cells #[.int .i64 0, .int .i64 0, .int .i64 0] 58))).later (abelow_alloc _ (.cells #[.int .i64 0, .int .i64 0, .int .i64 0] 58))); have HR := ahide (R3.two w1 58); clear hb1 hho)
  generalize ((w1.alloc (.cells #[.int .i64 0, .int .i64 0, .int .i64 0] 58)).alloc (.cells #[.int .i64 0, .int .i64 0, .int .i64 0] 58)) = w2 at *
  generalize w1.heap.size = P at *
  have HP := ahide HR.out.1
  have HQ := ahide HR.out.2
  clear HR
  obtain ⟨⟨q0, q1, q2, q3, q4, q5, q6⟩, ⟨s0, s1, s2⟩, ⟨r0, r1, r2, r3, r4⟩, _⟩ := HX.out
  go_upto_region 9 with (go_at_call 34; refine (hwa _ HX.out.2.2.2).mono ?_; rintro e w3 ⟨rfl, hb3⟩; have HX := ahide ((HX.out.later hb3).later (abelow_alloc w3 (.cells #[.int .i64 0, .int .i64 0, .int .i64 0] 58))); have HP := ahide ((HP.out.later hb3).later (abelow_alloc w3 (.cells #[.int .i64 0, .int .i64 0, .int .i64 0] 58))); have HQ := ahide ((HQ.out.later hb3).later (abelow_alloc w3 (.cells #[.int .i64 0, .int .i64 0, .int .i64 0] 58))); have H1 := ahide (R3.new w3 0 0 0 58); clear q0 q1 q2 q3 q4 q5 q6 s0 s1 s2 r0 r1 r2 r3 r4 hb3)
  generalize w3.alloc (.cells #[.int .i64 0, .int .i64 0, .int .i64 0] 58) = w4 at *
  generalize w3.heap.size = A1 at *
  obtain ⟨⟨q0, q1, q2, q3, q4, q5, q6⟩, ⟨s0, s1, s2⟩, ⟨r0, r1, r2, r3, r4⟩, _⟩ := HX.out
  go_upto_region 10 with (go_at_call 35; refine (hto _ HX.out.2.2.2).mono ?_; rintro e w5 ⟨rfl, hb5⟩; have HX := ahide ((HX.out.later hb5).later (abelow_alloc w5 (.cells #[.int .i64 0, .int .i64 0, .int .i64 0] 58))); have HP := ahide ((HP.out.later hb5).later (abelow_alloc w5 (.cells #[.int .i64 0, .int .i64 0, .int .i64 0] 58))); have HQ := ahide ((HQ.out.later hb5).later (abelow_alloc w5 (.cells #[.int .i64 0, .int .i64 0, .int .i64 0] 58))); have H1 := ahide ((H1.out.later hb5).later (abelow_alloc w5 (.cells #[.int .i64 0, .int .i64 0, .int .i64 0] 58))); have H2 := ahide (R3.new w5 0 0 0 58); clear q0 q1 q2 q3 q4 q5 q6 s0 s1 s2 r0 r1 r2 r3 r4 hb5)
  generalize w5.alloc (.cells #[.int .i64 0, .int .i64 0, .int .i64 0] 58) = w6 at *
  generalize w5.heap.size = A2 at *
  have S0 : (w6.cell? ⟨w.heap.size, 0, none⟩ = some (.int .i64 L) ∧ w6.cell? ⟨w.heap.size, 1, none⟩ = some (.int .i64 H) ∧ w6.cell? ⟨w.heap.size, 2, none⟩ = some (.int .i64 U) ∧ w6.cell? ⟨w.heap.size, 3, none⟩ = some (.int .i64 B) ∧ w6.cell? ⟨w.heap.size, 4, none⟩ = some (.int .i64 M) ∧ w6.cell? ⟨w.heap.size, 5, none⟩ = some (.slice a al.length ca) ∧ w6.cell? ⟨w.heap.size, 6, none⟩ = some (.slice z zl.length cz)) ∧ (w6.cell? ⟨A1, 0, none⟩ = some (.int .i64 0) ∧ w6.cell? ⟨A1, 1, none⟩ = some (.int .i64 0) ∧ w6.cell? ⟨A1, 2, none⟩ = some (.int .i64 0)) ∧ (w6.cell? ⟨P, 0, none⟩ = some (.int .i64 0) ∧ w6.cell? ⟨P, 1, none⟩ = some (.int .i64 0) ∧ w6.cell? ⟨P, 2, none⟩ = some (.int .i64 0)) ∧ (w6.cell? ⟨A2, 0, none⟩ = some (.int .i64 0) ∧ w6.cell? ⟨A2, 1, none⟩ = some (.int .i64 0) ∧ w6.cell? ⟨A2, 2, none⟩ = some (.int .i64 0)) ∧ (w6.cell? ⟨P + 1, 0, none⟩ = some (.int .i64 0) ∧ w6.cell? ⟨P + 1, 1, none⟩ = some (.int .i64 0) ∧ w6.cell? ⟨P + 1, 2, none⟩ = some (.int .i64 0)) ∧ Below w.heap.size w w6 := ⟨HX.out.1, H1.out.1, HP.out.1, H2.out.1, HQ.out.1, HX.out.2.2.2⟩
  have Z := ahide S0
  clear S0
  have hck : ∀ u, (u.cell? ⟨w.heap.size, 0, none⟩ = some (.int .i64 L) ∧ u.cell? ⟨w.heap.size, 1, none⟩ = some (.int .i64 H) ∧ u.cell? ⟨w.heap.size, 2, none⟩ = some (.int .i64 U) ∧ u.cell? ⟨w.heap.size, 3, none⟩ = some (.int .i64 B) ∧ u.cell? ⟨w.heap.size, 4, none⟩ = some (.int .i64 M) ∧ u.cell? ⟨w.heap.size, 5, none⟩ = some (.slice a al.length ca) ∧ u.cell? ⟨w.heap.size, 6, none⟩ = some (.slice z zl.length cz)) ∧ (u.cell? ⟨A1, 0, none⟩ = some (.int .i64 0) ∧ u.cell? ⟨A1, 1, none⟩ = some (.int .i64 0) ∧ u.cell? ⟨A1, 2, none⟩ = some (.int .i64 0)) ∧ (u.cell? ⟨P, 0, none⟩ = some (.int .i64 0) ∧ u.cell? ⟨P, 1, none⟩ = some (.int .i64 0) ∧ u.cell? ⟨P, 2, none⟩ = some (.int .i64 0)) ∧ (u.cell? ⟨A2, 0, none⟩ = some (.int .i64 0) ∧ u.cell? ⟨A2, 1, none⟩ = some (.int .i64 0) ∧ u.cell? ⟨A2, 2, none⟩ = some (.int .i64 0)) ∧ (u.cell? ⟨P + 1, 0, none⟩ = some (.int .i64 0) ∧ u.cell? ⟨P + 1, 1, none⟩ = some (.int .i64 0) ∧ u.cell? ⟨P + 1, 2, none⟩ = some (.int .i64 0)) ∧ Below w.heap.size w u → _ := fun u h => hck0 u h.2.2.2.2.2
  have hrm : ∀ u, (u.cell? ⟨w.heap.size, 0, none⟩ = some (.int .i64 L) ∧ u.cell? ⟨w.heap.size, 1, none⟩ = some (.int .i64 H) ∧ u.cell? ⟨w.heap.size, 2, none⟩ = some (.int .i64 U) ∧ u.cell? ⟨w.heap.size, 3, none⟩ = some (.int .i64 B) ∧ u.cell? ⟨w.heap.size, 4, none⟩ = some (.int .i64 M) ∧ u.cell? ⟨w.heap.size, 5, none⟩ = some (.slice a al.length ca) ∧ u.cell? ⟨w.heap.size, 6, none⟩ = some (.slice z zl.length cz)) ∧ (u.cell? ⟨A1, 0, none⟩ = some (.int .i64 0) ∧ u.cell? ⟨A1, 1, none⟩ = some (.int .i64 0) ∧ u.cell? ⟨A1, 2, none⟩ = some (.int .i64 0)) ∧ (u.cell? ⟨P, 0, none⟩ = some (.int .i64 0) ∧ u.cell? ⟨P, 1, none⟩ = some (.int .i64 0) ∧ u.cell? ⟨P, 2, none⟩ = some (.int .i64 0)) ∧ (u.cell? ⟨A2, 0, none⟩ = some (.int .i64 0) ∧ u.cell? ⟨A2, 1, none⟩ = some (.int .i64 0) ∧ u.cell? ⟨A2, 2, none⟩ = some (.int .i64 0)) ∧ (u.cell? ⟨P + 1, 0, none⟩ = some (.int .i64 0) ∧ u.cell? ⟨P + 1, 1, none⟩ = some (.int .i64 0) ∧ u.cell? ⟨P + 1, 2, none⟩ = some (.int .i64 0)) ∧ Below w.heap.size w u → _ := fun u h => hrm0 u h.2.2.2.2.2
  clear hck0 hrm0 hwa hto HX H1 H2 HP HQ
  go_region_held3 (fun u => (u.cell? ⟨w.heap.size, 0, none⟩ = some (.int .i64 L) ∧ u.cell? ⟨w.heap.size, 1, none⟩ = some (.int .i64 H) ∧ u.cell? ⟨w.heap.size, 2, none⟩ = some (.int .i64 U) ∧ u.cell? ⟨w.heap.size, 3, none⟩ = some (.int .i64 B) ∧ u.cell? ⟨w.heap.size, 4, none⟩ = some (.int .i64 M) ∧ u.cell? ⟨w.heap.size, 5, none⟩ = some (.slice a al.length ca) ∧ u.cell? ⟨w.heap.size, 6, none⟩ = some (.slice z zl.length cz)) ∧ (u.cell? ⟨A1, 0, none⟩ = some (.int .i64 0) ∧ u.cell? ⟨A1, 1, none⟩ = some (.int .i64 0) ∧ u.cell? ⟨A1, 2, none⟩ = some (.int .i64 0)) ∧ (u.cell? ⟨P, 0, none⟩ = some (.int .i64 0) ∧ u.cell? ⟨P, 1, none⟩ = some (.int .i64 0) ∧ u.cell? ⟨P, 2, none⟩ = some (.int .i64 0)) ∧ (u.cell? ⟨A2, 0, none⟩ = some (.int .i64 0) ∧ u.cell? ⟨A2, 1, none⟩ = some (.int .i64 0) ∧ u.cell? ⟨A2, 2, none⟩ = some (.int .i64 0)) ∧ (u.cell? ⟨P + 1, 0, none⟩ = some (.int .i64 0) ∧ u.cell? ⟨P + 1, 1, none⟩ = some (.int .i64 0) ∧ u.cell? ⟨P + 1, 2, none⟩ = some (.int .i64 0)) ∧ Below w.heap.size w u)
    (first
      | (with_reducible assumption)
      | (with_reducible apply keepS9; with_reducible assumption; with_reducible assumption)
      | (refine keepS9 ?_ Z.out; exact (Below.refl _ _).drew))
    (first
      | (go_at_call 36; refine (hck _ ?_).mono ?_; (with_reducible assumption); rintro e w' ⟨rfl, hb⟩)
      | (go_at_call 37; refine (hrm _ ?_).mono ?_; (with_reducible assumption); rintro e w' ⟨rfl, hb⟩)
      | (go_at_call 10; refine (his_same _ _).mono ?_; rintro e w' ⟨rfl, rfl⟩))
  all_goals
    rename_i hH
    have HB := ahide hH.2.2.2.2.2
    clear hH
    go_wp2_with fail
    go_ret
    exact ⟨by simp, HB.out⟩

set_option maxRecDepth 100000 in
set_option maxHeartbeats 4000000 in
theorem holdSays_yes (L H U B M : Int) (a z : Option Addr) (ca cz : Nat) (al zl : List Int) (A D W k p v n q : Int) (want got : Int) (hm : al.length ≤ 20) (hn : zl.length ≤ 20) (hca : al.length ≤ ca) (he : hoE L H U B M al zl A D W k n q = 0) (w : World) (ha : Lst w a al) (hz : Lst w z zl) :
    Calls Try.prog 17 #[.agg #[.int .i64 L, .int .i64 H, .int .i64 U, .int .i64 B, .int .i64 M, .slice a al.length ca, .slice z zl.length cz], .agg #[.int .i64 A, .int .i64 D, .int .i64 W], .agg #[.int .i64 k, .int .i64 p, .int .i64 v, .int .i64 n, .int .i64 q], .int .i64 want, .int .i64 got] w fun e w' => e = .returned (.bool true) ∧ Below w.heap.size w w' := by
  have hmm : al.length ≤ 9223372036854775807 := by omega
  have hnn : zl.length ≤ 9223372036854775807 := by omega
  have hho := fun u (h : Below w.heap.size w u) => holdMay_any L H U B M a z ca cz al zl A D W k p v n q hmm hnn u (ha.later h) (hz.later h)
  have hck0 := fun u (h : Below w.heap.size w u) => holdCheck_any L H U B M a z ca cz al zl hmm hnn hca u (ha.later h) (hz.later h)
  have hrm0 := fun u (h : Below w.heap.size w u) => holdRuleMay_any L H U B M a z ca cz al zl hmm hnn u (ha.later h) (hz.later h)
  have HX := ahide (HS.new w L H U B M a z al.length zl.length ca cz A D W k p v n q)
  have m1 : (al.length : Int) ≤ 20 := by omega
  have n1 : (zl.length : Int) ≤ 20 := by omega
  have hwa := fun u (h : Below w.heap.size w u) => want_ok L H U B M a z ca cz al zl A D W k p v n q hmm hnn hca he u (ha.later h) (hz.later h)
  have hto := fun u (h : Below w.heap.size w u) => told_ok L H U B M a z ca cz al zl A D W k p v n q want got hmm hnn hca he u (ha.later h) (hz.later h)
  have hrw := fun u (h : Below w.heap.size w u) => refWanted_any L H U B M a z ca cz al zl A D W k p v n q he u (ha.later h) (hz.later h)
  obtain ⟨e1, e2, e3⟩ := hoE_zero he
  obtain ⟨e4, e5, e6, _⟩ := ruE_zero e1
  obtain ⟨⟨l0, l1⟩, ⟨u0, u1⟩, _, _, m0', m1'⟩ := ruB_true e4
  obtain ⟨⟨a0, a1⟩, ⟨d0, d1⟩, _, _⟩ := stB_true e2
  have hrt := refTold_any L H U B M a z al.length zl.length ca cz A D W k p v n q want got (by omega) (by omega) m0' m1' d0 d1
  simp only [← errV_zero] at hwa hto
  simp only [he] at hho
  clear he ha hz hmm hnn e1 e2 e3 e4 e5 e6 l0 l1 u0 u1 m0' m1' a0 a1 d0 d1
  generalize ruE L H U B M al zl = F at *
  generalize wX L H U M al zl A D W k p v n q = xw at *
  generalize wA L H U A W k p n = xa at *
  generalize wD L H U M al zl A D W k p v n q = xd at *
  generalize toD B M A D p n want got = td at *
  go_enter Try.func17, Try.ntmps17
  go_upto_region 6 with (go_at_call 32; refine (hho _ HX.out.2.2.2).mono ?_; rintro e w1 ⟨rfl, hb1⟩; have HX := ahide (HX.out.later hb1); have HL := ahide (World.block_lt_of_cell? w1 ⟨w.heap.size + 1 + 1, 0, none⟩ HX.out.2.2.1.1); have HX := ahide ((HX.out.later (abelow_alloc _ (.cells #[.int .i64 0, .int .i64 0, .int .i64 0] 58))).later (abelow_alloc _ (.cells #[.int .i64 0, .int .i64 0, .int .i64 0] 58))); have HR := ahide (R3.two w1 58); clear hb1 hho)
  generalize ((w1.alloc (.cells #[.int .i64 0, .int .i64 0, .int .i64 0] 58)).alloc (.cells #[.int .i64 0, .int .i64 0, .int .i64 0] 58)) = w2 at *
  generalize w1.heap.size = P at *
  have HP := ahide HR.out.1
  have HQ := ahide HR.out.2
  clear HR
  obtain ⟨⟨q0, q1, q2, q3, q4, q5, q6⟩, ⟨s0, s1, s2⟩, ⟨r0, r1, r2, r3, r4⟩, _⟩ := HX.out
  go_upto_region 7 with (go_at_call 16; refine (hrw _ HX.out.2.2.2).mono ?_; rintro e w7 ⟨rfl, hb⟩; have HX := ahide (HX.out.later hb); have HP := ahide (HP.out.later hb); have HQ := ahide (HQ.out.later hb); obtain ⟨⟨p0, p1, p2⟩, f0, f1, f2⟩ := HP.out; clear q0 q1 q2 q3 q4 q5 q6 s0 s1 s2 r0 r1 r2 r3 r4 hb)
  have HX := ahide (((HX.out.set (Q := P) (j := 0) (x := .int .i64 xa) HL.out).set (Q := P) (j := 1) (x := .int .i64 xd) HL.out).set (Q := P) (j := 2) (x := .int .i64 n) HL.out)
  have HP := ahide (HP.out.put xa xd n)
  have HQ := ahide (((HQ.out.set (Q := P) (j := 0) (c := .int .i64 xa) (by omega)).set (Q := P) (j := 1) (c := .int .i64 xd) (by omega)).set (Q := P) (j := 2) (c := .int .i64 n) (by omega))
  clear p0 p1 p2 f0 f1 f2
  generalize hw8 : World.setCell (World.setCell (World.setCell w7 _ _) _ _) _ _ = w8 at *
  clear hw8
  obtain ⟨⟨q0, q1, q2, q3, q4, q5, q6⟩, ⟨s0, s1, s2⟩, ⟨r0, r1, r2, r3, r4⟩, _⟩ := HX.out
  go_upto_region 8 with (go_at_call 33; refine (hrt _).mono ?_; rintro e w9 ⟨rfl, hb⟩; have HX := ahide (HX.out.later hb); have HP := ahide (HP.out.later hb); have HQ := ahide (HQ.out.later hb); obtain ⟨⟨p0, p1, p2⟩, f0, f1, f2⟩ := HQ.out; clear q0 q1 q2 q3 q4 q5 q6 s0 s1 s2 r0 r1 r2 r3 r4 hb)
  have HL1 := ahide (show w.heap.size + 1 + 1 < P + 1 by have := HL.out; omega)
  have HX := ahide (((HX.out.set (Q := P + 1) (j := 0) (x := .int .i64 A) HL1.out).set (Q := P + 1) (j := 1) (x := .int .i64 td) HL1.out).set (Q := P + 1) (j := 2) (x := .int .i64 W) HL1.out)
  have HP := ahide (((HP.out.set (Q := P + 1) (j := 0) (c := .int .i64 A) (by omega)).set (Q := P + 1) (j := 1) (c := .int .i64 td) (by omega)).set (Q := P + 1) (j := 2) (c := .int .i64 W) (by omega))
  have HQ := ahide (HQ.out.put A td W)
  clear p0 p1 p2 f0 f1 f2 hrw hrt
  generalize hw8 : World.setCell (World.setCell (World.setCell w9 _ _) _ _) _ _ = w10 at *
  clear hw8
  obtain ⟨⟨q0, q1, q2, q3, q4, q5, q6⟩, ⟨s0, s1, s2⟩, ⟨r0, r1, r2, r3, r4⟩, _⟩ := HX.out
  go_upto_region 9 with (go_at_call 34; refine (hwa _ HX.out.2.2.2).mono ?_; rintro e w3 ⟨rfl, hb3⟩; have HX := ahide ((HX.out.later hb3).later (abelow_alloc w3 (.cells #[.int .i64 xa, .int .i64 xd, .int .i64 n] 58))); have HP := ahide ((HP.out.later hb3).later (abelow_alloc w3 (.cells #[.int .i64 xa, .int .i64 xd, .int .i64 n] 58))); have HQ := ahide ((HQ.out.later hb3).later (abelow_alloc w3 (.cells #[.int .i64 xa, .int .i64 xd, .int .i64 n] 58))); have H1 := ahide (R3.new w3 xa xd n 58); clear q0 q1 q2 q3 q4 q5 q6 s0 s1 s2 r0 r1 r2 r3 r4 hb3)
  generalize w3.alloc (.cells #[.int .i64 xa, .int .i64 xd, .int .i64 n] 58) = w4 at *
  generalize w3.heap.size = A1 at *
  obtain ⟨⟨q0, q1, q2, q3, q4, q5, q6⟩, ⟨s0, s1, s2⟩, ⟨r0, r1, r2, r3, r4⟩, _⟩ := HX.out
  go_upto_region 10 with (go_at_call 35; refine (hto _ HX.out.2.2.2).mono ?_; rintro e w5 ⟨rfl, hb5⟩; have HX := ahide ((HX.out.later hb5).later (abelow_alloc w5 (.cells #[.int .i64 A, .int .i64 td, .int .i64 W] 58))); have HP := ahide ((HP.out.later hb5).later (abelow_alloc w5 (.cells #[.int .i64 A, .int .i64 td, .int .i64 W] 58))); have HQ := ahide ((HQ.out.later hb5).later (abelow_alloc w5 (.cells #[.int .i64 A, .int .i64 td, .int .i64 W] 58))); have H1 := ahide ((H1.out.later hb5).later (abelow_alloc w5 (.cells #[.int .i64 A, .int .i64 td, .int .i64 W] 58))); have H2 := ahide (R3.new w5 A td W 58); clear q0 q1 q2 q3 q4 q5 q6 s0 s1 s2 r0 r1 r2 r3 r4 hb5)
  generalize w5.alloc (.cells #[.int .i64 A, .int .i64 td, .int .i64 W] 58) = w6 at *
  generalize w5.heap.size = A2 at *
  have S0 : (w6.cell? ⟨w.heap.size, 0, none⟩ = some (.int .i64 L) ∧ w6.cell? ⟨w.heap.size, 1, none⟩ = some (.int .i64 H) ∧ w6.cell? ⟨w.heap.size, 2, none⟩ = some (.int .i64 U) ∧ w6.cell? ⟨w.heap.size, 3, none⟩ = some (.int .i64 B) ∧ w6.cell? ⟨w.heap.size, 4, none⟩ = some (.int .i64 M) ∧ w6.cell? ⟨w.heap.size, 5, none⟩ = some (.slice a al.length ca) ∧ w6.cell? ⟨w.heap.size, 6, none⟩ = some (.slice z zl.length cz)) ∧ (w6.cell? ⟨A1, 0, none⟩ = some (.int .i64 xa) ∧ w6.cell? ⟨A1, 1, none⟩ = some (.int .i64 xd) ∧ w6.cell? ⟨A1, 2, none⟩ = some (.int .i64 n)) ∧ (w6.cell? ⟨P, 0, none⟩ = some (.int .i64 xa) ∧ w6.cell? ⟨P, 1, none⟩ = some (.int .i64 xd) ∧ w6.cell? ⟨P, 2, none⟩ = some (.int .i64 n)) ∧ (w6.cell? ⟨A2, 0, none⟩ = some (.int .i64 A) ∧ w6.cell? ⟨A2, 1, none⟩ = some (.int .i64 td) ∧ w6.cell? ⟨A2, 2, none⟩ = some (.int .i64 W)) ∧ (w6.cell? ⟨P + 1, 0, none⟩ = some (.int .i64 A) ∧ w6.cell? ⟨P + 1, 1, none⟩ = some (.int .i64 td) ∧ w6.cell? ⟨P + 1, 2, none⟩ = some (.int .i64 W)) ∧ Below w.heap.size w w6 := ⟨HX.out.1, H1.out.1, HP.out.1, H2.out.1, HQ.out.1, HX.out.2.2.2⟩
  have Z := ahide S0
  clear S0
  have hck : ∀ u, (u.cell? ⟨w.heap.size, 0, none⟩ = some (.int .i64 L) ∧ u.cell? ⟨w.heap.size, 1, none⟩ = some (.int .i64 H) ∧ u.cell? ⟨w.heap.size, 2, none⟩ = some (.int .i64 U) ∧ u.cell? ⟨w.heap.size, 3, none⟩ = some (.int .i64 B) ∧ u.cell? ⟨w.heap.size, 4, none⟩ = some (.int .i64 M) ∧ u.cell? ⟨w.heap.size, 5, none⟩ = some (.slice a al.length ca) ∧ u.cell? ⟨w.heap.size, 6, none⟩ = some (.slice z zl.length cz)) ∧ (u.cell? ⟨A1, 0, none⟩ = some (.int .i64 xa) ∧ u.cell? ⟨A1, 1, none⟩ = some (.int .i64 xd) ∧ u.cell? ⟨A1, 2, none⟩ = some (.int .i64 n)) ∧ (u.cell? ⟨P, 0, none⟩ = some (.int .i64 xa) ∧ u.cell? ⟨P, 1, none⟩ = some (.int .i64 xd) ∧ u.cell? ⟨P, 2, none⟩ = some (.int .i64 n)) ∧ (u.cell? ⟨A2, 0, none⟩ = some (.int .i64 A) ∧ u.cell? ⟨A2, 1, none⟩ = some (.int .i64 td) ∧ u.cell? ⟨A2, 2, none⟩ = some (.int .i64 W)) ∧ (u.cell? ⟨P + 1, 0, none⟩ = some (.int .i64 A) ∧ u.cell? ⟨P + 1, 1, none⟩ = some (.int .i64 td) ∧ u.cell? ⟨P + 1, 2, none⟩ = some (.int .i64 W)) ∧ Below w.heap.size w u → _ := fun u h => hck0 u h.2.2.2.2.2
  have hrm : ∀ u, (u.cell? ⟨w.heap.size, 0, none⟩ = some (.int .i64 L) ∧ u.cell? ⟨w.heap.size, 1, none⟩ = some (.int .i64 H) ∧ u.cell? ⟨w.heap.size, 2, none⟩ = some (.int .i64 U) ∧ u.cell? ⟨w.heap.size, 3, none⟩ = some (.int .i64 B) ∧ u.cell? ⟨w.heap.size, 4, none⟩ = some (.int .i64 M) ∧ u.cell? ⟨w.heap.size, 5, none⟩ = some (.slice a al.length ca) ∧ u.cell? ⟨w.heap.size, 6, none⟩ = some (.slice z zl.length cz)) ∧ (u.cell? ⟨A1, 0, none⟩ = some (.int .i64 xa) ∧ u.cell? ⟨A1, 1, none⟩ = some (.int .i64 xd) ∧ u.cell? ⟨A1, 2, none⟩ = some (.int .i64 n)) ∧ (u.cell? ⟨P, 0, none⟩ = some (.int .i64 xa) ∧ u.cell? ⟨P, 1, none⟩ = some (.int .i64 xd) ∧ u.cell? ⟨P, 2, none⟩ = some (.int .i64 n)) ∧ (u.cell? ⟨A2, 0, none⟩ = some (.int .i64 A) ∧ u.cell? ⟨A2, 1, none⟩ = some (.int .i64 td) ∧ u.cell? ⟨A2, 2, none⟩ = some (.int .i64 W)) ∧ (u.cell? ⟨P + 1, 0, none⟩ = some (.int .i64 A) ∧ u.cell? ⟨P + 1, 1, none⟩ = some (.int .i64 td) ∧ u.cell? ⟨P + 1, 2, none⟩ = some (.int .i64 W)) ∧ Below w.heap.size w u → _ := fun u h => hrm0 u h.2.2.2.2.2
  clear hck0 hrm0 hwa hto HX H1 H2 HP HQ
  go_region_held3 (fun u => (u.cell? ⟨w.heap.size, 0, none⟩ = some (.int .i64 L) ∧ u.cell? ⟨w.heap.size, 1, none⟩ = some (.int .i64 H) ∧ u.cell? ⟨w.heap.size, 2, none⟩ = some (.int .i64 U) ∧ u.cell? ⟨w.heap.size, 3, none⟩ = some (.int .i64 B) ∧ u.cell? ⟨w.heap.size, 4, none⟩ = some (.int .i64 M) ∧ u.cell? ⟨w.heap.size, 5, none⟩ = some (.slice a al.length ca) ∧ u.cell? ⟨w.heap.size, 6, none⟩ = some (.slice z zl.length cz)) ∧ (u.cell? ⟨A1, 0, none⟩ = some (.int .i64 xa) ∧ u.cell? ⟨A1, 1, none⟩ = some (.int .i64 xd) ∧ u.cell? ⟨A1, 2, none⟩ = some (.int .i64 n)) ∧ (u.cell? ⟨P, 0, none⟩ = some (.int .i64 xa) ∧ u.cell? ⟨P, 1, none⟩ = some (.int .i64 xd) ∧ u.cell? ⟨P, 2, none⟩ = some (.int .i64 n)) ∧ (u.cell? ⟨A2, 0, none⟩ = some (.int .i64 A) ∧ u.cell? ⟨A2, 1, none⟩ = some (.int .i64 td) ∧ u.cell? ⟨A2, 2, none⟩ = some (.int .i64 W)) ∧ (u.cell? ⟨P + 1, 0, none⟩ = some (.int .i64 A) ∧ u.cell? ⟨P + 1, 1, none⟩ = some (.int .i64 td) ∧ u.cell? ⟨P + 1, 2, none⟩ = some (.int .i64 W)) ∧ Below w.heap.size w u)
    (first
      | (with_reducible assumption)
      | (with_reducible apply keepS9; with_reducible assumption; with_reducible assumption)
      | (refine keepS9 ?_ Z.out; exact (Below.refl _ _).drew))
    (first
      | (go_at_call 36; refine (hck _ ?_).mono ?_; (with_reducible assumption); rintro e w' ⟨rfl, hb⟩)
      | (go_at_call 37; refine (hrm _ ?_).mono ?_; (with_reducible assumption); rintro e w' ⟨rfl, hb⟩)
      | (go_at_call 10; refine (his_same _ _).mono ?_; rintro e w' ⟨rfl, rfl⟩))
  all_goals
    rename_i hH
    have HB := ahide hH.2.2.2.2.2
    clear hH
    go_wp2_with fail
    go_ret
    exact ⟨by simp, HB.out⟩

theorem holdSays_walk (L H U B M : Int) (a z : Option Addr) (ca cz : Nat) (al zl : List Int) (A D W k p v n q : Int) (want got : Int) (hca : al.length ≤ ca) (w : World) (ha : Lst w a al) (hz : Lst w z zl) :
    Calls Try.prog 17 #[.agg #[.int .i64 L, .int .i64 H, .int .i64 U, .int .i64 B, .int .i64 M, .slice a al.length ca, .slice z zl.length cz], .agg #[.int .i64 A, .int .i64 D, .int .i64 W], .agg #[.int .i64 k, .int .i64 p, .int .i64 v, .int .i64 n, .int .i64 q], .int .i64 want, .int .i64 got] w fun e w' => e = .returned (.bool true) ∧ Below w.heap.size w w' := by
  by_cases hm : al.length ≤ 20
  · by_cases hn : zl.length ≤ 20
    · by_cases he : hoE L H U B M al zl A D W k n q = 0
      · exact holdSays_yes L H U B M a z ca cz al zl A D W k p v n q want got hm hn hca he w ha hz
      · exact holdSays_no L H U B M a z ca cz al zl A D W k p v n q want got hm hn hca he w ha hz
    · have HX := ahide (HS.new w L H U B M a z al.length zl.length ca cz A D W k p v n q)
      have m1 : (al.length : Int) ≤ 20 := by omega
      have n1 : 20 < (zl.length : Int) := by omega
      clear ha hz
      go_enter Try.func17, Try.ntmps17
      go_wp2_with fail
      go_ret
      exact ⟨rfl, HX.out.2.2.2⟩
  · have HX := ahide (HS.new w L H U B M a z al.length zl.length ca cz A D W k p v n q)
    have m1 : 20 < (al.length : Int) := by omega
    clear ha hz
    go_enter Try.func17, Try.ntmps17
    go_wp2_with fail
    go_ret
    exact ⟨rfl, HX.out.2.2.2⟩

end Go.Proofs.Ytheihcpacpoliaa
