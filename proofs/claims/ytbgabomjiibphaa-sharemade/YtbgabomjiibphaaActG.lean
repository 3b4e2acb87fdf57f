/-
  The walk of the law ActSays: for every rule, servo, sample and place it returns true.
-/
import Derived.Test.YtbgabomjiibphaaActF
namespace Go.Proofs.Ytbgabomjiibphaa
open Go.RowKit Plain

theorem acell_other {w : World} {a c : Addr} {v u : Value} (h : w.cell? a = some u) (hc : c ≠ a) : (w.setCell c v).cell? a = some u := (World.cell?_setCell_other _ _ _ _ hc).trans h
theorem acell_same {w : World} {a : Addr} {v u : Value} (h : w.cell? a = some u) : (w.setCell a v).cell? a = some v := by simp [go_sem, h]
theorem ane_blk {C B q j : Nat} (hc : C ≠ B) : (⟨C, q, none⟩ : Addr) ≠ ⟨B, j, none⟩ := fun e => hc (congrArg Addr.block e)
theorem ane_off {B q j : Nat} (hc : q ≠ j) : (⟨B, q, none⟩ : Addr) ≠ ⟨B, j, none⟩ := fun e => hc (congrArg Addr.off e)
theorem B2.set {w : World} {B C q : Nat} {a b v : Value} (h : B2 w B a b) (hc : C ≠ B) : B2 (w.setCell ⟨C, q, none⟩ v) B a b := ⟨acell_other h.1 (ane_blk hc), acell_other h.2 (ane_blk hc)⟩
theorem B3.set {w : World} {B C q : Nat} {a b c v : Value} (h : B3 w B a b c) (hc : C ≠ B) : B3 (w.setCell ⟨C, q, none⟩ v) B a b c := ⟨acell_other h.1 (ane_blk hc), acell_other h.2.1 (ane_blk hc), acell_other h.2.2 (ane_blk hc)⟩
theorem B4.set {w : World} {B C q : Nat} {a b c d v : Value} (h : B4 w B a b c d) (hc : C ≠ B) : B4 (w.setCell ⟨C, q, none⟩ v) B a b c d := ⟨acell_other h.1 (ane_blk hc), acell_other h.2.1 (ane_blk hc), acell_other h.2.2.1 (ane_blk hc), acell_other h.2.2.2 (ane_blk hc)⟩
theorem B2.put {w : World} {B : Nat} {a b : Value} (h : B2 w B a b) (p q : Value) : B2 ((w.setCell ⟨B, 0, none⟩ p).setCell ⟨B, 1, none⟩ q) B p q :=
  ⟨acell_other (acell_same h.1) (ane_off (by decide)), acell_same (acell_other h.2 (ane_off (by decide)))⟩
theorem B3.put {w : World} {B : Nat} {a b c : Value} (h : B3 w B a b c) (p q r : Value) : B3 (((w.setCell ⟨B, 0, none⟩ p).setCell ⟨B, 1, none⟩ q).setCell ⟨B, 2, none⟩ r) B p q r :=
  ⟨acell_other (acell_other (acell_same h.1) (ane_off (by decide))) (ane_off (by decide)), acell_other (acell_same (acell_other h.2.1 (ane_off (by decide)))) (ane_off (by decide)), acell_same (acell_other (acell_other h.2.2 (ane_off (by decide))) (ane_off (by decide)))⟩
theorem B3.put0 {w : World} {B : Nat} {a b c : Value} (h : B3 w B a b c) (p : Value) : B3 (w.setCell ⟨B, 0, none⟩ p) B p b c :=
  ⟨acell_same h.1, acell_other h.2.1 (ane_off (by decide)), acell_other h.2.2 (ane_off (by decide))⟩
theorem RS.set {w0 w : World} {T R S C i b : Int} {o : Bool} {A q : Nat} {v : Value} (h : RS w0 w T R S C i b o) (hA : w0.heap.size + 1 < A) : RS w0 (w.setCell ⟨A, q, none⟩ v) T R S C i b o :=
  ⟨h.1.set (by omega), h.2.1.set (by omega), h.2.2.setCell (by simp; omega) _⟩

/-- All that ActSays works on, and its answers so far, from P on. -/
def AS (w0 w : World) (P : Nat) (T R S C i b : Int) (o y : Bool) (z : Int) (lo hi mi mb xi xb : Int) (mo xo : Bool) : Prop :=
  RS w0 w T R S C i b o ∧ B2 w (w0.heap.size + 1 + 1) (.bool y) (.int .i64 z) ∧ (B2 w P (.int .i64 lo) (.int .i64 hi) ∧ FrA w P 2) ∧ (B3 w (P + 1) (.int .i64 mi) (.int .i64 mb) (.bool mo) ∧ FrA w (P + 1) 3) ∧ (B3 w (P + 1 + 1) (.int .i64 xi) (.int .i64 xb) (.bool xo) ∧ FrA w (P + 1 + 1) 3) ∧ w0.heap.size + 1 + 1 < P
theorem AS.later {w0 w w' : World} {P : Nat} {T R S C i b : Int} {o y : Bool} {z : Int} {lo hi mi mb xi xb : Int} {mo xo : Bool} (h : AS w0 w P T R S C i b o y z lo hi mi mb xi xb mo xo) (hb : Below w.heap.size w w') : AS w0 w' P T R S C i b o y z lo hi mi mb xi xb mo xo :=
  ⟨h.1.later hb, h.2.1.later hb, ⟨h.2.2.1.1.later hb, h.2.2.1.2.later hb⟩, ⟨h.2.2.2.1.1.later hb, h.2.2.2.1.2.later hb⟩, ⟨h.2.2.2.2.1.1.later hb, h.2.2.2.2.1.2.later hb⟩, h.2.2.2.2.2⟩
/-- Behind the answers being stored. -/
def stW (w : World) (P : Nat) (lo hi i b xi xb : Int) (o xo : Bool) : World :=
  (((((((w.setCell ⟨P, 0, none⟩ (.int .i64 lo)).setCell ⟨P, 1, none⟩ (.int .i64 hi)).setCell ⟨P + 1, 0, none⟩ (.int .i64 i)).setCell ⟨P + 1, 1, none⟩ (.int .i64 b)).setCell ⟨P + 1, 2, none⟩ (.bool o)).setCell ⟨P + 1 + 1, 0, none⟩ (.int .i64 xi)).setCell ⟨P + 1 + 1, 1, none⟩ (.int .i64 xb)).setCell ⟨P + 1 + 1, 2, none⟩ (.bool xo)
theorem AS.store {w0 w : World} {P : Nat} {T R S C i b : Int} {o y : Bool} {z : Int} {lo hi mi mb xi xb : Int} {mo xo : Bool} (h : AS w0 w P T R S C i b o y z lo hi mi mb xi xb mo xo) (lo' hi' xi' xb' : Int) (xo' : Bool) : AS w0 (stW w P lo' hi' i b xi' xb' o xo') P T R S C i b o y z lo' hi' i b xi' xb' o xo' := by
  obtain ⟨h1, h2, ⟨h3, h4⟩, ⟨h5, h6⟩, ⟨h7, h8⟩, h9⟩ := h
  unfold stW
  refine ⟨?_, ?_, ⟨?_, ?_⟩, ⟨?_, ?_⟩, ⟨?_, ?_⟩, h9⟩
  · exact (((((((h1.set (by omega)).set (by omega)).set (by omega)).set (by omega)).set (by omega)).set (by omega)).set (by omega)).set (by omega)
  · exact (((((((h2.set (by omega)).set (by omega)).set (by omega)).set (by omega)).set (by omega)).set (by omega)).set (by omega)).set (by omega)
  · exact ((((((h3.put _ _).set (by omega)).set (by omega)).set (by omega)).set (by omega)).set (by omega)).set (by omega)
  · exact h4.set.set.set.set.set.set.set.set
  · exact (((((h5.set (by omega)).set (by omega)).put _ _ _).set (by omega)).set (by omega)).set (by omega)
  · exact h6.set.set.set.set.set.set.set.set
  · exact (((((h7.set (by omega)).set (by omega)).set (by omega)).set (by omega)).set (by omega)).put _ _ _
  · exact h8.set.set.set.set.set.set.set.set
theorem AS.move {w0 w : World} {P : Nat} {T R S C i b : Int} {o y : Bool} {z : Int} {lo hi mi mb xi xb : Int} {mo xo : Bool} (h : AS w0 w P T R S C i b o y z lo hi mi mb xi xb mo xo) (v : Int) : AS w0 (w.setCell ⟨P + 1, 0, none⟩ (.int .i64 v)) P T R S C i b o y z lo hi v mb xi xb mo xo := by
  obtain ⟨h1, h2, ⟨h3, h4⟩, ⟨h5, h6⟩, ⟨h7, h8⟩, h9⟩ := h
  exact ⟨h1.set (by omega), h2.set (by omega), ⟨h3.set (by omega), h4.set⟩, ⟨h5.put0 _, h6.set⟩, ⟨h7.set (by omega), h8.set⟩, h9⟩
theorem AS.new {w0 w1 : World} {T R S C i b : Int} {o y : Bool} {z : Int} (h : RS w0 w1 T R S C i b o) (h' : B2 w1 (w0.heap.size + 1 + 1) (.bool y) (.int .i64 z)) : AS w0 (((w1.alloc (.cells #[.int .i64 0, .int .i64 0] 47)).alloc (.cells #[.int .i64 0, .int .i64 0, .bool false] 42)).alloc (.cells #[.int .i64 0, .int .i64 0, .bool false] 42)) w1.heap.size T R S C i b o y z 0 0 0 0 0 0 false false := by
  have hl := World.block_lt_of_cell? w1 ⟨w0.heap.size + 1 + 1, 0, none⟩ h'.1
  have e1 := size_alloc w1 (.cells #[.int .i64 0, .int .i64 0] 47)
  have e2 := size_alloc (w1.alloc (.cells #[.int .i64 0, .int .i64 0] 47)) (.cells #[.int .i64 0, .int .i64 0, .bool false] 42)
  refine ⟨((h.later (abelow_alloc _ _)).later (abelow_alloc _ _)).later (abelow_alloc _ _), ((h'.later (abelow_alloc _ _)).later (abelow_alloc _ _)).later (abelow_alloc _ _), ⟨((B2.new _ _ _ _).later (abelow_alloc _ _)).later (abelow_alloc _ _), (FrA.new.later (abelow_alloc _ _)).later (abelow_alloc _ _)⟩, ⟨?_, ?_⟩, ⟨?_, ?_⟩, hl⟩
  · rw [← e1]; exact (B3.new _ _ _ _ _).later (abelow_alloc _ _)
  · rw [← e1]; exact FrA.new.later (abelow_alloc _ _)
  · rw [← e1, ← e2]; exact B3.new _ _ _ _ _
  · rw [← e1, ← e2]; exact FrA.new
theorem keep4 {w u u' : World} {T R S C i b : Int} {o y : Bool} {z : Int} (hb : Below u.heap.size u u') (h : ((u.cell? ⟨w.heap.size, 0, none⟩ = some (.int .i64 T) ∧ u.cell? ⟨w.heap.size, 1, none⟩ = some (.int .i64 R) ∧ u.cell? ⟨w.heap.size, 2, none⟩ = some (.int .i64 S) ∧ u.cell? ⟨w.heap.size, 3, none⟩ = some (.int .i64 C)) ∧ (u.cell? ⟨w.heap.size + 1, 0, none⟩ = some (.int .i64 i) ∧ u.cell? ⟨w.heap.size + 1, 1, none⟩ = some (.int .i64 b) ∧ u.cell? ⟨w.heap.size + 1, 2, none⟩ = some (.bool o))) ∧ (u.cell? ⟨w.heap.size + 1 + 1, 0, none⟩ = some (.bool y) ∧ u.cell? ⟨w.heap.size + 1 + 1, 1, none⟩ = some (.int .i64 z))) : ((u'.cell? ⟨w.heap.size, 0, none⟩ = some (.int .i64 T) ∧ u'.cell? ⟨w.heap.size, 1, none⟩ = some (.int .i64 R) ∧ u'.cell? ⟨w.heap.size, 2, none⟩ = some (.int .i64 S) ∧ u'.cell? ⟨w.heap.size, 3, none⟩ = some (.int .i64 C)) ∧ (u'.cell? ⟨w.heap.size + 1, 0, none⟩ = some (.int .i64 i) ∧ u'.cell? ⟨w.heap.size + 1, 1, none⟩ = some (.int .i64 b) ∧ u'.cell? ⟨w.heap.size + 1, 2, none⟩ = some (.bool o))) ∧ (u'.cell? ⟨w.heap.size + 1 + 1, 0, none⟩ = some (.bool y) ∧ u'.cell? ⟨w.heap.size + 1 + 1, 1, none⟩ = some (.int .i64 z)) :=
  ⟨⟨B4.later h.1.1 hb, B3.later h.1.2 hb⟩, B2.later h.2 hb⟩
theorem keep4s {w u : World} {T R S C i b : Int} {o y : Bool} {z : Int} {A q : Nat} {v : Value} (hA : w.heap.size + 1 + 1 < A) (h : ((u.cell? ⟨w.heap.size, 0, none⟩ = some (.int .i64 T) ∧ u.cell? ⟨w.heap.size, 1, none⟩ = some (.int .i64 R) ∧ u.cell? ⟨w.heap.size, 2, none⟩ = some (.int .i64 S) ∧ u.cell? ⟨w.heap.size, 3, none⟩ = some (.int .i64 C)) ∧ (u.cell? ⟨w.heap.size + 1, 0, none⟩ = some (.int .i64 i) ∧ u.cell? ⟨w.heap.size + 1, 1, none⟩ = some (.int .i64 b) ∧ u.cell? ⟨w.heap.size + 1, 2, none⟩ = some (.bool o))) ∧ (u.cell? ⟨w.heap.size + 1 + 1, 0, none⟩ = some (.bool y) ∧ u.cell? ⟨w.heap.size + 1 + 1, 1, none⟩ = some (.int .i64 z))) : (((u.setCell ⟨A, q, none⟩ v).cell? ⟨w.heap.size, 0, none⟩ = some (.int .i64 T) ∧ (u.setCell ⟨A, q, none⟩ v).cell? ⟨w.heap.size, 1, none⟩ = some (.int .i64 R) ∧ (u.setCell ⟨A, q, none⟩ v).cell? ⟨w.heap.size, 2, none⟩ = some (.int .i64 S) ∧ (u.setCell ⟨A, q, none⟩ v).cell? ⟨w.heap.size, 3, none⟩ = some (.int .i64 C)) ∧ ((u.setCell ⟨A, q, none⟩ v).cell? ⟨w.heap.size + 1, 0, none⟩ = some (.int .i64 i) ∧ (u.setCell ⟨A, q, none⟩ v).cell? ⟨w.heap.size + 1, 1, none⟩ = some (.int .i64 b) ∧ (u.setCell ⟨A, q, none⟩ v).cell? ⟨w.heap.size + 1, 2, none⟩ = some (.bool o))) ∧ ((u.setCell ⟨A, q, none⟩ v).cell? ⟨w.heap.size + 1 + 1, 0, none⟩ = some (.bool y) ∧ (u.setCell ⟨A, q, none⟩ v).cell? ⟨w.heap.size + 1 + 1, 1, none⟩ = some (.int .i64 z)) :=
  ⟨⟨B4.set h.1.1 (by omega), B3.set h.1.2 (by omega)⟩, B2.set h.2 (by omega)⟩
theorem keep9 {w u u' : World} {P A1 A2 A3 : Nat} {T R S C i b : Int} {o y : Bool} {z : Int} {lo hi mi mb xi xb : Int} {mo xo : Bool} (hb : Below u.heap.size u u') (h : ((u.cell? ⟨w.heap.size, 0, none⟩ = some (.int .i64 T) ∧ u.cell? ⟨w.heap.size, 1, none⟩ = some (.int .i64 R) ∧ u.cell? ⟨w.heap.size, 2, none⟩ = some (.int .i64 S) ∧ u.cell? ⟨w.heap.size, 3, none⟩ = some (.int .i64 C)) ∧ (u.cell? ⟨w.heap.size + 1, 0, none⟩ = some (.int .i64 i) ∧ u.cell? ⟨w.heap.size + 1, 1, none⟩ = some (.int .i64 b) ∧ u.cell? ⟨w.heap.size + 1, 2, none⟩ = some (.bool o))) ∧ AS w u P T R S C i b o y z lo hi mi mb xi xb mo xo ∧ B2 u A1 (.int .i64 lo) (.int .i64 hi) ∧ B3 u A2 (.int .i64 mi) (.int .i64 mb) (.bool mo) ∧ B3 u A3 (.int .i64 xi) (.int .i64 xb) (.bool xo)) : ((u'.cell? ⟨w.heap.size, 0, none⟩ = some (.int .i64 T) ∧ u'.cell? ⟨w.heap.size, 1, none⟩ = some (.int .i64 R) ∧ u'.cell? ⟨w.heap.size, 2, none⟩ = some (.int .i64 S) ∧ u'.cell? ⟨w.heap.size, 3, none⟩ = some (.int .i64 C)) ∧ (u'.cell? ⟨w.heap.size + 1, 0, none⟩ = some (.int .i64 i) ∧ u'.cell? ⟨w.heap.size + 1, 1, none⟩ = some (.int .i64 b) ∧ u'.cell? ⟨w.heap.size + 1, 2, none⟩ = some (.bool o))) ∧ AS w u' P T R S C i b o y z lo hi mi mb xi xb mo xo ∧ B2 u' A1 (.int .i64 lo) (.int .i64 hi) ∧ B3 u' A2 (.int .i64 mi) (.int .i64 mb) (.bool mo) ∧ B3 u' A3 (.int .i64 xi) (.int .i64 xb) (.bool xo) :=
  ⟨⟨B4.later h.1.1 hb, B3.later h.1.2 hb⟩, h.2.1.later hb, h.2.2.1.later hb, h.2.2.2.1.later hb, h.2.2.2.2.later hb⟩
theorem ais_same (x : Int) (w : World) : Calls Try.prog 14 #[errV x, .int .i64 x] w fun r w' => r = .returned (.bool true) ∧ w' = w := by
  have h := is_any x x w
  rwa [beq_self_eq_true] at h
theorem ais_zero (w : World) : Calls Try.prog 14 #[.nilIface, .int .i64 0] w fun r w' => r = .returned (.bool true) ∧ w' = w := ais_same 0 w
theorem lo_le_hi {T R S C i b : Int} {o : Bool} (h : svE T R S C i b o = 0) : loR T R i o ≤ hiR T R i o := by
  obtain ⟨hr, hs⟩ := svE_zero h
  have a := arB_true hr
  have c := svB_true hs
  unfold loR hiR mxA mnA
  cases o
  · simp only [Bool.false_eq_true, if_false]; omega
  · simp

set_option maxRecDepth 100000 in
set_option maxHeartbeats 4000000 in
theorem actSays_no (T R S C i b : Int) (o y : Bool) (z : Int) (tg : Int) (he : svE T R S C i b o ≠ 0) (w : World) :
    Calls Try.prog 4 #[.agg #[.int .i64 T, .int .i64 R, .int .i64 S, .int .i64 C], .agg #[.int .i64 i, .int .i64 b, .bool o], .agg #[.bool y, .int .i64 z], .int .i64 tg] w fun e w' => e = .returned (.bool true) ∧ Below w.heap.size w w' := by
  have hsm := servoMay_any T R S C i b o
  have hre := reach_err T R S C i b o he
  have hmv := move_err T R S C i b o tg he
  have hwa := watch_err T R S C i b o y z he
  have hcr := actRule_any T R S C
  have hrm := refActRule_any T R S C
  have hck := servoCheck_any T R S C i b o
  rw [← errV_ne he] at hre hmv hwa
  have hx : (svE T R S C i b o == 0) = false := by simpa using he
  have HX := ahide (⟨(RS.new w T R S C i b o).later (abelow_alloc _ (.cells #[.bool y, .int .i64 z] 44)), by rw [show w.heap.size + 1 + 1 = ((w.alloc (.cells #[.int .i64 T, .int .i64 R, .int .i64 S, .int .i64 C] 40)).alloc (.cells #[.int .i64 i, .int .i64 b, .bool o] 42)).heap.size by simp [go_sem]]; exact B2.new _ _ _ _⟩ : RS w (((w.alloc (.cells #[.int .i64 T, .int .i64 R, .int .i64 S, .int .i64 C] 40)).alloc (.cells #[.int .i64 i, .int .i64 b, .bool o] 42)).alloc (.cells #[.bool y, .int .i64 z] 44)) T R S C i b o ∧ B2 (((w.alloc (.cells #[.int .i64 T, .int .i64 R, .int .i64 S, .int .i64 C] 40)).alloc (.cells #[.int .i64 i, .int .i64 b, .bool o] 42)).alloc (.cells #[.bool y, .int .i64 z] 44)) (w.heap.size + 1 + 1) (.bool y) (.int .i64 z))
  clear he
  generalize svE T R S C i b o = x at *
  generalize arE T R S C = re at *
  go_enter Try.func4, Try.ntmps4
  go_upto_region 6 with (go_at_call 16; refine (hsm _).mono ?_; rintro e w1 ⟨rfl, hb1⟩; have HA := ahide (AS.new (HX.out.1.later hb1) (HX.out.2.later hb1)); clear hb1)
  generalize (((w1.alloc (.cells #[.int .i64 0, .int .i64 0] 47)).alloc (.cells #[.int .i64 0, .int .i64 0, .bool false] 42)).alloc (.cells #[.int .i64 0, .int .i64 0, .bool false] 42)) = w2 at *
  generalize w1.heap.size = P at *
  obtain ⟨⟨⟨q0, q1, q2, q3⟩, ⟨s0, s1, s2⟩, _⟩, ⟨m0, m1⟩, _⟩ := HA.out
  go_upto_region 7 with (go_at_call 20; refine (hre _).mono ?_; rintro e w3 ⟨rfl, hb3⟩; have HA := ahide ((HA.out.later hb3).later (abelow_alloc w3 (.cells #[.int .i64 0, .int .i64 0] 47))); have H1 := ahide (B2.new w3 (.int .i64 0) (.int .i64 0) 47); clear q0 q1 q2 q3 s0 s1 s2 m0 m1 hb3)
  generalize w3.alloc (.cells #[.int .i64 0, .int .i64 0] 47) = w4 at *
  generalize w3.heap.size = A1 at *
  obtain ⟨⟨⟨q0, q1, q2, q3⟩, ⟨s0, s1, s2⟩, _⟩, ⟨m0, m1⟩, _⟩ := HA.out
  go_upto_region 8 with (go_at_call 21; refine (hmv _).mono ?_; rintro e w5 ⟨rfl, hb5⟩; have HA := ahide ((HA.out.later hb5).later (abelow_alloc w5 (.cells #[.int .i64 0, .int .i64 0, .bool false] 42))); have H1 := ahide ((H1.out.later hb5).later (abelow_alloc w5 (.cells #[.int .i64 0, .int .i64 0, .bool false] 42))); have H2 := ahide (B3.new w5 (.int .i64 0) (.int .i64 0) (.bool false) 42); clear q0 q1 q2 q3 s0 s1 s2 m0 m1 hb5)
  generalize w5.alloc (.cells #[.int .i64 0, .int .i64 0, .bool false] 42) = w6 at *
  generalize w5.heap.size = A2 at *
  obtain ⟨⟨⟨q0, q1, q2, q3⟩, ⟨s0, s1, s2⟩, _⟩, ⟨m0, m1⟩, _⟩ := HA.out
  go_upto_region 9 with (go_at_call 22; refine (hwa _).mono ?_; rintro e w7 ⟨rfl, hb7⟩; have HA := ahide ((HA.out.later hb7).later (abelow_alloc w7 (.cells #[.int .i64 0, .int .i64 0, .bool false] 42))); have H1 := ahide ((H1.out.later hb7).later (abelow_alloc w7 (.cells #[.int .i64 0, .int .i64 0, .bool false] 42))); have H2 := ahide ((H2.out.later hb7).later (abelow_alloc w7 (.cells #[.int .i64 0, .int .i64 0, .bool false] 42))); have H3 := ahide (B3.new w7 (.int .i64 0) (.int .i64 0) (.bool false) 42); clear q0 q1 q2 q3 s0 s1 s2 m0 m1 hb7)
  generalize w7.alloc (.cells #[.int .i64 0, .int .i64 0, .bool false] 42) = w8 at *
  generalize w7.heap.size = A3 at *
  have S0 : ((w8.cell? ⟨w.heap.size, 0, none⟩ = some (.int .i64 T) ∧ w8.cell? ⟨w.heap.size, 1, none⟩ = some (.int .i64 R) ∧ w8.cell? ⟨w.heap.size, 2, none⟩ = some (.int .i64 S) ∧ w8.cell? ⟨w.heap.size, 3, none⟩ = some (.int .i64 C)) ∧ (w8.cell? ⟨w.heap.size + 1, 0, none⟩ = some (.int .i64 i) ∧ w8.cell? ⟨w.heap.size + 1, 1, none⟩ = some (.int .i64 b) ∧ w8.cell? ⟨w.heap.size + 1, 2, none⟩ = some (.bool o))) ∧ AS w w8 P T R S C i b o y z 0 0 0 0 0 0 false false ∧ B2 w8 A1 (.int .i64 0) (.int .i64 0) ∧ B3 w8 A2 (.int .i64 0) (.int .i64 0) (.bool false) ∧ B3 w8 A3 (.int .i64 0) (.int .i64 0) (.bool false) := ⟨⟨HA.out.1.1, HA.out.1.2.1⟩, HA.out, H1.out, H2.out, H3.out⟩
  have Z := ahide S0
  go_region_held3 (fun u => ((u.cell? ⟨w.heap.size, 0, none⟩ = some (.int .i64 T) ∧ u.cell? ⟨w.heap.size, 1, none⟩ = some (.int .i64 R) ∧ u.cell? ⟨w.heap.size, 2, none⟩ = some (.int .i64 S) ∧ u.cell? ⟨w.heap.size, 3, none⟩ = some (.int .i64 C)) ∧ (u.cell? ⟨w.heap.size + 1, 0, none⟩ = some (.int .i64 i) ∧ u.cell? ⟨w.heap.size + 1, 1, none⟩ = some (.int .i64 b) ∧ u.cell? ⟨w.heap.size + 1, 2, none⟩ = some (.bool o))) ∧ AS w u P T R S C i b o y z 0 0 0 0 0 0 false false ∧ B2 u A1 (.int .i64 0) (.int .i64 0) ∧ B3 u A2 (.int .i64 0) (.int .i64 0) (.bool false) ∧ B3 u A3 (.int .i64 0) (.int .i64 0) (.bool false))
    (first
      | (with_reducible assumption)
      | (with_reducible refine keep9 (abelow_alloc _ _) ?_; with_reducible assumption)
      | (with_reducible apply keep9; with_reducible assumption; with_reducible assumption)
      | (refine keep9 ?_ Z.out; exact (Below.refl _ _).drew))
    (first
      | (go_at_call 23; refine (hcr _).mono ?_; rintro e w' ⟨rfl, hb⟩)
      | (go_at_call 24; refine (hrm _).mono ?_; rintro e w' ⟨rfl, hb⟩)
      | (go_at_call 25; refine (hck _).mono ?_; rintro e w' ⟨rfl, hb⟩)
      | (go_at_call 14; refine (ais_same _ _).mono ?_; rintro e w' ⟨rfl, rfl⟩))
  all_goals
    rename_i hH
    obtain ⟨⟨d0, d1⟩, _⟩ := hH.2.1.2.2.1
    obtain ⟨⟨n0, n1, n2⟩, _⟩ := hH.2.1.2.2.2.1
    obtain ⟨⟨k0, k1, k2⟩, _⟩ := hH.2.1.2.2.2.2.1
    obtain ⟨⟨j0, j1⟩, ⟨l0, l1, l2⟩, g0, g1, g2⟩ := hH.2.2
    have HB := ahide hH.2.1.1.2.2
    clear hH
    go_wp2_with fail
    go_ret
    exact ⟨by simp, HB.out⟩

set_option maxRecDepth 100000 in
set_option maxHeartbeats 4000000 in
theorem actSays_yes (T R S C i b : Int) (o y : Bool) (z : Int) (tg : Int) (he : svE T R S C i b o = 0) (w : World) :
    Calls Try.prog 4 #[.agg #[.int .i64 T, .int .i64 R, .int .i64 S, .int .i64 C], .agg #[.int .i64 i, .int .i64 b, .bool o], .agg #[.bool y, .int .i64 z], .int .i64 tg] w fun e w' => e = .returned (.bool true) ∧ Below w.heap.size w w' := by
  obtain ⟨hr, hs⟩ := svE_zero he
  have hsm := servoMay_any T R S C i b o
  have hrd := reached_any T R S C i b o hr hs
  have hwd := watched_any T R S C i b o y z hr hs
  have hre := reach_ok T R S C i b o he
  have hmv := move_ok T R S C i b o tg he
  have hwa := watch_ok T R S C i b o y z he
  have hcr := actRule_any T R S C
  have hrm := refActRule_any T R S C
  have hck := servoCheck_any T R S C i b o
  have hle := lo_le_hi he
  have hcl := refClip_any tg (loR T R i o) (hiR T R i o) hle
  rw [he, errV_zero] at hck
  rw [he] at hsm
  have HX := ahide (⟨(RS.new w T R S C i b o).later (abelow_alloc _ (.cells #[.bool y, .int .i64 z] 44)), by rw [show w.heap.size + 1 + 1 = ((w.alloc (.cells #[.int .i64 T, .int .i64 R, .int .i64 S, .int .i64 C] 40)).alloc (.cells #[.int .i64 i, .int .i64 b, .bool o] 42)).heap.size by simp [go_sem]]; exact B2.new _ _ _ _⟩ : RS w (((w.alloc (.cells #[.int .i64 T, .int .i64 R, .int .i64 S, .int .i64 C] 40)).alloc (.cells #[.int .i64 i, .int .i64 b, .bool o] 42)).alloc (.cells #[.bool y, .int .i64 z] 44)) T R S C i b o ∧ B2 (((w.alloc (.cells #[.int .i64 T, .int .i64 R, .int .i64 S, .int .i64 C] 40)).alloc (.cells #[.int .i64 i, .int .i64 b, .bool o] 42)).alloc (.cells #[.bool y, .int .i64 z] 44)) (w.heap.size + 1 + 1) (.bool y) (.int .i64 z))
  clear he hr hs hle
  generalize clipI tg (loR T R i o) (hiR T R i o) = mi at *
  generalize loR T R i o = lo at *
  generalize hiR T R i o = hi at *
  generalize wI S C i b z o y = xi at *
  generalize wB S i b z o y = xb at *
  generalize wO S C i b z o y = xo at *
  generalize arE T R S C = re at *
  go_enter Try.func4, Try.ntmps4
  go_upto_region 4 with (go_at_call 16; refine (hsm _).mono ?_; rintro e w1 ⟨rfl, hb1⟩; have HA := ahide (AS.new (HX.out.1.later hb1) (HX.out.2.later hb1)); clear hb1)
  generalize (((w1.alloc (.cells #[.int .i64 0, .int .i64 0] 47)).alloc (.cells #[.int .i64 0, .int .i64 0, .bool false] 42)).alloc (.cells #[.int .i64 0, .int .i64 0, .bool false] 42)) = w2 at *
  generalize w1.heap.size = P at *
  have HP := ahide (show w.heap.size + 1 + 1 < P ∧ w.heap.size + 1 + 1 < P + 1 ∧ w.heap.size + 1 + 1 < P + 1 + 1 from ⟨HA.out.2.2.2.2.2, by have := HA.out.2.2.2.2.2; omega, by have := HA.out.2.2.2.2.2; omega⟩)
  have S0 : ((w2.cell? ⟨w.heap.size, 0, none⟩ = some (.int .i64 T) ∧ w2.cell? ⟨w.heap.size, 1, none⟩ = some (.int .i64 R) ∧ w2.cell? ⟨w.heap.size, 2, none⟩ = some (.int .i64 S) ∧ w2.cell? ⟨w.heap.size, 3, none⟩ = some (.int .i64 C)) ∧ (w2.cell? ⟨w.heap.size + 1, 0, none⟩ = some (.int .i64 i) ∧ w2.cell? ⟨w.heap.size + 1, 1, none⟩ = some (.int .i64 b) ∧ w2.cell? ⟨w.heap.size + 1, 2, none⟩ = some (.bool o))) ∧ (w2.cell? ⟨w.heap.size + 1 + 1, 0, none⟩ = some (.bool y) ∧ w2.cell? ⟨w.heap.size + 1 + 1, 1, none⟩ = some (.int .i64 z)) := ⟨⟨HA.out.1.1, HA.out.1.2.1⟩, HA.out.2.1⟩
  have Z := ahide S0
  go_cut [] (fun u => AS w u P T R S C i b o y z lo hi i b xi xb o xo)
  case first =>
    go_region_held3 (fun u => ((u.cell? ⟨w.heap.size, 0, none⟩ = some (.int .i64 T) ∧ u.cell? ⟨w.heap.size, 1, none⟩ = some (.int .i64 R) ∧ u.cell? ⟨w.heap.size, 2, none⟩ = some (.int .i64 S) ∧ u.cell? ⟨w.heap.size, 3, none⟩ = some (.int .i64 C)) ∧ (u.cell? ⟨w.heap.size + 1, 0, none⟩ = some (.int .i64 i) ∧ u.cell? ⟨w.heap.size + 1, 1, none⟩ = some (.int .i64 b) ∧ u.cell? ⟨w.heap.size + 1, 2, none⟩ = some (.bool o))) ∧ (u.cell? ⟨w.heap.size + 1 + 1, 0, none⟩ = some (.bool y) ∧ u.cell? ⟨w.heap.size + 1 + 1, 1, none⟩ = some (.int .i64 z)))
      (first
        | (with_reducible assumption)
        | (with_reducible apply keep4; with_reducible assumption; with_reducible assumption)
        | (with_reducible exact keep4s (HP.out.1) (keep4s (HP.out.1) (KS.out)))
        | (with_reducible exact keep4s (HP.out.2.1) (keep4s (HP.out.2.1) (keep4s (HP.out.2.1) (keep4s (HP.out.1) (keep4s (HP.out.1) (KS.out))))))
        | (with_reducible exact keep4s (HP.out.2.2) (keep4s (HP.out.2.2) (keep4s (HP.out.2.2) (keep4s (HP.out.2.1) (keep4s (HP.out.2.1) (keep4s (HP.out.2.1) (keep4s (HP.out.1) (keep4s (HP.out.1) (KS.out)))))))))
        | (refine keep4 ?_ Z.out; exact (Below.refl _ _).drew))
      (first
        | (go_at_call 17; refine (hrd _).mono ?_; rintro e w' ⟨rfl, hb⟩; have KS := ahide (keep4 hb (by with_reducible assumption)); (first | (have HA := ahide (HA.out.later hb)) | (have HA := ahide ((HA.out.later ((Below.refl _ _).drew)).later hb))); obtain ⟨_, _, ⟨⟨d0, d1⟩, df, _⟩, ⟨⟨n0, n1, n2⟩, nf, _⟩, ⟨⟨k0, k1, k2⟩, kf, _⟩, LP⟩ := HA.out; have d2 := df 0 (by omega); have d3 := df 1 (by omega); have n3 := nf 0 (by omega); have n4 := nf 1 (by omega); have n5 := nf 2 (by omega); have k3 := kf 0 (by omega); have k4 := kf 1 (by omega); have k5 := kf 2 (by omega); clear df nf kf)
        | (go_at_call 18; refine (hwd _).mono ?_; rintro e w' ⟨rfl, hb⟩; have KS := ahide (keep4 hb (by with_reducible assumption)); (first | (have HA := ahide (HA.out.later hb)) | (have HA := ahide ((HA.out.later ((Below.refl _ _).drew)).later hb))); obtain ⟨_, _, ⟨⟨d0, d1⟩, df, _⟩, ⟨⟨n0, n1, n2⟩, nf, _⟩, ⟨⟨k0, k1, k2⟩, kf, _⟩, LP⟩ := HA.out; have d2 := df 0 (by omega); have d3 := df 1 (by omega); have n3 := nf 0 (by omega); have n4 := nf 1 (by omega); have n5 := nf 2 (by omega); have k3 := kf 0 (by omega); have k4 := kf 1 (by omega); have k5 := kf 2 (by omega); clear df nf kf))
    all_goals
      go_wp2_with fail
      go_meet
      (case rel => exact HA.out.store lo hi xi xb xo)
  case rest =>
    rename World => wb
    have HA := ahide hcut
    clear hcut S0 Z HX
    obtain ⟨⟨⟨q0, q1, q2, q3⟩, ⟨s0, s1, s2⟩, _⟩, ⟨m0, m1⟩, ⟨⟨d0, d1⟩, _⟩, ⟨⟨n0, n1, n2⟩, nf, _⟩, _⟩ := HA.out
    have n3 := nf 0 (by omega)
    clear nf
    go_upto_region 6 with (go_at_call 19; refine (hcl _).mono ?_; rintro e w' ⟨rfl, hq⟩; have hq := hq.symm; subst hq)
    have HA := ahide (HA.out.move mi)
    clear q0 q1 q2 q3 s0 s1 s2 m0 m1 d0 d1 n0 n1 n2 n3
    generalize wb.setCell ⟨P + 1, 0, none⟩ (.int .i64 mi) = w2 at *
    obtain ⟨⟨⟨q0, q1, q2, q3⟩, ⟨s0, s1, s2⟩, _⟩, ⟨m0, m1⟩, _⟩ := HA.out
    go_upto_region 7 with (go_at_call 20; refine (hre _).mono ?_; rintro e w3 ⟨rfl, hb3⟩; have HA := ahide ((HA.out.later hb3).later (abelow_alloc w3 (.cells #[.int .i64 lo, .int .i64 hi] 47))); have H1 := ahide (B2.new w3 (.int .i64 lo) (.int .i64 hi) 47); clear q0 q1 q2 q3 s0 s1 s2 m0 m1 hb3)
    generalize w3.alloc (.cells #[.int .i64 lo, .int .i64 hi] 47) = w4 at *
    generalize w3.heap.size = A1 at *
    obtain ⟨⟨⟨q0, q1, q2, q3⟩, ⟨s0, s1, s2⟩, _⟩, ⟨m0, m1⟩, _⟩ := HA.out
    go_upto_region 8 with (go_at_call 21; refine (hmv _).mono ?_; rintro e w5 ⟨rfl, hb5⟩; have HA := ahide ((HA.out.later hb5).later (abelow_alloc w5 (.cells #[.int .i64 mi, .int .i64 b, .bool o] 42))); have H1 := ahide ((H1.out.later hb5).later (abelow_alloc w5 (.cells #[.int .i64 mi, .int .i64 b, .bool o] 42))); have H2 := ahide (B3.new w5 (.int .i64 mi) (.int .i64 b) (.bool o) 42); clear q0 q1 q2 q3 s0 s1 s2 m0 m1 hb5)
    generalize w5.alloc (.cells #[.int .i64 mi, .int .i64 b, .bool o] 42) = w6 at *
    generalize w5.heap.size = A2 at *
    obtain ⟨⟨⟨q0, q1, q2, q3⟩, ⟨s0, s1, s2⟩, _⟩, ⟨m0, m1⟩, _⟩ := HA.out
    go_upto_region 9 with (go_at_call 22; refine (hwa _).mono ?_; rintro e w7 ⟨rfl, hb7⟩; have HA := ahide ((HA.out.later hb7).later (abelow_alloc w7 (.cells #[.int .i64 xi, .int .i64 xb, .bool xo] 42))); have H1 := ahide ((H1.out.later hb7).later (abelow_alloc w7 (.cells #[.int .i64 xi, .int .i64 xb, .bool xo] 42))); have H2 := ahide ((H2.out.later hb7).later (abelow_alloc w7 (.cells #[.int .i64 xi, .int .i64 xb, .bool xo] 42))); have H3 := ahide (B3.new w7 (.int .i64 xi) (.int .i64 xb) (.bool xo) 42); clear q0 q1 q2 q3 s0 s1 s2 m0 m1 hb7)
    generalize w7.alloc (.cells #[.int .i64 xi, .int .i64 xb, .bool xo] 42) = w8 at *
    generalize w7.heap.size = A3 at *
    have S0 : ((w8.cell? ⟨w.heap.size, 0, none⟩ = some (.int .i64 T) ∧ w8.cell? ⟨w.heap.size, 1, none⟩ = some (.int .i64 R) ∧ w8.cell? ⟨w.heap.size, 2, none⟩ = some (.int .i64 S) ∧ w8.cell? ⟨w.heap.size, 3, none⟩ = some (.int .i64 C)) ∧ (w8.cell? ⟨w.heap.size + 1, 0, none⟩ = some (.int .i64 i) ∧ w8.cell? ⟨w.heap.size + 1, 1, none⟩ = some (.int .i64 b) ∧ w8.cell? ⟨w.heap.size + 1, 2, none⟩ = some (.bool o))) ∧ AS w w8 P T R S C i b o y z lo hi mi b xi xb o xo ∧ B2 w8 A1 (.int .i64 lo) (.int .i64 hi) ∧ B3 w8 A2 (.int .i64 mi) (.int .i64 b) (.bool o) ∧ B3 w8 A3 (.int .i64 xi) (.int .i64 xb) (.bool xo) := ⟨⟨HA.out.1.1, HA.out.1.2.1⟩, HA.out, H1.out, H2.out, H3.out⟩
    have Z := ahide S0
    go_region_held3 (fun u => ((u.cell? ⟨w.heap.size, 0, none⟩ = some (.int .i64 T) ∧ u.cell? ⟨w.heap.size, 1, none⟩ = some (.int .i64 R) ∧ u.cell? ⟨w.heap.size, 2, none⟩ = some (.int .i64 S) ∧ u.cell? ⟨w.heap.size, 3, none⟩ = some (.int .i64 C)) ∧ (u.cell? ⟨w.heap.size + 1, 0, none⟩ = some (.int .i64 i) ∧ u.cell? ⟨w.heap.size + 1, 1, none⟩ = some (.int .i64 b) ∧ u.cell? ⟨w.heap.size + 1, 2, none⟩ = some (.bool o))) ∧ AS w u P T R S C i b o y z lo hi mi b xi xb o xo ∧ B2 u A1 (.int .i64 lo) (.int .i64 hi) ∧ B3 u A2 (.int .i64 mi) (.int .i64 b) (.bool o) ∧ B3 u A3 (.int .i64 xi) (.int .i64 xb) (.bool xo))
      (first
        | (with_reducible assumption)
        | (with_reducible refine keep9 (abelow_alloc _ _) ?_; with_reducible assumption)
        | (with_reducible apply keep9; with_reducible assumption; with_reducible assumption)
        | (refine keep9 ?_ Z.out; exact (Below.refl _ _).drew))
      (first
        | (go_at_call 23; refine (hcr _).mono ?_; rintro e w' ⟨rfl, hb⟩)
        | (go_at_call 24; refine (hrm _).mono ?_; rintro e w' ⟨rfl, hb⟩)
        | (go_at_call 25; refine (hck _).mono ?_; rintro e w' ⟨rfl, hb⟩)
        | (go_at_call 14; refine (ais_same _ _).mono ?_; rintro e w' ⟨rfl, rfl⟩)
        | (go_at_call 14; refine (ais_zero _).mono ?_; rintro e w' ⟨rfl, rfl⟩))
    all_goals
      rename_i hH
      obtain ⟨⟨d0, d1⟩, _⟩ := hH.2.1.2.2.1
      obtain ⟨⟨n0, n1, n2⟩, _⟩ := hH.2.1.2.2.2.1
      obtain ⟨⟨k0, k1, k2⟩, _⟩ := hH.2.1.2.2.2.2.1
      obtain ⟨⟨j0, j1⟩, ⟨l0, l1, l2⟩, g0, g1, g2⟩ := hH.2.2
      have HB := ahide hH.2.1.1.2.2
      clear hH
      go_wp2_with fail
      go_ret
      exact ⟨by simp, HB.out⟩

theorem actSays_walk (T R S C i b : Int) (o y : Bool) (z : Int) (tg : Int) (w : World) :
    Calls Try.prog 4 #[.agg #[.int .i64 T, .int .i64 R, .int .i64 S, .int .i64 C], .agg #[.int .i64 i, .int .i64 b, .bool o], .agg #[.bool y, .int .i64 z], .int .i64 tg] w fun e w' => e = .returned (.bool true) ∧ Below w.heap.size w w' := by
  by_cases he : svE T R S C i b o = 0
  · exact actSays_yes T R S C i b o y z tg he w
  · exact actSays_no T R S C i b o y z tg he w

end Go.Proofs.Ytbgabomjiibphaa
