/-
  The walk of the law GuardMade.
-/
import Derived.Test.YtbgabomjiibphabCraftB
import Derived.Test.YtbgabomjiibphabGuardI
namespace Go.Proofs.Ytbgabomjiibphab
open Go.RowKit Plain

theorem craft_first (a : Option Addr) (l : List Int) (cap : Nat) (hl : l.length ≤ 100) (w : World) (hil : ILs w a l) :
    Calls Try.prog 10 #[.slice a l.length cap] w fun e w' => (∃ (a0 a1 a2 a3 a4 a5 a6 a7 a8 a9 a10 a11 a14 : Int) (ga gi : Value) (v : Nat → Value), e = .returned (.agg #[.int .i64 a0, .int .i64 a1, .int .i64 a2, .int .i64 a3, .int .i64 a4, .int .i64 a5, .int .i64 a6, .int .i64 a7, .int .i64 a8, .int .i64 a9, .int .i64 a10, .int .i64 a11, ga, gi, .int .i64 a14, v 15, v 16, v 17, v 18, v 19, v 20, v 21, v 22, v 23, v 24, v 25, v 26, v 27, v 28, v 29, v 30, v 31]) ∧ AxOK a0 a1 a2 a3 a4 a5 a6 a7 a10) ∧ Below w.heap.size w w' := by
  refine (craftFrom_any a l cap hl w hil).mono ?_
  rintro e w' ⟨⟨v, rfl, ⟨a0, a1, a2, a3, a4, a5, a6, a7, a8, a9, a10, a11, a14, p, q, m1, m2, k1, k2, ⟨h0, h1, h2, h3, h4, h5, h6, h7, h8, h9, h10, h11, h12, h13, h14⟩, hax⟩, _⟩, hb⟩
  refine ⟨⟨a0, a1, a2, a3, a4, a5, a6, a7, a8, a9, a10, a11, a14, v 12, v 13, v, ?_, hax⟩, hb⟩
  simp only [Nat.zero_add] at h0 h1 h2 h3 h4 h5 h6 h7 h8 h9 h10 h11 h12 h13 h14
  rw [h0, h1, h2, h3, h4, h5, h6, h7, h8, h9, h10, h11, h14]
theorem field_axes (x0 x1 x2 x3 x4 x5 x6 x7 x8 x9 x10 x11 x12 x13 x14 x15 x16 x17 x18 x19 x20 x21 x22 x23 x24 x25 x26 x27 x28 x29 x30 x31 : Value) (w : World) : (Instr.field 32 (.agg #[x0, x1, x2, x3, x4, x5, x6, x7, x8, x9, x10, x11, x12, x13, x14, x15, x16, x17, x18, x19, x20, x21, x22, x23, x24, x25, x26, x27, x28, x29, x30, x31]) 0).run Try.prog w = .ok (.agg #[x0, x1, x2, x3, x4, x5, x6, x7, x8, x9, x10, x11, x12, x13, x14, x15, x16, x17, x18, x19, x20, x21, x22, x23, x24, x25, x26, x27, x28, x29]) w := by kernel_rfl
theorem index_first (x0 x1 x2 x3 x4 x5 x6 x7 x8 x9 x10 x11 x12 x13 x14 x15 x16 x17 x18 x19 x20 x21 x22 x23 x24 x25 x26 x27 x28 x29 : Value) (w : World) : (Instr.index 30 (.agg #[x0, x1, x2, x3, x4, x5, x6, x7, x8, x9, x10, x11, x12, x13, x14, x15, x16, x17, x18, x19, x20, x21, x22, x23, x24, x25, x26, x27, x28, x29]) (.int .i64 0)).run Try.prog w = .ok (.agg #[x0, x1, x2, x3, x4, x5, x6, x7, x8, x9, x10, x11, x12, x13, x14]) w := by kernel_rfl
theorem mul_bds {s t : Int} (s0 : 2 ≤ s) (s1 : s ≤ 4) (t0 : 1 ≤ t) (t1 : t ≤ 1000) : 1 ≤ (s - 1) * t ∧ (s - 1) * t ≤ 3000 := by
  rcases (show s = 2 ∨ s = 3 ∨ s = 4 by omega) with rfl | rfl | rfl <;> omega
/-- The rule of an axis made of raw numbers. -/
theorem rule_first (a0 a1 a2 a3 a4 a5 a6 a7 a8 a9 a10 a11 a14 : Int) (ga gi : Value) (h : AxOK a0 a1 a2 a3 a4 a5 a6 a7 a10) (w : World) :
    Calls Try.prog 9 #[.agg #[.int .i64 a0, .int .i64 a1, .int .i64 a2, .int .i64 a3, .int .i64 a4, .int .i64 a5, .int .i64 a6, .int .i64 a7, .int .i64 a8, .int .i64 a9, .int .i64 a10, .int .i64 a11, ga, gi, .int .i64 a14]] w fun e w' => (∃ P M R : Int, e = .returned (.agg #[.int .i64 a0, .int .i64 a1, .int .i64 a2, .int .i64 P, .int .i64 M, .int .i64 R]) ∧ (0 ≤ P ∧ P ≤ 2000) ∧ (1 ≤ M ∧ M ≤ 3000) ∧ 1 ≤ R ∧ R ≤ 3000) ∧ Below w.heap.size w w' := by
  obtain ⟨lo, lh, hi, n0, n1, p0, p1, s0, s1, t0, t1, r0, r1, k0, k1, w0, w1⟩ := h
  refine (mguardRule_any a0 a1 a2 a3 a4 a5 a6 a7 a8 a9 a10 a11 a14 ga gi ⟨p0, p1⟩ ⟨k0, by omega⟩ ⟨s0, s1⟩ ⟨t0, t1⟩ ⟨r0, by omega⟩ w).mono ?_
  rintro e w' ⟨rfl, hb⟩
  have b1 := mul_bds s0 s1 t0 t1
  have b2 := mul_bds s0 s1 r0 (show a6 ≤ 1000 by omega)
  exact ⟨⟨_, _, _, rfl, ⟨by omega, by omega⟩, b1, b2.1, b2.2⟩, hb⟩

set_option maxRecDepth 100000 in
set_option maxHeartbeats 4000000 in
theorem guardMade_walk (a : Option Addr) (l : List Int) (cap : Nat) (hm : l.length ≤ 9223372036854775807) (x q wt : Int) (w : World) (hil : ILs w a l) :
    Calls Try.prog 3 #[.slice a l.length cap, .int .i64 x, .int .i64 q, .int .i64 wt] w fun e w' => e = .returned (.bool true) ∧ Below w.heap.size w w' := by
  have HIL := ahide hil
  clear hil
  by_cases hl : (100 : Int) < (l.length : Int)
  · go_enter Try.func3, Try.ntmps3
    go_wp2
    go_ret
    exact ⟨rfl, Below.refl _ _⟩
  · have hl' : l.length ≤ 100 := by omega
    have hcf := craft_first a l cap hl' w HIL.out
    have hfa := field_axes
    have hif := index_first
    go_enter Try.func3, Try.ntmps3
    go_upto_region 4 with (first
      | (go_at_call 10; refine hcf.mono ?_; rintro e w1 ⟨⟨a0, a1, a2, a3, a4, a5, a6, a7, a8, a9, a10, a11, a14, ga, gi, v, rfl, hax⟩, hb1⟩; have HA := ahide hax; have HB1 := ahide hb1; clear hax hb1)
      | (go_at_call 9; refine (rule_first a0 a1 a2 a3 a4 a5 a6 a7 a8 a9 a10 a11 a14 ga gi HA.out _).mono ?_; rintro e w2 ⟨⟨P, M, R, rfl, ⟨p0, p1⟩, ⟨m0, m1⟩, r0, r1⟩, hb2⟩; have HB2 := ahide (abelow_up HB1.out hb2); clear hb2))
    have HX := ahide (B6.new w2 a0 a1 a2 P M R 24)
    have HB := ahide (abelow_up HB2.out (abelow_alloc w2 (.cells #[.int .i64 a0, .int .i64 a1, .int .i64 a2, .int .i64 P, .int .i64 M, .int .i64 R] 24)))
    generalize w2.alloc (.cells #[.int .i64 a0, .int .i64 a1, .int .i64 a2, .int .i64 P, .int .i64 M, .int .i64 R] 24) = w3 at *
    generalize w2.heap.size = B at *
    have lo := HA.out.lo
    have lh := HA.out.lh
    have hh := HA.out.hi
    have d0 := Int.emod_nonneg q (b := 2 * M + 1) (by omega)
    have d1 := Int.emod_lt_of_pos q (b := 2 * M + 1) (by omega)
    have pk1 := pick_any q (2 * M + 1) (by omega) (by omega)
    have e0 := Int.emod_nonneg x (b := a1 - a0 + 1) (by omega)
    have e1 := Int.emod_lt_of_pos x (b := a1 - a0 + 1) (by omega)
    have pk2 := pick_any x (a1 - a0 + 1) (by omega) (by omega)
    generalize q % (2 * M + 1) = q1 at *
    generalize x % (a1 - a0 + 1) = x1 at *
    have v1 : IntKind.i64.wrap (2 * M) = 2 * M := gwrap_id (by omega) (by omega)
    have v2 : IntKind.i64.wrap (2 * M + 1) = 2 * M + 1 := gwrap_id (by omega) (by omega)
    have v3 : IntKind.i64.wrap (q1 - M) = q1 - M := gwrap_id (by omega) (by omega)
    have v4 : IntKind.i64.wrap (a1 - a0) = a1 - a0 := gwrap_id (by omega) (by omega)
    have v5 : IntKind.i64.wrap (a1 - a0 + 1) = a1 - a0 + 1 := gwrap_id (by omega) (by omega)
    have v6 : IntKind.i64.wrap (a0 + x1) = a0 + x1 := gwrap_id (by omega) (by omega)
    obtain ⟨q0', q1', q2', q3', q4', q5'⟩ := HX.out
    go_quiet ((go_at_call 11; exact Calls.quiet_of_same (pk1 _)))
    go_upto_region 5 with fail
    have HX4 := ahide (B6.later HX.out (below_drewN (Below.refl _ w3) nq))
    have HB4 := ahide (abelow_up HB.out (below_drewN (Below.refl _ w3) nq))
    generalize w3.drewN nq = w4 at *
    clear q0' q1' q2' q3' q4' q5'
    obtain ⟨q0', q1', q2', q3', q4', q5'⟩ := HX4.out
    go_quiet ((go_at_call 11; exact Calls.quiet_of_same (pk2 _)))
    go_upto_region 6 with fail
    have HX5 := ahide (B6.later HX4.out (below_drewN (Below.refl _ w4) nq))
    have HB5 := ahide (abelow_up HB4.out (below_drewN (Below.refl _ w4) nq))
    generalize w4.drewN nq = w5 at *
    clear q0' q1' q2' q3' q4' q5'
    obtain ⟨q0', q1', q2', q3', q4', q5'⟩ := HX5.out
    go_wp2_with (first
      | (go_at_call 12; refine (guardSays_walk _ _ _ _ _ _ _ _).mono ?_; rintro e w6 ⟨rfl, hb6⟩; have HX6 := ahide (B6.later HX5.out hb6); have HB6 := ahide (abelow_up HB5.out hb6); clear q0' q1' q2' q3' q4' q5' hb6; obtain ⟨q0', q1', q2', q3', q4', q5'⟩ := HX6.out)
      | (go_at_call 13; refine (guardBounds_walk _ _ _ _ _ _ _ _ _ _).mono ?_; rintro e w7 ⟨rfl, hb7⟩; have HB7 := ahide (abelow_up HB6.out hb7); clear hb7))
    go_ret
    exact ⟨rfl, HB7.out⟩

end Go.Proofs.Ytbgabomjiibphab
