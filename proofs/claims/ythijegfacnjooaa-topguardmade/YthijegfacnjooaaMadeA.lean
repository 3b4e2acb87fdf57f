/-
  Contracts of fulmarref.GuardRule, fulmarref.Brake and fulmarref.ActRule at axes made of raw numbers.
-/
import Derived.Test.YthijegfacnjooaaDiceA
namespace Go.Proofs.Ythijegfacnjooaa
open Go.RowKit Plain

set_option maxHeartbeats 1000000 in
theorem mguardRule_any (a0 a1 a2 a3 a4 a5 a6 a7 a8 a9 a10 a11 a14 : Int) (ga gi : Value) (h3 : 0 ≤ a3 ∧ a3 ≤ 1000) (h7 : 0 ≤ a7 ∧ a7 ≤ 1000) (h4 : 2 ≤ a4 ∧ a4 ≤ 4) (h5 : 1 ≤ a5 ∧ a5 ≤ 1000) (h6 : 1 ≤ a6 ∧ a6 ≤ 1000) (w : World) :
    Calls Try.prog 27 #[.agg #[.int .i64 a0, .int .i64 a1, .int .i64 a2, .int .i64 a3, .int .i64 a4, .int .i64 a5, .int .i64 a6, .int .i64 a7, .int .i64 a8, .int .i64 a9, .int .i64 a10, .int .i64 a11, ga, gi, .int .i64 a14]] w
      fun e w' => e = .returned (.agg #[.int .i64 a0, .int .i64 a1, .int .i64 a2, .int .i64 (a3 + a7), .int .i64 ((a4 - 1) * a5), .int .i64 ((a4 - 1) * a6)]) ∧ Below w.heap.size w w' := by
  obtain ⟨x3, y3⟩ := h3
  obtain ⟨x7, y7⟩ := h7
  obtain ⟨x4, y4⟩ := h4
  have b5 : 0 ≤ (a4 - 1) * a5 ∧ (a4 - 1) * a5 ≤ 3000 := by
    rcases (show a4 = 2 ∨ a4 = 3 ∨ a4 = 4 by omega) with rfl | rfl | rfl <;> omega
  have b6 : 0 ≤ (a4 - 1) * a6 ∧ (a4 - 1) * a6 ≤ 3000 := by
    rcases (show a4 = 2 ∨ a4 = 3 ∨ a4 = 4 by omega) with rfl | rfl | rfl <;> omega
  have v5 : IntKind.i64.wrap ((a4 - 1) * a5) = (a4 - 1) * a5 := swrap_id (by omega) (by omega)
  have v6 : IntKind.i64.wrap ((a4 - 1) * a6) = (a4 - 1) * a6 := swrap_id (by omega) (by omega)
  obtain ⟨b50, b51⟩ := b5
  obtain ⟨b60, b61⟩ := b6
  go_enter Try.func27, Try.ntmps27
  go_wp2
  exact bodyPost_ret (v := .agg #[.int .i64 a0, .int .i64 a1, .int .i64 a2, .int .i64 (a3 + a7), .int .i64 ((a4 - 1) * a5), .int .i64 ((a4 - 1) * a6)]) (by simp [results, Try.results27, go_sem]) rfl ⟨rfl, abelow_up (abelow_alloc _ _) (abelow_alloc _ _)⟩

set_option maxHeartbeats 1000000 in
theorem mbrake_any (r0 r1 r2 r3 r4 r5 s : Int) (h3 : 0 ≤ r3 ∧ r3 ≤ 2000) (h5 : 1 ≤ r5 ∧ r5 ≤ 3000) (hs : -3000 ≤ s ∧ s ≤ 3000) (w : World) :
    Calls Try.prog 48 #[.agg #[.int .i64 r0, .int .i64 r1, .int .i64 r2, .int .i64 r3, .int .i64 r4, .int .i64 r5], .int .i64 s] w
      fun e w' => (∃ n, e = .returned (.int .i64 n) ∧ 0 ≤ n ∧ n ≤ 60000000) ∧ Below w.heap.size w w' := by
  obtain ⟨x3, y3⟩ := h3
  obtain ⟨x5, y5⟩ := h5
  obtain ⟨s0, s1⟩ := hs
  go_enter Try.func48, Try.ntmps48
  go_wp2
  go_loop [1, 5] (fun u v => ∃ t n : Int, u = .int .i64 t ∧ v = .int .i64 n ∧ t ≤ s ∧ -6000 ≤ t ∧ 0 ≤ n ∧ n ≤ 6000 * (s - t)) (fun u _ => (intOf u + 6000).toNat)
  case atStart => exact ⟨s, 0, rfl, rfl, by omega, by omega, by omega, by omega⟩
  case round =>
    obtain ⟨t, n, rfl, rfl, t0, t1, n0, n1⟩ := hrel
    by_cases hgo : 0 < t + r3
    · go_wp2
      go_round
      case rel => exact ⟨t - r5, n + t + r3, rfl, rfl, by omega, by omega, by omega, by omega⟩
      case measure => simp [intOf]; omega
    · go_wp2
      go_ret
      exact ⟨⟨_, rfl, n0, by omega⟩, abelow_alloc _ _⟩

set_option maxHeartbeats 1000000 in
theorem mactRule_any (a0 a1 a2 a3 a4 a5 a6 a7 a8 a9 a10 a11 a14 : Int) (ga gi : Value) (w : World) :
    Calls Try.prog 19 #[.agg #[.int .i64 a0, .int .i64 a1, .int .i64 a2, .int .i64 a3, .int .i64 a4, .int .i64 a5, .int .i64 a6, .int .i64 a7, .int .i64 a8, .int .i64 a9, .int .i64 a10, .int .i64 a11, ga, gi, .int .i64 a14]] w
      fun e w' => e = .returned (.agg #[.int .i64 a5, .int .i64 a6, .int .i64 a7, .int .i64 a10]) ∧ Below w.heap.size w w' := by
  go_enter Try.func19, Try.ntmps19
  go_wp2
  exact bodyPost_ret (v := .agg #[.int .i64 a5, .int .i64 a6, .int .i64 a7, .int .i64 a10]) (by simp [results, Try.results19, go_sem]) rfl ⟨rfl, abelow_up (abelow_alloc _ _) (abelow_alloc _ _)⟩

end Go.Proofs.Ythijegfacnjooaa
