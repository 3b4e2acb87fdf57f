/-
  Contracts of the functions of packages guard and fulmarref on rules: whether one may be, and how far an axis goes till it is stopped. Each returns what the plain words say, and changes nothing that was there.
-/
import Derived.Test.YthijegfacnjooaaActA
import Derived.Test.YthijegfacnjooaaGuardP
namespace Go.Proofs.Ythijegfacnjooaa
open Go.RowKit Plain

theorem gwrap_id {x : Int} (h0 : -9223372036854775808 ≤ x) (h1 : x ≤ 9223372036854775807) : IntKind.i64.wrap x = x := by
  rw [IntKind.wrap_i64]; omega

set_option maxHeartbeats 1000000 in
theorem refBrake_ex (L H N P M R s : Int) (p0 : 0 ≤ P) (p1 : P ≤ 2000) (r0 : 1 ≤ R) (r1 : R ≤ 4000) (s0 : -4000 ≤ s) (s1 : s ≤ 4000) (w : World) :
    Calls Try.prog 48 #[.agg #[.int .i64 L, .int .i64 H, .int .i64 N, .int .i64 P, .int .i64 M, .int .i64 R], .int .i64 s] w fun e w' => e = .returned (.int .i64 (bk R (s + P))) ∧ w' = w.alloc (.cells #[.int .i64 L, .int .i64 H, .int .i64 N, .int .i64 P, .int .i64 M, .int .i64 R] 78) := by
  have hm : Hid (bk R (s + P) ≤ 36000000) := bk_lt (by omega) (by omega)
  obtain ⟨tot, ht⟩ : ∃ t, Hid (bk R (s + P) = t) := ⟨_, rfl⟩
  rw [ht.out] at hm ⊢
  go_enter Try.func48, Try.ntmps48
  go_wp2
  go_loop [1, 5] (fun u v => ∃ t n : Int, u = .int .i64 t ∧ v = .int .i64 n ∧ t ≤ s ∧ -8000 ≤ t ∧ 0 ≤ n ∧ n + bk R (t + P) = tot) (fun u _ => (intOf u + 8000).toNat)
  case atStart => exact ⟨s, 0, rfl, rfl, by omega, by omega, by omega, by rw [ht.out]; omega⟩
  case round =>
    obtain ⟨t, n, rfl, rfl, t0, t1, n0, hn0⟩ := hrel
    have hn : Hid (n + bk R (t + P) = tot) := hn0
    clear hn0
    have hn1 : n ≤ 36000000 := by have := bk_nonneg R (t + P); have := hn.out; have := hm.out; omega
    by_cases hgo : 0 < t + P
    · have hk : Hid (n + t + P + bk R (t - R + P) = tot) := by
        have e := bk_pos (R := R) (f := t + P) (by omega) hgo
        rw [show t + P - R = t - R + P by omega] at e
        have := hn.out
        show _ = _
        omega
      go_wp2
      go_round
      case rel => exact ⟨t - R, n + t + P, rfl, rfl, by omega, by omega, by omega, hk.out⟩
      case measure => simp [intOf]; omega
    · have hk : Hid (n = tot) := by
        have e := bk_none (R := R) (f := t + P) (by omega)
        have := hn.out
        show _ = _
        omega
      go_wp2
      go_ret
      exact ⟨by rw [hk.out]; rfl, rfl⟩

set_option maxHeartbeats 1000000 in
theorem brake_ex (L H N P M R s : Int) (p0 : 0 ≤ P) (p1 : P ≤ 2000) (r0 : 1 ≤ R) (r1 : R ≤ 4000) (s0 : -4000 ≤ s) (s1 : s ≤ 4000) (w : World) :
    Calls Try.prog 51 #[.agg #[.int .i64 L, .int .i64 H, .int .i64 N, .int .i64 P, .int .i64 M, .int .i64 R], .int .i64 s] w fun e w' => e = .returned (.int .i64 (bk R (s + P))) ∧ w' = w.alloc (.cells #[.int .i64 L, .int .i64 H, .int .i64 N, .int .i64 P, .int .i64 M, .int .i64 R] 78) := by
  by_cases hgo : s + P ≤ 0
  · rw [bk_none hgo]
    go_enter Try.func51, Try.ntmps51
    go_wp2
    go_ret
    exact ⟨rfl, rfl⟩
  · have hR : (R == 0) = false := by simp; omega
    have hk := bk_half (R := R) (f := s + P) (by omega) (by omega)
    rw [← Int.tdiv_eq_ediv_of_nonneg (a := s + P - 1) (by omega)] at hk
    have q0 : 0 ≤ (s + P - 1).tdiv R := Int.tdiv_nonneg (by omega) (by omega)
    have q1 : (s + P - 1).tdiv R ≤ 6000 := by
      rw [Int.tdiv_eq_ediv_of_nonneg (by omega)]
      have := Int.ediv_le_self (a := s + P - 1) R (by omega)
      omega
    have q2 : (s + P - 1).tdiv R * R ≤ s + P - 1 := by
      rw [Int.tdiv_eq_ediv_of_nonneg (by omega)]
      exact Int.ediv_mul_le _ (by omega)
    generalize hkk : (s + P - 1).tdiv R = k at *
    have q3 : 0 ≤ k * R := Int.mul_nonneg q0 (by omega)
    have q4 : k + 1 - 1 = k := by omega
    have v1 : IntKind.i64.wrap (k * R) = k * R := gwrap_id (by omega) (by omega)
    have q5 : 0 ≤ (k + 1) * (s + P + (s + P - k * R)) := Int.mul_nonneg (by omega) (by omega)
    have q6 : (k + 1) * (s + P + (s + P - k * R)) ≤ 6001 * 12000 := Int.mul_le_mul (by omega) (by omega) (by omega) (by omega)
    have v2 : IntKind.i64.wrap ((k + 1) * (s + P + (s + P - k * R))) = (k + 1) * (s + P + (s + P - k * R)) := gwrap_id (by omega) (by omega)
    have HK : Hid (((k + 1) * (s + P + (s + P - k * R))).tdiv 2 = bk R (s + P)) := by
      show _ = _
      rw [Int.tdiv_eq_ediv_of_nonneg q5]; exact hk
    have w2 : ((k + 1) * (s + P + (s + P - k * R))).tdiv 2 ≤ 100000000 ∧ 0 ≤ ((k + 1) * (s + P + (s + P - k * R))).tdiv 2 := by
      rw [Int.tdiv_eq_ediv_of_nonneg q5]; omega
    obtain ⟨w20, w21⟩ := w2
    clear hk q4
    go_enter Try.func51, Try.ntmps51
    go_wp2
    go_ret
    exact ⟨by rw [← HK.out]; rfl, rfl⟩

end Go.Proofs.Ythijegfacnjooaa
