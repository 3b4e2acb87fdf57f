/-
  Contracts of the functions of packages word and fulmarref on single bits and bytes of words, and of math/bits' Reverse8 and OnesCount32: each returns what the plain arithmetic says, and changes nothing that was there.
-/
import Derived.Test.YthijegfacnjooaaLineA
import Derived.Test.YthijegfacnjooaaPlainW
namespace Go.Proofs.Ythijegfacnjooaa
open Go.RowKit Plain

theorem i64_and1 (n : Int) : bits .and .i64 n 1 = n % 2 := by
  have h1 : (BitVec.ofInt 64 1).toNat = 2 ^ 1 - 1 := by decide
  have key : (BitVec.ofInt 64 n &&& BitVec.ofInt 64 1).toNat = (n % ((2 ^ 64 : Nat) : Int)).toNat % 2 ^ 1 := by
    rw [BitVec.toNat_and, BitVec.toNat_ofInt, h1, Nat.and_two_pow_sub_one_eq_mod]
  show IntKind.i64.wrap ((BitVec.ofInt 64 n &&& BitVec.ofInt 64 1).toNat : Nat) = n % 2
  rw [key, IntKind.wrap_i64]
  omega

theorem rev_any (x : Int) (h0 : 0 ≤ x) (h1 : x ≤ 255) (w : World) :
    Calls Try.prog 59 #[.int .u8 x] w fun e w' => e = .returned (.int .u8 (Lib.rev8 x)) ∧ w' = w := by
  go_enter Try.func59, Try.ntmps59
  go_wp2
  go_ret
  exact ⟨rfl, rfl⟩

theorem pop_bounds (b : Int) (h0 : 0 ≤ b) (h1 : b ≤ 255) : 0 ≤ Lib.pop8 b ∧ Lib.pop8 b ≤ 8 := by
  rw [pop_eq b h0 h1]; exact ⟨ones_nonneg b 8, ones_le b 8⟩

theorem onesCount_any (x : Int) (h0 : 0 ≤ x) (h1 : x < 4294967296) (w : World) :
    Calls Try.prog 88 #[.int .u32 x] w fun e w' => e = .returned (.int .i64 (ones x 32)) ∧ ∃ k, w' = w.drewN k := by
  have a0 : 0 ≤ x / 16777216 ∧ x / 16777216 ≤ 255 := by omega
  have a1 : 0 ≤ x / 65536 % 256 ∧ x / 65536 % 256 ≤ 255 := by omega
  have a2 : 0 ≤ x / 256 % 256 ∧ x / 256 % 256 ≤ 255 := by omega
  have a3 : 0 ≤ x % 256 ∧ x % 256 ≤ 255 := by omega
  have p0 := pop_bounds _ a0.1 a0.2
  have p1 := pop_bounds _ a1.1 a1.2
  have p2 := pop_bounds _ a2.1 a2.2
  have p3 := pop_bounds _ a3.1 a3.2
  have e : ones x 32 = Lib.pop8 (x / 16777216) + Lib.pop8 (x / 65536 % 256) + Lib.pop8 (x / 256 % 256) + Lib.pop8 (x % 256) := by
    rw [ones_bytes, pop_eq _ a0.1 a0.2, pop_eq _ a1.1 a1.2, pop_eq _ a2.1 a2.2, pop_eq _ a3.1 a3.2]
    have : x / 16777216 % 256 = x / 16777216 := by omega
    rw [this]
  rw [e]
  clear e
  have m1 : bits .and .u32 (x / 65536) 255 = x / 65536 % 256 := by rw [u32_and _ _ (by omega) (by omega) (by omega) (by omega)]; simp [nat_mask8]; omega
  have m2 : bits .and .u32 (x / 256) 255 = x / 256 % 256 := by rw [u32_and _ _ (by omega) (by omega) (by omega) (by omega)]; simp [nat_mask8]; omega
  have m3 : bits .and .u32 x 255 = x % 256 := by rw [u32_and _ _ (by omega) (by omega) (by omega) (by omega)]; simp [nat_mask8]; omega
  generalize hy0 : x / 16777216 = y0 at *
  generalize hy1 : x / 65536 % 256 = y1 at *
  generalize hy2 : x / 256 % 256 = y2 at *
  generalize hy3 : x % 256 = y3 at *
  go_enter Try.func88, Try.ntmps88
  go_wp2
  go_quiet (fail)
  go_wp2
  go_ret
  exact ⟨rfl, _, rfl⟩

theorem isOdd_any (x : Int) (h0 : 0 ≤ x) (h1 : x < 4294967296) (w : World) :
    Calls Try.prog 61 #[.int .u32 x] w fun e w' => e = .returned (.bool (decide (ones x 32 % 2 = 1))) ∧ ∃ k, w' = w.drewN k := by
  have hc := onesCount_any x h0 h1
  have o0 := ones_nonneg x 32
  have o1 := ones_le x 32
  generalize ones x 32 = n at *
  go_enter Try.func61, Try.ntmps61
  go_wp2_with (go_at_call 88; refine (hc _).mono ?_; rintro e w' ⟨rfl, k, rfl⟩)
  go_ret
  exact ⟨by by_cases h : n % 2 = 1 <;> simp [h], _, rfl⟩

theorem fits_8 (x : Int) (w : World) :
    Calls Try.prog 86 #[.int .i64 x, .int .i64 8] w fun e w' => e = .returned (.bool (decide (0 ≤ x) && decide (x < 256))) ∧ w' = w := by
  by_cases h0 : 0 ≤ x
  · by_cases h1 : x < 256
    · rw [decide_eq_true h0, decide_eq_true h1]
      go_enter Try.func86, Try.ntmps86
      go_wp2
      go_ret
      exact ⟨by simp, rfl⟩
    · rw [decide_eq_true h0, decide_eq_false h1]
      go_enter Try.func86, Try.ntmps86
      go_wp2
      go_ret
      exact ⟨by simp, rfl⟩
  · rw [decide_eq_false h0]
    go_enter Try.func86, Try.ntmps86
    go_wp2
    go_ret
    exact ⟨rfl, rfl⟩

theorem fits_2 (x : Int) (w : World) :
    Calls Try.prog 86 #[.int .i64 x, .int .i64 2] w fun e w' => e = .returned (.bool (decide (0 ≤ x) && decide (x < 4))) ∧ w' = w := by
  by_cases h0 : 0 ≤ x
  · by_cases h1 : x < 4
    · rw [decide_eq_true h0, decide_eq_true h1]
      go_enter Try.func86, Try.ntmps86
      go_wp2
      go_ret
      exact ⟨by simp, rfl⟩
    · rw [decide_eq_true h0, decide_eq_false h1]
      go_enter Try.func86, Try.ntmps86
      go_wp2
      go_ret
      exact ⟨by simp, rfl⟩
  · rw [decide_eq_false h0]
    go_enter Try.func86, Try.ntmps86
    go_wp2
    go_ret
    exact ⟨rfl, rfl⟩

theorem part_0_19 (x : Int) (h0 : 0 ≤ x) (h1 : x < 4294967296) (w : World) :
    Calls Try.prog 60 #[.int .u32 x, .int .i64 0, .int .i64 19] w fun e w' => e = .returned (.int .u32 (x % 524288)) ∧ ∃ k, w' = w.drewN k := by
  have m1 : bits .and .u32 (x) 524287 = x % 524288 := by rw [u32_and _ _ (by omega) (by omega) (by omega) (by omega)]; simp [nat_mask19]; omega
  go_enter Try.func60, Try.ntmps60
  go_wp2
  go_quiet (fail)
  go_wp2
  go_ret
  exact ⟨by first | rfl | simp, _, rfl⟩

theorem part_8_2 (x : Int) (h0 : 0 ≤ x) (h1 : x < 4294967296) (w : World) :
    Calls Try.prog 60 #[.int .u32 x, .int .i64 8, .int .i64 2] w fun e w' => e = .returned (.int .u32 (x / 256 % 4)) ∧ ∃ k, w' = w.drewN k := by
  have m1 : bits .and .u32 (x / 256) 3 = x / 256 % 4 := by rw [u32_and _ _ (by omega) (by omega) (by omega) (by omega)]; simp [nat_mask2]; omega
  go_enter Try.func60, Try.ntmps60
  go_wp2
  go_quiet (fail)
  go_wp2
  go_ret
  exact ⟨by first | rfl | simp, _, rfl⟩

theorem part_29_2 (x : Int) (h0 : 0 ≤ x) (h1 : x < 4294967296) (w : World) :
    Calls Try.prog 60 #[.int .u32 x, .int .i64 29, .int .i64 2] w fun e w' => e = .returned (.int .u32 (x / 536870912 % 4)) ∧ ∃ k, w' = w.drewN k := by
  have m1 : bits .and .u32 (x / 536870912) 3 = x / 536870912 % 4 := by rw [u32_and _ _ (by omega) (by omega) (by omega) (by omega)]; simp [nat_mask2]; omega
  go_enter Try.func60, Try.ntmps60
  go_wp2
  go_quiet (fail)
  go_wp2
  go_ret
  exact ⟨by first | rfl | simp, _, rfl⟩

theorem part_10_19 (x : Int) (h0 : 0 ≤ x) (h1 : x < 4294967296) (w : World) :
    Calls Try.prog 60 #[.int .u32 x, .int .i64 10, .int .i64 19] w fun e w' => e = .returned (.int .u32 (x / 1024 % 524288)) ∧ ∃ k, w' = w.drewN k := by
  have m1 : bits .and .u32 (x / 1024) 524287 = x / 1024 % 524288 := by rw [u32_and _ _ (by omega) (by omega) (by omega) (by omega)]; simp [nat_mask19]; omega
  go_enter Try.func60, Try.ntmps60
  go_wp2
  go_quiet (fail)
  go_wp2
  go_ret
  exact ⟨by first | rfl | simp, _, rfl⟩

end Go.Proofs.Ythijegfacnjooaa
