/-
  The contract of fulmarref.ReadingOf: what a word says, bit by bit.
-/
import Derived.Test.YtomigbppimpohaaWordD
namespace Go.Proofs.Ytomigbppimpohaa
open Go.RowKit Plain

theorem pow_mono (j k : Nat) (h : j ≤ k) : (2 : Int) ^ j ≤ 2 ^ k := by
  have : (2 : Nat) ^ j ≤ 2 ^ k := Nat.pow_le_pow_right (by decide) h
  exact_mod_cast this
theorem turn_bounds (x : Int) : ∀ k : Nat, 0 ≤ turn x k ∧ turn x k < 2 ^ k
  | 0 => by simp [turn]
  | k + 1 => by
    have h := turn_bounds x k
    rw [turn, Int.pow_succ]
    omega
theorem turn_le (x : Int) (k : Nat) (hk : k ≤ 8) : 0 ≤ turn x k ∧ turn x k ≤ 255 := by
  have h := turn_bounds x k
  have : (2 : Int) ^ k ≤ 2 ^ 8 := pow_mono k 8 hk
  omega
theorem low_bounds (x : Int) (k : Nat) (hk : k ≤ 18) : 0 ≤ low x k ∧ low x k < 262144 := by
  rw [low_mod]
  have hp : (0 : Int) < 2 ^ k := Int.pow_pos (by decide)
  have := Int.emod_nonneg x (Int.ne_of_gt hp)
  have := Int.emod_lt_of_pos x hp
  have : (2 : Int) ^ k ≤ 2 ^ 18 := pow_mono k 18 hk
  omega

/-- One bit of a number. -/
def btI (x i : Int) : Int := x / 2 ^ i.toNat % 2
theorem btI_bd (x i : Int) : 0 ≤ btI x i ∧ btI x i ≤ 1 := by unfold btI; omega
theorem bit_at (x i : Int) (h0 : 0 ≤ i) (h1 : i ≤ 63) (w : World) :
    Calls Try.prog 15 #[.int .i64 x, .int .i64 i] w fun e w' => e = .returned (.int .i64 (btI x i)) ∧ w' = w := bit_any x i h0 h1 w
theorem low_step (x : Int) (k : Nat) : low (x / 1024) (k + 1) = low (x / 1024) k + btI x (10 + (k : Int)) * 2 ^ k := by
  rw [low, btI, show (10 + (k : Int)).toNat = 10 + k by omega, ← div_pow_add]
  rfl
theorem turn_step (x : Int) (k : Nat) : turn x (k + 1) = 2 * turn x k + btI x k := by rw [turn, btI]; rfl
theorem src_bits (x : Int) : btI x 8 + 2 * btI x 9 = srcI x := by unfold btI srcI; simp only [Int.reduceToNat, Int.reducePow]; omega
theorem sta_bits (x : Int) : btI x 29 + 2 * btI x 30 = staI x := by unfold btI staI; simp only [Int.reduceToNat, Int.reducePow]; omega
theorem dat_bits (x : Int) : low (x / 1024) 18 - btI x 28 * 262144 = datI x := by
  rw [low_mod]; unfold btI datI; simp only [Int.reduceToNat, Int.reducePow]; split <;> omega
theorem lab_turn (x : Int) : turn x 8 = labI x := by
  unfold labI
  rw [rev_eq _ (by omega) (by omega), turn_low]
theorem shift_bd (b : Int) (k : Nat) (hk : k ≤ 17) (h0 : 0 ≤ b) (h1 : b ≤ 1) : 0 ≤ b * 2 ^ k ∧ b * 2 ^ k ≤ 131072 := by
  have hp : (0 : Int) < 2 ^ k := Int.pow_pos (by decide)
  have hm : (2 : Int) ^ k ≤ 2 ^ 17 := pow_mono k 17 hk
  refine ⟨Int.mul_nonneg h0 (Int.le_of_lt hp), ?_⟩
  have := Int.mul_le_mul_of_nonneg_right h1 (Int.le_of_lt hp)
  omega

end Go.Proofs.Ytomigbppimpohaa
