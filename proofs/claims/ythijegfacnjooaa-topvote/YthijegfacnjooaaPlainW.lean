/-
  Plain arithmetic of words of 32 bits: how many ones they have, their lowest bits, a byte turned round. No program is spoken of here.
-/
import Derived.Lib.BitFns
import Derived.Laws.BitsAllLaws
import Derived.Laws.Bits128
namespace Go.Proofs.Ythijegfacnjooaa.Plain
set_option linter.unusedVariables false

/-- How many of the lowest k bits of n are ones. -/
def ones (n : Int) : Nat → Int
  | 0 => 0
  | k + 1 => ones n k + n / 2 ^ k % 2

theorem ones_nonneg (n : Int) : ∀ k, 0 ≤ ones n k
  | 0 => Int.le_refl _
  | k + 1 => by have := ones_nonneg n k; simp only [ones]; omega
theorem ones_le (n : Int) : ∀ k : Nat, ones n k ≤ k
  | 0 => by simp [ones]
  | k + 1 => by have := ones_le n k; simp only [ones]; omega

/-- The lowest k bits of n, each where it is. -/
def low (n : Int) : Nat → Int
  | 0 => 0
  | k + 1 => low n k + n / 2 ^ k % 2 * 2 ^ k

theorem low_mod (n : Int) : ∀ k : Nat, low n k = n % 2 ^ k
  | 0 => by simp [low]
  | k + 1 => by
    have hp : (0 : Int) < 2 ^ k := Int.pow_pos (by decide)
    rw [low, low_mod n k]
    have e1 := Int.mul_ediv_add_emod n (2 ^ k)
    have e2 := Int.mul_ediv_add_emod (n / 2 ^ k) 2
    have a0 := Int.emod_nonneg n (Int.ne_of_gt hp)
    have a1 := Int.emod_lt_of_pos n hp
    have b0 : 0 ≤ n / 2 ^ k % 2 := by omega
    have b1 : n / 2 ^ k % 2 ≤ 1 := by omega
    have e3 : n = (2 ^ (k + 1)) * (n / 2 ^ k / 2) + (n % 2 ^ k + n / 2 ^ k % 2 * 2 ^ k) := by
      conv => lhs; rw [← e1, ← e2]
      rw [Int.pow_succ, Int.mul_add]
      have : (2 : Int) ^ k * (2 * (n / 2 ^ k / 2)) = 2 ^ k * 2 * (n / 2 ^ k / 2) := by rw [Int.mul_assoc]
      rw [this, Int.mul_comm (n / 2 ^ k % 2) (2 ^ k)]
      omega
    have l1 : n / 2 ^ k % 2 * 2 ^ k ≤ 2 ^ k := by
      have := Int.mul_le_mul_of_nonneg_right b1 (Int.le_of_lt hp)
      omega
    have l0 : 0 ≤ n / 2 ^ k % 2 * 2 ^ k := Int.mul_nonneg b0 (Int.le_of_lt hp)
    have hs : (2 : Int) ^ (k + 1) = 2 ^ k + 2 ^ k := by rw [Int.pow_succ]; omega
    have h : (n % 2 ^ k + n / 2 ^ k % 2 * 2 ^ k) % 2 ^ (k + 1) = n % 2 ^ k + n / 2 ^ k % 2 * 2 ^ k := Int.emod_eq_of_lt (by omega) (by omega)
    conv => rhs; rw [e3]
    rw [Int.add_comm ((2 : Int) ^ (k + 1) * _), Int.add_mul_emod_self_left, h]

/-- The lowest k of eight bits, the first one highest. -/
def turn (n : Int) : Nat → Int
  | 0 => 0
  | k + 1 => 2 * turn n k + n / 2 ^ k % 2

/-- The same, bit by bit from the highest. -/
def turnUp (n : Int) : Nat → Int
  | 0 => 0
  | k + 1 => turnUp n k + n / 2 ^ (7 - k) % 2 * 2 ^ k

theorem pop_byte : ∀ n : Fin 256, Lib.pop8 (n.val : Int) = ones (n.val : Int) 8 := by decide +kernel
theorem rev_byte : ∀ n : Fin 256, Lib.rev8 (n.val : Int) = turn (n.val : Int) 8 := by decide +kernel
theorem rev_up : ∀ n : Fin 256, Lib.rev8 (n.val : Int) = turnUp (n.val : Int) 8 := by decide +kernel
theorem rev_back : ∀ n : Fin 256, Lib.rev8 (Lib.rev8 (n.val : Int)) = (n.val : Int) := by decide +kernel
theorem rev_lt : ∀ n : Fin 256, 0 ≤ Lib.rev8 (n.val : Int) ∧ Lib.rev8 (n.val : Int) ≤ 255 := by decide +kernel

theorem pop_eq (b : Int) (h0 : 0 ≤ b) (h1 : b ≤ 255) : Lib.pop8 b = ones b 8 := by
  have := pop_byte ⟨b.toNat, by omega⟩
  rwa [Int.toNat_of_nonneg h0] at this
theorem rev_eq (b : Int) (h0 : 0 ≤ b) (h1 : b ≤ 255) : Lib.rev8 b = turn b 8 := by
  have := rev_byte ⟨b.toNat, by omega⟩
  rwa [Int.toNat_of_nonneg h0] at this
theorem rev_eq_up (b : Int) (h0 : 0 ≤ b) (h1 : b ≤ 255) : Lib.rev8 b = turnUp b 8 := by
  have := rev_up ⟨b.toNat, by omega⟩
  rwa [Int.toNat_of_nonneg h0] at this
theorem rev_rev (b : Int) (h0 : 0 ≤ b) (h1 : b ≤ 255) : Lib.rev8 (Lib.rev8 b) = b := by
  have := rev_back ⟨b.toNat, by omega⟩
  rwa [Int.toNat_of_nonneg h0] at this
theorem rev_bounds (b : Int) (h0 : 0 ≤ b) (h1 : b ≤ 255) : 0 ≤ Lib.rev8 b ∧ Lib.rev8 b ≤ 255 := by
  have := rev_lt ⟨b.toNat, by omega⟩
  rwa [Int.toNat_of_nonneg h0] at this

theorem div_pow_add (w : Int) (a j : Nat) : w / 2 ^ a / 2 ^ j = w / 2 ^ (a + j) := by
  rw [Int.ediv_ediv_of_nonneg (Int.le_of_lt (Int.pow_pos (by decide))), Int.pow_add]
theorem ones_add (w : Int) (a : Nat) : ∀ b, ones w (a + b) = ones w a + ones (w / 2 ^ a) b
  | 0 => by simp [ones]
  | b + 1 => by rw [← Nat.add_assoc, ones, ones_add w a b, ones, div_pow_add]; omega
theorem bit_mod (w : Int) (k j : Nat) (h : j < k) : w % 2 ^ k / 2 ^ j % 2 = w / 2 ^ j % 2 := by
  have hp : (0 : Int) < 2 ^ j := Int.pow_pos (by decide)
  have e := Int.mul_ediv_add_emod w (2 ^ k)
  obtain ⟨m, rfl⟩ : ∃ m, k = j + 1 + m := ⟨k - j - 1, by omega⟩
  conv => rhs; rw [← e]
  have e2 : (2 : Int) ^ (j + 1 + m) * (w / 2 ^ (j + 1 + m)) = 2 ^ j * (2 * (2 ^ m * (w / 2 ^ (j + 1 + m)))) := by
    rw [Int.pow_add, Int.pow_succ, Int.mul_assoc, Int.mul_assoc]
  rw [e2, Int.add_comm, Int.add_mul_ediv_left _ _ (Int.ne_of_gt hp)]
  omega
theorem ones_mod (w : Int) (k : Nat) : ∀ j, j ≤ k → ones (w % 2 ^ k) j = ones w j
  | 0, _ => rfl
  | j + 1, h => by rw [ones, ones, ones_mod w k j (by omega), bit_mod w k j (by omega)]
/-- The ones of a word: those of its four bytes. -/
theorem ones_bytes (w : Int) : ones w 32 = ones (w / 16777216 % 256) 8 + ones (w / 65536 % 256) 8 + ones (w / 256 % 256) 8 + ones (w % 256) 8 := by
  have e1 := ones_add w 24 8
  have e2 := ones_add w 16 8
  have e3 := ones_add w 8 8
  have m0 := ones_mod w 8 8 (Nat.le_refl _)
  have m1 := ones_mod (w / 256) 8 8 (Nat.le_refl _)
  have m2 := ones_mod (w / 65536) 8 8 (Nat.le_refl _)
  have m3 := ones_mod (w / 16777216) 8 8 (Nat.le_refl _)
  simp only [Nat.reduceAdd, Int.reducePow] at e1 e2 e3 m0 m1 m2 m3
  omega

theorem turn_low (w : Int) : turn (w % 256) 8 = turn w 8 := by
  simp only [turn, Int.reducePow, Int.pow_zero]
  omega

end Go.Proofs.Ythijegfacnjooaa.Plain
