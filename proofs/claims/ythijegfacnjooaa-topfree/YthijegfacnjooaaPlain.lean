/-
  Plain arithmetic for package fix: numbers that stay at their ends, the nearest whole number, the whole root, products of spans. No Go here.
-/
namespace Go.Proofs.Ythijegfacnjooaa.Plain

/-- A number, clipped to the fixed numbers. -/
def ofI (x : Int) : Int := if x < -2147483647 then -2147483647 else if 2147483647 < x then 2147483647 else x
theorem ofI_lo (x : Int) : -2147483647 ≤ ofI x := by unfold ofI; split <;> (try split) <;> omega
theorem ofI_hi (x : Int) : ofI x ≤ 2147483647 := by unfold ofI; split <;> (try split) <;> omega
theorem ofI_id {x : Int} (h1 : -2147483647 ≤ x) (h2 : x ≤ 2147483647) : ofI x = x := by unfold ofI; rw [if_neg (by omega), if_neg (by omega)]
theorem ofI_ofI (x : Int) : ofI (ofI x) = ofI x := ofI_id (ofI_lo x) (ofI_hi x)
theorem ofI_mono {x y : Int} (h : x ≤ y) : ofI x ≤ ofI y := by unfold ofI; split <;> split <;> (try split) <;> (try split) <;> omega

/-- Of products of two fixed numbers. -/
theorem mul_bd {a b : Int} (ha : -2147483647 ≤ a) (ha' : a ≤ 2147483647) (hb : -2147483647 ≤ b) (hb' : b ≤ 2147483647) : -4611686014132420609 ≤ a * b ∧ a * b ≤ 4611686014132420609 := by
  have h1 : 0 ≤ (2147483647 - a) * (2147483647 + b) := Int.mul_nonneg (by omega) (by omega)
  have h2 : 0 ≤ (2147483647 + a) * (2147483647 - b) := Int.mul_nonneg (by omega) (by omega)
  have h3 : 0 ≤ (2147483647 - a) * (2147483647 - b) := Int.mul_nonneg (by omega) (by omega)
  have h4 : 0 ≤ (2147483647 + a) * (2147483647 + b) := Int.mul_nonneg (by omega) (by omega)
  simp only [Int.sub_mul, Int.mul_sub, Int.add_mul, Int.mul_add] at h1 h2 h3 h4
  constructor <;> omega

/-- The nearest whole number to n by d (d above 0); of two as near the one further from 0. -/
def awayI (n d : Int) : Int := if n < 0 then -((2 * (-n) + d) / (2 * d)) else (2 * n + d) / (2 * d)

theorem awayI_neg (n d : Int) (h : 0 < d) : awayI (-n) d = -awayI n d := by
  unfold awayI
  rcases Int.lt_trichotomy n 0 with h0 | h0 | h0
  · rw [if_neg (by omega), if_pos h0]; omega
  · subst h0
    have e : (2 * 0 + d) / (2 * d) = 0 := Int.ediv_eq_zero_of_lt (by omega) (by omega)
    simp only [Int.neg_zero, Int.lt_irrefl, if_false]
    rw [e]; rfl
  · rw [if_pos (by omega), if_neg (by omega)]; simp

/-- Of n not below 0: what the remainder says. -/
theorem away_div (n d : Int) (hd : 0 < d) (_hn : 0 ≤ n) : (2 * n + d) / (2 * d) = if 2 * (n % d) < d then n / d else n / d + 1 := by
  have e := Int.mul_ediv_add_emod n d
  have r0 := Int.emod_nonneg n (show d ≠ 0 by omega)
  have r1 := Int.emod_lt_of_pos n hd
  have : 2 * n + d = (2 * (n % d) + d) + (2 * d) * (n / d) := by
    have : 2 * n = 2 * (d * (n / d)) + 2 * (n % d) := by omega
    have e2 : 2 * (d * (n / d)) = 2 * d * (n / d) := by rw [Int.mul_assoc]
    omega
  rw [this, Int.add_mul_ediv_left _ _ (by omega)]
  split
  · rw [Int.ediv_eq_zero_of_lt (by omega) (by omega)]; omega
  · have : (2 * (n % d) + d) / (2 * d) = 1 := by
      have : 2 * (n % d) + d = (2 * (n % d) - d) + (2 * d) * 1 := by omega
      rw [this, Int.add_mul_ediv_left _ _ (by omega), Int.ediv_eq_zero_of_lt (by omega) (by omega)]; rfl
    omega

theorem awayI_nonneg {n d : Int} (hd : 0 < d) (hn : 0 ≤ n) : 0 ≤ awayI n d := by
  unfold awayI; rw [if_neg (by omega)]; exact Int.ediv_nonneg (by omega) (by omega)
theorem awayI_le {n d : Int} (hd : 0 < d) (hn : 0 ≤ n) : awayI n d ≤ n := by
  unfold awayI; rw [if_neg (by omega), away_div n d hd hn]
  have e := Int.mul_ediv_add_emod n d
  have r0 := Int.emod_nonneg n (show d ≠ 0 by omega)
  have q0 : 0 ≤ n / d := Int.ediv_nonneg hn (by omega)
  have m : n / d ≤ d * (n / d) := by
    have : 0 ≤ (d - 1) * (n / d) := Int.mul_nonneg (by omega) q0
    rw [Int.sub_mul] at this; omega
  split <;> omega

/-- The program's way to it: the quotient cut, and what is left. -/
def nearI (n d : Int) : Int := if 2 * max (n.tmod d) (-(n.tmod d)) < max d (-d) then n.tdiv d else if (decide (n < 0) != decide (d < 0)) = true then n.tdiv d - 1 else n.tdiv d + 1

theorem near_pos (n d : Int) (hd : 0 < d) (hn : 0 ≤ n) : nearI n d = awayI n d := by
  unfold nearI awayI
  rw [if_neg (show ¬ n < 0 by omega), away_div n d hd hn, Int.tmod_eq_emod_of_nonneg hn, Int.tdiv_eq_ediv_of_nonneg hn]
  have r0 := Int.emod_nonneg n (show d ≠ 0 by omega)
  have e1 : max (n % d) (-(n % d)) = n % d := by omega
  have e2 : max d (-d) = d := by omega
  rw [e1, e2]
  split
  · rfl
  · rw [if_neg]; simp; omega
theorem near_neg (n d : Int) (hd : 0 < d) : nearI (-n) d = -nearI n d := by
  by_cases h : n = 0
  · subst h; unfold nearI; simp; omega
  · unfold nearI
    rw [Int.neg_tmod, Int.neg_tdiv]
    have e1 : max (-(n.tmod d)) (- -(n.tmod d)) = max (n.tmod d) (-(n.tmod d)) := by omega
    rw [e1]
    by_cases hn : n < 0
    · have h1 : decide (-n < 0) = false := by simp; omega
      have h2 : decide (n < 0) = true := by simp; omega
      have h3 : decide (d < 0) = false := by simp; omega
      rw [h1, h2, h3]; split
      · rfl
      · simp; omega
    · have h1 : decide (-n < 0) = true := by simp; omega
      have h2 : decide (n < 0) = false := by simp; omega
      have h3 : decide (d < 0) = false := by simp; omega
      rw [h1, h2, h3]; split
      · rfl
      · simp; omega
theorem near_away (n d : Int) (hd : 0 < d) : nearI n d = awayI n d := by
  by_cases hn : 0 ≤ n
  · exact near_pos n d hd hn
  · have := near_pos (-n) d hd (by omega)
    rw [near_neg n d hd, awayI_neg n d hd] at this; omega
theorem near_neg_d (n d : Int) (hd : d ≠ 0) : nearI n d = nearI (-n) (-d) := by
  unfold nearI
  rw [Int.neg_tmod, Int.neg_tdiv, Int.tmod_neg, Int.tdiv_neg]
  have e1 : max (-(n.tmod d)) (- -(n.tmod d)) = max (n.tmod d) (-(n.tmod d)) := by omega
  have e2 : max (-d) (- -d) = max d (-d) := by omega
  have e3 : - -(n.tdiv d) = n.tdiv d := by omega
  rw [e1, e2, e3]
  split
  · rfl
  · rename_i hr
    have hn : n ≠ 0 := by
      intro h; subst h; apply hr; simp; omega
    have h1 : decide (-n < 0) = !decide (n < 0) := by
      by_cases a : n < 0
      · rw [decide_eq_true a, decide_eq_false (show ¬ -n < 0 by omega)]; rfl
      · rw [decide_eq_false a, decide_eq_true (show -n < 0 by omega)]; rfl
    have h2 : decide (-d < 0) = !decide (d < 0) := by
      by_cases a : d < 0
      · rw [decide_eq_true a, decide_eq_false (show ¬ -d < 0 by omega)]; rfl
      · rw [decide_eq_false a, decide_eq_true (show -d < 0 by omega)]; rfl
    have : (decide (-n < 0) != decide (-d < 0)) = (decide (n < 0) != decide (d < 0)) := by
      rw [h1, h2]; cases decide (n < 0) <;> cases decide (d < 0) <;> rfl
    rw [this]

/-- Mul and Div of fixed numbers. -/
def mulI (a b : Int) : Int := ofI (awayI (ofI a * ofI b) 256)
def divI (a b : Int) : Int := if ofI b < 0 then ofI (awayI (-(ofI a * 256)) (-ofI b)) else ofI (awayI (ofI a * 256) (ofI b))
theorem mul_near (a b : Int) : ofI (nearI (ofI a * ofI b) 256) = mulI a b := by unfold mulI; rw [near_away _ _ (by omega)]
theorem div_near (a b : Int) (hb : ofI b ≠ 0) : ofI (nearI (256 * ofI a) (ofI b)) = divI a b := by
  unfold divI; rw [Int.mul_comm 256]
  split
  · rw [near_neg_d _ _ hb, near_away _ _ (by omega)]
  · rw [near_away _ _ (by omega)]
theorem ofI_ne {b : Int} (h : b ≠ 0) : ofI b ≠ 0 := by unfold ofI; split <;> (try split) <;> omega

/-- awayI by 256 rises. -/
theorem away256_mono {x y : Int} (h : x ≤ y) : awayI x 256 ≤ awayI y 256 := by unfold awayI; split <;> split <;> omega

/-- A number between: its product lies between those of the ends. -/
theorem mul_between {x lo hi y : Int} (h1 : lo ≤ x) (h2 : x ≤ hi) : min (lo * y) (hi * y) ≤ x * y ∧ x * y ≤ max (lo * y) (hi * y) := by
  rcases Int.le_total 0 y with h | h
  · have a := Int.mul_le_mul_of_nonneg_right h1 h
    have b := Int.mul_le_mul_of_nonneg_right h2 h
    constructor <;> omega
  · have a := Int.mul_le_mul_of_nonpos_right h1 h
    have b := Int.mul_le_mul_of_nonpos_right h2 h
    constructor <;> omega

/-- The product of two numbers lies between the least and the greatest product of the ends. -/
theorem mul_corners {x y a b c d : Int} (h1 : a ≤ x) (h2 : x ≤ b) (h3 : c ≤ y) (h4 : y ≤ d) :
    min (min (a * c) (a * d)) (min (b * c) (b * d)) ≤ x * y ∧ x * y ≤ max (max (a * c) (a * d)) (max (b * c) (b * d)) := by
  have p := mul_between (y := y) h1 h2
  have q := mul_between (y := a) h3 h4
  have r := mul_between (y := b) h3 h4
  rw [Int.mul_comm c a, Int.mul_comm d a, Int.mul_comm y a] at q
  rw [Int.mul_comm c b, Int.mul_comm d b, Int.mul_comm y b] at r
  constructor <;> omega

/-- What is cut lies no further from 0. -/
theorem tdiv_bd (n d B : Int) (h1 : -B ≤ n) (h2 : n ≤ B) : -B ≤ n.tdiv d ∧ n.tdiv d ≤ B := by
  have h : (n.tdiv d).natAbs ≤ n.natAbs := by rw [Int.natAbs_tdiv]; exact Nat.div_le_self _ _
  omega
theorem tmod_bd (n d B : Int) (hd : d ≠ 0) (h1 : -B ≤ d) (h2 : d ≤ B) : -B ≤ n.tmod d ∧ n.tmod d ≤ B := by
  have h : (n.tmod d).natAbs < d.natAbs := by rw [Int.natAbs_tmod]; exact Nat.mod_lt _ (by omega)
  omega
theorem awayI_bd {n d B : Int} (hd : 0 < d) (h1 : -B ≤ n) (h2 : n ≤ B) : -B ≤ awayI n d ∧ awayI n d ≤ B := by
  by_cases hn : 0 ≤ n
  · have := awayI_nonneg hd hn; have := awayI_le hd hn; omega
  · have a := awayI_nonneg (n := -n) hd (by omega); have b := awayI_le (n := -n) hd (by omega)
    rw [awayI_neg n d hd] at a b; omega

end Go.Proofs.Ythijegfacnjooaa.Plain
