/-
  Plain arithmetic for package guard: how far an axis goes till it is stopped, the highest move after which it stops, and that an axis kept so never leaves its envelope. No Go here.
-/
namespace Go.Proofs.Ythijegfacnjooaa.Plain

/-- How far it goes: f, and f less R, and so on, as long as these are above 0, all together. -/
def bk (R f : Int) : Int := if _h : 0 < f ∧ 0 < R then f + bk R (f - R) else 0
termination_by f.toNat
decreasing_by omega

theorem bk_pos {R f : Int} (hR : 0 < R) (hf : 0 < f) : bk R f = f + bk R (f - R) := by
  rw [bk, dif_pos ⟨hf, hR⟩]
theorem bk_none {R f : Int} (hf : f ≤ 0) : bk R f = 0 := by
  rw [bk, dif_neg (by omega)]
theorem bk_nonneg (R f : Int) : 0 ≤ bk R f := by
  rw [bk]
  split
  · rename_i h
    have := bk_nonneg R (f - R)
    omega
  · exact Int.le_refl _
termination_by f.toNat
decreasing_by omega
theorem bk_mono {R f g : Int} (hR : 0 < R) (h : f ≤ g) : bk R f ≤ bk R g := by
  by_cases hf : 0 < f
  · rw [bk_pos hR hf, bk_pos (f := g) hR (by omega)]
    have := bk_mono (R := R) (f := f - R) (g := g - R) hR (by omega)
    omega
  · rw [bk_none (by omega)]; exact bk_nonneg R g
termination_by f.toNat
decreasing_by omega
theorem bk_le {R f : Int} (hR : 0 < R) (hf : 0 < f) : bk R f ≤ f * f := by
  rw [bk_pos hR hf]
  by_cases h : 0 < f - R
  · have i := bk_le (R := R) (f := f - R) hR h
    have h1 : (f - R) * (f - R) ≤ (f - 1) * (f - 1) := Int.mul_le_mul (by omega) (by omega) (by omega) (by omega)
    have h2 : (f - 1) * (f - 1) = f * f - f - f + 1 := by rw [Int.sub_mul, Int.mul_sub]; omega
    omega
  · rw [bk_none (by omega)]
    have : f * 1 ≤ f * f := Int.mul_le_mul_of_nonneg_left (by omega) (by omega)
    omega
termination_by f.toNat
decreasing_by omega
theorem bk_lt {R f : Int} (hR : 0 < R) (h : f ≤ 6000) : bk R f ≤ 36000000 := by
  have h0 := bk_mono hR h
  have h1 := bk_le (R := R) (f := 6000) hR (by omega)
  omega
/-- Twice the sum: its frames times what the first and the last are together. -/
theorem bk_twice {R f : Int} (hR : 0 < R) (hf : 0 < f) : 2 * bk R f = ((f - 1) / R + 1) * (f + (f - ((f - 1) / R) * R)) := by
  rw [bk_pos hR hf]
  by_cases h : 0 < f - R
  · have i := bk_twice (R := R) (f := f - R) hR h
    have e : (f - 1) / R = (f - R - 1) / R + 1 := by
      rw [show f - 1 = (f - R - 1) + R by omega, Int.add_ediv_of_dvd_right (Int.dvd_refl R), Int.ediv_self (by omega)]
    rw [Int.mul_add, i, e]
    generalize (f - R - 1) / R = k
    have e1 : (k + 1) * R = k * R + R := by rw [Int.add_mul]; omega
    rw [e1]
    generalize hq : k * R = q
    have e2 : (k + 1) * (f - R + (f - R - q)) = (k + 1) * (f + (f - (q + R))) - (k + 1) * R := by
      rw [← Int.mul_sub]; congr 1; omega
    have e3 : (k + 1 + 1) * (f + (f - (q + R))) = (k + 1) * (f + (f - (q + R))) + (f + (f - (q + R))) := by
      rw [Int.add_mul (k + 1) 1, Int.one_mul]
    rw [e2, e3, e1, hq]
    omega
  · rw [bk_none (by omega), Int.ediv_eq_zero_of_lt (by omega) (by omega)]
    omega
termination_by f.toNat
decreasing_by omega
theorem bk_half {R f : Int} (hR : 0 < R) (hf : 0 < f) : ((f - 1) / R + 1) * (f + (f - ((f - 1) / R) * R)) / 2 = bk R f := by
  rw [← bk_twice hR hf]; omega

/-- h is the highest move from lo to hi after which it goes no further than room; lo, if there is none. -/
def IsHi (R p lo hi room h : Int) : Prop := lo ≤ h ∧ h ≤ hi ∧ (h = lo ∨ bk R (h + p) ≤ room) ∧ ∀ s, h < s → s ≤ hi → room < bk R (s + p)
theorem IsHi.only {R p lo hi room h k : Int} (H : IsHi R p lo hi room h) (K : IsHi R p lo hi room k) : h = k := by
  obtain ⟨a1, a2, a3, a4⟩ := H
  obtain ⟨b1, b2, b3, b4⟩ := K
  rcases Int.lt_trichotomy h k with c | c | c
  · have := a4 k c b2
    omega
  · exact c
  · have := b4 h c a2
    omega

/-- A rule of the guard that may be, each number for itself. -/
def grB (L H N P M R : Int) : Bool := decide (-100000 ≤ L) && decide (L ≤ 100000) && (decide (-100000 ≤ H) && decide (H ≤ 100000)) && (decide (0 ≤ N) && decide (N ≤ 1000)) && (decide (0 ≤ P) && decide (P ≤ 2000)) && (decide (1 ≤ M) && decide (M ≤ 4000)) && (decide (1 ≤ R) && decide (R ≤ M))
/-- And together. -/
def gfB (L H N P M R : Int) : Bool := decide (P ≤ M) && decide (P ≤ R) && decide (2 * (N + bk R (M + P)) ≤ H - L)
def grE (L H N P M R : Int) : Int := if grB L H N P M R then (if gfB L H N P M R then 0 else 3) else 1
structure GR (L H N P M R : Int) : Prop where
  l0 : -100000 ≤ L
  l1 : L ≤ 100000
  h0 : -100000 ≤ H
  h1 : H ≤ 100000
  n0 : 0 ≤ N
  n1 : N ≤ 1000
  p0 : 0 ≤ P
  p1 : P ≤ 2000
  m0 : 1 ≤ M
  m1 : M ≤ 4000
  r0 : 1 ≤ R
  r1 : R ≤ M
theorem grB_true {L H N P M R : Int} (h : grB L H N P M R = true) : GR L H N P M R := by
  simp only [grB, Bool.and_eq_true, decide_eq_true_eq] at h
  constructor <;> omega
structure GOK (L H N P M R : Int) : Prop extends GR L H N P M R where
  pm : P ≤ M
  pr : P ≤ R
  room : 2 * (N + bk R (M + P)) ≤ H - L
theorem grE_ok {L H N P M R : Int} (h : grE L H N P M R = 0) : GOK L H N P M R := by
  unfold grE at h
  by_cases h1 : grB L H N P M R = true
  · rw [if_pos h1] at h
    by_cases h2 : gfB L H N P M R = true
    · have a := grB_true h1
      simp only [gfB, Bool.and_eq_true, decide_eq_true_eq] at h2
      exact ⟨a, h2.1.1, h2.1.2, h2.2⟩
    · rw [if_neg h2] at h; cases h
  · rw [if_neg h1] at h; cases h

/-- The two bounds never cross. -/
theorem no_cross {L H N P M R lo hi y a b : Int} (g : GOK L H N P M R) (hl : -M ≤ lo) (hh : hi ≤ M)
    (A : IsHi R P (-hi) (-lo) (y - N - L) a) (B : IsHi R P lo hi (H - N - y) b) : -a ≤ b := by
  obtain ⟨a1, a2, a3, a4⟩ := A
  obtain ⟨b1, b2, b3, b4⟩ := B
  have := g.room
  rcases Int.lt_or_le b (-a) with c | c
  · have u := a4 (a + 1) (by omega) (by omega)
    have v := b4 (b + 1) (by omega) (by omega)
    have m1 := bk_mono (R := R) (f := a + 1 + P) (g := M + P) (by have := g.r0; omega) (by omega)
    have m2 := bk_mono (R := R) (f := b + 1 + P) (g := M + P) (by have := g.r0; omega) (by omega)
    omega
  · exact c

/-- One side of the envelope: where it is, and what it takes to stop, stay within it. -/
theorem one_side {H N P M R x y u s lo hi b q : Int} (hR : 1 ≤ R) (hPM : P ≤ M) (hlo : lo = -M ∨ lo = q - R)
    (hx : x ≤ H) (hq : x + bk R (q - R + P) ≤ H) (hy : x - N ≤ y) (B : IsHi R P lo hi (H - N - y) b) (hs : s ≤ b) (hl : lo ≤ s) (hu : u ≤ P) :
    x + s + u ≤ H ∧ x + s + u + bk R (s - R + P) ≤ H := by
  obtain ⟨b1, b2, b3, b4⟩ := B
  have key : x + bk R (s + P) ≤ H ∨ s + P ≤ 0 := by
    rcases b3 with c | c
    · have : s = lo := by omega
      rcases hlo with d | d
      · right; omega
      · left; rw [this, d]; exact hq
    · left
      have := bk_mono (R := R) (f := s + P) (g := b + P) (by omega) (by omega)
      omega
  have n := bk_nonneg R (s - R + P)
  by_cases h : s + P ≤ 0
  · rw [bk_none (f := s - R + P) (by omega)]
    omega
  · have k : x + bk R (s + P) ≤ H := by omega
    rw [bk_pos (by omega) (by omega), show s + P - R = s - R + P by omega] at k
    omega

/-- What is counted on, frame by frame. -/
structure Kept (L H P M R x q : Int) : Prop where
  lo : L ≤ x
  hi : x ≤ H
  q0 : -M ≤ q
  q1 : q ≤ M
  up : x + bk R (q - R + P) ≤ H
  dn : -x + bk R (-q - R + P) ≤ -L

theorem Kept.start {L H N P M R x : Int} (g : GOK L H N P M R) (h0 : L ≤ x) (h1 : x ≤ H) : Kept L H P M R x 0 := by
  have := g.m0
  have := g.pr
  refine ⟨h0, h1, by omega, by omega, ?_, ?_⟩
  · rw [bk_none (by omega)]; omega
  · rw [bk_none (by omega)]; omega

/-- The ends of what it can be moved by. -/
def canLo (M R q : Int) : Int := if q - R ≤ -M then -M else q - R
def canHi (M R q : Int) : Int := if M ≤ q + R then M else q + R
theorem canLo_or (M R q : Int) : canLo M R q = -M ∨ canLo M R q = q - R := by unfold canLo; split <;> simp
theorem canHi_or (M R q : Int) : -canHi M R q = -M ∨ -canHi M R q = -q - R := by unfold canHi; split <;> omega
theorem can_le {M R q : Int} (hR : 1 ≤ R) (hM : 1 ≤ M) (h0 : -M ≤ q) (h1 : q ≤ M) : canLo M R q ≤ canHi M R q ∧ -M ≤ canLo M R q ∧ canHi M R q ≤ M ∧ q - R ≤ canLo M R q ∧ canHi M R q ≤ q + R := by
  unfold canLo canHi; split <;> split <;> omega

/-- What is wanted, clipped to two bounds. -/
def clp (x lo hi : Int) : Int := if hi < (if x < lo then lo else x) then hi else (if x < lo then lo else x)
theorem clp_in {x lo hi : Int} (h : lo ≤ hi) : lo ≤ clp x lo hi ∧ clp x lo hi ≤ hi := by unfold clp; split <;> split <;> omega

theorem Kept.step {L H N P M R x q off u a b wt : Int} (g : GOK L H N P M R) (k : Kept L H P M R x q) (ho : -N ≤ off) (ho' : off ≤ N) (hu : -P ≤ u) (hu' : u ≤ P)
    (A : IsHi R P (-canHi M R q) (-canLo M R q) (x + off - N - L) a) (B : IsHi R P (canLo M R q) (canHi M R q) (H - N - (x + off)) b) :
    Kept L H P M R (x + clp wt (-a) b + u) (clp wt (-a) b) ∧ -R ≤ clp wt (-a) b - q ∧ clp wt (-a) b - q ≤ R := by
  have c := can_le g.r0 g.m0 k.q0 k.q1
  have x1 := no_cross g c.2.1 c.2.2.1 A B
  have s := clp_in (x := wt) x1
  generalize clp wt (-a) b = s0 at s
  have U := one_side (u := u) (s := s0) g.r0 g.pm (canLo_or M R q) k.hi k.up (by omega) B s.2 (by have := A.2.1; omega) hu'
  have D := one_side (H := -L) (N := N) (x := -x) (y := -(x + off)) (u := -u) (s := -s0) (q := -q) g.r0 g.pm (canHi_or M R q) (by have := k.lo; omega) k.dn (by omega)
    (by rw [show -L - N - -(x + off) = x + off - N - L by omega]; exact A) (by omega) (by have := B.2.1; omega) (by omega)
  have a2 := A.2.1
  have b2 := B.2.1
  refine ⟨⟨by omega, U.1, by omega, by omega, U.2, by omega⟩, by omega, by omega⟩

/-- As far from the edges as it goes at most nothing is kept back. -/
theorem free_hi {R p lo hi room M : Int} (hR : 1 ≤ R) (h : lo ≤ hi) (hM : hi ≤ M) (hr : bk R (M + p) ≤ room) : IsHi R p lo hi room hi := by
  refine ⟨h, Int.le_refl _, Or.inr ?_, fun s h1 h2 => by omega⟩
  have := bk_mono (R := R) (f := hi + p) (g := M + p) (by omega) (by omega)
  omega

/-- Of the places below n: how many there are where it stops yet. -/
theorem isHi_count {R p lo hi room : Int} {n : Nat} (hR : 1 ≤ R) (hn : hi - lo + 1 = (n : Int)) (h : lo ≤ hi) :
    IsHi R p lo hi room (lo + (if ((List.range n).countP (fun i : Nat => decide (bk R (lo + (i : Int) + p) ≤ room)) : Int) - 1 ≤ 0 then 0 else ((List.range n).countP (fun i : Nat => decide (bk R (lo + (i : Int) + p) ≤ room)) : Int) - 1)) := by
  have key : ∀ m : Nat, ∃ c : Nat, (List.range m).countP (fun i : Nat => decide (bk R (lo + (i : Int) + p) ≤ room)) = c ∧ c ≤ m ∧ (∀ i, i < c → bk R (lo + (i : Int) + p) ≤ room) ∧ (∀ i, c ≤ i → i < m → room < bk R (lo + (i : Int) + p)) := by
    intro m
    induction m with
    | zero => exact ⟨0, rfl, Nat.le_refl _, fun i hi => absurd hi (Nat.not_lt_zero _), fun i _ h2 => absurd h2 (Nat.not_lt_zero _)⟩
    | succ m ih =>
      obtain ⟨c, e, cm, f, t⟩ := ih
      rw [List.range_succ, List.countP_append, e]
      by_cases hb : bk R (lo + (m : Int) + p) ≤ room
      · have all : ∀ i, i < m + 1 → bk R (lo + (i : Int) + p) ≤ room := by
          intro i hi
          have := bk_mono (R := R) (f := lo + (i : Int) + p) (g := lo + (m : Int) + p) (by omega) (by omega)
          omega
        have hc : c = m := by
          rcases Nat.lt_or_ge c m with d | d
          · have := t c (Nat.le_refl _) d
            have := all c (by omega)
            omega
          · omega
        subst hc
        refine ⟨c + 1, by simp [hb], Nat.le_refl _, all, fun i h1 h2 => by omega⟩
      · refine ⟨c, by simp [hb], by omega, f, fun i h1 h2 => ?_⟩
        by_cases hi : i < m
        · exact t i h1 hi
        · have : i = m := by omega
          subst this; omega
  obtain ⟨c, e, cm, f, t⟩ := key n
  rw [e]
  have up : ∀ s, lo + (c : Int) ≤ s → s ≤ hi → room < bk R (s + p) := by
    intro s h1 h2
    have := t (s - lo).toNat (by omega) (by omega)
    rw [show lo + ((s - lo).toNat : Int) + p = s + p by omega] at this
    exact this
  by_cases hc : c = 0
  · subst hc
    rw [if_pos (by omega)]
    exact ⟨by omega, by omega, Or.inl (by omega), fun s h1 h2 => up s (by omega) h2⟩
  · have q : (if (c : Int) - 1 ≤ 0 then (0 : Int) else (c : Int) - 1) = (c : Int) - 1 := by split <;> omega
    rw [q]
    refine ⟨by omega, by omega, Or.inr ?_, fun s h1 h2 => up s (by omega) h2⟩
    have := f (c - 1) (by omega)
    rw [show lo + ((c - 1 : Nat) : Int) + p = lo + ((c : Int) - 1) + p by omega] at this
    exact this

end Go.Proofs.Ythijegfacnjooaa.Plain
