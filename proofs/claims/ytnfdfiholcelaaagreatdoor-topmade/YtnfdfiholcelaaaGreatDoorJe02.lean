
import Derived.Test.YtnfdfiholcelaaaGreatDoorJe00
import Derived.Test.YtnfdfiholcelaaaGreatDoorJe01
set_option maxRecDepth 100000
set_option maxHeartbeats 20000000
namespace Go.Proofs.YtnfdfiholcelaaaGreatDoor.Plain
def bk (R f : Int) : Int := if _h : 0 < f ∧ 0 < R then f + bk R (f - R) else 0
termination_by f.toNat
decreasing_by omega
theorem bk_pos {R f : Int} (hR : 0 < R) (hf : 0 < f) : bk R f = f + bk R (f - R) := by
 rw [bk, dif_pos ⟨hf, hR⟩]
theorem Zdt {R f : Int} (hf : f ≤ 0) : bk R f = 0 := by
 rw [bk, dif_neg (by omega)]
theorem Zbm (R f : Int) : 0 ≤ bk R f := by
 rw [bk]
 split
 · rename_i h
   have := Zbm R (f - R)
   omega
 · exact Int.le_refl _
termination_by f.toNat
decreasing_by omega
theorem Zes {R f g : Int} (hR : 0 < R) (h : f ≤ g) : bk R f ≤ bk R g := by
 by_cases hf : 0 < f
 · rw [bk_pos hR hf, bk_pos (f := g) hR (by omega)]; have := Zes (R := R) (f := f - R) (g := g - R) hR (by omega)
   omega
 · rw [Zdt (by omega)]; exact Zbm R g
termination_by f.toNat
decreasing_by omega
theorem bk_le {R f : Int} (hR : 0 < R) (hf : 0 < f) : bk R f ≤ f * f := by
 rw [bk_pos hR hf]
 by_cases h : 0 < f - R
 · have i := bk_le (R := R) (f := f - R) hR h; have h1 : (f - R) * (f - R) ≤ (f - 1) * (f - 1) := Int.mul_le_mul (by omega) (by omega) (by omega) (by omega)
   have h2 : (f - 1) * (f - 1) = f * f - f - f + 1 := by rw [Int.sub_mul, Int.mul_sub]; omega
   omega
 · rw [Zdt (by omega)]; have : f * 1 ≤ f * f := Int.mul_le_mul_of_nonneg_left (by omega) (by omega)
   omega
termination_by f.toNat
decreasing_by omega
theorem bk_lt {R f : Int} (hR : 0 < R) (h : f ≤ 6000) : bk R f ≤ 36000000 := by
 have h0 := Zes hR h; have h1 := bk_le (R := R) (f := 6000) hR (by omega)
 omega
theorem bk_twice {R f : Int} (hR : 0 < R) (hf : 0 < f) : 2 * bk R f = ((f - 1) / R + 1) * (f + (f - ((f - 1) / R) * R)) := by
 rw [bk_pos hR hf]
 by_cases h : 0 < f - R
 · have i := bk_twice (R := R) (f := f - R) hR h
   have e : (f - 1) / R = (f - R - 1) / R + 1 := by
    rw [show f - 1 = (f - R - 1) + R by omega, Int.add_ediv_of_dvd_right (Int.dvd_refl R), Int.ediv_self (by omega)]
   rw [Int.mul_add, i, e]; generalize (f - R - 1) / R = k
   have e1 : (k + 1) * R = k * R + R := by rw [Int.add_mul]; omega
   rw [e1]; generalize hq : k * R = q
   have e2 : (k + 1) * (f - R + (f - R - q)) = (k + 1) * (f + (f - (q + R))) - (k + 1) * R := by
    rw [← Int.mul_sub]; congr 1; omega
   have e3 : (k + 1 + 1) * (f + (f - (q + R))) = (k + 1) * (f + (f - (q + R))) + (f + (f - (q + R))) := by
    rw [Int.add_mul (k + 1) 1, Int.one_mul]
   rw [e2, e3, e1, hq]
   omega
 · rw [Zdt (by omega), Int.ediv_eq_zero_of_lt (by omega) (by omega)]
   omega
termination_by f.toNat
decreasing_by omega
theorem bk_half {R f : Int} (hR : 0 < R) (hf : 0 < f) : ((f - 1) / R + 1) * (f + (f - ((f - 1) / R) * R)) / 2 = bk R f := by
 rw [← bk_twice hR hf]; omega
def IsHi (R p lo hi room h : Int) : Prop := lo ≤ h ∧ h ≤ hi ∧ (h = lo ∨ bk R (h + p) ≤ room) ∧ ∀ s, h < s → s ≤ hi → room < bk R (s + p)
theorem IsHi.only {R p lo hi room h k : Int} (H : IsHi R p lo hi room h) (K : IsHi R p lo hi room k) : h = k := by
 obtain ⟨a1, a2, a3, a4⟩ := H; obtain ⟨b1, b2, b3, b4⟩ := K
 rcases Int.lt_trichotomy h k with c | c | c
 · have := a4 k c b2
   omega
 · exact c
 · have := b4 h c a2
   omega
def grB (L H N P M R : Int) : Bool := decide (-100000 ≤ L) && decide (L ≤ 100000) && (decide (-100000 ≤ H) && decide (H ≤ 100000)) && (decide (0 ≤ N) && decide (N ≤ 1000)) && (decide (0 ≤ P) && decide (P ≤ 2000)) && (decide (1 ≤ M) && decide (M ≤ 4000)) && (decide (1 ≤ R) && decide (R ≤ M))
def gfB (L H N P M R : Int) : Bool := decide (P ≤ M) && decide (P ≤ R) && decide (2 * (N + bk R (M + P)) ≤ H - L)
def grE (L H N P M R : Int) : Int := if grB L H N P M R then (if gfB L H N P M R then 0 else 3) else 1
structure GR (L H N P M R : Int) : Prop where
 l0 : -100000 ≤ L
 l1 : L ≤ 100000
 h0 : -100000 ≤ H
 h1 : H ≤ 100000
 n0 : 0 ≤ N
 n1 : N ≤ 1000
 p0 : 0 ≤ P
 p1 : P ≤ 2000
 m0 : 1 ≤ M
 m1 : M ≤ 4000
 r0 : 1 ≤ R
 r1 : R ≤ M
theorem grB_true {L H N P M R : Int} (h : grB L H N P M R = true) : GR L H N P M R := by
 simp only [grB, Bool.and_eq_true, decide_eq_true_eq] at h
 constructor <;> omega
structure GOK (L H N P M R : Int) : Prop extends GR L H N P M R where
 pm : P ≤ M
 pr : P ≤ R
 room : 2 * (N + bk R (M + P)) ≤ H - L
theorem grE_ok {L H N P M R : Int} (h : grE L H N P M R = 0) : GOK L H N P M R := by
 unfold grE at h
 by_cases h1 : grB L H N P M R = true
 · rw [if_pos h1] at h
   by_cases h2 : gfB L H N P M R = true
   · have a := grB_true h1; simp only [gfB, Bool.and_eq_true, decide_eq_true_eq] at h2; exact ⟨a, h2.1.1, h2.1.2, h2.2⟩
   · rw [if_neg h2] at h; cases h
 · rw [if_neg h1] at h; cases h
theorem no_cross {L H N P M R lo hi y a b : Int} (g : GOK L H N P M R) (hl : -M ≤ lo) (hh : hi ≤ M)
 (A : IsHi R P (-hi) (-lo) (y - N - L) a) (B : IsHi R P lo hi (H - N - y) b) : -a ≤ b := by
 obtain ⟨a1, a2, a3, a4⟩ := A; obtain ⟨b1, b2, b3, b4⟩ := B; have := g.room
 rcases Int.lt_or_le b (-a) with c | c
 · have u := a4 (a + 1) (by omega) (by omega); have v := b4 (b + 1) (by omega) (by omega); have m1 := Zes (R := R) (f := a + 1 + P) (g := M + P) (by have := g.r0; omega) (by omega); have m2 := Zes (R := R) (f := b + 1 + P) (g := M + P) (by have := g.r0; omega) (by omega)
   omega
 · exact c
theorem one_side {H N P M R x y u s lo hi b q : Int} (hR : 1 ≤ R) (hPM : P ≤ M) (hlo : lo = -M ∨ lo = q - R)
 (hx : x ≤ H) (hq : x + bk R (q - R + P) ≤ H) (hy : x - N ≤ y) (B : IsHi R P lo hi (H - N - y) b) (hs : s ≤ b) (hl : lo ≤ s) (hu : u ≤ P) :
 x + s + u ≤ H ∧ x + s + u + bk R (s - R + P) ≤ H := by
 obtain ⟨b1, b2, b3, b4⟩ := B
 have key : x + bk R (s + P) ≤ H ∨ s + P ≤ 0 := by
  rcases b3 with c | c
  · have : s = lo := by omega
    rcases hlo with d | d
    · right; omega
    · left; rw [this, d]; exact hq
  · left
    have := Zes (R := R) (f := s + P) (g := b + P) (by omega) (by omega)
    omega
 have n := Zbm R (s - R + P)
 by_cases h : s + P ≤ 0
 · rw [Zdt (f := s - R + P) (by omega)]
   omega
 · have k : x + bk R (s + P) ≤ H := by omega
   rw [bk_pos (by omega) (by omega), show s + P - R = s - R + P by omega] at k
   omega
structure Kept (L H P M R x q : Int) : Prop where
 lo : L ≤ x
 hi : x ≤ H
 q0 : -M ≤ q
 q1 : q ≤ M
 up : x + bk R (q - R + P) ≤ H
 dn : -x + bk R (-q - R + P) ≤ -L
theorem Kept.start {L H N P M R x : Int} (g : GOK L H N P M R) (h0 : L ≤ x) (h1 : x ≤ H) : Kept L H P M R x 0 := by
 have := g.m0; have := g.pr; refine ⟨h0, h1, by omega, by omega, ?_, ?_⟩
 · rw [Zdt (by omega)]; omega
 · rw [Zdt (by omega)]; omega
def Zdj (M R q : Int) : Int := if q - R ≤ -M then -M else q - R
def Zdk (M R q : Int) : Int := if M ≤ q + R then M else q + R
theorem canLo_or (M R q : Int) : Zdj M R q = -M ∨ Zdj M R q = q - R := by unfold Zdj; split <;> simp
theorem canHi_or (M R q : Int) : -Zdk M R q = -M ∨ -Zdk M R q = -q - R := by unfold Zdk; split <;> omega
theorem can_le {M R q : Int} (hR : 1 ≤ R) (hM : 1 ≤ M) (h0 : -M ≤ q) (h1 : q ≤ M) : Zdj M R q ≤ Zdk M R q ∧ -M ≤ Zdj M R q ∧ Zdk M R q ≤ M ∧ q - R ≤ Zdj M R q ∧ Zdk M R q ≤ q + R := by
 unfold Zdj Zdk; split <;> split <;> omega
theorem isHi_count {R p lo hi room : Int} {n : Nat} (hR : 1 ≤ R) (hn : hi - lo + 1 = (n : Int)) (h : lo ≤ hi) :
 IsHi R p lo hi room (lo + (if ((List.range n).countP (fun i : Nat => decide (bk R (lo + (i : Int) + p) ≤ room)) : Int) - 1 ≤ 0 then 0 else ((List.range n).countP (fun i : Nat => decide (bk R (lo + (i : Int) + p) ≤ room)) : Int) - 1)) := by
 have key : ∀ m : Nat, ∃ c : Nat, (List.range m).countP (fun i : Nat => decide (bk R (lo + (i : Int) + p) ≤ room)) = c ∧ c ≤ m ∧ (∀ i, i < c → bk R (lo + (i : Int) + p) ≤ room) ∧ (∀ i, c ≤ i → i < m → room < bk R (lo + (i : Int) + p)) := by
  intro m
  induction m with
  | zero => exact ⟨0, rfl, Nat.le_refl _, fun i hi => absurd hi (Nat.not_lt_zero _), fun i _ h2 => absurd h2 (Nat.not_lt_zero _)⟩
  | succ m ih =>
   obtain ⟨c, e, cm, f, t⟩ := ih; rw [List.range_succ, List.countP_append, e]
   by_cases hb : bk R (lo + (m : Int) + p) ≤ room
   · have all : ∀ i, i < m + 1 → bk R (lo + (i : Int) + p) ≤ room := by
      intro i hi; have := Zes (R := R) (f := lo + (i : Int) + p) (g := lo + (m : Int) + p) (by omega) (by omega)
      omega
     have hc : c = m := by
      rcases Nat.lt_or_ge c m with d | d
      · have := t c (Nat.le_refl _) d; have := all c (by omega)
        omega
      · omega
     subst hc; refine ⟨c + 1, by simp [hb], Nat.le_refl _, all, fun i h1 h2 => by omega⟩
   · refine ⟨c, by simp [hb], by omega, f, fun i h1 h2 => ?_⟩
     by_cases hi : i < m
     · exact t i h1 hi
     · have : i = m := by omega
       subst this; omega
 obtain ⟨c, e, cm, f, t⟩ := key n; rw [e]
 have up : ∀ s, lo + (c : Int) ≤ s → s ≤ hi → room < bk R (s + p) := by
  intro s h1 h2; have := t (s - lo).toNat (by omega) (by omega); rw [show lo + ((s - lo).toNat : Int) + p = s + p by omega] at this; exact this
 by_cases hc : c = 0
 · subst hc; rw [if_pos (by omega)]; exact ⟨by omega, by omega, Or.inl (by omega), fun s h1 h2 => up s (by omega) h2⟩
 · have q : (if (c : Int) - 1 ≤ 0 then (0 : Int) else (c : Int) - 1) = (c : Int) - 1 := by split <;> omega
   rw [q]; refine ⟨by omega, by omega, Or.inr ?_, fun s h1 h2 => up s (by omega) h2⟩; have := f (c - 1) (by omega); rw [show lo + ((c - 1 : Nat) : Int) + p = lo + ((c : Int) - 1) + p by omega] at this; exact this
end Go.Proofs.YtnfdfiholcelaaaGreatDoor.Plain
namespace Go.Proofs.YtnfdfiholcelaaaGreatDoor
open Go.RowKit Plain Tryz
theorem Zef (L H N P M R s : Int) (p0 : 0 ≤ P) (p1 : P ≤ 2000) (r0 : 1 ≤ R) (r1 : R ≤ 4000) (s0 : -4000 ≤ s) (s1 : s ≤ 4000) (w : World) :
 Calls prog 39 #[.agg #[Vi L, Vi H, Vi N, Vi P, Vi M, Vi R], Vi s] w fun e w' => e = .returned (Vi (bk R (s + P))) ∧ w' = w.alloc (.cells #[Vi L, Vi H, Vi N, Vi P, Vi M, Vi R] 99) := by
 have hm : Hid (bk R (s + P) ≤ 36000000) := bk_lt (by omega) (by omega); obtain ⟨tot, ht⟩ : ∃ t, Hid (bk R (s + P) = t) := ⟨_, rfl⟩; rw [ht.out] at hm ⊢
 go_enter func39, ntmps39
 go_wp2
 go_loop [1, 5] (fun u v => ∃ t n : Int, u = Vi t ∧ v = Vi n ∧ t ≤ s ∧ -8000 ≤ t ∧ 0 ≤ n ∧ n + bk R (t + P) = tot) (fun u _ => (intOf u + 8000).toNat)
 case atStart => exact ⟨s, 0, rfl, rfl, by omega, by omega, by omega, by rw [ht.out]; omega⟩
 case round =>
  obtain ⟨t, n, rfl, rfl, t0, t1, n0, hn0⟩ := hrel; have hn : Hid (n + bk R (t + P) = tot) := hn0; clear hn0
  have hn1 : n ≤ 36000000 := by have := Zbm R (t + P); have := hn.out; have := hm.out; omega
  by_cases hgo : 0 < t + P
  · have hk : Hid (n + t + P + bk R (t - R + P) = tot) := by
     have e := bk_pos (R := R) (f := t + P) (by omega) hgo; rw [show t + P - R = t - R + P by omega] at e; have := hn.out
     show _ = _
     omega
    go_wp2
    go_round
    case rel => exact ⟨t - R, n + t + P, rfl, rfl, by omega, by omega, by omega, hk.out⟩
    case measure => simp [intOf]; omega
  · have hk : Hid (n = tot) := by
     have e := Zdt (R := R) (f := t + P) (by omega); have := hn.out
     show _ = _
     omega
    go_wp2; go_ret; exact ⟨by rw [hk.out]; rfl, rfl⟩
theorem brake_ex (L H N P M R s : Int) (p0 : 0 ≤ P) (p1 : P ≤ 2000) (r0 : 1 ≤ R) (r1 : R ≤ 4000) (s0 : -4000 ≤ s) (s1 : s ≤ 4000) (w : World) :
 Calls prog 227 #[.agg #[Vi L, Vi H, Vi N, Vi P, Vi M, Vi R], Vi s] w fun e w' => e = .returned (Vi (bk R (s + P))) ∧ w' = w.alloc (.cells #[Vi L, Vi H, Vi N, Vi P, Vi M, Vi R] 99) := by
 by_cases hgo : s + P ≤ 0
 · rw [Zdt hgo]
   go_enter func227, ntmps227
   go_wp2; go_ret; exact ⟨rfl, rfl⟩
 · have hR : (R == 0) = false := by simp; omega
   have hk := bk_half (R := R) (f := s + P) (by omega) (by omega); rw [← Int.tdiv_eq_ediv_of_nonneg (a := s + P - 1) (by omega)] at hk; have q0 : 0 ≤ (s + P - 1).tdiv R := Int.tdiv_nonneg (by omega) (by omega)
   have q1 : (s + P - 1).tdiv R ≤ 6000 := by
    rw [Int.tdiv_eq_ediv_of_nonneg (by omega)]; have := Int.ediv_le_self (a := s + P - 1) R (by omega)
    omega
   have q2 : (s + P - 1).tdiv R * R ≤ s + P - 1 := by
    rw [Int.tdiv_eq_ediv_of_nonneg (by omega)]; exact Int.ediv_mul_le _ (by omega)
   generalize hkk : (s + P - 1).tdiv R = k at *; have q3 : 0 ≤ k * R := Int.mul_nonneg q0 (by omega)
   have q4 : k + 1 - 1 = k := by omega
   have v1 := Wr (k * R); have q5 : 0 ≤ (k + 1) * (s + P + (s + P - k * R)) := Int.mul_nonneg (by omega) (by omega); have q6 : (k + 1) * (s + P + (s + P - k * R)) ≤ 6001 * 12000 := Int.mul_le_mul (by omega) (by omega) (by omega) (by omega); have v2 := Wr ((k + 1) * (s + P + (s + P - k * R)))
   have HK : Hid (((k + 1) * (s + P + (s + P - k * R))).tdiv 2 = bk R (s + P)) := by
    show _ = _
    rw [Int.tdiv_eq_ediv_of_nonneg q5]; exact hk
   have w2 : ((k + 1) * (s + P + (s + P - k * R))).tdiv 2 ≤ 100000000 ∧ 0 ≤ ((k + 1) * (s + P + (s + P - k * R))).tdiv 2 := by
    rw [Int.tdiv_eq_ediv_of_nonneg q5]; omega
   obtain ⟨w20, w21⟩ := w2; clear hk q4
   go_enter func227, ntmps227
   go_wp2; go_ret; exact ⟨by rw [← HK.out]; rfl, rfl⟩
def AxV (w : World) (B : Nat) (v : Nat → Value) : Prop := ∀ j, j < 15 → w.cell? (Ad B j) = some (v j) ∧ w.frozen? (Ad B j) = false
def updV (v : Nat → Value) (k : Nat) (x : Value) (j : Nat) : Value := if j = k then x else v j
theorem updV_same (v : Nat → Value) (k : Nat) (x : Value) : updV v k x k = x := if_pos rfl
theorem updV_other {v : Nat → Value} {k j : Nat} {x y : Value} (h : v j = y) (hj : j ≠ k) : updV v k x j = y := (if_neg hj).trans h
theorem AxV.lt {w : World} {B : Nat} {v : Nat → Value} (h : AxV w B v) : B < w.heap.size := World.block_lt_of_cell? w ⟨B, 0, none⟩ (h 0 (by omega)).1
theorem AxV.later {w w' : World} {B : Nat} {v : Nat → Value} (h : AxV w B v) (hb : Below w.heap.size w w') : AxV w' B v := fun j hj => ⟨cell_later hb (h j hj).1, (hb.frozen (p := ⟨B, j, none⟩) h.lt).trans (h j hj).2⟩
theorem AxV.dk {w w' : World} {O B : Nat} {v : Nat → Value} (h : AxV w B v) (hk : DK O w w') (hB : B ≠ O) : AxV w' B v := fun j hj =>
 ⟨hk.cell (p := ⟨B, j, none⟩) hB (h j hj).1, (World.frozen?_of_block (w := w) (a := ⟨B, j, none⟩) (hk.block B h.lt hB)).trans (h j hj).2⟩
theorem AxV.put {w : World} {B : Nat} {v : Nat → Value} (h : AxV w B v) (k : Nat) (x : Value) : AxV (w.setCell (Ad B k) x) B (updV v k x) := fun j hj => by
 refine ⟨?_, by simpa [go_sem] using (h j hj).2⟩
 by_cases e : j = k
 · subst e; rw [updV_same]; exact Zbk (h j hj).1
 · rw [updV_other rfl e]; exact Zad (h j hj).1 (Zap (Ne.symm e))
theorem AxV.set {w : World} {B C q : Nat} {v : Nat → Value} {x : Value} (h : AxV w B v) (hC : C ≠ B) : AxV (w.setCell (Ad C q) x) B v := fun j hj =>
 ⟨Zad (h j hj).1 (Zbi hC), by simpa [go_sem] using (h j hj).2⟩
theorem Dc.set {w : World} {O C q : Nat} {a : Option Addr} {l : List Int} {cap n : Nat} {x : Value} (h : Dc w O a l cap n) (hC : C ≠ O) (hl : ∀ b off, a = some (Ad b off) → l ≠ [] → b ≠ C) : Dc (w.setCell (Ad C q) x) O a l cap n :=
 ⟨⟨Zad h.1.1 (Zbi hC), Zad h.1.2 (Zbi hC)⟩, by simpa [go_sem] using h.2.1, h.2.2.1.dset hl, h.2.2.2⟩
theorem DK.sets {O C q K : Nat} {w0 w : World} {x : Value} (h : DK O w0 w) (hK : w0.heap.size = K) (hC : K ≤ C) : DK O w0 (w.setCell (Ad C q) x) :=
 ⟨h.os, h.tape, h.output, by simpa using h.size, fun k hk ho => (Below.heap_setCell w ⟨C, q, none⟩ x k (by simp; omega)).trans (h.block k hk ho)⟩
def zV (j : Nat) : Value := if j = 12 then .slice none 0 0 else if j = 13 then .slice none 0 0 else Vi 0
def RawAt (a : Option Addr) (l : List Int) (K : Nat) : Prop := ∀ b off, a = some (Ad b off) → l ≠ [] → b < K
def Gk (w0 w : World) (Z B : Nat) (G : List (Addr × Value)) : Prop := ∀ x ∈ G, w.cell? x.1 = some x.2 ∧ w0.heap.size ≤ x.1.block ∧ x.1.block ≠ Z ∧ x.1.block ≠ B
def AXS (w0 w : World) (O Z B : Nat) (a : Option Addr) (l : List Int) (cap n : Nat) (v : Nat → Value) (G : List (Addr × Value)) : Prop :=
 Dc w O a l cap n ∧ AxV w B v ∧ AxV w Z zV ∧ DK O w0 w ∧ (O < w0.heap.size ∧ w0.heap.size ≤ Z ∧ Z < B ∧ RawAt a l w0.heap.size) ∧ Gk w0 w Z B G
theorem AXS.later {w0 w w' : World} {O Z B : Nat} {a l cap n v G} (h : AXS w0 w O Z B a l cap n v G) (hb : Below w.heap.size w w') : AXS w0 w' O Z B a l cap n v G :=
 ⟨h.1.later hb, h.2.1.later hb, h.2.2.1.later hb, h.2.2.2.1.trans (DK.of_below hb), h.2.2.2.2.1, fun x hx => ⟨cell_later hb (h.2.2.2.2.2 x hx).1, (h.2.2.2.2.2 x hx).2⟩⟩
theorem AXS.dk {w0 w w' : World} {O Z B : Nat} {a l cap n m v G} (h : AXS w0 w O Z B a l cap n v G) (hD : Dc w' O a l cap m) (hk : DK O w w') : AXS w0 w' O Z B a l cap m v G :=
 ⟨hD, h.2.1.dk hk (by have := h.2.2.2.2.1; omega), h.2.2.1.dk hk (by have := h.2.2.2.2.1; omega), h.2.2.2.1.trans hk, h.2.2.2.2.1, fun x hx => ⟨hk.cell (by have := h.2.2.2.2.1; have := (h.2.2.2.2.2 x hx).2.1; omega) (h.2.2.2.2.2 x hx).1, (h.2.2.2.2.2 x hx).2⟩⟩
theorem gset {w : World} {C q : Nat} {x : Addr} {y c : Value} (h : w.cell? x = some c) (hb : x.block ≠ C) : (w.setCell (Ad C q) y).cell? x = some c :=
 (World.cell?_setCell_other _ _ _ _ (fun e => hb (congrArg Addr.block e).symm)).trans h
theorem AXS.put {w0 w : World} {O Z B : Nat} {a l cap n v G} (h : AXS w0 w O Z B a l cap n v G) (k : Nat) (x : Value) : AXS w0 (w.setCell (Ad B k) x) O Z B a l cap n (updV v k x) G := by
 obtain ⟨h1, h2, h3, h4, ⟨h5, h6, h7, h8⟩, h9⟩ := h; exact ⟨h1.set (by omega) (fun b off e hl => by have := h8 b off e hl; omega), h2.put k x, h3.set (by omega), h4.sets rfl (by omega), ⟨h5, h6, h7, h8⟩, fun y hy => ⟨gset (h9 y hy).1 (h9 y hy).2.2.2, (h9 y hy).2⟩⟩
theorem AXS.grow {w0 w : World} {O Z B : Nat} {a l cap n v G} (h : AXS w0 w O Z B a l cap n v G) (x y : Int) (t : TypeId) : AXS w0 (w.alloc (.cells #[Vi x, Vi y] t)) O Z B a l cap n v ((⟨w.heap.size, 0, none⟩, Vi x) :: (⟨w.heap.size, 1, none⟩, Vi y) :: G) := by
 have k := h.later (Zaa w (.cells #[Vi x, Vi y] t)); have hZ := h.2.2.1.lt; have hB := h.2.1.lt; have hs := h.2.2.2.1.size; refine ⟨k.1, k.2.1, k.2.2.1, k.2.2.2.1, k.2.2.2.2.1, fun q hq => ?_⟩
 rcases List.mem_cons.1 hq with rfl | hq
 · exact ⟨by simp [go_sem], hs, by simp; omega, by simp; omega⟩
 · rcases List.mem_cons.1 hq with rfl | hq
   · exact ⟨by simp [go_sem], hs, by simp; omega, by simp; omega⟩
   · exact k.2.2.2.2.2 q hq
theorem ax_new (w : World) (s t : Int) (ty : TypeId) : AxV (w.alloc (.cells #[Vi 0, Vi 0, Vi 0, Vi 0, Vi s, Vi t, Vi 0, Vi 0, Vi 0, Vi 0, Vi 0, Vi 0, .slice none 0 0, .slice none 0 0, Vi 0] ty)) w.heap.size (updV (updV zV 4 (Vi s)) 5 (Vi t)) := by
 intro j hj; refine ⟨?_, by simp [go_sem]⟩
 rcases (show j = 0 ∨ j = 1 ∨ j = 2 ∨ j = 3 ∨ j = 4 ∨ j = 5 ∨ j = 6 ∨ j = 7 ∨ j = 8 ∨ j = 9 ∨ j = 10 ∨ j = 11 ∨ j = 12 ∨ j = 13 ∨ j = 14 by omega) with rfl | rfl | rfl | rfl | rfl | rfl | rfl | rfl | rfl | rfl | rfl | rfl | rfl | rfl | rfl <;> simp [go_sem, updV, zV]
theorem ax_zero (w : World) (ty : TypeId) : AxV (w.alloc (.cells #[Vi 0, Vi 0, Vi 0, Vi 0, Vi 0, Vi 0, Vi 0, Vi 0, Vi 0, Vi 0, Vi 0, Vi 0, .slice none 0 0, .slice none 0 0, Vi 0] ty)) w.heap.size zV := by
 intro j hj; refine ⟨?_, by simp [go_sem]⟩
 rcases (show j = 0 ∨ j = 1 ∨ j = 2 ∨ j = 3 ∨ j = 4 ∨ j = 5 ∨ j = 6 ∨ j = 7 ∨ j = 8 ∨ j = 9 ∨ j = 10 ∨ j = 11 ∨ j = 12 ∨ j = 13 ∨ j = 14 by omega) with rfl | rfl | rfl | rfl | rfl | rfl | rfl | rfl | rfl | rfl | rfl | rfl | rfl | rfl | rfl <;> simp [go_sem, zV]
structure AxOK (a0 a1 a2 a3 a4 a5 a6 a7 a10 : Int) : Prop where
 lo : -140000000 ≤ a0
 lh : a0 ≤ a1
 hi : a1 ≤ 100000
 n0 : 0 ≤ a2
 n1 : a2 ≤ 1000
 p0 : 0 ≤ a3
 p1 : a3 ≤ 1000
 s0 : 2 ≤ a4
 s1 : a4 ≤ 4
 t0 : 1 ≤ a5
 t1 : a5 ≤ 1000
 r0 : 1 ≤ a6
 r1 : a6 ≤ a5
 k0 : 0 ≤ a7
 k1 : a7 ≤ a5
 w0 : 1 ≤ a10
 w1 : a10 ≤ 10
structure AxK (a0 a1 a2 a3 a4 a5 a6 a7 a8 a9 a10 a11 a14 : Int) : Prop where
 lo : -100000 ≤ a0
 lz : a0 ≤ 0
 hz : 0 ≤ a1
 hi : a1 ≤ 100000
 n0 : 0 ≤ a2
 n1 : a2 ≤ 1000
 p0 : 0 ≤ a3
 p1 : a3 ≤ 1000
 s0 : 2 ≤ a4
 s1 : a4 ≤ 4
 t0 : 1 ≤ a5
 t1 : a5 ≤ 1000
 r0 : 1 ≤ a6
 r1 : a6 ≤ a5
 k0 : 0 ≤ a7
 k1 : a7 ≤ a5
 l0 : 2 * a2 ≤ a8
 l1 : a8 ≤ 2040
 c0 : 1 ≤ a9
 c1 : a9 ≤ 10
 w0 : 1 ≤ a10
 w1 : a10 ≤ 10
 u0 : 0 ≤ a11
 u1 : a11 ≤ 1000
 b0 : 0 ≤ a14
 b1 : a14 ≤ 65536
 pr : a3 + a7 ≤ (a4 - 1) * a6
 room : 2 * (a2 + bk ((a4 - 1) * a6) ((a4 - 1) * a5 + (a3 + a7))) ≤ a1 - a0
theorem AxK.ok {a0 a1 a2 a3 a4 a5 a6 a7 a8 a9 a10 a11 a14 : Int} (h : AxK a0 a1 a2 a3 a4 a5 a6 a7 a8 a9 a10 a11 a14) : AxOK a0 a1 a2 a3 a4 a5 a6 a7 a10 := by
 have := h.lo; have := h.lz; have := h.hz; have := h.hi; exact ⟨by omega, by omega, by omega, h.n0, h.n1, h.p0, h.p1, h.s0, h.s1, h.t0, h.t1, h.r0, h.r1, h.k0, h.k1, h.w0, h.w1⟩
def GL (w : World) (G1 G2 : Nat) (x y z : Int) : Prop := (w.cell? (Ad G1 0) = some (Vi 0) ∧ w.cell? (Ad G1 1) = some (Vi x) ∧ w.cell? (Ad G2 0) = some (Vi y) ∧ w.cell? (Ad G2 1) = some (Vi z)) ∧ (100 ≤ x ∧ x ≤ 999) ∧ (0 ≤ y ∧ y ≤ 65536) ∧ 0 ≤ z ∧ z ≤ 299
theorem bk_all {R P : Int} (hR : 0 < R) (p0 : 0 ≤ P) (p1 : P ≤ R) : bk R (R + P) ≤ R + 2 * P := by
 rw [bk_pos hR (by omega), show R + P - R = P by omega]
 by_cases h : 0 < P
 · rw [bk_pos hR h, Zdt (by omega)]; omega
 · rw [Zdt (by omega)]; omega
def Ls (v : Nat → Value) (L : List Value) : Prop := ∀ j, j < 15 → L[j]? = some (v j)
theorem Ls.at {v : Nat → Value} {L : List Value} (h : Ls v L) {j : Nat} {x : Value} (e : L[j]? = some x) (hj : j < 15 := by decide) : v j = x := Option.some.inj ((h j hj).symm.trans e)
theorem Ls.put {v : Nat → Value} {L : List Value} (h : Ls v L) (k : Nat) (x : Value) : Ls (updV v k x) (L.set k x) := fun j hj => by
 have hl : j < L.length := (List.getElem?_eq_some_iff.1 (h j hj)).1
 by_cases e : j = k
 · subst e; rw [updV_same, List.getElem?_set_self hl]
 · rw [updV_other rfl e, List.getElem?_set_ne (Ne.symm e)]; exact h j hj
theorem ls_zero : Ls zV [Vi 0, Vi 0, Vi 0, Vi 0, Vi 0, Vi 0, Vi 0, Vi 0, Vi 0, Vi 0, Vi 0, Vi 0, .slice none 0 0, .slice none 0 0, Vi 0] := fun j hj => by
 rcases (show j = 0 ∨ j = 1 ∨ j = 2 ∨ j = 3 ∨ j = 4 ∨ j = 5 ∨ j = 6 ∨ j = 7 ∨ j = 8 ∨ j = 9 ∨ j = 10 ∨ j = 11 ∨ j = 12 ∨ j = 13 ∨ j = 14 by omega) with rfl | rfl | rfl | rfl | rfl | rfl | rfl | rfl | rfl | rfl | rfl | rfl | rfl | rfl | rfl <;> rfl
theorem AXS.ld {w0 w : World} {O Z B : Nat} {a l cap n v G} {L : List Value} (h : AXS w0 w O Z B a l cap n v G) (hL : Ls v L) {j : Nat} {x : Value} (e : L[j]? = some x) (hj : j < 15 := by decide) : w.cell? (Ad B j) = some x := by rw [(h.2.1 j hj).1, hL.at e hj]
theorem AXS.all {w0 w : World} {O Z B : Nat} {a l cap n v G} {x0 x1 x2 x3 x4 x5 x6 x7 x8 x9 x10 x11 x12 x13 x14 : Value} (h : AXS w0 w O Z B a l cap n v G) (hL : Ls v [x0, x1, x2, x3, x4, x5, x6, x7, x8, x9, x10, x11, x12, x13, x14]) : w.cell? (Ad B 0) = some x0 ∧ w.cell? (Ad B 1) = some x1 ∧ w.cell? (Ad B 2) = some x2 ∧ w.cell? (Ad B 3) = some x3 ∧ w.cell? (Ad B 4) = some x4 ∧ w.cell? (Ad B 5) = some x5 ∧ w.cell? (Ad B 6) = some x6 ∧ w.cell? (Ad B 7) = some x7 ∧ w.cell? (Ad B 8) = some x8 ∧ w.cell? (Ad B 9) = some x9 ∧ w.cell? (Ad B 10) = some x10 ∧ w.cell? (Ad B 11) = some x11 ∧ w.cell? (Ad B 12) = some x12 ∧ w.cell? (Ad B 13) = some x13 ∧ w.cell? (Ad B 14) = some x14 :=
 ⟨h.ld hL rfl, h.ld hL rfl, h.ld hL rfl, h.ld hL rfl, h.ld hL rfl, h.ld hL rfl, h.ld hL rfl, h.ld hL rfl, h.ld hL rfl, h.ld hL rfl, h.ld hL rfl, h.ld hL rfl, h.ld hL rfl, h.ld hL rfl, h.ld hL rfl⟩
theorem AXS.zer {w0 w : World} {O Z B : Nat} {a l cap n v G} (h : AXS w0 w O Z B a l cap n v G) : (w.cell? (Ad Z 0) = some (zV 0) ∧ w.frozen? (Ad Z 0) = false) ∧ (w.cell? (Ad Z 1) = some (zV 1) ∧ w.frozen? (Ad Z 1) = false) ∧ (w.cell? (Ad Z 2) = some (zV 2) ∧ w.frozen? (Ad Z 2) = false) ∧ (w.cell? (Ad Z 3) = some (zV 3) ∧ w.frozen? (Ad Z 3) = false) ∧ (w.cell? (Ad Z 4) = some (zV 4) ∧ w.frozen? (Ad Z 4) = false) ∧ (w.cell? (Ad Z 5) = some (zV 5) ∧ w.frozen? (Ad Z 5) = false) ∧ (w.cell? (Ad Z 6) = some (zV 6) ∧ w.frozen? (Ad Z 6) = false) ∧ (w.cell? (Ad Z 7) = some (zV 7) ∧ w.frozen? (Ad Z 7) = false) ∧ (w.cell? (Ad Z 8) = some (zV 8) ∧ w.frozen? (Ad Z 8) = false) ∧ (w.cell? (Ad Z 9) = some (zV 9) ∧ w.frozen? (Ad Z 9) = false) ∧ (w.cell? (Ad Z 10) = some (zV 10) ∧ w.frozen? (Ad Z 10) = false) ∧ (w.cell? (Ad Z 11) = some (zV 11) ∧ w.frozen? (Ad Z 11) = false) ∧ (w.cell? (Ad Z 12) = some (zV 12) ∧ w.frozen? (Ad Z 12) = false) ∧ (w.cell? (Ad Z 13) = some (zV 13) ∧ w.frozen? (Ad Z 13) = false) ∧ (w.cell? (Ad Z 14) = some (zV 14) ∧ w.frozen? (Ad Z 14) = false) :=
 ⟨h.2.2.1 0 (by decide), h.2.2.1 1 (by decide), h.2.2.1 2 (by decide), h.2.2.1 3 (by decide), h.2.2.1 4 (by decide), h.2.2.1 5 (by decide), h.2.2.1 6 (by decide), h.2.2.1 7 (by decide), h.2.2.1 8 (by decide), h.2.2.1 9 (by decide), h.2.2.1 10 (by decide), h.2.2.1 11 (by decide), h.2.2.1 12 (by decide), h.2.2.1 13 (by decide), h.2.2.1 14 (by decide)⟩
end Go.Proofs.YtnfdfiholcelaaaGreatDoor
