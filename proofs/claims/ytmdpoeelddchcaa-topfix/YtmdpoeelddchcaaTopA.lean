/-
  Small contracts for the law TopFix.
-/
import Derived.Test.YtmdpoeelddchcaaSpansF
import Derived.Deep.DeepCutAuto
namespace Go.Proofs.Ytmdpoeelddchcaa
open Go.RowKit Plain

theorem fixed_any (w : World) : Calls Try.prog 28 #[] w fun e w' => e = .returned (.bool true) ∧ w' = w.drew := by
  have m : mulI 768 128 = 384 := by decide
  go_enter Try.func28, Try.ntmps28
  go_wp2_with (go_at_call 16; refine (fixMul_any _ _ _).mono ?_; rintro e w' ⟨rfl, rfl⟩)
  go_ret
  exact ⟨rfl, rfl⟩

theorem tmod_neg_emod {x n : Int} (hn : 0 < n) (h : x.tmod n < 0) : x.tmod n + n = x % n := by
  have h1 := Int.emod_nonneg x (show n ≠ 0 by omega)
  have h2 := Int.emod_lt_of_pos x hn
  rw [Int.tmod_eq_emod] at h ⊢
  split at h <;> rename_i hc
  · omega
  · rw [if_neg hc]; omega
theorem tmod_pos_emod {x n : Int} (hn : 0 < n) (h : ¬ x.tmod n < 0) : x.tmod n = x % n := by
  have h1 := Int.emod_nonneg x (show n ≠ 0 by omega)
  have h2 := Int.emod_lt_of_pos x hn
  rw [Int.tmod_eq_emod] at h ⊢
  split at h <;> rename_i hc
  · rw [if_pos hc]; simp
  · rw [if_neg hc]; omega

theorem pick_any (x n : Int) (hn : 0 < n) (hn' : n ≤ 4294967296) (w : World) : Calls Try.prog 29 #[.int .i64 x, .int .i64 n] w fun e w' => e = .returned (.int .i64 (x % n)) ∧ w' = w := by
  have r := tmod_bd x n 4294967296 (by omega) (by omega) (by omega)
  obtain ⟨r0, r1⟩ := r
  have hd : (n == 0) = false := by simp; omega
  by_cases h0 : 0 ≤ x
  · have e : ¬ x % n < 0 := by have := Int.emod_nonneg x (show n ≠ 0 by omega); omega
    clear r0 r1
    go_enter Try.func29, Try.ntmps29
    go_wp2
    go_ret
    exact ⟨rfl, rfl⟩
  · by_cases h : x.tmod n < 0
    · rw [← tmod_neg_emod hn h]
      go_enter Try.func29, Try.ntmps29
      go_wp2
      go_ret
      exact ⟨rfl, rfl⟩
    · rw [← tmod_pos_emod hn h]
      go_enter Try.func29, Try.ntmps29
      go_wp2
      go_ret
      exact ⟨rfl, rfl⟩

theorem in_yes (x lo hi : Int) (g1 : lo ≤ x) (g2 : x ≤ hi) (w : World) :
    Calls Try.prog 26 #[.int .i64 x, .agg #[.int .i64 lo, .int .i64 hi]] w fun e w' => e = .returned (.bool true) ∧ w' = w.alloc (.cells #[.int .i64 lo, .int .i64 hi] 37) := by
  go_enter Try.func26, Try.ntmps26
  go_wp2
  go_ret
  exact ⟨rfl, rfl⟩

theorem low4_le (p q r s : Int) : lowL p [p, q, r, s] 4 ≤ p ∧ lowL p [p, q, r, s] 4 ≤ q ∧ lowL p [p, q, r, s] 4 ≤ r ∧ lowL p [p, q, r, s] 4 ≤ s := by
  have e : lowL p [p, q, r, s] 4 = mnI (mnI (mnI (mnI p p) q) r) s := rfl
  rw [e]
  have a1 := mnI_le_l (mnI (mnI (mnI p p) q) r) s; have a2 := mnI_le_r (mnI (mnI (mnI p p) q) r) s
  have b1 := mnI_le_l (mnI (mnI p p) q) r; have b2 := mnI_le_r (mnI (mnI p p) q) r
  have c1 := mnI_le_l (mnI p p) q; have c2 := mnI_le_r (mnI p p) q
  have d1 := mnI_le_l p p
  omega
theorem high4_ge (p q r s : Int) : p ≤ highL p [p, q, r, s] 4 ∧ q ≤ highL p [p, q, r, s] 4 ∧ r ≤ highL p [p, q, r, s] 4 ∧ s ≤ highL p [p, q, r, s] 4 := by
  have e : highL p [p, q, r, s] 4 = mxI (mxI (mxI (mxI p p) q) r) s := rfl
  rw [e]
  have a1 := mxI_ge_l (mxI (mxI (mxI p p) q) r) s; have a2 := mxI_ge_r (mxI (mxI (mxI p p) q) r) s
  have b1 := mxI_ge_l (mxI (mxI p p) q) r; have b2 := mxI_ge_r (mxI (mxI p p) q) r
  have c1 := mxI_ge_l (mxI p p) q; have c2 := mxI_ge_r (mxI p p) q
  have d1 := mxI_ge_l p p
  omega
theorem mnI_or (x y : Int) : mnI x y = x ∨ mnI x y = y := by unfold mnI; split <;> simp
theorem mxI_or (x y : Int) : mxI x y = x ∨ mxI x y = y := by unfold mxI; split <;> simp
theorem low4_or (p q r s : Int) : lowL p [p, q, r, s] 4 = p ∨ lowL p [p, q, r, s] 4 = q ∨ lowL p [p, q, r, s] 4 = r ∨ lowL p [p, q, r, s] 4 = s := by
  have e : lowL p [p, q, r, s] 4 = mnI (mnI (mnI (mnI p p) q) r) s := rfl
  rw [e]
  have a := mnI_or (mnI (mnI (mnI p p) q) r) s
  have b := mnI_or (mnI (mnI p p) q) r
  have c := mnI_or (mnI p p) q
  have d := mnI_or p p
  omega
theorem high4_or (p q r s : Int) : highL p [p, q, r, s] 4 = p ∨ highL p [p, q, r, s] 4 = q ∨ highL p [p, q, r, s] 4 = r ∨ highL p [p, q, r, s] 4 = s := by
  have e : highL p [p, q, r, s] 4 = mxI (mxI (mxI (mxI p p) q) r) s := rfl
  rw [e]
  have a := mxI_or (mxI (mxI (mxI p p) q) r) s
  have b := mxI_or (mxI (mxI p p) q) r
  have c := mxI_or (mxI p p) q
  have d := mxI_or p p
  omega

theorem mulI_of {x y : Int} (h1 : -2147483647 ≤ x) (h2 : x ≤ 2147483647) (h3 : -2147483647 ≤ y) (h4 : y ≤ 2147483647) : mulI x y = ofI (awayI (x * y) 256) := by
  unfold mulI; rw [ofI_id h1 h2, ofI_id h3 h4]
theorem mul_mono {x y x' y' : Int} (h : x * y ≤ x' * y') : ofI (awayI (x * y) 256) ≤ ofI (awayI (x' * y') 256) := ofI_mono (away256_mono h)

theorem prod_in {a b c d u v : Int} (h1 : mayB a b = true) (h2 : mayB c d = true) (u1 : a ≤ u) (u2 : u ≤ b) (v1 : c ≤ v) (v2 : v ≤ d) :
    lowL (mulI a c) [mulI a c, mulI a d, mulI b c, mulI b d] 4 ≤ mulI u v ∧ mulI u v ≤ highL (mulI a c) [mulI a c, mulI a d, mulI b c, mulI b d] 4 := by
  obtain ⟨x1, x2, x3⟩ := may_true h1
  obtain ⟨y1, y2, y3⟩ := may_true h2
  have l := low4_le (mulI a c) (mulI a d) (mulI b c) (mulI b d)
  have g := high4_ge (mulI a c) (mulI a d) (mulI b c) (mulI b d)
  have m := mul_corners u1 u2 v1 v2
  have e0 : mulI u v = ofI (awayI (u * v) 256) := mulI_of (by omega) (by omega) (by omega) (by omega)
  have e1 : mulI a c = ofI (awayI (a * c) 256) := mulI_of (by omega) (by omega) (by omega) (by omega)
  have e2 : mulI a d = ofI (awayI (a * d) 256) := mulI_of (by omega) (by omega) (by omega) (by omega)
  have e3 : mulI b c = ofI (awayI (b * c) 256) := mulI_of (by omega) (by omega) (by omega) (by omega)
  have e4 : mulI b d = ofI (awayI (b * d) 256) := mulI_of (by omega) (by omega) (by omega) (by omega)
  generalize lowL (mulI a c) [mulI a c, mulI a d, mulI b c, mulI b d] 4 = lo at l ⊢
  generalize highL (mulI a c) [mulI a c, mulI a d, mulI b c, mulI b d] 4 = hi at g ⊢
  rw [e1, e2, e3, e4] at l g
  rw [e0]
  constructor
  · have : a * c ≤ u * v ∨ a * d ≤ u * v ∨ b * c ≤ u * v ∨ b * d ≤ u * v := by
      generalize a * c = t1 at *; generalize a * d = t2 at *; generalize b * c = t3 at *; generalize b * d = t4 at *; generalize u * v = t at *
      omega
    rcases this with k | k | k | k
    · have := mul_mono k; omega
    · have := mul_mono k; omega
    · have := mul_mono k; omega
    · have := mul_mono k; omega
  · have : u * v ≤ a * c ∨ u * v ≤ a * d ∨ u * v ≤ b * c ∨ u * v ≤ b * d := by
      generalize a * c = t1 at *; generalize a * d = t2 at *; generalize b * c = t3 at *; generalize b * d = t4 at *; generalize u * v = t at *
      omega
    rcases this with k | k | k | k
    · have := mul_mono k; omega
    · have := mul_mono k; omega
    · have := mul_mono k; omega
    · have := mul_mono k; omega
theorem sum_in {a b c d u v : Int} (h1 : mayB a b = true) (h2 : mayB c d = true) (u1 : a ≤ u) (u2 : u ≤ b) (v1 : c ≤ v) (v2 : v ≤ d) :
    ofI (a + c) ≤ ofI (ofI u + ofI v) ∧ ofI (ofI u + ofI v) ≤ ofI (b + d) := by
  obtain ⟨x1, x2, x3⟩ := may_true h1
  obtain ⟨y1, y2, y3⟩ := may_true h2
  rw [ofI_id (x := u) (by omega) (by omega), ofI_id (x := v) (by omega) (by omega)]
  exact ⟨ofI_mono (by omega), ofI_mono (by omega)⟩

end Go.Proofs.Ytmdpoeelddchcaa
