/-
  The walk of the law TopHold.
-/
import Derived.Test.YthijegfacnjooaaHoldY
import Derived.Test.YthijegfacnjooaaAwake
namespace Go.Proofs.Ythijegfacnjooaa
open Go.RowKit Plain

theorem clipI_mid {x lo hi : Int} (h0 : lo ≤ x) (h1 : x ≤ hi) : clipI x lo hi = x := by
  unfold clipI; rw [if_neg (by omega), if_neg (by omega), if_neg (by omega)]
theorem clipI_ends (x : Int) {lo hi : Int} (h : lo ≤ hi) : clipI x lo hi = lo ∨ clipI x lo hi = hi ∨ clipI x lo hi = x := by
  unfold clipI; split
  · exact .inl rfl
  · split
    · omega
    · split
      · exact .inr (.inl rfl)
      · exact .inr (.inr rfl)
/-- It does not jump. -/
theorem no_jump {pp M q : Int} (m0 : 1 ≤ M) (q0 : -M ≤ q) (q1 : q ≤ M) (h1 : clipI (pp + clipI (q - pp) (-M) M) (-M) M ≠ q) (h2 : clipI (q - pp) (-M) M ≠ M) : clipI (q - pp) (-M) M = -M := by
  rcases clipI_ends (q - pp) (lo := -M) (hi := M) (by omega) with h | h | h
  · exact h
  · exact absurd h h2
  · rw [h, clipI_mid (by omega) (by omega)] at h1
    exact absurd (by omega) h1

set_option maxRecDepth 100000 in
set_option maxHeartbeats 4000000 in
theorem topHold_walk (L H U B M : Int) (a z : Option Addr) (ca cz : Nat) (al zl : List Int) (A D W k p v n q : Int) (hca : al.length ≤ ca) (hn : zl.length ≤ 9223372036854775807) (w : World) (ha : Lst w a al) (hz : Lst w z zl) :
    Calls Try.prog 9 #[.agg #[.int .i64 L, .int .i64 H, .int .i64 U, .int .i64 B, .int .i64 M, .slice a al.length ca, .slice z zl.length cz], .agg #[.int .i64 A, .int .i64 D, .int .i64 W], .agg #[.int .i64 k, .int .i64 p, .int .i64 v, .int .i64 n, .int .i64 q]] w fun e w' => e = .returned (.bool true) ∧ Below w.heap.size w w' := by
  have HX := ahide (HS.new w L H U B M a z al.length zl.length ca cz A D W k p v n q)
  by_cases hm : al.length ≤ 20
  · have m1 : (al.length : Int) ≤ 20 := by omega
    have hmm : al.length ≤ 9223372036854775807 := by omega
    have hho := fun u (h : Below w.heap.size w u) => holdMay_any L H U B M a z ca cz al zl A D W k p v n q hmm hn u (ha.later h) (hz.later h)
    by_cases he : hoE L H U B M al zl A D W k n q = 0
    · simp only [he] at hho
      by_cases hW : n = W
      · have hW' : (n == W) = true := by simpa using hW
        clear hW ha hz
        go_enter Try.func9, Try.ntmps9
        go_wp2_with (first
          | (go_at_call 10; refine (awake_any _).mono ?_; rintro e w1 ⟨rfl, hb⟩; have HX := ahide (HX.out.later hb); obtain ⟨⟨q0, q1, q2, q3, q4, q5, q6⟩, ⟨s0, s1, s2⟩, ⟨r0, r1, r2, r3, r4⟩, _⟩ := HX.out; clear hb)
          | (go_at_call 31; refine (hho _ HX.out.2.2.2).mono ?_; rintro e w2 ⟨rfl, hb⟩; have HX := ahide (HX.out.later hb); obtain ⟨⟨q0, q1, q2, q3, q4, q5, q6⟩, ⟨s0, s1, s2⟩, ⟨r0, r1, r2, r3, r4⟩, _⟩ := HX.out; clear hb))
        go_ret
        exact ⟨rfl, HX.out.2.2.2⟩
      · by_cases h1 : 1 < n
        · have hW' : (n == W) = false := by simpa using hW
          clear hW ha hz
          go_enter Try.func9, Try.ntmps9
          go_wp2_with (first
            | (go_at_call 10; refine (awake_any _).mono ?_; rintro e w1 ⟨rfl, hb⟩; have HX := ahide (HX.out.later hb); obtain ⟨⟨q0, q1, q2, q3, q4, q5, q6⟩, ⟨s0, s1, s2⟩, ⟨r0, r1, r2, r3, r4⟩, _⟩ := HX.out; clear hb)
            | (go_at_call 31; refine (hho _ HX.out.2.2.2).mono ?_; rintro e w2 ⟨rfl, hb⟩; have HX := ahide (HX.out.later hb); obtain ⟨⟨q0, q1, q2, q3, q4, q5, q6⟩, ⟨s0, s1, s2⟩, ⟨r0, r1, r2, r3, r4⟩, _⟩ := HX.out; clear hb))
          go_ret
          exact ⟨rfl, HX.out.2.2.2⟩
        · have hwa := fun u (h : Below w.heap.size w u) => want_ok L H U B M a z ca cz al zl A D W k p v n q hmm hn hca he u (ha.later h) (hz.later h)
          obtain ⟨e1, e2, e3⟩ := hoE_zero he
          obtain ⟨e4, e5, e6, _⟩ := ruE_zero e1
          obtain ⟨_, _, _, _, m0', m1'⟩ := ruB_true e4
          obtain ⟨_, ⟨n0, _⟩, x0, x1⟩ := asB_true e3
          have n1 : n ≤ 1 := by omega
          have E1 : wX L H U M al zl A D W k p v n q = clipI (ppI L H U al zl A W k p v n + clipI (q - ppI L H U al zl A W k p v n) (-M) M) (-M) M := by
            unfold wX wtI d2I; rw [if_pos n1, if_neg hW]
          have E2 : wD L H U M al zl A D W k p v n q = clipI (q - ppI L H U al zl A W k p v n) (-M) M := by
            unfold wD d2I; rw [if_pos n1, if_neg hW]
          have E3 : L ≤ wA L H U A W k p n ∧ wA L H U A W k p n ≤ H := by
            unfold wA a2I; rw [if_pos n1]; exact clipI_bd _ e5
          have hnj := no_jump (pp := ppI L H U al zl A W k p v n) m0' x0 x1
          rw [← E1, ← E2] at hnj
          have hbt := refBetw_any (wA L H U A W k p n) L H
          rw [betw_mk E3.1 E3.2] at hbt
          have hW' : (n == W) = false := by simpa using hW
          clear hW ha hz E1 E2 E3 e1 e2 e3 e4 e5 e6 x0 x1 he
          generalize wX L H U M al zl A D W k p v n q = xw at *
          generalize wA L H U A W k p n = xa at *
          generalize wD L H U M al zl A D W k p v n q = xd at *
          by_cases c1 : xw = q
          · have c1' : (xw == q) = true := by simpa using c1
            clear c1 hnj
            go_enter Try.func9, Try.ntmps9
            go_wp2_with (first
              | (go_at_call 10; refine (awake_any _).mono ?_; rintro e w1 ⟨rfl, hb⟩; have HX := ahide (HX.out.later hb); obtain ⟨⟨q0, q1, q2, q3, q4, q5, q6⟩, ⟨s0, s1, s2⟩, ⟨r0, r1, r2, r3, r4⟩, _⟩ := HX.out; clear hb)
              | (go_at_call 31; refine (hho _ HX.out.2.2.2).mono ?_; rintro e w2 ⟨rfl, hb⟩; have HX := ahide (HX.out.later hb); obtain ⟨⟨q0, q1, q2, q3, q4, q5, q6⟩, ⟨s0, s1, s2⟩, ⟨r0, r1, r2, r3, r4⟩, _⟩ := HX.out; clear hb)
              | (go_at_call 32; refine (hwa _ HX.out.2.2.2).mono ?_; rintro e w3 ⟨rfl, hb⟩; have HX := ahide ((HX.out.later hb).later (abelow_alloc w3 (.cells #[.int .i64 xa, .int .i64 xd, .int .i64 n] 97))); obtain ⟨⟨q0, q1, q2, q3, q4, q5, q6⟩, ⟨s0, s1, s2⟩, ⟨r0, r1, r2, r3, r4⟩, _⟩ := HX.out; clear hb)
              | (go_at_call 12; refine (hbt _).mono ?_; rintro e w' ⟨rfl, hq⟩; have hq := hq.symm; subst hq))
            go_ret
            exact ⟨by simp, HX.out.2.2.2⟩
          · have c1' : (xw == q) = false := by simpa using c1
            by_cases c2 : xd = M
            · have c2' : (xd == M) = true := by simpa using c2
              clear c1 c2 hnj
              go_enter Try.func9, Try.ntmps9
              go_wp2_with (first
                | (go_at_call 10; refine (awake_any _).mono ?_; rintro e w1 ⟨rfl, hb⟩; have HX := ahide (HX.out.later hb); obtain ⟨⟨q0, q1, q2, q3, q4, q5, q6⟩, ⟨s0, s1, s2⟩, ⟨r0, r1, r2, r3, r4⟩, _⟩ := HX.out; clear hb)
                | (go_at_call 31; refine (hho _ HX.out.2.2.2).mono ?_; rintro e w2 ⟨rfl, hb⟩; have HX := ahide (HX.out.later hb); obtain ⟨⟨q0, q1, q2, q3, q4, q5, q6⟩, ⟨s0, s1, s2⟩, ⟨r0, r1, r2, r3, r4⟩, _⟩ := HX.out; clear hb)
                | (go_at_call 32; refine (hwa _ HX.out.2.2.2).mono ?_; rintro e w3 ⟨rfl, hb⟩; have HX := ahide ((HX.out.later hb).later (abelow_alloc w3 (.cells #[.int .i64 xa, .int .i64 xd, .int .i64 n] 97))); obtain ⟨⟨q0, q1, q2, q3, q4, q5, q6⟩, ⟨s0, s1, s2⟩, ⟨r0, r1, r2, r3, r4⟩, _⟩ := HX.out; clear hb)
                | (go_at_call 12; refine (hbt _).mono ?_; rintro e w' ⟨rfl, hq⟩; have hq := hq.symm; subst hq))
              go_ret
              exact ⟨by simp, HX.out.2.2.2⟩
            · have c2' : (xd == M) = false := by simpa using c2
              have c3' : (xd == -M) = true := by simpa using hnj c1 c2
              clear c1 c2 hnj
              go_enter Try.func9, Try.ntmps9
              go_wp2_with (first
                | (go_at_call 10; refine (awake_any _).mono ?_; rintro e w1 ⟨rfl, hb⟩; have HX := ahide (HX.out.later hb); obtain ⟨⟨q0, q1, q2, q3, q4, q5, q6⟩, ⟨s0, s1, s2⟩, ⟨r0, r1, r2, r3, r4⟩, _⟩ := HX.out; clear hb)
                | (go_at_call 31; refine (hho _ HX.out.2.2.2).mono ?_; rintro e w2 ⟨rfl, hb⟩; have HX := ahide (HX.out.later hb); obtain ⟨⟨q0, q1, q2, q3, q4, q5, q6⟩, ⟨s0, s1, s2⟩, ⟨r0, r1, r2, r3, r4⟩, _⟩ := HX.out; clear hb)
                | (go_at_call 32; refine (hwa _ HX.out.2.2.2).mono ?_; rintro e w3 ⟨rfl, hb⟩; have HX := ahide ((HX.out.later hb).later (abelow_alloc w3 (.cells #[.int .i64 xa, .int .i64 xd, .int .i64 n] 97))); obtain ⟨⟨q0, q1, q2, q3, q4, q5, q6⟩, ⟨s0, s1, s2⟩, ⟨r0, r1, r2, r3, r4⟩, _⟩ := HX.out; clear hb)
                | (go_at_call 12; refine (hbt _).mono ?_; rintro e w' ⟨rfl, hq⟩; have hq := hq.symm; subst hq))
              go_ret
              exact ⟨by simp, HX.out.2.2.2⟩
    · have hx : (hoE L H U B M al zl A D W k n q != 0) = true := by simpa using he
      clear he ha hz
      generalize hoE L H U B M al zl A D W k n q = E at *
      go_enter Try.func9, Try.ntmps9
      go_wp2_with (first
        | (go_at_call 10; refine (awake_any _).mono ?_; rintro e w1 ⟨rfl, hb⟩; have HX := ahide (HX.out.later hb); obtain ⟨⟨q0, q1, q2, q3, q4, q5, q6⟩, ⟨s0, s1, s2⟩, ⟨r0, r1, r2, r3, r4⟩, _⟩ := HX.out; clear hb)
        | (go_at_call 31; refine (hho _ HX.out.2.2.2).mono ?_; rintro e w2 ⟨rfl, hb⟩; have HX := ahide (HX.out.later hb); obtain ⟨⟨q0, q1, q2, q3, q4, q5, q6⟩, ⟨s0, s1, s2⟩, ⟨r0, r1, r2, r3, r4⟩, _⟩ := HX.out; clear hb))
      go_ret
      exact ⟨rfl, HX.out.2.2.2⟩
  · have m1 : 20 < (al.length : Int) := by omega
    clear ha hz
    go_enter Try.func9, Try.ntmps9
    go_wp2_with (first
      | (go_at_call 10; refine (awake_any _).mono ?_; rintro e w1 ⟨rfl, hb⟩; have HX := ahide (HX.out.later hb); obtain ⟨⟨q0, q1, q2, q3, q4, q5, q6⟩, ⟨s0, s1, s2⟩, ⟨r0, r1, r2, r3, r4⟩, _⟩ := HX.out; clear hb))
    go_ret
    exact ⟨rfl, HX.out.2.2.2⟩

end Go.Proofs.Ythijegfacnjooaa
