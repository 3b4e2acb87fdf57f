/-
  One liar is outvoted, and put out, in plain words.
-/
import Derived.Test.YthijegfacnjooaaVoteJ
namespace Go.Proofs.Ythijegfacnjooaa
open Go.RowKit Plain

/-- Of three of which two lie in a span, the one between does. -/
theorem mid_in (x y z lo hi : Int) (_h0 : -1000000 ≤ lo) (_h1 : hi ≤ 1000000) (hx : -1000000 ≤ x ∧ x ≤ 1000000) (_hy : -1000000 ≤ y ∧ y ≤ 1000000) (_hz : -1000000 ≤ z ∧ z ≤ 1000000)
    (h : ((lo ≤ x ∧ x ≤ hi) ∧ (lo ≤ y ∧ y ≤ hi)) ∨ ((lo ≤ x ∧ x ≤ hi) ∧ (lo ≤ z ∧ z ≤ hi)) ∨ ((lo ≤ y ∧ y ≤ hi) ∧ (lo ≤ z ∧ z ≤ hi))) :
    lo ≤ x + y + z - mnI (mnI (mnI 2147483647 x) y) z - mxI (mxI (mxI (-2147483647) x) y) z ∧ x + y + z - mnI (mnI (mnI 2147483647 x) y) z - mxI (mxI (mxI (-2147483647) x) y) z ≤ hi := by
  have e1 := mnI_of 2147483647 x
  have e2 := mnI_of (mnI 2147483647 x) y
  have e3 := mnI_of (mnI (mnI 2147483647 x) y) z
  have f1 := mxI_of (-2147483647) x
  have f2 := mxI_of (mxI (-2147483647) x) y
  have f3 := mxI_of (mxI (mxI (-2147483647) x) y) z
  generalize mnI (mnI (mnI 2147483647 x) y) z = p3 at *
  generalize mnI (mnI 2147483647 x) y = p2 at *
  generalize mnI 2147483647 x = p1 at *
  generalize mxI (mxI (mxI (-2147483647) x) y) z = q3 at *
  generalize mxI (mxI (-2147483647) x) y = q2 at *
  generalize mxI (-2147483647) x = q1 at *
  omega

theorem vot_in {t o : Nat → Bool} {s : Nat → Int} {l lo hi : Int} (q : Nat) (h0 : -1000000 ≤ lo) (h1 : hi ≤ 1000000) (hh : ∀ k, k < 3 → k ≠ q → cntB t o k = true ∧ lo ≤ s k ∧ s k ≤ hi) (hf : Fit t o s) :
    lo ≤ votI t o s l ∧ votI t o s l ≤ hi := by
  have a0 := hf 0 (by omega)
  have a1 := hf 1 (by omega)
  have a2 := hf 2 (by omega)
  rcases (show q = 0 ∨ q = 1 ∨ q = 2 ∨ 3 ≤ q by omega) with rfl | rfl | rfl | hq
  · obtain ⟨c1, l1, u1⟩ := hh 1 (by omega) (by omega)
    obtain ⟨c2, l2, u2⟩ := hh 2 (by omega) (by omega)
    cases c0 : cntB t o 0
    · simp [votI, manyU, sumU, c0, c1, c2]; omega
    · have := mid_in (s 0) (s 1) (s 2) lo hi h0 h1 (a0 c0) (a1 c1) (a2 c2) (by omega)
      simpa [votI, manyU, sumU, leastU, mostU, c0, c1, c2] using this
  · obtain ⟨c0, l0, u0⟩ := hh 0 (by omega) (by omega)
    obtain ⟨c2, l2, u2⟩ := hh 2 (by omega) (by omega)
    cases c1 : cntB t o 1
    · simp [votI, manyU, sumU, c0, c1, c2]; omega
    · have := mid_in (s 0) (s 1) (s 2) lo hi h0 h1 (a0 c0) (a1 c1) (a2 c2) (by omega)
      simpa [votI, manyU, sumU, leastU, mostU, c0, c1, c2] using this
  · obtain ⟨c0, l0, u0⟩ := hh 0 (by omega) (by omega)
    obtain ⟨c1, l1, u1⟩ := hh 1 (by omega) (by omega)
    cases c2 : cntB t o 2
    · simp [votI, manyU, sumU, c0, c1, c2]; omega
    · have := mid_in (s 0) (s 1) (s 2) lo hi h0 h1 (a0 c0) (a1 c1) (a2 c2) (by omega)
      simpa [votI, manyU, sumU, leastU, mostU, c0, c1, c2] using this
  · obtain ⟨c0, l0, u0⟩ := hh 0 (by omega) (by omega)
    obtain ⟨c1, l1, u1⟩ := hh 1 (by omega) (by omega)
    obtain ⟨c2, l2, u2⟩ := hh 2 (by omega) (by omega)
    have := mid_in (s 0) (s 1) (s 2) lo hi h0 h1 (a0 c0) (a1 c1) (a2 c2) (by omega)
    simpa [votI, manyU, sumU, leastU, mostU, c0, c1, c2] using this

/-- What holds from frame to frame: q: the liar (3: none); far: for how many frames it was far away. -/
structure TInv (q : Nat) (c far : Int) (b : Nat → Int) (o : Nat → Bool) (l : Int) : Prop where
  bad : ∀ k, k < 3 → 0 ≤ b k ∧ b k ≤ 10
  last : -1000000 ≤ l ∧ l ≤ 1000000
  good : ∀ k, k < 3 → k ≠ q → o k = false ∧ b k = 0
  liar : q < 3 → o q = true ∨ (far ≤ b q ∧ b q < c)
  far0 : 0 ≤ far
theorem TInv.new (q : Nat) {c : Int} (hc : 1 ≤ c) : TInv q c 0 zI zB 0 :=
  ⟨fun _ _ => by simp [zI], by omega, fun _ _ _ => ⟨rfl, rfl⟩, fun _ => .inr ⟨by simp [zI], by simp [zI]; omega⟩, by omega⟩
/-- What a frame is of. -/
structure TIn (q : Nat) (n tr : Int) (ly : Bool) (lz : Int) (t : Nat → Bool) (s : Nat → Int) : Prop where
  hon : ∀ k, k < 3 → k ≠ q → t k = true ∧ tr - n ≤ s k ∧ s k ≤ tr + n
  lie : q < 3 → t q = ly ∧ s q = lz
  lz0 : -1000000 ≤ lz ∧ lz ≤ 1000000
  tr0 : -900000 ≤ tr ∧ tr ≤ 900000
  n0 : 0 ≤ n ∧ n ≤ 1000
def nearB (m n tr : Int) (ly : Bool) (lz : Int) : Bool := ly && (decide (tr - m - n ≤ lz) && decide (lz ≤ tr + m + n))
def farI (m n tr far : Int) (ly : Bool) (lz : Int) : Int := if nearB m n tr ly lz then 0 else far + 1

theorem TIn.fit {q : Nat} {n tr : Int} {ly : Bool} {lz : Int} {t : Nat → Bool} {s : Nat → Int} (h : TIn q n tr ly lz t s) (k : Nat) (hk : k < 3) : -1000000 ≤ s k ∧ s k ≤ 1000000 := by
  have := h.tr0; have := h.n0; have := h.lz0
  by_cases e : k = q
  · subst e; rw [(h.lie hk).2]; omega
  · have := h.hon k hk e; omega
theorem stepE_in {q : Nat} {c far m n tr : Int} {b : Nat → Int} {o : Nat → Bool} {l : Int} {ly : Bool} {lz : Int} {t : Nat → Bool} {s : Nat → Int} (hr : ruleE m c = 0) (hi : TInv q c far b o l) (h : TIn q n tr ly lz t s) : stepE b l m c t s = 0 := by
  have hb : bankE b l = 0 := by
    unfold bankE
    rw [if_pos]
    have a0 := hi.bad 0 (by omega); have a1 := hi.bad 1 (by omega); have a2 := hi.bad 2 (by omega); have al := hi.last
    simp [okU, gb, within]; omega
  have hs : sampU t s 3 = true := by
    have a0 := h.fit 0 (by omega); have a1 := h.fit 1 (by omega); have a2 := h.fit 2 (by omega)
    simp [sampU, within]; omega
  unfold stepE; rw [if_pos hr, if_pos hb, if_pos hs]

theorem tinv_step {q : Nat} {c far m n tr : Int} {b : Nat → Int} {o : Nat → Bool} {l : Int} {ly : Bool} {lz : Int} {t : Nat → Bool} {s : Nat → Int} (hr : ruleE m c = 0) (hm : 2 * n ≤ m) (hi : TInv q c far b o l) (h : TIn q n tr ly lz t s) :
    (tr - n ≤ votI t o s l ∧ votI t o s l ≤ tr + n) ∧ TInv q c (farI m n tr far ly lz) (nbI t o s b (votI t o s l) m) (noB t o s b (votI t o s l) m c) (votI t o s l) := by
  have hrb : ruleB m c = true := by
    unfold ruleE at hr; split at hr
    · assumption
    · omega
  obtain ⟨⟨m0, m1⟩, c0, c1⟩ := ruleB_true hrb
  have htr := h.tr0
  have hn := h.n0
  have hv : tr - n ≤ votI t o s l ∧ votI t o s l ≤ tr + n := by
    refine vot_in q (by omega) (by omega) (fun k hk hkq => ?_) (fun k hk _ => h.fit k hk)
    have g := h.hon k hk hkq
    exact ⟨by simp [cntB, g.1, (hi.good k hk hkq).1], g.2⟩
  refine ⟨hv, ?_⟩
  generalize votI t o s l = v at *
  have hon : ∀ k, k < 3 → k ≠ q → nbI t o s b v m k = 0 ∧ noB t o s b v m c k = false := by
    intro k hk hkq
    have g := h.hon k hk hkq
    have ho := (hi.good k hk hkq).1
    have hf : fineB (t k) (s k) v m = true := by simp [fineB, g.1]; omega
    unfold nbI noB; rw [ho, hf]; simp [badI, outB]
  have hlq : q < 3 → (0 ≤ nbI t o s b v m q ∧ nbI t o s b v m q ≤ 10) ∧ (noB t o s b v m c q = true ∨ (farI m n tr far ly lz ≤ nbI t o s b v m q ∧ nbI t o s b v m q < c)) := by
    intro hq
    have hb := hi.bad q hq
    have hg := h.lie hq
    have hl := h.lz0
    cases ho : o q
    · have hfb : far ≤ b q ∧ b q < c := by
        rcases hi.liar hq with h | h
        · rw [ho] at h; cases h
        · exact h
      have hfar : fineB (t q) (s q) v m = true → nearB m n tr ly lz = true := by
        rw [hg.1, hg.2]; cases ly
        · simp [fineB]
        · simp [fineB, nearB]; omega
      unfold nbI noB; rw [ho]
      simp only [Bool.false_eq_true, if_false]
      have f0 := hi.far0
      cases hf : fineB (t q) (s q) v m
      · have e : badI (b q) false = b q + 1 := by unfold badI; rw [if_neg (by simp), if_pos (by omega)]
        rw [e]
        refine ⟨by omega, ?_⟩
        by_cases hc : c ≤ b q + 1
        · left; unfold outB; rw [e]; simp [hc]
        · right; refine ⟨?_, by omega⟩
          unfold farI; split <;> omega
      · have e : badI (b q) true = 0 := by unfold badI; rw [if_pos rfl]
        rw [e]
        refine ⟨by omega, .inr ⟨?_, by omega⟩⟩
        unfold farI; rw [if_pos (hfar hf)]; omega
    · unfold nbI noB; rw [ho]; simp only [if_true]
      exact ⟨hb, .inl trivial⟩
  refine ⟨fun k hk => ?_, by omega, fun k hk hkq => ⟨(hon k hk hkq).2, (hon k hk hkq).1⟩, fun hq => (hlq hq).2, ?_⟩
  · by_cases e : k = q
    · subst e; exact (hlq hk).1
    · rw [(hon k hk e).1]; omega
  · have := hi.far0; unfold farI; split <;> omega

end Go.Proofs.Ythijegfacnjooaa
