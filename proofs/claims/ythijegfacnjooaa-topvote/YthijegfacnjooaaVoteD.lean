/-
  What is voted, in plain words.
-/
import Derived.Test.YthijegfacnjooaaVoteC
namespace Go.Proofs.Ythijegfacnjooaa
open Go.RowKit Plain

def cntB (t o : Nat → Bool) (k : Nat) : Bool := t k && !o k
def manyU (t o : Nat → Bool) : Nat → Int
  | 0 => 0
  | k + 1 => if cntB t o k then manyU t o k + 1 else manyU t o k
def sumU (t o : Nat → Bool) (s : Nat → Int) : Nat → Int
  | 0 => 0
  | k + 1 => if cntB t o k then sumU t o s k + s k else sumU t o s k
def mnI (x y : Int) : Int := if x ≤ y then x else y
def mxI (x y : Int) : Int := if x ≤ y then y else x
def leastU (t o : Nat → Bool) (s : Nat → Int) : Nat → Int
  | 0 => 2147483647
  | k + 1 => if cntB t o k then mnI (leastU t o s k) (s k) else leastU t o s k
def mostU (t o : Nat → Bool) (s : Nat → Int) : Nat → Int
  | 0 => -2147483647
  | k + 1 => if cntB t o k then mxI (mostU t o s k) (s k) else mostU t o s k
/-- What is voted. -/
def votI (t o : Nat → Bool) (s : Nat → Int) (l : Int) : Int :=
  if manyU t o 3 = 1 then sumU t o s 3 else if manyU t o 3 = 2 then sumU t o s 3 / 2 else if manyU t o 3 = 3 then sumU t o s 3 - leastU t o s 3 - mostU t o s 3 else l
theorem manyU_bd (t o : Nat → Bool) : ∀ k : Nat, 0 ≤ manyU t o k ∧ manyU t o k ≤ k
  | 0 => by simp [manyU]
  | k + 1 => by have := manyU_bd t o k; simp only [manyU]; split <;> omega
/-- Samples that count are within bounds. -/
def Fit (t o : Nat → Bool) (s : Nat → Int) : Prop := ∀ k, k < 3 → cntB t o k = true → -1000000 ≤ s k ∧ s k ≤ 1000000
theorem fit_of {t o : Nat → Bool} {s : Nat → Int} (h : sampU t s 3 = true) : Fit t o s := by
  intro k hk hc
  exact sampU_true h k hk (by simp [cntB] at hc; exact hc.1)
theorem sumU_bd {t o : Nat → Bool} {s : Nat → Int} (h : Fit t o s) : ∀ k : Nat, k ≤ 3 → -1000000 * (k : Int) ≤ sumU t o s k ∧ sumU t o s k ≤ 1000000 * (k : Int)
  | 0, _ => by simp [sumU]
  | k + 1, hk => by
    have ih := sumU_bd h k (by omega)
    simp only [sumU]
    split
    · have := h k (by omega) (by assumption); omega
    · omega
theorem leastU_bd {t o : Nat → Bool} {s : Nat → Int} (h : Fit t o s) : ∀ k : Nat, k ≤ 3 → -1000000 ≤ leastU t o s k ∧ leastU t o s k ≤ 2147483647
  | 0, _ => by simp [leastU]
  | k + 1, hk => by
    have ih := leastU_bd h k (by omega)
    simp only [leastU, mnI]
    split
    · have := h k (by omega) (by assumption); split <;> omega
    · omega
theorem mostU_bd {t o : Nat → Bool} {s : Nat → Int} (h : Fit t o s) : ∀ k : Nat, k ≤ 3 → -2147483647 ≤ mostU t o s k ∧ mostU t o s k ≤ 1000000
  | 0, _ => by simp [mostU]
  | k + 1, hk => by
    have ih := mostU_bd h k (by omega)
    simp only [mostU, mxI]
    split
    · have := h k (by omega) (by assumption); split <;> omega
    · omega

theorem mnI_of (x y : Int) : mnI x y ≤ x ∧ mnI x y ≤ y ∧ (mnI x y = x ∨ mnI x y = y) := by unfold mnI; split <;> omega
theorem mxI_of (x y : Int) : x ≤ mxI x y ∧ y ≤ mxI x y ∧ (mxI x y = x ∨ mxI x y = y) := by unfold mxI; split <;> omega
/-- Of three the sum without the least and the most: the one between. -/
theorem mid_bd (x y z : Int) (hx : -1000000 ≤ x ∧ x ≤ 1000000) (hy : -1000000 ≤ y ∧ y ≤ 1000000) (hz : -1000000 ≤ z ∧ z ≤ 1000000) :
    -1000000 ≤ x + y + z - mnI (mnI (mnI 2147483647 x) y) z - mxI (mxI (mxI (-2147483647) x) y) z ∧ x + y + z - mnI (mnI (mnI 2147483647 x) y) z - mxI (mxI (mxI (-2147483647) x) y) z ≤ 1000000 := by
  have e1 := mnI_of 2147483647 x
  have e2 := mnI_of (mnI 2147483647 x) y
  have e3 := mnI_of (mnI (mnI 2147483647 x) y) z
  have f1 := mxI_of (-2147483647) x
  have f2 := mxI_of (mxI (-2147483647) x) y
  have f3 := mxI_of (mxI (mxI (-2147483647) x) y) z
  generalize mnI (mnI (mnI 2147483647 x) y) z = p3 at *
  generalize mnI (mnI 2147483647 x) y = p2 at *
  generalize mnI 2147483647 x = p1 at *
  generalize mxI (mxI (mxI (-2147483647) x) y) z = q3 at *
  generalize mxI (mxI (-2147483647) x) y = q2 at *
  generalize mxI (-2147483647) x = q1 at *
  omega

theorem votI_bd {t o : Nat → Bool} {s : Nat → Int} {l : Int} (h : Fit t o s) (h0 : -1000000 ≤ l) (h1 : l ≤ 1000000) : -1000000 ≤ votI t o s l ∧ votI t o s l ≤ 1000000 := by
  have a0 := h 0 (by omega)
  have a1 := h 1 (by omega)
  have a2 := h 2 (by omega)
  cases c0 : cntB t o 0 <;> cases c1 : cntB t o 1 <;> cases c2 : cntB t o 2 <;> (try replace a0 := a0 c0) <;> (try replace a1 := a1 c1) <;> (try replace a2 := a2 c2)
  case true.true.true =>
    have := mid_bd (s 0) (s 1) (s 2) a0 a1 a2
    simpa [votI, manyU, sumU, leastU, mostU, c0, c1, c2] using this
  all_goals
    simp [votI, manyU, sumU, c0, c1, c2]
    omega

/-- How often bad, and whether out, behind a step. -/
def nbI (t o : Nat → Bool) (s b : Nat → Int) (v m : Int) (k : Nat) : Int := if o k then b k else badI (b k) (fineB (t k) (s k) v m)
def noB (t o : Nat → Bool) (s b : Nat → Int) (v m c : Int) (k : Nat) : Bool := if o k then true else outB (b k) (fineB (t k) (s k) v m) c
/-- The first k as the one says, the others as the other. -/
def mixI (k : Nat) (f g : Nat → Int) (j : Nat) : Int := if j < k then f j else g j
def mixB (k : Nat) (f g : Nat → Bool) (j : Nat) : Bool := if j < k then f j else g j
def updI (g : Nat → Int) (k : Nat) (v : Int) (j : Nat) : Int := if j = k then v else g j
def updB (g : Nat → Bool) (k : Nat) (v : Bool) (j : Nat) : Bool := if j = k then v else g j
theorem mixI_step (k : Nat) (f g : Nat → Int) : mixI (k + 1) f g = updI (mixI k f g) k (f k) := by
  funext j; simp only [mixI, updI]; by_cases h1 : j = k
  · subst h1; simp
  · by_cases h2 : j < k
    · rw [if_pos (by omega), if_neg h1, if_pos h2]
    · rw [if_neg (by omega), if_neg h1, if_neg h2]
theorem mixB_step (k : Nat) (f g : Nat → Bool) : mixB (k + 1) f g = updB (mixB k f g) k (f k) := by
  funext j; simp only [mixB, updB]; by_cases h1 : j = k
  · subst h1; simp
  · by_cases h2 : j < k
    · rw [if_pos (by omega), if_neg h1, if_pos h2]
    · rw [if_neg (by omega), if_neg h1, if_neg h2]
theorem mixI_at (k : Nat) (f g : Nat → Int) : mixI k f g k = g k := by unfold mixI; rw [if_neg (Nat.lt_irrefl _)]
theorem mixB_at (k : Nat) (f g : Nat → Bool) : mixB k f g k = g k := by unfold mixB; rw [if_neg (Nat.lt_irrefl _)]
theorem mixI_zero (f g : Nat → Int) : mixI 0 f g = g := by funext j; unfold mixI; rw [if_neg (Nat.not_lt_zero _)]
theorem mixB_zero (f g : Nat → Bool) : mixB 0 f g = g := by funext j; unfold mixB; rw [if_neg (Nat.not_lt_zero _)]
theorem updI_same (g : Nat → Int) (k : Nat) : updI g k (g k) = g := by funext j; unfold updI; split <;> simp_all
theorem updB_same (g : Nat → Bool) (k : Nat) : updB g k (g k) = g := by funext j; unfold updB; split <;> simp_all

/-- May be written. -/
def Frz (w : World) (B n : Nat) : Prop := (∀ j, j < n → w.frozen? ⟨B, j, none⟩ = false) ∧ B < w.heap.size
theorem Frz.later {w w' : World} {B n : Nat} (h : Frz w B n) (hb : Below w.heap.size w w') : Frz w' B n :=
  ⟨fun j hj => (hb.frozen (p := ⟨B, j, none⟩) h.2).trans (h.1 j hj), Nat.lt_of_lt_of_le h.2 hb.size⟩
theorem Frz.set {w : World} {B n C q : Nat} {v : Value} (h : Frz w B n) : Frz (w.setCell ⟨C, q, none⟩ v) B n :=
  ⟨fun j hj => by simpa [go_sem] using h.1 j hj, by simpa [go_sem] using h.2⟩
theorem BankAt.bad {w : World} {B : Nat} {b o l} (h : BankAt w B b o l) (k : Nat) (hk : k < 3) : w.cell? ⟨B, k, none⟩ = some (.int .i64 (b k)) := by
  obtain ⟨h0, h1, h2, h3, h4, h5, h6⟩ := h
  rcases (show k = 0 ∨ k = 1 ∨ k = 2 by omega) with rfl | rfl | rfl <;> assumption
theorem BankAt.out {w : World} {B : Nat} {b o l} (h : BankAt w B b o l) (k : Nat) (hk : k < 3) : w.cell? ⟨B, 3 + k, none⟩ = some (.bool (o k)) := by
  obtain ⟨h0, h1, h2, h3, h4, h5, h6⟩ := h
  rcases (show k = 0 ∨ k = 1 ∨ k = 2 by omega) with rfl | rfl | rfl <;> assumption
theorem SampAt.there {w : World} {B : Nat} {t s} (h : SampAt w B t s) (k : Nat) (hk : k < 3) : w.cell? ⟨B, k * 2, none⟩ = some (.bool (t k)) := by
  obtain ⟨h0, h1, h2, h3, h4, h5⟩ := h
  rcases (show k = 0 ∨ k = 1 ∨ k = 2 by omega) with rfl | rfl | rfl <;> assumption
theorem SampAt.is {w : World} {B : Nat} {t s} (h : SampAt w B t s) (k : Nat) (hk : k < 3) : w.cell? ⟨B, k * 2 + 1, none⟩ = some (.int .i64 (s k)) := by
  obtain ⟨h0, h1, h2, h3, h4, h5⟩ := h
  rcases (show k = 0 ∨ k = 1 ∨ k = 2 by omega) with rfl | rfl | rfl <;> assumption
theorem cell_other {w : World} {a c : Addr} {v u : Value} (h : w.cell? a = some u) (hc : c ≠ a) : (w.setCell c v).cell? a = some u := (World.cell?_setCell_other _ _ _ _ hc).trans h
theorem cell_same {w : World} {a : Addr} {v u : Value} (h : w.cell? a = some u) : (w.setCell a v).cell? a = some v := by simp [go_sem, h]
theorem ne_blk {C B q j : Nat} (hc : C ≠ B) : (⟨C, q, none⟩ : Addr) ≠ ⟨B, j, none⟩ := fun e => hc (congrArg Addr.block e)
theorem ne_off {B q j : Nat} (hc : q ≠ j) : (⟨B, q, none⟩ : Addr) ≠ ⟨B, j, none⟩ := fun e => hc (congrArg Addr.off e)
theorem RuleAt.set {w : World} {B C q : Nat} {m c v} (h : RuleAt w B m c) (hc : C ≠ B) : RuleAt (w.setCell ⟨C, q, none⟩ v) B m c :=
  ⟨cell_other h.1 (ne_blk hc), cell_other h.2 (ne_blk hc)⟩
theorem SampAt.set {w : World} {B C q : Nat} {t s v} (h : SampAt w B t s) (hc : C ≠ B) : SampAt (w.setCell ⟨C, q, none⟩ v) B t s := by
  obtain ⟨h0, h1, h2, h3, h4, h5⟩ := h
  exact ⟨cell_other h0 (ne_blk hc), cell_other h1 (ne_blk hc), cell_other h2 (ne_blk hc), cell_other h3 (ne_blk hc), cell_other h4 (ne_blk hc), cell_other h5 (ne_blk hc)⟩
theorem BankAt.set {w : World} {B C q : Nat} {b o l v} (h : BankAt w B b o l) (hc : C ≠ B) : BankAt (w.setCell ⟨C, q, none⟩ v) B b o l := by
  obtain ⟨h0, h1, h2, h3, h4, h5, h6⟩ := h
  exact ⟨cell_other h0 (ne_blk hc), cell_other h1 (ne_blk hc), cell_other h2 (ne_blk hc), cell_other h3 (ne_blk hc), cell_other h4 (ne_blk hc), cell_other h5 (ne_blk hc), cell_other h6 (ne_blk hc)⟩
theorem BankAt.setBad0 {w : World} {B : Nat} {b o l} (h : BankAt w B b o l) (v : Int) : BankAt (w.setCell ⟨B, 0, none⟩ (.int .i64 v)) B (updI b 0 v) o l := by
  obtain ⟨h0, h1, h2, h3, h4, h5, h6⟩ := h
  unfold BankAt
  rw [show updI b 0 v 0 = v from if_pos rfl, show updI b 0 v 1 = b 1 from if_neg (by decide), show updI b 0 v 2 = b 2 from if_neg (by decide)]
  exact ⟨cell_same h0, cell_other h1 (ne_off (by decide)), cell_other h2 (ne_off (by decide)), cell_other h3 (ne_off (by decide)), cell_other h4 (ne_off (by decide)), cell_other h5 (ne_off (by decide)), cell_other h6 (ne_off (by decide))⟩
theorem BankAt.setOut0 {w : World} {B : Nat} {b o l} (h : BankAt w B b o l) (v : Bool) : BankAt (w.setCell ⟨B, 3, none⟩ (.bool v)) B b (updB o 0 v) l := by
  obtain ⟨h0, h1, h2, h3, h4, h5, h6⟩ := h
  unfold BankAt
  rw [show updB o 0 v 0 = v from if_pos rfl, show updB o 0 v 1 = o 1 from if_neg (by decide), show updB o 0 v 2 = o 2 from if_neg (by decide)]
  exact ⟨cell_other h0 (ne_off (by decide)), cell_other h1 (ne_off (by decide)), cell_other h2 (ne_off (by decide)), cell_same h3, cell_other h4 (ne_off (by decide)), cell_other h5 (ne_off (by decide)), cell_other h6 (ne_off (by decide))⟩
theorem BankAt.setBad1 {w : World} {B : Nat} {b o l} (h : BankAt w B b o l) (v : Int) : BankAt (w.setCell ⟨B, 1, none⟩ (.int .i64 v)) B (updI b 1 v) o l := by
  obtain ⟨h0, h1, h2, h3, h4, h5, h6⟩ := h
  unfold BankAt
  rw [show updI b 1 v 0 = b 0 from if_neg (by decide), show updI b 1 v 1 = v from if_pos rfl, show updI b 1 v 2 = b 2 from if_neg (by decide)]
  exact ⟨cell_other h0 (ne_off (by decide)), cell_same h1, cell_other h2 (ne_off (by decide)), cell_other h3 (ne_off (by decide)), cell_other h4 (ne_off (by decide)), cell_other h5 (ne_off (by decide)), cell_other h6 (ne_off (by decide))⟩
theorem BankAt.setOut1 {w : World} {B : Nat} {b o l} (h : BankAt w B b o l) (v : Bool) : BankAt (w.setCell ⟨B, 4, none⟩ (.bool v)) B b (updB o 1 v) l := by
  obtain ⟨h0, h1, h2, h3, h4, h5, h6⟩ := h
  unfold BankAt
  rw [show updB o 1 v 0 = o 0 from if_neg (by decide), show updB o 1 v 1 = v from if_pos rfl, show updB o 1 v 2 = o 2 from if_neg (by decide)]
  exact ⟨cell_other h0 (ne_off (by decide)), cell_other h1 (ne_off (by decide)), cell_other h2 (ne_off (by decide)), cell_other h3 (ne_off (by decide)), cell_same h4, cell_other h5 (ne_off (by decide)), cell_other h6 (ne_off (by decide))⟩
theorem BankAt.setBad2 {w : World} {B : Nat} {b o l} (h : BankAt w B b o l) (v : Int) : BankAt (w.setCell ⟨B, 2, none⟩ (.int .i64 v)) B (updI b 2 v) o l := by
  obtain ⟨h0, h1, h2, h3, h4, h5, h6⟩ := h
  unfold BankAt
  rw [show updI b 2 v 0 = b 0 from if_neg (by decide), show updI b 2 v 1 = b 1 from if_neg (by decide), show updI b 2 v 2 = v from if_pos rfl]
  exact ⟨cell_other h0 (ne_off (by decide)), cell_other h1 (ne_off (by decide)), cell_same h2, cell_other h3 (ne_off (by decide)), cell_other h4 (ne_off (by decide)), cell_other h5 (ne_off (by decide)), cell_other h6 (ne_off (by decide))⟩
theorem BankAt.setOut2 {w : World} {B : Nat} {b o l} (h : BankAt w B b o l) (v : Bool) : BankAt (w.setCell ⟨B, 5, none⟩ (.bool v)) B b (updB o 2 v) l := by
  obtain ⟨h0, h1, h2, h3, h4, h5, h6⟩ := h
  unfold BankAt
  rw [show updB o 2 v 0 = o 0 from if_neg (by decide), show updB o 2 v 1 = o 1 from if_neg (by decide), show updB o 2 v 2 = v from if_pos rfl]
  exact ⟨cell_other h0 (ne_off (by decide)), cell_other h1 (ne_off (by decide)), cell_other h2 (ne_off (by decide)), cell_other h3 (ne_off (by decide)), cell_other h4 (ne_off (by decide)), cell_same h5, cell_other h6 (ne_off (by decide))⟩
theorem BankAt.setBad {w : World} {B : Nat} {b o l} (h : BankAt w B b o l) (k : Nat) (hk : k < 3) (v : Int) : BankAt (w.setCell ⟨B, k, none⟩ (.int .i64 v)) B (updI b k v) o l := by
  rcases (show k = 0 ∨ k = 1 ∨ k = 2 by omega) with rfl | rfl | rfl
  · exact h.setBad0 v
  · exact h.setBad1 v
  · exact h.setBad2 v
theorem BankAt.setOut {w : World} {B : Nat} {b o l} (h : BankAt w B b o l) (k : Nat) (hk : k < 3) (v : Bool) : BankAt (w.setCell ⟨B, 3 + k, none⟩ (.bool v)) B b (updB o k v) l := by
  rcases (show k = 0 ∨ k = 1 ∨ k = 2 by omega) with rfl | rfl | rfl
  · exact h.setOut0 v
  · exact h.setOut1 v
  · exact h.setOut2 v
theorem BankAt.setLast {w : World} {B : Nat} {b o l} (h : BankAt w B b o l) (v : Int) : BankAt (w.setCell ⟨B, 6, none⟩ (.int .i64 v)) B b o v := by
  obtain ⟨h0, h1, h2, h3, h4, h5, h6⟩ := h
  exact ⟨cell_other h0 (ne_off (by decide)), cell_other h1 (ne_off (by decide)), cell_other h2 (ne_off (by decide)), cell_other h3 (ne_off (by decide)), cell_other h4 (ne_off (by decide)), cell_other h5 (ne_off (by decide)), cell_same h6⟩

end Go.Proofs.Ythijegfacnjooaa
