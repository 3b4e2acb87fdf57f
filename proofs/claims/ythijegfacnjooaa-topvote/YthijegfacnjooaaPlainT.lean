/-
  Plain arithmetic for package table: places that rise, where a number stands among them, the height of a line and of a grid there, rounded. No Go here.
-/
namespace Go.Proofs.Ythijegfacnjooaa.Plain

/-- The k-th of a list. -/
def at0 (l : List Int) (k : Nat) : Int := l.getD k 0

/-- Is a number within MaxWorth? -/
def within (x : Int) : Bool := decide (-1000000 ≤ x) && decide (x ≤ 1000000)
theorem within_true {x : Int} (h : within x = true) : -1000000 ≤ x ∧ x ≤ 1000000 := by simp [within] at h; omega
theorem within_false {x : Int} (h : within x = false) : x < -1000000 ∨ 1000000 < x := by simp [within] at h; omega

/-- 1 if one of a list is beyond, else 0. -/
def worthI (l : List Int) : Int := if l.all within then 0 else 1
theorem worth_step (l : List Int) (k : Nat) (h : k < l.length) : worthI (l.drop k) = if within (at0 l k) then worthI (l.drop (k + 1)) else 1 := by
  rw [List.drop_eq_getElem_cons h]
  have e : at0 l k = l[k] := by rw [at0, List.getD_eq_getElem?_getD, List.getElem?_eq_getElem h]; rfl
  rw [e]; unfold worthI; rw [List.all_cons]
  cases within l[k] <;> simp
theorem worth_all {l : List Int} (h : worthI l = 0) (k : Nat) (hk : k < l.length) : -1000000 ≤ at0 l k ∧ at0 l k ≤ 1000000 := by
  have e : at0 l k = l[k] := by rw [at0, List.getD_eq_getElem?_getD, List.getElem?_eq_getElem hk]; rfl
  have a : l.all within = true := by
    unfold worthI at h; split at h
    · assumption
    · omega
  rw [e]; exact within_true (List.all_eq_true.mp a _ (List.getElem_mem hk))
theorem worth_cases (l : List Int) : worthI l = 0 ∨ worthI l = 1 := by unfold worthI; split <;> simp

/-- Does one of the first n + 1 fail to rise over the one ahead? -/
def fallsU (l : List Int) : Nat → Bool
  | 0 => false
  | n + 1 => fallsU l n || decide (at0 l (n + 1) ≤ at0 l n)
theorem falls_of_lt {l : List Int} : ∀ {n : Nat}, fallsU l n = false → ∀ k, k < n → at0 l k < at0 l (k + 1)
  | 0, _, k, hk => by omega
  | n + 1, h, k, hk => by
    simp only [fallsU, Bool.or_eq_false_iff, decide_eq_false_iff_not] at h
    by_cases e : k = n
    · subst e; omega
    · exact falls_of_lt h.1 k (by omega)
theorem falls_mono {l : List Int} {n : Nat} (h : fallsU l n = true) : ∀ m, n ≤ m → fallsU l m = true := by
  intro m hm
  induction m with
  | zero =>
            have : n = 0 := by omega
            subst this; exact h
  | succ m ih =>
    by_cases e : n = m + 1
    · subst e; exact h
    · simp [fallsU, ih (by omega)]
theorem falls_false_le {l : List Int} {n m : Nat} (h : fallsU l m = false) (hn : n ≤ m) : fallsU l n = false := by
  cases e : fallsU l n
  · rfl
  · rw [falls_mono e m hn] at h; cases h

/-- Does none of the first n + 1 fall below the one ahead? -/
def risesU (l : List Int) : Nat → Bool
  | 0 => true
  | n + 1 => risesU l n && decide (at0 l n ≤ at0 l (n + 1))
theorem rises_of_le {l : List Int} : ∀ {n : Nat}, risesU l n = true → ∀ k, k < n → at0 l k ≤ at0 l (k + 1)
  | 0, _, k, hk => by omega
  | n + 1, h, k, hk => by
    simp only [risesU, Bool.and_eq_true, decide_eq_true_eq] at h
    by_cases e : k = n
    · subst e; omega
    · exact rises_of_le h.1 k (by omega)

/-- What is wrong of places. -/
def risingI (l : List Int) : Int := if l.length < 2 then 3 else if 8 < l.length then 2 else if worthI l = 0 then (if fallsU l (l.length - 1) then 3 else 0) else 1
structure Places (l : List Int) : Prop where
  lo : 2 ≤ l.length
  hi : l.length ≤ 8
  worth : worthI l = 0
  up : ∀ k, k + 1 < l.length → at0 l k < at0 l (k + 1)
theorem places_of {l : List Int} (h : risingI l = 0) : Places l := by
  unfold risingI at h
  split at h
  · omega
  · split at h
    · omega
    · split at h
      · split at h
        · omega
        · exact ⟨by omega, by omega, by assumption, fun k hk => falls_of_lt (n := l.length - 1) (by cases e : fallsU l (l.length - 1) <;> simp_all) k (by omega)⟩
      · omega
theorem Places.mono {l : List Int} (p : Places l) : ∀ {j k : Nat}, j < k → k < l.length → at0 l j < at0 l k := by
  intro j k hjk
  induction k with
  | zero => omega
  | succ k ih =>
    intro hk
    have := p.up k hk
    by_cases e : j = k
    · subst e; exact this
    · have := ih (by omega) (by omega); omega
theorem Places.monole {l : List Int} (p : Places l) {j k : Nat} (h : j ≤ k) (hk : k < l.length) : at0 l j ≤ at0 l k := by
  by_cases e : j = k
  · subst e; omega
  · have := p.mono (show j < k by omega) hk; omega

/-- What is wrong of a line. -/
def lineI (a i : List Int) : Int := if a.length = i.length then (if risingI a = 0 then worthI i else risingI a) else 3
theorem line_of {a i : List Int} (h : lineI a i = 0) : a.length = i.length ∧ Places a ∧ worthI i = 0 := by
  unfold lineI at h
  split at h
  · split at h
    · exact ⟨by assumption, places_of (by assumption), h⟩
    · omega
  · omega

/-- n by d (above 0), the nearest, halves up. -/
def upI (n d : Int) : Int := (2 * n + d) / (2 * d)
theorem upI_rem (n d : Int) (hd : 0 < d) : upI n d = if d - n % d ≤ n % d then n / d + 1 else n / d := by
  unfold upI
  have e := Int.mul_ediv_add_emod n d
  have r0 := Int.emod_nonneg n (show d ≠ 0 by omega)
  have r1 := Int.emod_lt_of_pos n hd
  have : 2 * n + d = (2 * (n % d) + d) + (2 * d) * (n / d) := by
    have : 2 * n = 2 * (d * (n / d)) + 2 * (n % d) := by omega
    have e2 : 2 * (d * (n / d)) = 2 * d * (n / d) := by rw [Int.mul_assoc]
    omega
  rw [this, Int.add_mul_ediv_left _ _ (by omega)]
  split
  · have : (2 * (n % d) + d) / (2 * d) = 1 := by
      have : 2 * (n % d) + d = (2 * (n % d) - d) + (2 * d) * 1 := by omega
      rw [this, Int.add_mul_ediv_left _ _ (by omega), Int.ediv_eq_zero_of_lt (by omega) (by omega)]; rfl
    omega
  · rw [Int.ediv_eq_zero_of_lt (by omega) (by omega)]; omega
/-- The program's way to it. -/
def nearT (n d : Int) : Int :=
  if n.tmod d < 0 then (if d - (n.tmod d + d) ≤ n.tmod d + d then n.tdiv d - 1 + 1 else n.tdiv d - 1)
  else (if d - n.tmod d ≤ n.tmod d then n.tdiv d + 1 else n.tdiv d)
theorem tdm (n d : Int) (hd : 0 < d) : (n.tmod d < 0 → n % d = n.tmod d + d ∧ n / d = n.tdiv d - 1) ∧ (¬ n.tmod d < 0 → n % d = n.tmod d ∧ n / d = n.tdiv d) := by
  have e := Int.mul_tdiv_add_tmod n d
  have b : (n.tmod d).natAbs < d.natAbs := by rw [Int.natAbs_tmod]; exact Nat.mod_lt _ (by omega)
  constructor
  · intro h
    have h1 : n = (n.tmod d + d) + d * (n.tdiv d - 1) := by rw [Int.mul_sub]; omega
    constructor
    · conv => lhs; rw [h1]
      rw [Int.add_mul_emod_self_left, Int.emod_eq_of_lt (by omega) (by omega)]
    · conv => lhs; rw [h1]
      rw [Int.add_mul_ediv_left _ _ (by omega), Int.ediv_eq_zero_of_lt (by omega) (by omega)]; omega
  · intro h
    have h1 : n = n.tmod d + d * n.tdiv d := by omega
    constructor
    · conv => lhs; rw [h1]
      rw [Int.add_mul_emod_self_left, Int.emod_eq_of_lt (by omega) (by omega)]
    · conv => lhs; rw [h1]
      rw [Int.add_mul_ediv_left _ _ (by omega), Int.ediv_eq_zero_of_lt (by omega) (by omega)]; omega
theorem near_up (n d : Int) (hd : 0 < d) : nearT n d = upI n d := by
  rw [upI_rem n d hd]; unfold nearT
  by_cases h : n.tmod d < 0
  · obtain ⟨e1, e2⟩ := (tdm n d hd).1 h
    rw [if_pos h, e1, e2]
  · obtain ⟨e1, e2⟩ := (tdm n d hd).2 h
    rw [if_neg h, e1, e2]
theorem upI_mono {n m d : Int} (hd : 0 < d) (h : n ≤ m) : upI n d ≤ upI m d := Int.ediv_le_ediv (by omega) (by omega)
theorem upI_exact (k d : Int) (hd : 0 < d) : upI (k * d) d = k := by
  unfold upI
  have : 2 * (k * d) + d = d + 2 * d * k := by rw [Int.mul_assoc, Int.mul_comm d k]; omega
  rw [this, Int.add_mul_ediv_left _ _ (by omega), Int.ediv_eq_zero_of_lt (by omega) (by omega)]; omega
theorem upI_scale (n d k : Int) (_hd : 0 < d) (hk : 0 < k) : upI (k * n) (k * d) = upI n d := by
  unfold upI
  have e1 : 2 * (k * n) + k * d = k * (2 * n + d) := by rw [Int.mul_add, Int.mul_left_comm]
  have e2 : 2 * (k * d) = k * (2 * d) := by rw [Int.mul_left_comm]
  rw [e1, e2, Int.mul_ediv_mul_of_pos _ _ hk]

/-- Where c stands: the greatest i below the last but one with its place not above c, from i on. -/
def standF (l : List Int) (c : Int) : Nat → Nat → Nat
  | 0, i => i
  | f + 1, i => if i + 2 < l.length ∧ at0 l (i + 1) ≤ c then standF l c f (i + 1) else i
def standI (l : List Int) (c : Int) : Nat := standF l c l.length 0
structure Stands (l : List Int) (c : Int) (i : Nat) : Prop where
  lt : i + 1 < l.length
  past : at0 l i ≤ c
  left : c ≤ at0 l (i + 1)
  next : i + 2 < l.length → c < at0 l (i + 1)
theorem standF_stands {l : List Int} {c : Int} (h1 : c ≤ at0 l (l.length - 1)) : ∀ (f i : Nat), l.length ≤ f + i + 2 → i + 1 < l.length → at0 l i ≤ c → Stands l c (standF l c f i)
  | 0, i, hf, hi, hp => by
    have e : i + 1 = l.length - 1 := by omega
    exact ⟨hi, hp, by simp only [standF]; rw [e]; exact h1, fun h => by simp only [standF] at h; omega⟩
  | f + 1, i, hf, hi, hp => by
    simp only [standF]
    split
    · rename_i h; exact standF_stands h1 f (i + 1) (by omega) (by omega) h.2
    · rename_i h
      by_cases e : i + 2 < l.length
      · have : ¬ at0 l (i + 1) ≤ c := fun q => h ⟨e, q⟩
        exact ⟨hi, hp, by omega, fun _ => by omega⟩
      · have q : i + 1 = l.length - 1 := by omega
        exact ⟨hi, hp, by rw [q]; exact h1, fun h => by omega⟩
theorem standI_stands {l : List Int} {c : Int} (p : Places l) (h0 : at0 l 0 ≤ c) (h1 : c ≤ at0 l (l.length - 1)) : Stands l c (standI l c) :=
  standF_stands h1 _ 0 (by omega) (by have := p.lo; omega) h0
theorem Stands.unique {l : List Int} {c : Int} (p : Places l) {i j : Nat} (a : Stands l c i) (b : Stands l c j) : i = j := by
  rcases Nat.lt_trichotomy i j with h | h | h
  · have := a.next (by have := b.lt; omega)
    have := p.monole (show i + 1 ≤ j by omega) (by have := b.lt; omega)
    have := b.past; omega
  · exact h
  · have := b.next (by have := a.lt; omega)
    have := p.monole (show j + 1 ≤ i by omega) (by have := a.lt; omega)
    have := a.past; omega

def clipT (x lo hi : Int) : Int := if x < lo then lo else if hi < lo then lo else if hi < x then hi else x
/-- x, clipped to the ends of places. -/
def clipE (l : List Int) (x : Int) : Int := clipT x (at0 l 0) (at0 l (l.length - 1))
theorem clipE_bd {l : List Int} (p : Places l) (x : Int) : at0 l 0 ≤ clipE l x ∧ clipE l x ≤ at0 l (l.length - 1) := by
  have := p.mono (show 0 < l.length - 1 by have := p.lo; omega) (by have := p.lo; omega)
  unfold clipE clipT; split <;> (try split) <;> (try split) <;> omega
theorem clipE_mono {l : List Int} (p : Places l) {x y : Int} (h : x ≤ y) : clipE l x ≤ clipE l y := by
  have := p.mono (show 0 < l.length - 1 by have := p.lo; omega) (by have := p.lo; omega)
  unfold clipE clipT; split <;> (try split) <;> (try split) <;> (try split) <;> (try split) <;> (try split) <;> omega
theorem clipE_id {l : List Int} {x : Int} (h0 : at0 l 0 ≤ x) (h1 : x ≤ at0 l (l.length - 1)) : clipE l x = x := by
  unfold clipE clipT; rw [if_neg (by omega), if_neg (by omega), if_neg (by omega)]

/-- A line's height at c, between its points i and i + 1. -/
def heightI (a z : List Int) (c : Int) (i : Nat) : Int := upI (at0 z i * (at0 a (i + 1) - c) + at0 z (i + 1) * (c - at0 a i)) (at0 a (i + 1) - at0 a i)
/-- A line's height at x. -/
def lookI (a z : List Int) (x : Int) : Int := heightI a z (clipE a x) (standI a (clipE a x))
theorem look_stands {a z : List Int} (p : Places a) {x : Int} {i : Nat} (s : Stands a (clipE a x) i) : lookI a z x = heightI a z (clipE a x) i := by
  have b := clipE_bd p x
  rw [lookI, (standI_stands p b.1 b.2).unique p s]
theorem height_left {a z : List Int} {i : Nat} (h : at0 a i < at0 a (i + 1)) : heightI a z (at0 a i) i = at0 z i := by
  unfold heightI; rw [Int.sub_self, Int.mul_zero, Int.add_zero, upI_exact _ _ (by omega)]
theorem height_right {a z : List Int} {i : Nat} (h : at0 a i < at0 a (i + 1)) : heightI a z (at0 a (i + 1)) i = at0 z (i + 1) := by
  unfold heightI; rw [Int.sub_self, Int.mul_zero, Int.zero_add, upI_exact _ _ (by omega)]
/-- A line goes through its points. -/
theorem look_point {a z : List Int} (p : Places a) (k : Nat) (hk : k < a.length) : lookI a z (at0 a k) = at0 z k := by
  have h0 := p.monole (Nat.zero_le k) hk
  have h1 := p.monole (show k ≤ a.length - 1 by omega) (by omega)
  have e := clipE_id h0 h1
  have l2 := p.lo
  by_cases hl : k + 1 < a.length
  · have s : Stands a (clipE a (at0 a k)) k := by
      rw [e]; exact ⟨hl, by omega, by have := p.up k hl; omega, fun _ => p.up k hl⟩
    rw [look_stands p s, e, height_left (p.up k hl)]
  · obtain ⟨j, rfl⟩ : ∃ j, k = j + 1 := ⟨k - 1, by omega⟩
    have s : Stands a (clipE a (at0 a (j + 1))) j := by
      rw [e]; exact ⟨hk, by have := p.up j hk; omega, by omega, fun h => by omega⟩
    rw [look_stands p s, e, height_right (p.up j hk)]
/-- Beyond the ends it is as at the ends. -/
theorem look_last {a z : List Int} (p : Places a) {x : Int} (h : at0 a (a.length - 1) ≤ x) : lookI a z x = at0 z (a.length - 1) := by
  have l2 := p.lo
  have m := p.mono (show 0 < a.length - 1 by omega) (by omega)
  have e : clipE a x = clipE a (at0 a (a.length - 1)) := by
    rw [clipE_id (l := a) (x := at0 a (a.length - 1)) (by omega) (by omega)]; unfold clipE clipT; split <;> (try split) <;> (try split) <;> omega
  rw [lookI, e, ← lookI, look_point p _ (by omega)]
theorem look_first {a z : List Int} (p : Places a) {x : Int} (h : x ≤ at0 a 0) : lookI a z x = at0 z 0 := by
  have l2 := p.lo
  have m := p.mono (show 0 < a.length - 1 by omega) (by omega)
  have e : clipE a x = clipE a (at0 a 0) := by
    rw [clipE_id (l := a) (x := at0 a 0) (by omega) (by omega)]; unfold clipE clipT; split <;> (try split) <;> (try split) <;> omega
  rw [lookI, e, ← lookI, look_point p _ (by omega)]
theorem look_mid {a z : List Int} (p : Places a) {x : Int} {i : Nat} (h0 : at0 a 0 ≤ x) (h1 : x ≤ at0 a (a.length - 1)) (s : Stands a x i) : lookI a z x = heightI a z x i := by
  have e := clipE_id h0 h1
  rw [look_stands p (i := i) (by rw [e]; exact s), e]

/-- Where a field rises its height lies between its ends, and rises. -/
theorem height_rises {a z : List Int} {c d : Int} {i : Nat} (hz : at0 z i ≤ at0 z (i + 1)) (h : at0 a i < at0 a (i + 1)) (hcd : c ≤ d) : heightI a z c i ≤ heightI a z d i := by
  unfold heightI
  refine upI_mono (by omega) ?_
  have q : 0 ≤ (at0 z (i + 1) - at0 z i) * (d - c) := Int.mul_nonneg (by omega) (by omega)
  simp only [Int.sub_mul, Int.mul_sub] at q ⊢
  omega
theorem monole_of {z : List Int} {n : Nat} (h : ∀ k, k < n → at0 z k ≤ at0 z (k + 1)) : ∀ {j k : Nat}, j ≤ k → k ≤ n → at0 z j ≤ at0 z k := by
  intro j k hjk
  induction k with
  | zero =>
            intro _; have : j = 0 := by omega
            subst this; omega
  | succ k ih =>
    intro hk
    by_cases e : j = k + 1
    · subst e; omega
    · have := ih (by omega) (by omega); have := h k (by omega); omega
/-- A line that rises gives no less for more. -/
theorem look_rises {a z : List Int} (p : Places a) (h : ∀ k, k < a.length - 1 → at0 z k ≤ at0 z (k + 1)) {x y : Int} (hxy : x ≤ y) : lookI a z x ≤ lookI a z y := by
  have bx := clipE_bd p x
  have b' := clipE_bd p y
  have m := clipE_mono p hxy
  have sx := standI_stands p bx.1 bx.2
  have sy := standI_stands p b'.1 b'.2
  rw [look_stands p sx, look_stands p sy]
  generalize standI a (clipE a x) = i at sx ⊢
  generalize standI a (clipE a y) = j at sy ⊢
  rcases Nat.lt_trichotomy i j with q | q | q
  · have u1 := height_rises (a := a) (z := z) (c := clipE a x) (d := at0 a (i + 1)) (h i (by have := sx.lt; omega)) (p.up i sx.lt) sx.left
    have u2 := height_rises (a := a) (z := z) (c := at0 a j) (d := clipE a y) (h j (by have := sy.lt; omega)) (p.up j sy.lt) sy.past
    rw [height_right (p.up i sx.lt)] at u1
    rw [height_left (p.up j sy.lt)] at u2
    have u3 := monole_of h (show i + 1 ≤ j by omega) (by have := sy.lt; omega)
    omega
  · subst q; exact height_rises (h i (by have := sx.lt; omega)) (p.up i sx.lt) m
  · have := sx.past
    have := p.monole (show j + 1 ≤ i by omega) (by have := sx.lt; omega)
    have e1 : clipE a x = clipE a y := by have := sy.left; omega
    have := (e1 ▸ sx).unique p sy
    omega

/-- The span of a line over a span: the ends, and the points within, up to the n-th. -/
def overLo (a z : List Int) (lo hi : Int) : Nat → Int
  | 0 => min (lookI a z lo) (lookI a z hi)
  | n + 1 => if decide (lo ≤ at0 a n) && decide (at0 a n ≤ hi) then min (overLo a z lo hi n) (at0 z n) else overLo a z lo hi n
def overHi (a z : List Int) (lo hi : Int) : Nat → Int
  | 0 => max (lookI a z lo) (lookI a z hi)
  | n + 1 => if decide (lo ≤ at0 a n) && decide (at0 a n ≤ hi) then max (overHi a z lo hi n) (at0 z n) else overHi a z lo hi n
theorem over_le (a z : List Int) (lo hi : Int) : ∀ n, overLo a z lo hi n ≤ min (lookI a z lo) (lookI a z hi) ∧ max (lookI a z lo) (lookI a z hi) ≤ overHi a z lo hi n
  | 0 => ⟨Int.le_refl _, Int.le_refl _⟩
  | n + 1 => by
    have := over_le a z lo hi n
    simp only [overLo, overHi]
    split <;> omega

/-- Bounds, so that no sum goes over an int's end. -/
theorem mul_bdT {a b A B : Int} (ha : -A ≤ a) (ha' : a ≤ A) (hb : -B ≤ b) (hb' : b ≤ B) : -(A * B) ≤ a * b ∧ a * b ≤ A * B := by
  have h1 : 0 ≤ (A - a) * (B + b) := Int.mul_nonneg (by omega) (by omega)
  have h2 : 0 ≤ (A + a) * (B - b) := Int.mul_nonneg (by omega) (by omega)
  have h3 : 0 ≤ (A - a) * (B - b) := Int.mul_nonneg (by omega) (by omega)
  have h4 : 0 ≤ (A + a) * (B + b) := Int.mul_nonneg (by omega) (by omega)
  simp only [Int.sub_mul, Int.mul_sub, Int.add_mul, Int.mul_add] at h1 h2 h3 h4
  constructor <;> omega
theorem upI_bd {n d B : Int} (hd : 0 < d) (h1 : -B ≤ n) (h2 : n ≤ B) (hB : 0 ≤ B) : -B ≤ upI n d ∧ upI n d ≤ B := by
  have e : B ≤ B * d := by
    have : 0 ≤ B * (d - 1) := Int.mul_nonneg hB (by omega)
    rw [Int.mul_sub] at this; omega
  have u1 := upI_mono hd (show n ≤ B * d by omega)
  have u2 := upI_mono hd (show (-B) * d ≤ n by rw [Int.neg_mul]; omega)
  rw [upI_exact _ _ hd] at u1 u2
  exact ⟨u2, u1⟩

end Go.Proofs.Ythijegfacnjooaa.Plain
