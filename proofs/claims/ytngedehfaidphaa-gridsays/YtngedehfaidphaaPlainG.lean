/-
  Plain arithmetic for grids: what is wrong of one, its height over two numbers. No Go here.
-/
import Derived.Test.YtngedehfaidphaaPlainT
namespace Go.Proofs.Ytngedehfaidphaa.Plain

def rowZ (z : List (List Int)) (r : Nat) : List Int := z.getD r []
/-- What is wrong of a row; of the first row of which something is. -/
def rowI (n : Nat) (r : List Int) : Int := if r.length = n then worthI r else 3
def rowsI (n : Nat) : List (List Int) → Int
  | [] => 0
  | r :: l => if rowI n r = 0 then rowsI n l else rowI n r
theorem rows_step (n : Nat) (z : List (List Int)) (k : Nat) (h : k < z.length) : rowsI n (z.drop k) = if rowI n (rowZ z k) = 0 then rowsI n (z.drop (k + 1)) else rowI n (rowZ z k) := by
  have e : rowZ z k = z[k] := by rw [rowZ, List.getD_eq_getElem?_getD, List.getElem?_eq_getElem h]; rfl
  rw [List.drop_eq_getElem_cons h, e]; rfl
theorem rows_all (n : Nat) : ∀ (z : List (List Int)), rowsI n z = 0 → ∀ k, k < z.length → rowI n (rowZ z k) = 0
  | [], _, k, hk => by simp at hk
  | r :: l, h, k, hk => by
    simp only [rowsI] at h
    split at h
    · match k with
      | 0 => assumption
      | k + 1 => exact rows_all n l h k (by simpa using hk)
    · contradiction
theorem row_of {n : Nat} {r : List Int} (h : rowI n r = 0) : r.length = n ∧ worthI r = 0 := by
  unfold rowI at h; split at h
  · exact ⟨by assumption, h⟩
  · omega
/-- What is wrong of a grid, its rows aside; of the whole. -/
def edgesI (x y : List Int) (n : Nat) : Int := if risingI x = 0 then (if risingI y = 0 then (if n = x.length then 0 else 3) else risingI y) else risingI x
def gridI (x y : List Int) (z : List (List Int)) : Int := if edgesI x y z.length = 0 then rowsI y.length z else edgesI x y z.length
structure Gridded (x y : List Int) (z : List (List Int)) : Prop where
  px : Places x
  py : Places y
  len : z.length = x.length
  row : ∀ k, k < z.length → (rowZ z k).length = y.length ∧ worthI (rowZ z k) = 0
theorem edges_of {x y : List Int} {n : Nat} (h : edgesI x y n = 0) : Places x ∧ Places y ∧ n = x.length := by
  unfold edgesI at h
  split at h
  · split at h
    · split at h
      · exact ⟨places_of (by assumption), places_of (by assumption), by assumption⟩
      · omega
    · contradiction
  · contradiction
theorem grid_of {x y : List Int} {z : List (List Int)} (h : gridI x y z = 0) : Gridded x y z := by
  unfold gridI at h
  split at h
  · obtain ⟨a, b, c⟩ := edges_of (by assumption)
    exact ⟨a, b, c, fun k hk => row_of (rows_all _ z h k hk)⟩
  · contradiction

/-- c lies in the field from place i to the next. -/
structure Fits (l : List Int) (c : Int) (i : Nat) : Prop where
  lt : i + 1 < l.length
  past : at0 l i ≤ c
  left : c ≤ at0 l (i + 1)
theorem Stands.fits {l : List Int} {c : Int} {i : Nat} (h : Stands l c i) : Fits l c i := ⟨h.lt, h.past, h.left⟩
theorem Fits.near {l : List Int} {c : Int} (p : Places l) {i j : Nat} (a : Fits l c i) (b : Fits l c j) (h : i < j) : j = i + 1 ∧ c = at0 l j := by
  have h1 := p.monole (show i + 1 ≤ j by omega) (by have := b.lt; omega)
  have := a.left; have := b.past
  have e : c = at0 l j := by omega
  refine ⟨?_, e⟩
  rcases Nat.lt_or_ge (i + 1) j with q | q
  · have := p.mono q (by have := b.lt; omega); omega
  · omega

/-- A grid's height at c, d, in the field from i, j on. -/
def fieldI (f : Nat → Nat → Int) (x y : List Int) (c d : Int) (i j : Nat) : Int :=
  upI (f i j * (at0 x (i + 1) - c) * (at0 y (j + 1) - d) + f i (j + 1) * (at0 x (i + 1) - c) * (d - at0 y j) + f (i + 1) j * (c - at0 x i) * (at0 y (j + 1) - d) + f (i + 1) (j + 1) * (c - at0 x i) * (d - at0 y j))
    ((at0 x (i + 1) - at0 x i) * (at0 y (j + 1) - at0 y j))
theorem field_flip (f : Nat → Nat → Int) (x y : List Int) (c d : Int) (i j : Nat) : fieldI f x y c d i j = fieldI (fun a b => f b a) y x d c j i := by
  unfold fieldI
  have e : ∀ p q r : Int, p * q * r = p * r * q := fun p q r => by rw [Int.mul_assoc, Int.mul_comm q r, Int.mul_assoc]
  rw [e (f i j), e (f i (j + 1)), e (f (i + 1) j), e (f (i + 1) (j + 1)), Int.mul_comm (at0 x (i + 1) - at0 x i)]
  dsimp only; congr 1; omega
theorem field_next {x y : List Int} (f : Nat → Nat → Int) (px : Places x) (py : Places y) {d : Int} {i j : Nat} (hi : i + 2 < x.length) (hj : j + 1 < y.length) : fieldI f x y (at0 x (i + 1)) d i j = fieldI f x y (at0 x (i + 1)) d (i + 1) j := by
  have u0 := px.up i (by omega)
  have u1 := px.up (i + 1) (by omega)
  have v := py.up j hj
  unfold fieldI
  simp only [Int.sub_self, Int.mul_zero, Int.zero_mul, Int.zero_add, Int.add_zero]
  have s1 : ∀ W : Int, f (i + 1) j * W * (at0 y (j + 1) - d) + f (i + 1) (j + 1) * W * (d - at0 y j) = W * (f (i + 1) j * (at0 y (j + 1) - d) + f (i + 1) (j + 1) * (d - at0 y j)) := fun W => by
    rw [Int.mul_add, Int.mul_comm (f (i + 1) j) W, Int.mul_comm (f (i + 1) (j + 1)) W, Int.mul_assoc, Int.mul_assoc]
  rw [s1, s1, upI_scale _ _ _ (by omega) (by omega), upI_scale _ _ _ (by omega) (by omega)]
theorem field_alike {x y : List Int} (f : Nat → Nat → Int) (px : Places x) (py : Places y) {c d : Int} {i i' j : Nat} (a : Fits x c i) (b : Fits x c i') (hj : j + 1 < y.length) : fieldI f x y c d i j = fieldI f x y c d i' j := by
  rcases Nat.lt_trichotomy i i' with h | h | h
  · obtain ⟨e1, e2⟩ := a.near px b h
    subst e1; subst e2
    exact field_next f px py (by have := b.lt; omega) hj
  · subst h; rfl
  · obtain ⟨e1, e2⟩ := b.near px a h
    subst e1; subst e2
    exact (field_next f px py (by have := a.lt; omega) hj).symm
theorem field_same {x y : List Int} (f : Nat → Nat → Int) (px : Places x) (py : Places y) {c d : Int} {i i' j j' : Nat} (a : Fits x c i) (b : Fits x c i') (a' : Fits y d j) (b' : Fits y d j') : fieldI f x y c d i j = fieldI f x y c d i' j' := by
  rw [field_alike f px py a b a'.lt, field_flip, field_flip f x y c d i' j', field_alike _ py px a' b' b.lt]
/-- A grid's height over x, y. -/
def gridH (x y : List Int) (z : List (List Int)) (u v : Int) : Int := fieldI (fun i j => at0 (rowZ z i) j) x y (clipE x u) (clipE y v) (standI x (clipE x u)) (standI y (clipE y v))
theorem gridH_fits {x y : List Int} {z : List (List Int)} (px : Places x) (py : Places y) {u v : Int} {i j : Nat} (a : Fits x (clipE x u) i) (b : Fits y (clipE y v) j) : gridH x y z u v = fieldI (fun i j => at0 (rowZ z i) j) x y (clipE x u) (clipE y v) i j := by
  have b1 := clipE_bd px u
  have b2 := clipE_bd py v
  exact field_same _ px py (standI_stands px b1.1 b1.2).fits a (standI_stands py b2.1 b2.2).fits b

/-- Products stay small. -/
theorem term_bd {f p q : Int} (h1 : -1000000 ≤ f) (h2 : f ≤ 1000000) (hp : 0 ≤ p) (hp' : p ≤ 2000000) (hq : 0 ≤ q) : (-2000000000000 ≤ f * p ∧ f * p ≤ 2000000000000) ∧ -(1000000 * (p * q)) ≤ f * p * q ∧ f * p * q ≤ 1000000 * (p * q) := by
  have m := mul_bdT (a := f) (b := p) (A := 1000000) (B := 2000000) h1 h2 (by omega) hp'
  have pq : 0 ≤ p * q := Int.mul_nonneg hp hq
  have a1 : 0 ≤ (1000000 - f) * (p * q) := Int.mul_nonneg (by omega) pq
  have a2 : 0 ≤ (1000000 + f) * (p * q) := Int.mul_nonneg (by omega) pq
  rw [Int.sub_mul] at a1
  rw [Int.add_mul] at a2
  rw [Int.mul_assoc]
  omega
theorem area {l p m q : Int} (hl : 0 ≤ l) (hp : 0 ≤ p) (hm : 0 ≤ m) (hq : 0 ≤ q) (h1 : l + p ≤ 2000000) (h2 : m + q ≤ 2000000) : 0 ≤ l * m ∧ 0 ≤ l * q ∧ 0 ≤ p * m ∧ 0 ≤ p * q ∧ l * m + l * q + p * m + p * q ≤ 4000000000000 ∧ (p + l) * (q + m) = l * m + l * q + p * m + p * q := by
  have e : (p + l) * (q + m) = l * m + l * q + p * m + p * q := by simp only [Int.add_mul, Int.mul_add]; omega
  have b := mul_bdT (a := p + l) (b := q + m) (A := 2000000) (B := 2000000) (by omega) (by omega) (by omega) (by omega)
  exact ⟨Int.mul_nonneg hl hm, Int.mul_nonneg hl hq, Int.mul_nonneg hp hm, Int.mul_nonneg hp hq, by omega, e⟩
end Go.Proofs.Ytngedehfaidphaa.Plain
