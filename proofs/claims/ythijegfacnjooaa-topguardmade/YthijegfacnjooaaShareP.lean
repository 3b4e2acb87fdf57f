/-
  How surfaces share, in plain words: what each takes at a level, the level, what is dealt.
-/
import Derived.Test.YthijegfacnjooaaActG
namespace Go.Proofs.Ythijegfacnjooaa
open Go.RowKit Plain

/-- A servo: where it is, how often it was bad, whether it is out. -/
abbrev Sv := Int × Int × Bool
def svD : Sv := (0, 0, false)
/-- The k-th of a list. -/
def svAt (l : List Sv) (k : Nat) : Sv := l.getD k svD
/-- What it takes at a level. -/
def tk (T R : Int) (s : Sv) (v : Int) : Int := clipI v (loR T R s.1 s.2.2) (hiR T R s.1 s.2.2)
/-- What the first k take. -/
def totU (T R : Int) (l : List Sv) (v : Int) : Nat → Int
  | 0 => 0
  | k + 1 => totU T R l v k + tk T R (svAt l k) v
def tot (T R : Int) (l : List Sv) (v : Int) : Int := totU T R l v l.length
/-- All may be. -/
def AllOk (T R S C : Int) (l : List Sv) : Prop := arB T R S C = true ∧ ∀ k, k < l.length → svB T C (svAt l k).1 (svAt l k).2.1 (svAt l k).2.2 = true
theorem AllOk.le {T R S C : Int} {l : List Sv} (h : AllOk T R S C l) {k : Nat} (hk : k < l.length) : loR T R (svAt l k).1 (svAt l k).2.2 ≤ hiR T R (svAt l k).1 (svAt l k).2.2 := lo_le_hi (svE_mk h.1 (h.2 k hk))
theorem reach_bd {T R S C i b : Int} {o : Bool} (hr : arB T R S C = true) (hs : svB T C i b o = true) : -1000 ≤ loR T R i o ∧ loR T R i o ≤ 1000 ∧ -1000 ≤ hiR T R i o ∧ hiR T R i o ≤ 1000 := by
  have a := arB_true hr
  have c := svB_true hs
  unfold loR hiR mxA mnA
  cases o
  · simp only [Bool.false_eq_true, if_false]; omega
  · simp
theorem clip_bd {v lo hi : Int} (h : lo ≤ hi) : lo ≤ clipI v lo hi ∧ clipI v lo hi ≤ hi := by
  unfold clipI; split
  · omega
  · split
    · omega
    · split <;> omega
theorem clip_mono {v u lo hi : Int} (h : v ≤ u) : clipI v lo hi ≤ clipI u lo hi := by
  unfold clipI; split <;> (try split) <;> (try split) <;> (try split) <;> (try split) <;> (try split) <;> omega
theorem tk_bd {T R S C : Int} {l : List Sv} (h : AllOk T R S C l) {k : Nat} (hk : k < l.length) (v : Int) : -1000 ≤ tk T R (svAt l k) v ∧ tk T R (svAt l k) v ≤ 1000 := by
  have a := clip_bd (v := v) (h.le hk)
  have c := reach_bd h.1 (h.2 k hk)
  unfold tk; omega
theorem tk_mono (T R : Int) (s : Sv) {v u : Int} (h : v ≤ u) : tk T R s v ≤ tk T R s u := clip_mono h
theorem totU_bd {T R S C : Int} {l : List Sv} (h : AllOk T R S C l) (v : Int) : ∀ k : Nat, k ≤ l.length → -1000 * (k : Int) ≤ totU T R l v k ∧ totU T R l v k ≤ 1000 * (k : Int)
  | 0, _ => by simp [totU]
  | k + 1, hk => by
    have a := totU_bd h v k (by omega)
    have c := tk_bd h (show k < l.length by omega) v
    simp only [totU]; omega
theorem totU_mono (T R : Int) (l : List Sv) {v u : Int} (h : v ≤ u) : ∀ k : Nat, totU T R l v k ≤ totU T R l u k
  | 0 => by simp [totU]
  | k + 1 => by have a := totU_mono T R l h k; have c := tk_mono T R (svAt l k) h; simp only [totU]; omega
theorem tot_mono (T R : Int) (l : List Sv) {v u : Int} (h : v ≤ u) : tot T R l v ≤ tot T R l u := totU_mono T R l h _
theorem tot_bd {T R S C : Int} {l : List Sv} (h : AllOk T R S C l) (hl : l.length ≤ 9) (v : Int) : -9000 ≤ tot T R l v ∧ tot T R l v ≤ 9000 := by
  have a := totU_bd h v l.length (Nat.le_refl _)
  unfold tot; omega

/-- The level at which a sum is dealt. -/
def IsLev (T R : Int) (l : List Sv) (s v : Int) : Prop := -T ≤ v ∧ v ≤ T ∧ tot T R l v ≤ s ∧ (v < T → s < tot T R l (v + 1))
theorem IsLev.unique {T R : Int} {l : List Sv} {s v u : Int} (h : IsLev T R l s v) (g : IsLev T R l s u) : v = u := by
  obtain ⟨h1, h2, h3, h4⟩ := h
  obtain ⟨g1, g2, g3, g4⟩ := g
  rcases Int.lt_trichotomy v u with h | h | h
  · have := h4 (by omega); have := tot_mono T R l (show v + 1 ≤ u by omega); omega
  · exact h
  · have := g4 (by omega); have := tot_mono T R l (show u + 1 ≤ v by omega); omega
theorem lev_down {T R : Int} {l : List Sv} {s : Int} (h0 : tot T R l (-T) ≤ s) : ∀ (n : Nat) (v : Int), v = -T + n → v ≤ T → (v < T → s < tot T R l (v + 1)) → ∃ u, IsLev T R l s u
  | 0, v, e, h1, h2 => ⟨v, by omega, h1, by rw [show v = -T by omega]; exact h0, h2⟩
  | n + 1, v, e, h1, h2 => by
    by_cases c : tot T R l v ≤ s
    · exact ⟨v, by omega, h1, c, h2⟩
    · exact lev_down h0 n (v - 1) (by omega) (by omega) (fun _ => by rw [show v - 1 + 1 = v by omega]; omega)
theorem lev_is {T R : Int} {l : List Sv} {s : Int} (hT : 0 ≤ T) (h0 : tot T R l (-T) ≤ s) : ∃ u, IsLev T R l s u :=
  lev_down h0 (2 * T).toNat T (by omega) (by omega) (fun h => by omega)

/-- What is left behind the first k, and what they are dealt. -/
def lfU (T R : Int) (l : List Sv) (v s : Int) : Nat → Int
  | 0 => s
  | k + 1 => if 0 < lfU T R l v s k ∧ tk T R (svAt l k) v < tk T R (svAt l k) (v + 1) then lfU T R l v s k - 1 else lfU T R l v s k
def dlI (T R : Int) (l : List Sv) (v s : Int) (k : Nat) : Int := if 0 < lfU T R l v s k ∧ tk T R (svAt l k) v < tk T R (svAt l k) (v + 1) then tk T R (svAt l k) v + 1 else tk T R (svAt l k) v
def dlU (T R : Int) (l : List Sv) (v s : Int) : Nat → List Int
  | 0 => []
  | k + 1 => dlU T R l v s k ++ [dlI T R l v s k]
theorem dlU_len (T R : Int) (l : List Sv) (v s : Int) : ∀ k : Nat, (dlU T R l v s k).length = k
  | 0 => rfl
  | k + 1 => by simp [dlU, dlU_len T R l v s k]
theorem lfU_bd (T R : Int) (l : List Sv) (v s : Int) : ∀ k : Nat, s - k ≤ lfU T R l v s k ∧ lfU T R l v s k ≤ s
  | 0 => by simp [lfU]
  | k + 1 => by have := lfU_bd T R l v s k; simp only [lfU]; split <;> omega

end Go.Proofs.Ythijegfacnjooaa
