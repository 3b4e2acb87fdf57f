/-
  What fulmarref.ServosFrom works on: the dice, the rule, the servos so far.
-/
import Derived.Test.YthijegfacnjooaaShareC
import Derived.Test.YthijegfacnjooaaAxisA
namespace Go.Proofs.Ythijegfacnjooaa
open Go.RowKit Plain

/-- Servos as cells, three each. -/
def flatS : List Sv → List Value
  | [] => []
  | s :: r => .int .i64 s.1 :: .int .i64 s.2.1 :: .bool s.2.2 :: flatS r
theorem flatS_len : ∀ ls : List Sv, (flatS ls).length = ls.length * 3
  | [] => rfl
  | s :: r => by simp [flatS, flatS_len r]; omega
theorem flatS_app : ∀ (ls : List Sv) (s : Sv), flatS (ls ++ [s]) = flatS ls ++ [.int .i64 s.1, .int .i64 s.2.1, .bool s.2.2]
  | [], s => rfl
  | t :: r, s => by simp [flatS, flatS_app r s]
theorem flatS_get : ∀ (ls : List Sv) (k : Nat), k < ls.length → (flatS ls)[k * 3]? = some (.int .i64 (svAt ls k).1) ∧ (flatS ls)[k * 3 + 1]? = some (.int .i64 (svAt ls k).2.1) ∧ (flatS ls)[k * 3 + 2]? = some (.bool (svAt ls k).2.2)
  | [], k, h => by simp at h
  | s :: r, 0, _ => ⟨rfl, rfl, rfl⟩
  | s :: r, k + 1, h => by
    have i := flatS_get r k (by simpa using h)
    have e : svAt (s :: r) (k + 1) = svAt r k := by simp [svAt]
    rw [e, show (k + 1) * 3 = k * 3 + 1 + 1 + 1 by omega]
    exact ⟨by simpa [flatS] using i.1, by rw [show k * 3 + 1 + 1 + 1 + 1 = (k * 3 + 1) + 1 + 1 + 1 by omega]; simpa [flatS] using i.2.1, by rw [show k * 3 + 1 + 1 + 1 + 2 = (k * 3 + 2) + 1 + 1 + 1 by omega]; simpa [flatS] using i.2.2⟩

theorem owns_at {w : World} {base : Nat} {e : TypeId} {size : Nat} {v : Value} {n : Nat} {xs : List Value} {g cap : Nat} (h : w.ownsRow base e size v n xs) (hv : v = .slice (some ⟨g, 0, none⟩) n cap) (j : Nat) (hj : j < n * size) : w.cell? ⟨g, j, none⟩ = xs[j]? := by
  rcases h.2 with ⟨h0, _⟩ | ⟨g', cap', cur, h1, _, h3, _, _, _, h7⟩
  · rw [h0] at hv; cases hv
  · rw [h1] at hv
    cases hv
    rw [cell_of_row w g j cur e (0, 0) h3, ← h7, List.getElem?_take, if_pos hj]
    simp
theorem vls_of_owns {w : World} {B : Nat} {a : Option Addr} {cap : Nat} {ls : List Sv} (h : w.ownsRow B 53 3 (.slice a ls.length cap) ls.length (flatS ls)) : VLs w a ls := by
  by_cases h0 : ls.length = 0
  · exact .inl (List.length_eq_zero_iff.mp h0)
  · right
    obtain ⟨g, c, hv, _, _⟩ := h.form (by omega)
    simp only [Value.slice.injEq] at hv
    obtain ⟨rfl, _, rfl⟩ := hv
    refine ⟨g, 0, rfl, fun k hk => ?_⟩
    have f := flatS_get ls k hk
    rw [Nat.zero_add]
    exact ⟨(owns_at h rfl (k * 3) (by omega)).trans f.1, (owns_at h rfl (k * 3 + 1) (by omega)).trans f.2.1, (owns_at h rfl (k * 3 + 2) (by omega)).trans f.2.2⟩
theorem owns_dk {w w' : World} {O base : Nat} {e : TypeId} {size : Nat} {v : Value} {n : Nat} {xs : List Value} (h : w.ownsRow base e size v n xs) (hk : DK O w w') (hO : O < base) : w'.ownsRow base e size v n xs := by
  refine ⟨h.1, ?_⟩
  rcases h.2 with h | ⟨g, cap, cur, h1, h2, h3, h4⟩
  · exact .inl h
  · refine .inr ⟨g, cap, cur, h1, h2, ?_, h4⟩
    rw [hk.block g ?_ (by omega)]
    · exact h3
    · rcases Nat.lt_or_ge g w.heap.size with h | h
      · exact h
      · rw [Array.getElem?_eq_none h] at h3; cases h3
theorem owns_set {w : World} {P j base : Nat} {x : Value} {e : TypeId} {size : Nat} {v : Value} {n : Nat} {xs : List Value} (h : w.ownsRow base e size v n xs) (hP : ∀ g, v.ownBlock = some g → g ≠ P) : (w.setCell ⟨P, j, none⟩ x).ownsRow base e size v n xs := by
  refine ⟨h.1, ?_⟩
  rcases h.2 with h | ⟨g, cap, cur, h1, h2, h3, h4⟩
  · exact .inl h
  · refine .inr ⟨g, cap, cur, h1, h2, ?_, h4⟩
    rw [Below.heap_setCell w ⟨P, j, none⟩ x g (by exact hP g (by rw [h1]; rfl))]
    exact h3

/-- All of it: the dice in O, the rule in its box, the servos so far. -/
def SVS (w0 w : World) (O : Nat) (a : Option Addr) (l : List Int) (cap n : Nat) (T R S C : Int) (v : Value) (ls : List Sv) : Prop :=
  Dc w O a l cap n ∧ B4 w w0.heap.size (.int .i64 T) (.int .i64 R) (.int .i64 S) (.int .i64 C) ∧ w.ownsRow (w0.heap.size + 1) 53 3 v ls.length (flatS ls) ∧ DK O w0 w ∧ (O < w0.heap.size ∧ RawAt a l w0.heap.size)
theorem SVS.dk {w0 w w' : World} {O : Nat} {a l cap n m T R S C v ls} (h : SVS w0 w O a l cap n T R S C v ls) (hD : Dc w' O a l cap m) (hk : DK O w w') : SVS w0 w' O a l cap m T R S C v ls := by
  obtain ⟨_, ⟨b0, b1, b2, b3⟩, h3, h4, h5, h6⟩ := h
  have hne : w0.heap.size ≠ O := by omega
  exact ⟨hD, ⟨hk.cell (p := ⟨w0.heap.size, 0, none⟩) hne b0, hk.cell (p := ⟨w0.heap.size, 1, none⟩) hne b1, hk.cell (p := ⟨w0.heap.size, 2, none⟩) hne b2, hk.cell (p := ⟨w0.heap.size, 3, none⟩) hne b3⟩, owns_dk h3 hk (by omega), h4.trans hk, h5, h6⟩
theorem SVS.later {w0 w w' : World} {O : Nat} {a l cap n T R S C v ls} (h : SVS w0 w O a l cap n T R S C v ls) (hb : Below w.heap.size w w') : SVS w0 w' O a l cap n T R S C v ls :=
  ⟨h.1.later hb, h.2.1.later hb, aowns_later h.2.2.1 hb, h.2.2.2.1.trans (DK.of_below hb), h.2.2.2.2⟩

end Go.Proofs.Ythijegfacnjooaa
