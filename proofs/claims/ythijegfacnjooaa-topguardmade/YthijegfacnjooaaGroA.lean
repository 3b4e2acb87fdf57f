/-
  Nothing that was there has turned: draws, and new blocks behind.
-/
import Derived.Test.YthijegfacnjooaaWalksA
import Derived.Shelf.SlSorted.Search
namespace Go.Proofs.Ythijegfacnjooaa
open Go.RowKit Go.Sort

/-- Nothing that was there has turned: draws, and new blocks behind. -/
def Gro (w u : World) : Prop := ∃ q os, u = grow (w.drewN q) os
theorem Gro.refl (w : World) : Gro w w := ⟨0, #[], by rw [grow_empty]; rfl⟩
theorem Gro.trans {w u v : World} (h : Gro w u) (k : Gro u v) : Gro w v := by
  obtain ⟨q, os, rfl⟩ := h
  obtain ⟨q', os', rfl⟩ := k
  refine ⟨q + q', os ++ os', ?_⟩
  rw [show (grow (w.drewN q) os).drewN q' = grow ((w.drewN q).drewN q') os from rfl, grow_grow]
  rw [show (w.drewN q).drewN q' = w.drewN (q + q') by simp [World.drewN, Nat.add_assoc]]
theorem Gro.alloc {w u : World} (h : Gro w u) (o : Obj) : Gro w (u.alloc o) := h.trans ⟨0, #[o], by rw [alloc_eq_grow]; rfl⟩
theorem Gro.drew {w u : World} (h : Gro w u) : Gro w u.drew := h.trans ⟨1, #[], by rw [grow_empty]; rfl⟩
theorem Gro.below {w u : World} (h : Gro w u) : Below w.heap.size w u := by
  obtain ⟨q, os, rfl⟩ := h
  exact below_grown_sl _ _ _ _ (Nat.le_refl _)

end Go.Proofs.Ythijegfacnjooaa
