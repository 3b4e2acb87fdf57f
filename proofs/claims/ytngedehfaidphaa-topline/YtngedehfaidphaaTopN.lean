/-
  What the walks of the law TopLine keep.
-/
import Derived.Test.YtngedehfaidphaaTopL
namespace Go.Proofs.Ytngedehfaidphaa
open Go.RowKit Plain

/-- A line and its lists; nothing below has turned. -/
def RL (W : World) (B ba oa bz oz : Nat) (al zl : List Int) (u : World) : Prop := Line u ba oa bz oz al zl ∧ Below B W u ∧ ba < B ∧ bz < B
theorem keepRL {B ba oa ca bz oz cz : Nat} {W u u' : World} {al zl : List Int} (hb : Below u.heap.size u u')
    (h : (u.cell? ⟨B, 0, none⟩ = some (.slice (some ⟨ba, oa, none⟩) al.length ca) ∧ u.cell? ⟨B, 1, none⟩ = some (.slice (some ⟨bz, oz, none⟩) zl.length cz)) ∧ RL W B ba oa bz oz al zl u) :
    (u'.cell? ⟨B, 0, none⟩ = some (.slice (some ⟨ba, oa, none⟩) al.length ca) ∧ u'.cell? ⟨B, 1, none⟩ = some (.slice (some ⟨bz, oz, none⟩) zl.length cz)) ∧ RL W B ba oa bz oz al zl u' := by
  obtain ⟨⟨h1, h2⟩, h3, h4⟩ := h
  have hs := World.block_lt_of_cell? u ⟨B, 0, none⟩ h1
  exact ⟨⟨cell_later hb h1, cell_later hb h2⟩, h3.later hb, h4.1.trans (hb.mono (Nat.le_of_lt hs)), h4.2⟩
theorem keepSet {B ba oa ca bz oz cz n : Nat} {W u : World} {al zl : List Int} {v v' : Value}
    (h : (u.cell? ⟨B, 0, none⟩ = some (.slice (some ⟨ba, oa, none⟩) al.length ca) ∧ u.cell? ⟨B, 1, none⟩ = some (.slice (some ⟨bz, oz, none⟩) zl.length cz)) ∧ RL W B ba oa bz oz al zl u) (hn : B < n) :
    (((u.setCell ⟨n, 0, none⟩ v).setCell ⟨n, 1, none⟩ v').cell? ⟨B, 0, none⟩ = some (.slice (some ⟨ba, oa, none⟩) al.length ca) ∧ ((u.setCell ⟨n, 0, none⟩ v).setCell ⟨n, 1, none⟩ v').cell? ⟨B, 1, none⟩ = some (.slice (some ⟨bz, oz, none⟩) zl.length cz)) ∧ RL W B ba oa bz oz al zl ((u.setCell ⟨n, 0, none⟩ v).setCell ⟨n, 1, none⟩ v') := by
  obtain ⟨⟨h1, h2⟩, h3, h4, h5, h6⟩ := h
  have n1 : n ≠ B := by omega
  have n2 : n ≠ ba := by omega
  have n3 : n ≠ bz := by omega
  exact ⟨⟨cell_else (cell_else h1 n1) n1, cell_else (cell_else h2 n1) n1⟩, ⟨h3.may, fun k hk => cell_else (cell_else (h3.at' k hk) n2) n2, fun k hk => cell_else (cell_else (h3.is' k hk) n3) n3⟩,
    (h4.setCell (p := ⟨n, 0, none⟩) (Nat.le_of_lt hn) _).setCell (p := ⟨n, 1, none⟩) (Nat.le_of_lt hn) _, h5, h6⟩
theorem keepRLk {B ba oa ca bz oz cz k : Nat} {W u u' : World} {al zl : List Int} {ax : Int} (hb : Below u.heap.size u u')
    (h : (u.cell? ⟨B, 0, none⟩ = some (.slice (some ⟨ba, oa, none⟩) al.length ca) ∧ u.cell? ⟨B, 1, none⟩ = some (.slice (some ⟨bz, oz, none⟩) zl.length cz) ∧ u.cell? ⟨ba, oa + k, none⟩ = some (.int .i64 ax)) ∧ RL W B ba oa bz oz al zl u) :
    (u'.cell? ⟨B, 0, none⟩ = some (.slice (some ⟨ba, oa, none⟩) al.length ca) ∧ u'.cell? ⟨B, 1, none⟩ = some (.slice (some ⟨bz, oz, none⟩) zl.length cz) ∧ u'.cell? ⟨ba, oa + k, none⟩ = some (.int .i64 ax)) ∧ RL W B ba oa bz oz al zl u' := by
  obtain ⟨⟨h1, h2, h3⟩, h4⟩ := h
  obtain ⟨⟨k1, k2⟩, k3⟩ := keepRL hb ⟨⟨h1, h2⟩, h4⟩
  exact ⟨⟨k1, k2, cell_later hb h3⟩, k3⟩

theorem clipE_of {l : List Int} (p : Places l) (x : Int) : clipE l (ofI x) = clipE l x := by
  have w0 := worth_all p.worth 0 (by have := p.lo; omega)
  have w1 := worth_all p.worth (l.length - 1) (by have := p.lo; omega)
  have m := p.mono (show 0 < l.length - 1 by have := p.lo; omega) (by have := p.lo; omega)
  unfold clipE clipT ofI
  repeat' split
  all_goals omega
theorem look_of {a z : List Int} (p : Places a) (x : Int) : lookI a z (ofI x) = lookI a z x := by unfold lookI; rw [clipE_of p]
theorem mayB_of {x y : Int} (h : x ≤ y) : mayB (ofI x) (ofI y) = true := by
  have := ofI_mono h; have := ofI_lo x; have := ofI_hi y; simp [mayB]; omega

theorem fresh_later {u w' : World} {x y : Int} {T : TypeId} (hb : Below (u.alloc (.cells #[.int .i64 x, .int .i64 y] T)).heap.size (u.alloc (.cells #[.int .i64 x, .int .i64 y] T)) w') : Lies w' u.heap.size x y :=
  Lies.later ⟨by simp [go_sem], by simp [go_sem], by simp [go_sem], by simp [go_sem], by simp [go_sem]⟩ hb

theorem fresh_drew {u w' : World} {x y : Int} {T : TypeId} (hb : Below (u.alloc (.cells #[.int .i64 x, .int .i64 y] T)).drew.heap.size (u.alloc (.cells #[.int .i64 x, .int .i64 y] T)).drew w') : Lies w' u.heap.size x y :=
  Lies.later (w := (u.alloc (.cells #[.int .i64 x, .int .i64 y] T)).drew) ⟨by simp [go_sem], by simp [go_sem], by simp [go_sem], by simp [go_sem], by simp [go_sem]⟩ hb

end Go.Proofs.Ytngedehfaidphaa
