/-
  Contracts of fulmarref.LineMay and fulmarref.Look: each returns what the plain words say, and nothing that was there has turned.
-/
import Derived.Test.YthijegfacnjooaaLineF
namespace Go.Proofs.Ythijegfacnjooaa
open Go.RowKit Plain

/-- A line's box, its lists, and nothing below turned. -/
theorem keepL {B ca cz la lz : Nat} {W u u' : World} {a z : Option Addr} {al zl : List Int} (hb : Below u.heap.size u u')
    (h : (u.cell? ⟨B, 0, none⟩ = some (.slice a la ca) ∧ u.cell? ⟨B, 1, none⟩ = some (.slice z lz cz)) ∧ Lst u a al ∧ Lst u z zl ∧ Below B W u) :
    (u'.cell? ⟨B, 0, none⟩ = some (.slice a la ca) ∧ u'.cell? ⟨B, 1, none⟩ = some (.slice z lz cz)) ∧ Lst u' a al ∧ Lst u' z zl ∧ Below B W u' := by
  obtain ⟨⟨h1, h2⟩, h3, h4, h5⟩ := h
  have hs := World.block_lt_of_cell? u ⟨B, 0, none⟩ h1
  exact ⟨⟨cell_later hb h1, cell_later hb h2⟩, h3.later hb, h4.later hb, h5.trans (hb.mono (Nat.le_of_lt hs))⟩

theorem line_first (al zl : List Int) (x : Int) (hx : x = if ((al.length : Int) != (zl.length : Int)) = true then 3 else 0) : firstI [x, risingI al, worthI zl] = lineI al zl := by
  subst hx
  unfold lineI
  by_cases h : al.length = zl.length
  · have e : ((al.length : Int) != (zl.length : Int)) = false := by simp; omega
    rw [e, if_pos h]; simp only [firstI]; simp
    rcases worth_cases zl with q | q <;> simp [q]
  · have e : ((al.length : Int) != (zl.length : Int)) = true := by simp; omega
    rw [e, if_neg h]; rfl

theorem lineMay_any (a z : Option Addr) (ca cz : Nat) (al zl : List Int) (w : World) (hm : al.length ≤ 9223372036854775807) (hn : zl.length ≤ 9223372036854775807) (ha : Lst w a al) (hz : Lst w z zl) :
    Calls Try.prog 79 #[.agg #[.slice a al.length ca, .slice z zl.length cz]] w fun r w' => r = .returned (.int .i64 (lineI al zl)) ∧ Below w.heap.size w w' := by
  have hA := tbelow_alloc w (.cells #[.slice a al.length ca, .slice z zl.length cz] 63)
  have ST : Hid (∀ u, Below (w.alloc (.cells #[.slice a al.length ca, .slice z zl.length cz] 63)).heap.size (w.alloc (.cells #[.slice a al.length ca, .slice z zl.length cz] 63)) u →
      (u.cell? ⟨w.heap.size, 0, none⟩ = some (.slice a al.length ca) ∧ u.cell? ⟨w.heap.size, 1, none⟩ = some (.slice z zl.length cz)) ∧ Lst u a al ∧ Lst u z zl ∧ Below w.heap.size w u) := fun u hb =>
    keepL hb ⟨⟨by simp [go_sem], by simp [go_sem]⟩, ha.later hA, hz.later hA, hA⟩
  have hr : ∀ u, (u.cell? ⟨w.heap.size, 0, none⟩ = some (.slice a al.length ca) ∧ u.cell? ⟨w.heap.size, 1, none⟩ = some (.slice z zl.length cz)) ∧ Lst u a al ∧ Lst u z zl ∧ Below w.heap.size w u →
    Calls Try.prog 96 #[.slice a al.length ca] u fun r w' => r = .returned (.int .i64 (risingI al)) ∧ Below u.heap.size u w' := fun u h => rising_any a ca al u hm h.2.1
  have hw : ∀ u, (u.cell? ⟨w.heap.size, 0, none⟩ = some (.slice a al.length ca) ∧ u.cell? ⟨w.heap.size, 1, none⟩ = some (.slice z zl.length cz)) ∧ Lst u a al ∧ Lst u z zl ∧ Below w.heap.size w u →
    Calls Try.prog 97 #[.slice z zl.length cz] u fun r w' => r = .returned (.int .i64 (worthI zl)) ∧ w' = u := fun u h => worth_any z cz zl u hn h.2.2.1
  clear ha hz hA
  go_enter Try.func79, Try.ntmps79
  go_upto_region 1 with fail
  go_region_held3 (fun u => (u.cell? ⟨w.heap.size, 0, none⟩ = some (.slice a al.length ca) ∧ u.cell? ⟨w.heap.size, 1, none⟩ = some (.slice z zl.length cz)) ∧ Lst u a al ∧ Lst u z zl ∧ Below w.heap.size w u)
    (first
      | (with_reducible assumption)
      | (with_reducible refine keepL (tbelow_alloc _ _) ?_; with_reducible assumption)
      | (with_reducible apply keepL; with_reducible assumption; with_reducible assumption)
      | (refine ST.out _ ?_; exact (Below.refl _ _).drew))
    (first
      | (go_at_call 35; refine (when_named _ _ _).mono ?_; rintro e w' ⟨x, rfl, hx, rfl⟩)
      | (go_at_call 96; refine (hr _ ?_).mono ?_; (with_reducible assumption); rintro e w' ⟨rfl, hb⟩)
      | (go_at_call 97; refine (hw _ ?_).mono ?_; (with_reducible assumption); rintro e w' ⟨rfl, rfl⟩)
      | (go_at_call 52; refine (first_new3 _ _ _ _ _).mono ?_; rintro e w' ⟨rfl, rfl⟩))
  all_goals (
    rename_i hH
    have hBf := hH.2.2.2
    clear hH ST
    go_wp2
    go_ret
    exact ⟨by rw [line_first al zl _ hx.out]; rfl, hBf⟩)

end Go.Proofs.Ythijegfacnjooaa
