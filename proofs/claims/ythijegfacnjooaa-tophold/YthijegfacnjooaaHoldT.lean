/-
  Contracts of hold.Want, hold.Told and fulmarref.Told.
-/
import Derived.Test.YthijegfacnjooaaHoldX
namespace Go.Proofs.Ythijegfacnjooaa
open Go.RowKit Plain

theorem clipMove_ex (L H U B M : Int) (a z : Option Addr) (al zl ca cz : Nat) (x : Int) (m0 : 1 ≤ M) (m1 : M ≤ 4000) (w : World) :
    Calls Try.prog 85 #[.agg #[.int .i64 L, .int .i64 H, .int .i64 U, .int .i64 B, .int .i64 M, .slice a al ca, .slice z zl cz], .int .i64 x] w fun e w' => e = .returned (.int .i64 (clipI x (-M) M)) ∧ w' = w.alloc (.cells #[.int .i64 L, .int .i64 H, .int .i64 U, .int .i64 B, .int .i64 M, .slice a al ca, .slice z zl cz] 95) := by
  have c1 := fixClip_any x (-M) M
  generalize clipI x (-M) M = m at *
  go_enter Try.func85, Try.ntmps85
  go_wp2_with (go_at_call 44; refine (c1 _).mono ?_; rintro e w' ⟨rfl, hq⟩; have hq := hq.symm; subst hq)
  go_ret
  exact ⟨rfl, rfl⟩
set_option maxHeartbeats 1000000 in
theorem holdPull_ex (aim p g : Int) (a0 : -100000 ≤ aim) (a1 : aim ≤ 100000) (w : World) :
    Calls Try.prog 84 #[.int .i64 aim, .int .i64 p, .int .i64 g] w fun e w' => e = .returned (.int .i64 (pullI g aim p)) ∧ w' = w.drew := by
  have c1 := fixClip_any p (-2000000) 2000000
  have b1 := clipI_bd p (lo := -2000000) (hi := 2000000) (by omega)
  have c2 := fixClip_any (aim - clipI p (-2000000) 2000000) (-1000000) 1000000
  have c3 := fixMul_any g (clipI (aim - clipI p (-2000000) 2000000) (-1000000) 1000000)
  obtain ⟨b2, b3⟩ := b1
  unfold pullI
  generalize mulI g (clipI (aim - clipI p (-2000000) 2000000) (-1000000) 1000000) = m at *
  generalize clipI (aim - clipI p (-2000000) 2000000) (-1000000) 1000000 = y at *
  generalize clipI p (-2000000) 2000000 = x at *
  go_enter Try.func84, Try.ntmps84
  go_wp2_with (first
    | (go_at_call_of 44 (Value.int .i64 p); refine (c1 _).mono ?_; rintro e w' ⟨rfl, hq⟩; have hq := hq.symm; subst hq)
    | (go_at_call_of 44 (Value.int .i64 (aim - x)); refine (c2 _).mono ?_; rintro e w' ⟨rfl, hq⟩; have hq := hq.symm; subst hq)
    | (go_at_call 34; refine (c3 _).mono ?_; rintro e w' ⟨rfl, hq⟩; have hq := hq.symm; subst hq))
  go_ret
  exact ⟨rfl, rfl⟩
theorem keepSH {w u u' : World} {B M A k p v n q : Int} (hb : Below u.heap.size u u') (h : (u.cell? ⟨w.heap.size, 3, none⟩ = some (.int .i64 B) ∧ u.cell? ⟨w.heap.size, 4, none⟩ = some (.int .i64 M) ∧ u.cell? ⟨w.heap.size + 1, 0, none⟩ = some (.int .i64 A)) ∧ (u.cell? ⟨w.heap.size + 1 + 1, 0, none⟩ = some (.int .i64 k) ∧ u.cell? ⟨w.heap.size + 1 + 1, 1, none⟩ = some (.int .i64 p) ∧ u.cell? ⟨w.heap.size + 1 + 1, 2, none⟩ = some (.int .i64 v) ∧ u.cell? ⟨w.heap.size + 1 + 1, 3, none⟩ = some (.int .i64 n) ∧ u.cell? ⟨w.heap.size + 1 + 1, 4, none⟩ = some (.int .i64 q)) ∧ Below w.heap.size w u) : (u'.cell? ⟨w.heap.size, 3, none⟩ = some (.int .i64 B) ∧ u'.cell? ⟨w.heap.size, 4, none⟩ = some (.int .i64 M) ∧ u'.cell? ⟨w.heap.size + 1, 0, none⟩ = some (.int .i64 A)) ∧ (u'.cell? ⟨w.heap.size + 1 + 1, 0, none⟩ = some (.int .i64 k) ∧ u'.cell? ⟨w.heap.size + 1 + 1, 1, none⟩ = some (.int .i64 p) ∧ u'.cell? ⟨w.heap.size + 1 + 1, 2, none⟩ = some (.int .i64 v) ∧ u'.cell? ⟨w.heap.size + 1 + 1, 3, none⟩ = some (.int .i64 n) ∧ u'.cell? ⟨w.heap.size + 1 + 1, 4, none⟩ = some (.int .i64 q)) ∧ Below w.heap.size w u' :=
  ⟨⟨hcell_later hb h.1.1, hcell_later hb h.1.2.1, hcell_later hb h.1.2.2⟩, ⟨hcell_later hb h.2.1.1, hcell_later hb h.2.1.2.1, hcell_later hb h.2.1.2.2.1, hcell_later hb h.2.1.2.2.2.1, hcell_later hb h.2.1.2.2.2.2⟩, abelow_up h.2.2 hb⟩
theorem keepSHs {w u : World} {B M A k p v n q : Int} {x : Value} (h : (u.cell? ⟨w.heap.size, 3, none⟩ = some (.int .i64 B) ∧ u.cell? ⟨w.heap.size, 4, none⟩ = some (.int .i64 M) ∧ u.cell? ⟨w.heap.size + 1, 0, none⟩ = some (.int .i64 A)) ∧ (u.cell? ⟨w.heap.size + 1 + 1, 0, none⟩ = some (.int .i64 k) ∧ u.cell? ⟨w.heap.size + 1 + 1, 1, none⟩ = some (.int .i64 p) ∧ u.cell? ⟨w.heap.size + 1 + 1, 2, none⟩ = some (.int .i64 v) ∧ u.cell? ⟨w.heap.size + 1 + 1, 3, none⟩ = some (.int .i64 n) ∧ u.cell? ⟨w.heap.size + 1 + 1, 4, none⟩ = some (.int .i64 q)) ∧ Below w.heap.size w u) : ((u.setCell ⟨w.heap.size + 1, 1, none⟩ x).cell? ⟨w.heap.size, 3, none⟩ = some (.int .i64 B) ∧ (u.setCell ⟨w.heap.size + 1, 1, none⟩ x).cell? ⟨w.heap.size, 4, none⟩ = some (.int .i64 M) ∧ (u.setCell ⟨w.heap.size + 1, 1, none⟩ x).cell? ⟨w.heap.size + 1, 0, none⟩ = some (.int .i64 A)) ∧ ((u.setCell ⟨w.heap.size + 1, 1, none⟩ x).cell? ⟨w.heap.size + 1 + 1, 0, none⟩ = some (.int .i64 k) ∧ (u.setCell ⟨w.heap.size + 1, 1, none⟩ x).cell? ⟨w.heap.size + 1 + 1, 1, none⟩ = some (.int .i64 p) ∧ (u.setCell ⟨w.heap.size + 1, 1, none⟩ x).cell? ⟨w.heap.size + 1 + 1, 2, none⟩ = some (.int .i64 v) ∧ (u.setCell ⟨w.heap.size + 1, 1, none⟩ x).cell? ⟨w.heap.size + 1 + 1, 3, none⟩ = some (.int .i64 n) ∧ (u.setCell ⟨w.heap.size + 1, 1, none⟩ x).cell? ⟨w.heap.size + 1 + 1, 4, none⟩ = some (.int .i64 q)) ∧ Below w.heap.size w (u.setCell ⟨w.heap.size + 1, 1, none⟩ x) := by
  have n0 : w.heap.size + 1 ≠ w.heap.size := by omega
  have n2 : w.heap.size + 1 ≠ w.heap.size + 1 + 1 := by omega
  exact ⟨⟨hset_far n0 h.1.1, hset_far n0 h.1.2.1, hset_off (by decide) h.1.2.2⟩, ⟨hset_far n2 h.2.1.1, hset_far n2 h.2.1.2.1, hset_far n2 h.2.1.2.2.1, hset_far n2 h.2.1.2.2.2.1, hset_far n2 h.2.1.2.2.2.2⟩, h.2.2.setCell (by simp) _⟩
theorem keepSG {w u u' : World} {L H U B M : Int} {a z : Option Addr} {la lz ca cz : Nat} {A p : Int} (hb : Below u.heap.size u u') (h : (u.cell? ⟨w.heap.size, 0, none⟩ = some (.int .i64 L) ∧ u.cell? ⟨w.heap.size, 1, none⟩ = some (.int .i64 H) ∧ u.cell? ⟨w.heap.size, 2, none⟩ = some (.int .i64 U) ∧ u.cell? ⟨w.heap.size, 3, none⟩ = some (.int .i64 B) ∧ u.cell? ⟨w.heap.size, 4, none⟩ = some (.int .i64 M) ∧ u.cell? ⟨w.heap.size, 5, none⟩ = some (.slice a la ca) ∧ u.cell? ⟨w.heap.size, 6, none⟩ = some (.slice z lz cz)) ∧ (u.cell? ⟨w.heap.size + 1, 0, none⟩ = some (.int .i64 A) ∧ u.cell? ⟨w.heap.size + 1 + 1, 1, none⟩ = some (.int .i64 p)) ∧ Below w.heap.size w u) : (u'.cell? ⟨w.heap.size, 0, none⟩ = some (.int .i64 L) ∧ u'.cell? ⟨w.heap.size, 1, none⟩ = some (.int .i64 H) ∧ u'.cell? ⟨w.heap.size, 2, none⟩ = some (.int .i64 U) ∧ u'.cell? ⟨w.heap.size, 3, none⟩ = some (.int .i64 B) ∧ u'.cell? ⟨w.heap.size, 4, none⟩ = some (.int .i64 M) ∧ u'.cell? ⟨w.heap.size, 5, none⟩ = some (.slice a la ca) ∧ u'.cell? ⟨w.heap.size, 6, none⟩ = some (.slice z lz cz)) ∧ (u'.cell? ⟨w.heap.size + 1, 0, none⟩ = some (.int .i64 A) ∧ u'.cell? ⟨w.heap.size + 1 + 1, 1, none⟩ = some (.int .i64 p)) ∧ Below w.heap.size w u' :=
  ⟨⟨hcell_later hb h.1.1, hcell_later hb h.1.2.1, hcell_later hb h.1.2.2.1, hcell_later hb h.1.2.2.2.1, hcell_later hb h.1.2.2.2.2.1, hcell_later hb h.1.2.2.2.2.2.1, hcell_later hb h.1.2.2.2.2.2.2⟩, ⟨hcell_later hb h.2.1.1, hcell_later hb h.2.1.2⟩, abelow_up h.2.2 hb⟩
theorem keepSGs {w u : World} {L H U B M : Int} {a z : Option Addr} {la lz ca cz : Nat} {A p : Int} {x : Value} (h : (u.cell? ⟨w.heap.size, 0, none⟩ = some (.int .i64 L) ∧ u.cell? ⟨w.heap.size, 1, none⟩ = some (.int .i64 H) ∧ u.cell? ⟨w.heap.size, 2, none⟩ = some (.int .i64 U) ∧ u.cell? ⟨w.heap.size, 3, none⟩ = some (.int .i64 B) ∧ u.cell? ⟨w.heap.size, 4, none⟩ = some (.int .i64 M) ∧ u.cell? ⟨w.heap.size, 5, none⟩ = some (.slice a la ca) ∧ u.cell? ⟨w.heap.size, 6, none⟩ = some (.slice z lz cz)) ∧ (u.cell? ⟨w.heap.size + 1, 0, none⟩ = some (.int .i64 A) ∧ u.cell? ⟨w.heap.size + 1 + 1, 1, none⟩ = some (.int .i64 p)) ∧ Below w.heap.size w u) : ((u.setCell ⟨w.heap.size + 1, 1, none⟩ x).cell? ⟨w.heap.size, 0, none⟩ = some (.int .i64 L) ∧ (u.setCell ⟨w.heap.size + 1, 1, none⟩ x).cell? ⟨w.heap.size, 1, none⟩ = some (.int .i64 H) ∧ (u.setCell ⟨w.heap.size + 1, 1, none⟩ x).cell? ⟨w.heap.size, 2, none⟩ = some (.int .i64 U) ∧ (u.setCell ⟨w.heap.size + 1, 1, none⟩ x).cell? ⟨w.heap.size, 3, none⟩ = some (.int .i64 B) ∧ (u.setCell ⟨w.heap.size + 1, 1, none⟩ x).cell? ⟨w.heap.size, 4, none⟩ = some (.int .i64 M) ∧ (u.setCell ⟨w.heap.size + 1, 1, none⟩ x).cell? ⟨w.heap.size, 5, none⟩ = some (.slice a la ca) ∧ (u.setCell ⟨w.heap.size + 1, 1, none⟩ x).cell? ⟨w.heap.size, 6, none⟩ = some (.slice z lz cz)) ∧ ((u.setCell ⟨w.heap.size + 1, 1, none⟩ x).cell? ⟨w.heap.size + 1, 0, none⟩ = some (.int .i64 A) ∧ (u.setCell ⟨w.heap.size + 1, 1, none⟩ x).cell? ⟨w.heap.size + 1 + 1, 1, none⟩ = some (.int .i64 p)) ∧ Below w.heap.size w (u.setCell ⟨w.heap.size + 1, 1, none⟩ x) := by
  have n0 : w.heap.size + 1 ≠ w.heap.size := by omega
  have n2 : w.heap.size + 1 ≠ w.heap.size + 1 + 1 := by omega
  exact ⟨⟨hset_far n0 h.1.1, hset_far n0 h.1.2.1, hset_far n0 h.1.2.2.1, hset_far n0 h.1.2.2.2.1, hset_far n0 h.1.2.2.2.2.1, hset_far n0 h.1.2.2.2.2.2.1, hset_far n0 h.1.2.2.2.2.2.2⟩, ⟨hset_off (by decide) h.2.1.1, hset_far n2 h.2.1.2⟩, h.2.2.setCell (by simp) _⟩

end Go.Proofs.Ythijegfacnjooaa
