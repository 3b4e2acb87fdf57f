/-
  Contracts of fulmarref.Bounds and guard.Clamp.
-/
import Derived.Test.YthijegfacnjooaaGuardG
namespace Go.Proofs.Ythijegfacnjooaa
open Go.RowKit Go.Sort Plain

theorem keepGBs {w u : World} {j : Nat} {v : Value} {L H N P M R : Int} (h : (u.cell? ⟨w.heap.size, 0, none⟩ = some (.int .i64 L) ∧ u.cell? ⟨w.heap.size, 1, none⟩ = some (.int .i64 H) ∧ u.cell? ⟨w.heap.size, 2, none⟩ = some (.int .i64 N) ∧ u.cell? ⟨w.heap.size, 3, none⟩ = some (.int .i64 P) ∧ u.cell? ⟨w.heap.size, 4, none⟩ = some (.int .i64 M) ∧ u.cell? ⟨w.heap.size, 5, none⟩ = some (.int .i64 R)) ∧ Below w.heap.size w u) : ((u.setCell ⟨w.heap.size + 1, j, none⟩ v).cell? ⟨w.heap.size, 0, none⟩ = some (.int .i64 L) ∧ (u.setCell ⟨w.heap.size + 1, j, none⟩ v).cell? ⟨w.heap.size, 1, none⟩ = some (.int .i64 H) ∧ (u.setCell ⟨w.heap.size + 1, j, none⟩ v).cell? ⟨w.heap.size, 2, none⟩ = some (.int .i64 N) ∧ (u.setCell ⟨w.heap.size + 1, j, none⟩ v).cell? ⟨w.heap.size, 3, none⟩ = some (.int .i64 P) ∧ (u.setCell ⟨w.heap.size + 1, j, none⟩ v).cell? ⟨w.heap.size, 4, none⟩ = some (.int .i64 M) ∧ (u.setCell ⟨w.heap.size + 1, j, none⟩ v).cell? ⟨w.heap.size, 5, none⟩ = some (.int .i64 R)) ∧ Below w.heap.size w (u.setCell ⟨w.heap.size + 1, j, none⟩ v) := by
  have hQ : w.heap.size + 1 ≠ w.heap.size := by omega
  exact ⟨⟨gset_other hQ h.1.1, gset_other hQ h.1.2.1, gset_other hQ h.1.2.2.1, gset_other hQ h.1.2.2.2.1, gset_other hQ h.1.2.2.2.2.1, gset_other hQ h.1.2.2.2.2.2⟩, h.2.setCell (by simp) _⟩

theorem GB.set2 {w w1 : World} {L H N P M R : Int} (h : GB w w1 L H N P M R) (a b : Int) : GB w (w1.alloc (.cells #[.int .i64 a, .int .i64 b] 93)) L H N P M R := h.later (abelow_alloc _ _)

set_option maxHeartbeats 2000000 in
theorem gClamp_err (L H N P M R x q wt : Int) (he : gmE L H N P M R q ≠ 0) (w : World) :
    Calls Try.prog 26 #[.agg #[.int .i64 L, .int .i64 H, .int .i64 N, .int .i64 P, .int .i64 M, .int .i64 R], .int .i64 x, .int .i64 q, .int .i64 wt] w fun e w' => e = .returned (.tuple #[.int .i64 0, .iface 26 (.int .i64 (gmE L H N P M R q))]) ∧ Below w.heap.size w w' := by
  have hc := gBounds_err L H N P M R x q he
  have HX := ahide (GB.new w L H N P M R)
  clear he
  generalize gmE L H N P M R q = y at *
  go_enter Try.func26, Try.ntmps26
  go_wp2_with (go_at_call 49; refine (hc _).mono ?_; rintro e w1 ⟨rfl, hb1⟩; have HX := ahide (HX.out.later hb1); obtain ⟨⟨q0, q1, q2, q3, q4, q5⟩, _⟩ := HX.out; clear hb1)
  go_ret2
  exact ⟨rfl, (HX.out.set2 _ _).2⟩

set_option maxHeartbeats 2000000 in
theorem gClamp_ok (L H N P M R x q wt : Int) (he : gmE L H N P M R q = 0) (w : World) :
    Calls Try.prog 26 #[.agg #[.int .i64 L, .int .i64 H, .int .i64 N, .int .i64 P, .int .i64 M, .int .i64 R], .int .i64 x, .int .i64 q, .int .i64 wt] w fun e w' => (∃ a b, e = .returned (.tuple #[.int .i64 (clipI wt (-a) b), .nilIface]) ∧ IsHi R P (-canHi M R q) (-canLo M R q) (clipI x (-2000000) 2000000 - N - L) a ∧ IsHi R P (canLo M R q) (canHi M R q) (H - N - clipI x (-2000000) 2000000) b) ∧ Below w.heap.size w w' := by
  have hc := gBounds_ok L H N P M R x q he
  have HX := ahide (GB.new w L H N P M R)
  clear he
  go_enter Try.func26, Try.ntmps26
  go_wp2_with (first
    | (go_at_call 49; refine (hc _).mono ?_; rintro e w1 ⟨⟨a, b, rfl, ha, hb⟩, hb1⟩; have HHA := ahide ha; have HHB := ahide hb; have HX := ahide (HX.out.later hb1); obtain ⟨⟨q0, q1, q2, q3, q4, q5⟩, _⟩ := HX.out; clear hb1 ha hb)
    | (go_at_call 44; refine (fixClip_any _ _ _ _).mono ?_; rintro e w' ⟨rfl, hq⟩; have hq := hq.symm; subst hq))
  go_ret2
  exact ⟨⟨a, b, rfl, HHA.out, HHB.out⟩, (HX.out.set2 _ _).2⟩

end Go.Proofs.Ythijegfacnjooaa
