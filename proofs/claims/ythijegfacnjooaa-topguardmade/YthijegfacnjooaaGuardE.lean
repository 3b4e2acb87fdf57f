/-
  Contracts of fulmarref.highest and of the two that ask whether an axis stops within its envelope.
-/
import Derived.Test.YthijegfacnjooaaSearchL
import Derived.Test.YthijegfacnjooaaGroA
namespace Go.Proofs.Ythijegfacnjooaa
open Go.RowKit Go.Sort Plain

theorem keepG7 {w u u' : World} {L H N P M R x : Int} (hb : Gro u u') (h : (u.cell? ⟨w.heap.size, 0, none⟩ = some (.int .i64 L) ∧ u.cell? ⟨w.heap.size, 1, none⟩ = some (.int .i64 H) ∧ u.cell? ⟨w.heap.size, 2, none⟩ = some (.int .i64 N) ∧ u.cell? ⟨w.heap.size, 3, none⟩ = some (.int .i64 P) ∧ u.cell? ⟨w.heap.size, 4, none⟩ = some (.int .i64 M) ∧ u.cell? ⟨w.heap.size, 5, none⟩ = some (.int .i64 R) ∧ u.cell? ⟨w.heap.size, 6, none⟩ = some (.int .i64 x)) ∧ Gro w u) : (u'.cell? ⟨w.heap.size, 0, none⟩ = some (.int .i64 L) ∧ u'.cell? ⟨w.heap.size, 1, none⟩ = some (.int .i64 H) ∧ u'.cell? ⟨w.heap.size, 2, none⟩ = some (.int .i64 N) ∧ u'.cell? ⟨w.heap.size, 3, none⟩ = some (.int .i64 P) ∧ u'.cell? ⟨w.heap.size, 4, none⟩ = some (.int .i64 M) ∧ u'.cell? ⟨w.heap.size, 5, none⟩ = some (.int .i64 R) ∧ u'.cell? ⟨w.heap.size, 6, none⟩ = some (.int .i64 x)) ∧ Gro w u' :=
  ⟨⟨gcell_later hb.below h.1.1, gcell_later hb.below h.1.2.1, gcell_later hb.below h.1.2.2.1, gcell_later hb.below h.1.2.2.2.1, gcell_later hb.below h.1.2.2.2.2.1, gcell_later hb.below h.1.2.2.2.2.2.1, gcell_later hb.below h.1.2.2.2.2.2.2⟩, h.2.trans hb⟩
theorem newG7 (w : World) (L H N P M R x : Int) (t : TypeId) : (fun u => (u.cell? ⟨w.heap.size, 0, none⟩ = some (.int .i64 L) ∧ u.cell? ⟨w.heap.size, 1, none⟩ = some (.int .i64 H) ∧ u.cell? ⟨w.heap.size, 2, none⟩ = some (.int .i64 N) ∧ u.cell? ⟨w.heap.size, 3, none⟩ = some (.int .i64 P) ∧ u.cell? ⟨w.heap.size, 4, none⟩ = some (.int .i64 M) ∧ u.cell? ⟨w.heap.size, 5, none⟩ = some (.int .i64 R) ∧ u.cell? ⟨w.heap.size, 6, none⟩ = some (.int .i64 x)) ∧ Gro w u) (w.alloc (.cells #[.int .i64 L, .int .i64 H, .int .i64 N, .int .i64 P, .int .i64 M, .int .i64 R, .int .i64 x] t)) := by
  refine ⟨⟨?_, ?_, ?_, ?_, ?_, ?_, ?_⟩, (Gro.refl w).alloc _⟩ <;> simp [go_sem]

set_option maxHeartbeats 1000000 in
theorem stopsHi_any (L H N P M R x : Int) (g : GR L H N P M R) (x0 : -2000000 ≤ x) (x1 : x ≤ 2000000) (s : Int) (s0 : -4000 ≤ s) (s1 : s ≤ 4000) (w : World) :
    Calls Try.prog 77 #[.agg #[.int .i64 L, .int .i64 H, .int .i64 N, .int .i64 P, .int .i64 M, .int .i64 R, .int .i64 x], .int .i64 s] w fun e w' => e = .returned (.bool (decide (bk R (s + P) ≤ H - N - x))) ∧ Gro w w' := by
  obtain ⟨l0, l1, h0, h1, n0, n1, p0, p1, m0, m1, r0, r1⟩ := g
  have hbr := fun w => (brake_ex L H N P M R s p0 p1 r0 (by omega) s0 s1 w).mono (fun e w' h => (⟨h.1, by rw [h.2]; exact (Gro.refl _).alloc _⟩ : e = _ ∧ Gro w w'))
  have hk := bk_lt (R := R) (f := s + P) (by omega) (by omega)
  have hk0 := bk_nonneg R (s + P)
  generalize bk R (s + P) = k at *
  have v1 : IntKind.i64.wrap (x + N) = x + N := gwrap_id (by omega) (by omega)
  have v2 : IntKind.i64.wrap (x + N + k) = x + N + k := gwrap_id (by omega) (by omega)

  have HD : Hid (decide (x + N + k ≤ H) = decide (k ≤ H - N - x)) := ahide (decide_eq_decide.mpr (by omega))
  have HX := ahide (newG7 w L H N P M R x 148)
  go_enter Try.func77, Try.ntmps77
  go_upto_region 1 with fail
  generalize w.alloc (.cells #[.int .i64 L, .int .i64 H, .int .i64 N, .int .i64 P, .int .i64 M, .int .i64 R, .int .i64 x] 148) = w1 at *
  have S0 : (w1.cell? ⟨w.heap.size, 0, none⟩ = some (.int .i64 L) ∧ w1.cell? ⟨w.heap.size, 1, none⟩ = some (.int .i64 H) ∧ w1.cell? ⟨w.heap.size, 2, none⟩ = some (.int .i64 N) ∧ w1.cell? ⟨w.heap.size, 3, none⟩ = some (.int .i64 P) ∧ w1.cell? ⟨w.heap.size, 4, none⟩ = some (.int .i64 M) ∧ w1.cell? ⟨w.heap.size, 5, none⟩ = some (.int .i64 R) ∧ w1.cell? ⟨w.heap.size, 6, none⟩ = some (.int .i64 x)) ∧ Gro w w1 := HX.out
  have Z := ahide S0
  obtain ⟨⟨q0, q1, q2, q3, q4, q5, q6⟩, _⟩ := HX.out
  go_region_held3 (fun u => (u.cell? ⟨w.heap.size, 0, none⟩ = some (.int .i64 L) ∧ u.cell? ⟨w.heap.size, 1, none⟩ = some (.int .i64 H) ∧ u.cell? ⟨w.heap.size, 2, none⟩ = some (.int .i64 N) ∧ u.cell? ⟨w.heap.size, 3, none⟩ = some (.int .i64 P) ∧ u.cell? ⟨w.heap.size, 4, none⟩ = some (.int .i64 M) ∧ u.cell? ⟨w.heap.size, 5, none⟩ = some (.int .i64 R) ∧ u.cell? ⟨w.heap.size, 6, none⟩ = some (.int .i64 x)) ∧ Gro w u)
    (first
      | (with_reducible assumption)
      | (with_reducible apply keepG7; with_reducible assumption; with_reducible assumption)
      | (refine keepG7 ?_ Z.out; exact (Gro.refl _).drew))
    (first
      | (go_at_call 51; refine (hbr _).mono ?_; rintro e w' ⟨rfl, hb⟩))
  all_goals
    rename_i hH
    have HB := ahide hH.2
    clear hH
    go_wp2_with fail
    go_ret
    exact ⟨by rw [← HD.out]; rfl, HB.out⟩

set_option maxHeartbeats 1000000 in
theorem stopsLo_any (L H N P M R x : Int) (g : GR L H N P M R) (x0 : -2000000 ≤ x) (x1 : x ≤ 2000000) (s : Int) (s0 : -4000 ≤ s) (s1 : s ≤ 4000) (w : World) :
    Calls Try.prog 76 #[.agg #[.int .i64 L, .int .i64 H, .int .i64 N, .int .i64 P, .int .i64 M, .int .i64 R, .int .i64 x], .int .i64 s] w fun e w' => e = .returned (.bool (decide (bk R (s + P) ≤ x - N - L))) ∧ Gro w w' := by
  obtain ⟨l0, l1, h0, h1, n0, n1, p0, p1, m0, m1, r0, r1⟩ := g
  have hbr := fun w => (brake_ex L H N P M R s p0 p1 r0 (by omega) s0 s1 w).mono (fun e w' h => (⟨h.1, by rw [h.2]; exact (Gro.refl _).alloc _⟩ : e = _ ∧ Gro w w'))
  have hk := bk_lt (R := R) (f := s + P) (by omega) (by omega)
  have hk0 := bk_nonneg R (s + P)
  generalize bk R (s + P) = k at *
  have v1 : IntKind.i64.wrap (x - N) = x - N := gwrap_id (by omega) (by omega)
  have v2 : IntKind.i64.wrap (x - N - k) = x - N - k := gwrap_id (by omega) (by omega)

  have HD : Hid (decide (L ≤ x - N - k) = decide (k ≤ x - N - L)) := ahide (decide_eq_decide.mpr (by omega))
  have HX := ahide (newG7 w L H N P M R x 148)
  go_enter Try.func76, Try.ntmps76
  go_upto_region 1 with fail
  generalize w.alloc (.cells #[.int .i64 L, .int .i64 H, .int .i64 N, .int .i64 P, .int .i64 M, .int .i64 R, .int .i64 x] 148) = w1 at *
  have S0 : (w1.cell? ⟨w.heap.size, 0, none⟩ = some (.int .i64 L) ∧ w1.cell? ⟨w.heap.size, 1, none⟩ = some (.int .i64 H) ∧ w1.cell? ⟨w.heap.size, 2, none⟩ = some (.int .i64 N) ∧ w1.cell? ⟨w.heap.size, 3, none⟩ = some (.int .i64 P) ∧ w1.cell? ⟨w.heap.size, 4, none⟩ = some (.int .i64 M) ∧ w1.cell? ⟨w.heap.size, 5, none⟩ = some (.int .i64 R) ∧ w1.cell? ⟨w.heap.size, 6, none⟩ = some (.int .i64 x)) ∧ Gro w w1 := HX.out
  have Z := ahide S0
  obtain ⟨⟨q0, q1, q2, q3, q4, q5, q6⟩, _⟩ := HX.out
  go_region_held3 (fun u => (u.cell? ⟨w.heap.size, 0, none⟩ = some (.int .i64 L) ∧ u.cell? ⟨w.heap.size, 1, none⟩ = some (.int .i64 H) ∧ u.cell? ⟨w.heap.size, 2, none⟩ = some (.int .i64 N) ∧ u.cell? ⟨w.heap.size, 3, none⟩ = some (.int .i64 P) ∧ u.cell? ⟨w.heap.size, 4, none⟩ = some (.int .i64 M) ∧ u.cell? ⟨w.heap.size, 5, none⟩ = some (.int .i64 R) ∧ u.cell? ⟨w.heap.size, 6, none⟩ = some (.int .i64 x)) ∧ Gro w u)
    (first
      | (with_reducible assumption)
      | (with_reducible apply keepG7; with_reducible assumption; with_reducible assumption)
      | (refine keepG7 ?_ Z.out; exact (Gro.refl _).drew))
    (first
      | (go_at_call 51; refine (hbr _).mono ?_; rintro e w' ⟨rfl, hb⟩))
  all_goals
    rename_i hH
    have HB := ahide hH.2
    clear hH
    go_wp2_with fail
    go_ret
    exact ⟨by rw [← HD.out]; rfl, HB.out⟩

end Go.Proofs.Ythijegfacnjooaa
