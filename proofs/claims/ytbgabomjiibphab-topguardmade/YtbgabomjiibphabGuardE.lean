/-
  Contracts of fulmarref.highest and of the two that ask whether an axis stops within its envelope.
-/
import Derived.Test.YtbgabomjiibphabSearchL
namespace Go.Proofs.Ytbgabomjiibphab
open Go.RowKit Go.Sort Plain

/-- Nothing that was there has turned: draws, and new blocks behind. -/
def Gro (w u : World) : Prop := ∃ q os, u = grow (w.drewN q) os
theorem Gro.refl (w : World) : Gro w w := ⟨0, #[], by rw [grow_empty]; rfl⟩
theorem Gro.trans {w u v : World} (h : Gro w u) (k : Gro u v) : Gro w v := by
  obtain ⟨q, os, rfl⟩ := h
  obtain ⟨q', os', rfl⟩ := k
  refine ⟨q + q', os ++ os', ?_⟩
  rw [show (grow (w.drewN q) os).drewN q' = grow ((w.drewN q).drewN q') os from rfl, grow_grow]
  rw [show (w.drewN q).drewN q' = w.drewN (q + q') by simp [World.drewN, Nat.add_assoc]]
theorem Gro.alloc {w u : World} (h : Gro w u) (o : Obj) : Gro w (u.alloc o) := h.trans ⟨0, #[o], by rw [alloc_eq_grow]; rfl⟩
theorem Gro.drew {w u : World} (h : Gro w u) : Gro w u.drew := h.trans ⟨1, #[], by rw [grow_empty]; rfl⟩
theorem Gro.below {w u : World} (h : Gro w u) : Below w.heap.size w u := by
  obtain ⟨q, os, rfl⟩ := h
  exact below_grown_sl _ _ _ _ (Nat.le_refl _)

set_option maxHeartbeats 1000000 in
theorem refHighest_any (L H N P M R lo hi room : Int) (p0 : 0 ≤ P) (p1 : P ≤ 2000) (r0 : 1 ≤ R) (r1 : R ≤ 4000) (s0 : -4000 ≤ lo) (s1 : hi ≤ 4000) (hlh : lo ≤ hi) (w : World) :
    Calls Try.prog 50 #[.agg #[.int .i64 L, .int .i64 H, .int .i64 N, .int .i64 P, .int .i64 M, .int .i64 R], .int .i64 lo, .int .i64 hi, .int .i64 room] w fun e w' => (∃ h, e = .returned (.int .i64 h) ∧ IsHi R P lo hi room h) ∧ Below w.heap.size w w' := by
  have HX := ahide (GB.new w L H N P M R)
  go_enter Try.func50, Try.ntmps50
  go_wp2
  generalize w.alloc (.cells #[.int .i64 L, .int .i64 H, .int .i64 N, .int .i64 P, .int .i64 M, .int .i64 R] 24) = w1 at *
  go_loopw [2] (fun u wr => ∃ h : Int, u = .int .i64 h ∧ lo ≤ h ∧ h ≤ hi ∧ Hid (∀ s, h < s → s ≤ hi → room < bk R (s + P)) ∧ GB w wr L H N P M R) (fun u _ => (intOf u + 4000).toNat)
  case atStart => exact ⟨hi, rfl, hlh, Int.le_refl _, ahide (fun s h1 h2 => by omega), HX.out⟩
  case round =>
    clear HX
    obtain ⟨h, rfl, h0, h1, hs, hX⟩ := hrel
    rename World => wr
    have HX := ahide hX
    obtain ⟨⟨q0, q1, q2, q3, q4, q5⟩, _⟩ := hX
    have hbr := fun w => (refBrake_ex L H N P M R h p0 p1 r0 r1 (by omega) (by omega) w).mono (fun e w' h => (⟨h.1, by rw [h.2]; exact abelow_alloc _ _⟩ : e = _ ∧ Below w.heap.size w w'))
    by_cases c1 : lo < h
    · by_cases c2 : room < bk R (h + P)
      · have hs' : Hid (∀ s, h - 1 < s → s ≤ hi → room < bk R (s + P)) := by
          apply ahide
          intro s a b
          by_cases e : s = h
          · rw [e]; exact c2
          · exact hs.out s (by omega) b
        generalize bk R (h + P) = k at *
        go_wp2_with (go_at_call 33; refine (hbr _).mono ?_; rintro e w2 ⟨rfl, hb2⟩)
        go_roundw
        case rel => exact ⟨h - 1, rfl, by omega, by omega, hs', HX.out.later hb2⟩
        case measure => simp [intOf]; omega
      · have hh : Hid (IsHi R P lo hi room h) := ahide ⟨h0, h1, Or.inr (by omega), hs.out⟩
        generalize bk R (h + P) = k at *
        go_wp2_with (go_at_call 33; refine (hbr _).mono ?_; rintro e w2 ⟨rfl, hb2⟩)
        go_ret
        exact ⟨⟨_, rfl, hh.out⟩, (HX.out.later hb2).2⟩
    · have hh : Hid (IsHi R P lo hi room h) := ahide ⟨h0, h1, Or.inl (by omega), hs.out⟩
      go_wp2_with fail
      go_ret
      exact ⟨⟨_, rfl, hh.out⟩, HX.out.2⟩

theorem keepG7 {w u u' : World} {L H N P M R x : Int} (hb : Gro u u') (h : (u.cell? ⟨w.heap.size, 0, none⟩ = some (.int .i64 L) ∧ u.cell? ⟨w.heap.size, 1, none⟩ = some (.int .i64 H) ∧ u.cell? ⟨w.heap.size, 2, none⟩ = some (.int .i64 N) ∧ u.cell? ⟨w.heap.size, 3, none⟩ = some (.int .i64 P) ∧ u.cell? ⟨w.heap.size, 4, none⟩ = some (.int .i64 M) ∧ u.cell? ⟨w.heap.size, 5, none⟩ = some (.int .i64 R) ∧ u.cell? ⟨w.heap.size, 6, none⟩ = some (.int .i64 x)) ∧ Gro w u) : (u'.cell? ⟨w.heap.size, 0, none⟩ = some (.int .i64 L) ∧ u'.cell? ⟨w.heap.size, 1, none⟩ = some (.int .i64 H) ∧ u'.cell? ⟨w.heap.size, 2, none⟩ = some (.int .i64 N) ∧ u'.cell? ⟨w.heap.size, 3, none⟩ = some (.int .i64 P) ∧ u'.cell? ⟨w.heap.size, 4, none⟩ = some (.int .i64 M) ∧ u'.cell? ⟨w.heap.size, 5, none⟩ = some (.int .i64 R) ∧ u'.cell? ⟨w.heap.size, 6, none⟩ = some (.int .i64 x)) ∧ Gro w u' :=
  ⟨⟨gcell_later hb.below h.1.1, gcell_later hb.below h.1.2.1, gcell_later hb.below h.1.2.2.1, gcell_later hb.below h.1.2.2.2.1, gcell_later hb.below h.1.2.2.2.2.1, gcell_later hb.below h.1.2.2.2.2.2.1, gcell_later hb.below h.1.2.2.2.2.2.2⟩, h.2.trans hb⟩
theorem newG7 (w : World) (L H N P M R x : Int) (t : TypeId) : (fun u => (u.cell? ⟨w.heap.size, 0, none⟩ = some (.int .i64 L) ∧ u.cell? ⟨w.heap.size, 1, none⟩ = some (.int .i64 H) ∧ u.cell? ⟨w.heap.size, 2, none⟩ = some (.int .i64 N) ∧ u.cell? ⟨w.heap.size, 3, none⟩ = some (.int .i64 P) ∧ u.cell? ⟨w.heap.size, 4, none⟩ = some (.int .i64 M) ∧ u.cell? ⟨w.heap.size, 5, none⟩ = some (.int .i64 R) ∧ u.cell? ⟨w.heap.size, 6, none⟩ = some (.int .i64 x)) ∧ Gro w u) (w.alloc (.cells #[.int .i64 L, .int .i64 H, .int .i64 N, .int .i64 P, .int .i64 M, .int .i64 R, .int .i64 x] t)) := by
  refine ⟨⟨?_, ?_, ?_, ?_, ?_, ?_, ?_⟩, (Gro.refl w).alloc _⟩ <;> simp [go_sem]

set_option maxHeartbeats 1000000 in
theorem stopsHi_any (L H N P M R x : Int) (g : GR L H N P M R) (x0 : -2000000 ≤ x) (x1 : x ≤ 2000000) (s : Int) (s0 : -4000 ≤ s) (s1 : s ≤ 4000) (w : World) :
    Calls Try.prog 53 #[.agg #[.int .i64 L, .int .i64 H, .int .i64 N, .int .i64 P, .int .i64 M, .int .i64 R, .int .i64 x], .int .i64 s] w fun e w' => e = .returned (.bool (decide (bk R (s + P) ≤ H - N - x))) ∧ Gro w w' := by
  obtain ⟨l0, l1, h0, h1, n0, n1, p0, p1, m0, m1, r0, r1⟩ := g
  have hbr := fun w => (brake_ex L H N P M R s p0 p1 r0 (by omega) s0 s1 w).mono (fun e w' h => (⟨h.1, by rw [h.2]; exact (Gro.refl _).alloc _⟩ : e = _ ∧ Gro w w'))
  have hk := bk_lt (R := R) (f := s + P) (by omega) (by omega)
  have hk0 := bk_nonneg R (s + P)
  generalize bk R (s + P) = k at *
  have v1 : IntKind.i64.wrap (x + N) = x + N := gwrap_id (by omega) (by omega)
  have v2 : IntKind.i64.wrap (x + N + k) = x + N + k := gwrap_id (by omega) (by omega)

  have HD : Hid (decide (x + N + k ≤ H) = decide (k ≤ H - N - x)) := ahide (decide_eq_decide.mpr (by omega))
  have HX := ahide (newG7 w L H N P M R x 105)
  go_enter Try.func53, Try.ntmps53
  go_upto_region 1 with fail
  generalize w.alloc (.cells #[.int .i64 L, .int .i64 H, .int .i64 N, .int .i64 P, .int .i64 M, .int .i64 R, .int .i64 x] 105) = w1 at *
  have S0 : (w1.cell? ⟨w.heap.size, 0, none⟩ = some (.int .i64 L) ∧ w1.cell? ⟨w.heap.size, 1, none⟩ = some (.int .i64 H) ∧ w1.cell? ⟨w.heap.size, 2, none⟩ = some (.int .i64 N) ∧ w1.cell? ⟨w.heap.size, 3, none⟩ = some (.int .i64 P) ∧ w1.cell? ⟨w.heap.size, 4, none⟩ = some (.int .i64 M) ∧ w1.cell? ⟨w.heap.size, 5, none⟩ = some (.int .i64 R) ∧ w1.cell? ⟨w.heap.size, 6, none⟩ = some (.int .i64 x)) ∧ Gro w w1 := HX.out
  have Z := ahide S0
  obtain ⟨⟨q0, q1, q2, q3, q4, q5, q6⟩, _⟩ := HX.out
  go_region_held3 (fun u => (u.cell? ⟨w.heap.size, 0, none⟩ = some (.int .i64 L) ∧ u.cell? ⟨w.heap.size, 1, none⟩ = some (.int .i64 H) ∧ u.cell? ⟨w.heap.size, 2, none⟩ = some (.int .i64 N) ∧ u.cell? ⟨w.heap.size, 3, none⟩ = some (.int .i64 P) ∧ u.cell? ⟨w.heap.size, 4, none⟩ = some (.int .i64 M) ∧ u.cell? ⟨w.heap.size, 5, none⟩ = some (.int .i64 R) ∧ u.cell? ⟨w.heap.size, 6, none⟩ = some (.int .i64 x)) ∧ Gro w u)
    (first
      | (with_reducible assumption)
      | (with_reducible apply keepG7; with_reducible assumption; with_reducible assumption)
      | (refine keepG7 ?_ Z.out; exact (Gro.refl _).drew))
    (first
      | (go_at_call 47; refine (hbr _).mono ?_; rintro e w' ⟨rfl, hb⟩))
  all_goals
    rename_i hH
    have HB := ahide hH.2
    clear hH
    go_wp2_with fail
    go_ret
    exact ⟨by rw [← HD.out]; rfl, HB.out⟩

set_option maxHeartbeats 1000000 in
theorem stopsLo_any (L H N P M R x : Int) (g : GR L H N P M R) (x0 : -2000000 ≤ x) (x1 : x ≤ 2000000) (s : Int) (s0 : -4000 ≤ s) (s1 : s ≤ 4000) (w : World) :
    Calls Try.prog 52 #[.agg #[.int .i64 L, .int .i64 H, .int .i64 N, .int .i64 P, .int .i64 M, .int .i64 R, .int .i64 x], .int .i64 s] w fun e w' => e = .returned (.bool (decide (bk R (s + P) ≤ x - N - L))) ∧ Gro w w' := by
  obtain ⟨l0, l1, h0, h1, n0, n1, p0, p1, m0, m1, r0, r1⟩ := g
  have hbr := fun w => (brake_ex L H N P M R s p0 p1 r0 (by omega) s0 s1 w).mono (fun e w' h => (⟨h.1, by rw [h.2]; exact (Gro.refl _).alloc _⟩ : e = _ ∧ Gro w w'))
  have hk := bk_lt (R := R) (f := s + P) (by omega) (by omega)
  have hk0 := bk_nonneg R (s + P)
  generalize bk R (s + P) = k at *
  have v1 : IntKind.i64.wrap (x - N) = x - N := gwrap_id (by omega) (by omega)
  have v2 : IntKind.i64.wrap (x - N - k) = x - N - k := gwrap_id (by omega) (by omega)

  have HD : Hid (decide (L ≤ x - N - k) = decide (k ≤ x - N - L)) := ahide (decide_eq_decide.mpr (by omega))
  have HX := ahide (newG7 w L H N P M R x 105)
  go_enter Try.func52, Try.ntmps52
  go_upto_region 1 with fail
  generalize w.alloc (.cells #[.int .i64 L, .int .i64 H, .int .i64 N, .int .i64 P, .int .i64 M, .int .i64 R, .int .i64 x] 105) = w1 at *
  have S0 : (w1.cell? ⟨w.heap.size, 0, none⟩ = some (.int .i64 L) ∧ w1.cell? ⟨w.heap.size, 1, none⟩ = some (.int .i64 H) ∧ w1.cell? ⟨w.heap.size, 2, none⟩ = some (.int .i64 N) ∧ w1.cell? ⟨w.heap.size, 3, none⟩ = some (.int .i64 P) ∧ w1.cell? ⟨w.heap.size, 4, none⟩ = some (.int .i64 M) ∧ w1.cell? ⟨w.heap.size, 5, none⟩ = some (.int .i64 R) ∧ w1.cell? ⟨w.heap.size, 6, none⟩ = some (.int .i64 x)) ∧ Gro w w1 := HX.out
  have Z := ahide S0
  obtain ⟨⟨q0, q1, q2, q3, q4, q5, q6⟩, _⟩ := HX.out
  go_region_held3 (fun u => (u.cell? ⟨w.heap.size, 0, none⟩ = some (.int .i64 L) ∧ u.cell? ⟨w.heap.size, 1, none⟩ = some (.int .i64 H) ∧ u.cell? ⟨w.heap.size, 2, none⟩ = some (.int .i64 N) ∧ u.cell? ⟨w.heap.size, 3, none⟩ = some (.int .i64 P) ∧ u.cell? ⟨w.heap.size, 4, none⟩ = some (.int .i64 M) ∧ u.cell? ⟨w.heap.size, 5, none⟩ = some (.int .i64 R) ∧ u.cell? ⟨w.heap.size, 6, none⟩ = some (.int .i64 x)) ∧ Gro w u)
    (first
      | (with_reducible assumption)
      | (with_reducible apply keepG7; with_reducible assumption; with_reducible assumption)
      | (refine keepG7 ?_ Z.out; exact (Gro.refl _).drew))
    (first
      | (go_at_call 47; refine (hbr _).mono ?_; rintro e w' ⟨rfl, hb⟩))
  all_goals
    rename_i hH
    have HB := ahide hH.2
    clear hH
    go_wp2_with fail
    go_ret
    exact ⟨by rw [← HD.out]; rfl, HB.out⟩

end Go.Proofs.Ytbgabomjiibphab
