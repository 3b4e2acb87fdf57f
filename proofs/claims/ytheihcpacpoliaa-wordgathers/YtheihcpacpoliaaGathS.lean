/-
  Contracts of cmp.Compare, cmp.Or, word.compare, slices.Collect and slices.SortedFunc at readings.
-/
import Derived.Test.YtheihcpacpoliaaSortF
import Derived.Test.YtheihcpacpoliaaGroA
import Derived.Test.YtheihcpacpoliaaLineA
import Derived.Deep.RegionHeld3
namespace Go.Proofs.Ytheihcpacpoliaa
open Go.RowKit Go.Sort Go.Shelf Plain

theorem compare_any (x y : Int) (w : World) : Calls Try.prog 47 #[.int .i64 x, .int .i64 y] w fun e w' => e = .returned (.int .i64 (cmpI x y)) ∧ w' = w := by
  unfold cmpI
  by_cases h1 : x < y
  · rw [if_pos h1]
    go_enter Try.func47, Try.ntmps47
    go_wp2_with (go_at_call 68; refine (nan_any _ _).mono ?_; rintro e w' ⟨rfl, rfl⟩)
    go_ret
    exact ⟨rfl, rfl⟩
  · rw [if_neg h1]
    by_cases h2 : y < x
    · rw [if_pos h2]
      go_enter Try.func47, Try.ntmps47
      go_wp2_with (go_at_call 68; refine (nan_any _ _).mono ?_; rintro e w' ⟨rfl, rfl⟩)
      go_ret
      exact ⟨rfl, rfl⟩
    · rw [if_neg h2]
      go_enter Try.func47, Try.ntmps47
      go_wp2_with (go_at_call 68; refine (nan_any _ _).mono ?_; rintro e w' ⟨rfl, rfl⟩)
      go_ret
      exact ⟨rfl, rfl⟩

theorem or_two (b : Nat) (x y : Int) (w : World) (c0 : w.cell? ⟨b, 0, none⟩ = some (.int .i64 x)) (c1 : w.cell? ⟨b, 1, none⟩ = some (.int .i64 y)) :
    Calls Try.prog 46 #[.slice (some ⟨b, 0, none⟩) 2 2] w fun e w' => e = .returned (.int .i64 (if x = 0 then y else x)) ∧ w' = w := by
  by_cases hx : x = 0
  · rw [if_pos hx]
    subst hx
    by_cases hy : y = 0
    · subst hy
      go_enter Try.func46, Try.ntmps46
      go_wp2
      refine wp_loop_rounds 3 ?_
      rw [rounds_succ]
      go_wp2
      rw [rounds_succ]
      go_wp2
      rw [rounds_succ]
      go_wp2
      go_ret
      exact ⟨rfl, rfl⟩
    · have hy' : (y != 0) = true := by simpa using hy
      go_enter Try.func46, Try.ntmps46
      go_wp2
      refine wp_loop_rounds 3 ?_
      rw [rounds_succ]
      go_wp2
      rw [rounds_succ]
      go_wp2
      go_ret
      exact ⟨rfl, rfl⟩
  · rw [if_neg hx]
    have hx' : (x != 0) = true := by simpa using hx
    go_enter Try.func46, Try.ntmps46
    go_wp2
    refine wp_loop_rounds 3 ?_
    rw [rounds_succ]
    go_wp2
    go_ret
    exact ⟨rfl, rfl⟩

theorem ghide {p : Prop} (h : p) : Hid p := h
theorem keepWC {w u u' : World} {x1 x2 y1 y2 : Int} (hb : Gro u u') (h : (u.cell? ⟨w.heap.size, 0, none⟩ = some (.int .i64 x1) ∧ u.cell? ⟨w.heap.size, 1, none⟩ = some (.int .i64 x2) ∧ u.cell? ⟨w.heap.size + 1, 0, none⟩ = some (.int .i64 y1) ∧ u.cell? ⟨w.heap.size + 1, 1, none⟩ = some (.int .i64 y2)) ∧ Gro w u) : (u'.cell? ⟨w.heap.size, 0, none⟩ = some (.int .i64 x1) ∧ u'.cell? ⟨w.heap.size, 1, none⟩ = some (.int .i64 x2) ∧ u'.cell? ⟨w.heap.size + 1, 0, none⟩ = some (.int .i64 y1) ∧ u'.cell? ⟨w.heap.size + 1, 1, none⟩ = some (.int .i64 y2)) ∧ Gro w u' :=
  ⟨⟨cell_later hb.below h.1.1, cell_later hb.below h.1.2.1, cell_later hb.below h.1.2.2.1, cell_later hb.below h.1.2.2.2⟩, h.2.trans hb⟩
set_option maxHeartbeats 2000000 in
theorem wcompare_any (x1 x2 x3 x4 y1 y2 y3 y4 : Int) (w : World) :
    Calls Try.prog 24 #[.agg #[.int .i64 x1, .int .i64 x2, .int .i64 x3, .int .i64 x4], .agg #[.int .i64 y1, .int .i64 y2, .int .i64 y3, .int .i64 y4]] w fun e w' => e = .returned (.int .i64 (if cmpI x1 y1 = 0 then cmpI x2 y2 else cmpI x1 y1)) ∧ Gro w w' := by
  have k1 := fun u => (compare_any x1 y1 u).mono (fun e w' h => (⟨h.1, by rw [h.2]; exact Gro.refl _⟩ : e = _ ∧ Gro u w'))
  have k2 := fun u => (compare_any x2 y2 u).mono (fun e w' h => (⟨h.1, by rw [h.2]; exact Gro.refl _⟩ : e = _ ∧ Gro u w'))
  generalize cmpI x1 y1 = c1 at *
  generalize cmpI x2 y2 = c2 at *
  have ko := fun b u h0 h1 => (or_two b c1 c2 u h0 h1).mono (fun e w' h => (⟨h.1, by rw [h.2]; exact Gro.refl _⟩ : e = _ ∧ Gro u w'))
  generalize (if c1 = 0 then c2 else c1) = z at *
  go_enter Try.func24, Try.ntmps24
  go_upto_region 1 with fail
  have Z : Hid ((((w.alloc (.cells #[.int .i64 x1, .int .i64 x2, .int .i64 x3, .int .i64 x4] 33)).alloc (.cells #[.int .i64 y1, .int .i64 y2, .int .i64 y3, .int .i64 y4] 33)).cell? ⟨w.heap.size, 0, none⟩ = some (.int .i64 x1) ∧ ((w.alloc (.cells #[.int .i64 x1, .int .i64 x2, .int .i64 x3, .int .i64 x4] 33)).alloc (.cells #[.int .i64 y1, .int .i64 y2, .int .i64 y3, .int .i64 y4] 33)).cell? ⟨w.heap.size, 1, none⟩ = some (.int .i64 x2) ∧ ((w.alloc (.cells #[.int .i64 x1, .int .i64 x2, .int .i64 x3, .int .i64 x4] 33)).alloc (.cells #[.int .i64 y1, .int .i64 y2, .int .i64 y3, .int .i64 y4] 33)).cell? ⟨w.heap.size + 1, 0, none⟩ = some (.int .i64 y1) ∧ ((w.alloc (.cells #[.int .i64 x1, .int .i64 x2, .int .i64 x3, .int .i64 x4] 33)).alloc (.cells #[.int .i64 y1, .int .i64 y2, .int .i64 y3, .int .i64 y4] 33)).cell? ⟨w.heap.size + 1, 1, none⟩ = some (.int .i64 y2)) ∧ Gro w ((w.alloc (.cells #[.int .i64 x1, .int .i64 x2, .int .i64 x3, .int .i64 x4] 33)).alloc (.cells #[.int .i64 y1, .int .i64 y2, .int .i64 y3, .int .i64 y4] 33))) := ghide ⟨⟨by simp [go_sem], by simp [go_sem], by simp [go_sem], by simp [go_sem]⟩, ((Gro.refl w).alloc _).alloc _⟩
  generalize (w.alloc (.cells #[.int .i64 x1, .int .i64 x2, .int .i64 x3, .int .i64 x4] 33)).alloc (.cells #[.int .i64 y1, .int .i64 y2, .int .i64 y3, .int .i64 y4] 33) = w1 at *
  obtain ⟨⟨q0, q1, q2, q3⟩, _⟩ := Z.out
  go_region_held3 (fun u => (u.cell? ⟨w.heap.size, 0, none⟩ = some (.int .i64 x1) ∧ u.cell? ⟨w.heap.size, 1, none⟩ = some (.int .i64 x2) ∧ u.cell? ⟨w.heap.size + 1, 0, none⟩ = some (.int .i64 y1) ∧ u.cell? ⟨w.heap.size + 1, 1, none⟩ = some (.int .i64 y2)) ∧ Gro w u)
    (first
      | (with_reducible assumption)
      | (with_reducible apply keepWC; with_reducible assumption; with_reducible assumption)
      | (refine keepWC ?_ Z.out; exact (Gro.refl _).drew)
      | (with_reducible refine keepWC ((Gro.refl _).alloc _) ?_; with_reducible assumption))
    (first
      | (go_at_call_of 47 (Value.int IntKind.i64 x1); refine (k1 _).mono ?_; rintro e w' ⟨rfl, hb⟩)
      | (go_at_call_of 47 (Value.int IntKind.i64 x2); refine (k2 _).mono ?_; rintro e w' ⟨rfl, hb⟩)
      | (go_at_call 46; refine (ko _ _ (by simp [go_sem]) (by simp [go_sem])).mono ?_; rintro e w' ⟨rfl, hb⟩))
  all_goals
    rename_i hH
    have HB := ghide hH.2
    clear hH
    go_wp2_with fail
    go_ret
    exact ⟨rfl, HB.out⟩

end Go.Proofs.Ytheihcpacpoliaa
