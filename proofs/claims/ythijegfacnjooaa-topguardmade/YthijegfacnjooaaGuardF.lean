/-
  Contracts of the closure by which the highest move is asked for, and of (guard.axis).highest.
-/
import Derived.Test.YthijegfacnjooaaGuardE
namespace Go.Proofs.Ythijegfacnjooaa
open Go.RowKit Go.Sort Plain

set_option maxHeartbeats 1000000 in
theorem asks_any (g A B C : Nat) (L H N P M R x lo : Int) (i : Nat) (b : Bool) (W : World) (lo0 : -4000 ≤ lo) (lo1 : lo + (i : Int) ≤ 4000)
    (eg : ∀ args w, (callFunc g args).run Try.prog w = .ok (.enter g args) w)
    (hg : ∀ w, Calls Try.prog g #[.agg #[.int .i64 L, .int .i64 H, .int .i64 N, .int .i64 P, .int .i64 M, .int .i64 R, .int .i64 x], .int .i64 (lo + (i : Int))] w fun e w' => e = .returned (.bool b) ∧ Gro w w')
    (hf : W.cell? ⟨A, 0, none⟩ = some (.func (.func g) #[] #[])) (ha : (W.cell? ⟨B, 0, none⟩ = some (.int .i64 L) ∧ W.cell? ⟨B, 1, none⟩ = some (.int .i64 H) ∧ W.cell? ⟨B, 2, none⟩ = some (.int .i64 N) ∧ W.cell? ⟨B, 3, none⟩ = some (.int .i64 P) ∧ W.cell? ⟨B, 4, none⟩ = some (.int .i64 M) ∧ W.cell? ⟨B, 5, none⟩ = some (.int .i64 R) ∧ W.cell? ⟨B, 6, none⟩ = some (.int .i64 x))) (hl : W.cell? ⟨C, 0, none⟩ = some (.int .i64 lo)) :
    Calls Try.prog 94 (#[.int .i64 (i : Int)] ++ #[.pointer (some ⟨A, 0, none⟩), .pointer (some ⟨B, 0, none⟩), .pointer (some ⟨C, 0, none⟩)]) W fun e w' => e = .returned (.bool (!b)) ∧ Gro W w' := by
  obtain ⟨a0, a1, a2, a3, a4, a5, a6⟩ := ha
  have hi : (0 : Int) ≤ (i : Int) := by omega
  go_enter Try.func94, Try.ntmps94
  go_wp2_with (go_at_fn g; refine (hg _).mono ?_; rintro e w' ⟨rfl, hb⟩)
  go_ret
  exact ⟨rfl, hb⟩

theorem run_maxG (ts : Array TypeId) (t : TypeId) (p q : Int) (w : World) : (Builtin.max_ ts t #[.int .i64 p, .int .i64 q]).run Try.prog w = .ok (.int .i64 (if p < q then q else p)) w := by
  by_cases h : p < q
  · simp [Builtin.max_, Builtin.max2, h]
  · simp [Builtin.max_, Builtin.max2, h]
theorem run_minG (ts : Array TypeId) (t : TypeId) (p q : Int) (w : World) : (Builtin.min_ ts t #[.int .i64 p, .int .i64 q]).run Try.prog w = .ok (.int .i64 (if q < p then q else p)) w := by
  by_cases h : q < p
  · simp [Builtin.min_, Builtin.min2, h]
  · simp [Builtin.min_, Builtin.min2, h]
theorem gnew1 (W : World) (v : Value) (t : TypeId) : (W.alloc (.cells #[v] t)).cell? ⟨W.heap.size, 0, none⟩ = some v := by simp [go_sem]

set_option maxHeartbeats 2000000 in
theorem highest_any (g : Nat) (L H N P M R x lo hi room : Int) (r0 : 1 ≤ R) (s0 : -4000 ≤ lo) (s1 : hi ≤ 4000) (hlh : lo ≤ hi)
    (eg : ∀ args w, (callFunc g args).run Try.prog w = .ok (.enter g args) w)
    (hg : ∀ s, -4000 ≤ s → s ≤ 4000 → ∀ w, Calls Try.prog g #[.agg #[.int .i64 L, .int .i64 H, .int .i64 N, .int .i64 P, .int .i64 M, .int .i64 R, .int .i64 x], .int .i64 s] w fun e w' => e = .returned (.bool (decide (bk R (s + P) ≤ room))) ∧ Gro w w') (w : World) :
    Calls Try.prog 75 #[.agg #[.int .i64 L, .int .i64 H, .int .i64 N, .int .i64 P, .int .i64 M, .int .i64 R, .int .i64 x], .int .i64 lo, .int .i64 hi, .func (.func g) #[] #[]] w fun e w' => (∃ h, e = .returned (.int .i64 h) ∧ IsHi R P lo hi room h) ∧ Below w.heap.size w w' := by
  obtain ⟨n, hn⟩ : ∃ n : Nat, (n : Int) = hi - lo + 1 := ⟨(hi - lo + 1).toNat, by omega⟩
  obtain ⟨W0, hW0⟩ : ∃ W0, W0 = ((w.alloc (.cells #[.int .i64 L, .int .i64 H, .int .i64 N, .int .i64 P, .int .i64 M, .int .i64 R, .int .i64 x] 148)).alloc (.cells #[.int .i64 lo] 3)).alloc (.cells #[.func (.func g) #[] #[]] 150) := ⟨_, rfl⟩
  have gro : Gro w W0 := by rw [hW0]; exact (((Gro.refl w).alloc _).alloc _).alloc _
  have sz : W0.heap.size = w.heap.size + 1 + 1 + 1 := by rw [hW0]; simp
  have ca : (W0.cell? ⟨w.heap.size, 0, none⟩ = some (.int .i64 L) ∧ W0.cell? ⟨w.heap.size, 1, none⟩ = some (.int .i64 H) ∧ W0.cell? ⟨w.heap.size, 2, none⟩ = some (.int .i64 N) ∧ W0.cell? ⟨w.heap.size, 3, none⟩ = some (.int .i64 P) ∧ W0.cell? ⟨w.heap.size, 4, none⟩ = some (.int .i64 M) ∧ W0.cell? ⟨w.heap.size, 5, none⟩ = some (.int .i64 R) ∧ W0.cell? ⟨w.heap.size, 6, none⟩ = some (.int .i64 x)) := by
    have := (keepG7 (((Gro.refl _).alloc (.cells #[.int .i64 lo] 3)).alloc (.cells #[.func (.func g) #[] #[]] 150)) (newG7 w L H N P M R x 148)).1
    rw [← hW0] at this; exact this
  have cl : W0.cell? ⟨w.heap.size + 1, 0, none⟩ = some (.int .i64 lo) := by
    have h := gnew1 (w.alloc (.cells #[.int .i64 L, .int .i64 H, .int .i64 N, .int .i64 P, .int .i64 M, .int .i64 R, .int .i64 x] 148)) (.int .i64 lo) 3
    rw [World.size_alloc] at h
    rw [hW0]; exact gcell_later (abelow_alloc _ _) h
  have cf : W0.cell? ⟨w.heap.size + 1 + 1, 0, none⟩ = some (.func (.func g) #[] #[]) := by
    have h := gnew1 ((w.alloc (.cells #[.int .i64 L, .int .i64 H, .int .i64 N, .int .i64 P, .int .i64 M, .int .i64 R, .int .i64 x] 148)).alloc (.cells #[.int .i64 lo] 3)) (.func (.func g) #[] #[]) 150
    rw [World.size_alloc, World.size_alloc] at h
    rw [hW0]; exact h
  have ec : ∀ args w, (callFunc 94 args).run Try.prog w = .ok (.enter 94 args) w := enters_of Try.func94 (by kernel_rfl) rfl
  have hS := search_any 94 #[.pointer (some ⟨w.heap.size + 1 + 1, 0, none⟩), .pointer (some ⟨w.heap.size, 0, none⟩), .pointer (some ⟨w.heap.size + 1, 0, none⟩)] n (fun i => !decide (bk R (lo + (i : Int) + P) ≤ room)) W0 ec (by omega)
    (fun m os i hi => by
      have k : Gro W0 (grow (W0.drewN m) os) := ⟨m, os, rfl⟩
      exact (asks_any g _ _ _ L H N P M R x lo i _ _ s0 (by omega) eg (hg _ (by omega) (by omega)) (gcell_later k.below cf) (keepG7 (w := w) k ⟨ca, gro⟩).1 (gcell_later k.below cl)))
    (fun a b hab hb h => by
      have m := bk_mono (R := R) (f := lo + (a : Int) + P) (g := lo + (b : Int) + P) (by omega) (by omega)
      simp at h ⊢; omega)
  have H0 : Hid (IsHi R P lo hi room (lo + (if ((List.range n).countP (fun i : Nat => decide (bk R (lo + (i : Int) + P) ≤ room)) : Int) - 1 ≤ 0 then 0 else ((List.range n).countP (fun i : Nat => decide (bk R (lo + (i : Int) + P) ≤ room)) : Int) - 1))) := ahide (isHi_count r0 (by omega) hlh)
  have hc : (List.range n).countP (fun i : Nat => decide (bk R (lo + (i : Int) + P) ≤ room)) ≤ n := by
    have := List.countP_le_length (p := fun i : Nat => decide (bk R (lo + (i : Int) + P) ≤ room)) (l := List.range n)
    simpa using this
  simp only [Bool.not_not] at hS
  generalize (List.range n).countP (fun i : Nat => decide (bk R (lo + (i : Int) + P) ≤ room)) = c at *
  rw [hn] at hS
  have x2 := fun ts t p q w => run_maxG ts t p q w
  have hcz : (0 : Int) ≤ (c : Int) := by omega
  have hcn : (c : Int) ≤ 8001 := by omega
  have HG := ahide gro.below
  have CL := ahide cl
  clear gro sz ca cl cf ec hg hc eg
  by_cases hc0 : (c : Int) - 1 < 0
  · have H1 : Hid (IsHi R P lo hi room lo) := by
      have := H0.out
      rw [if_pos (by omega), Int.add_zero] at this
      exact ahide this
    clear H0
    go_enter Try.func75, Try.ntmps75
    go_wp2_with (go_at_call 92; rw [← hW0]; refine hS.mono ?_; rintro e w' ⟨rfl, q, os, hq⟩; have HW : Hid (Gro W0 w') := ahide ⟨q, os, hq⟩; have q1 : w'.cell? ⟨w.heap.size + 1, 0, none⟩ = some (.int .i64 lo) := gcell_later HW.out.below CL.out; clear hq)
    go_ret
    exact ⟨⟨_, rfl, H1.out⟩, abelow_up HG.out HW.out.below⟩
  · have H1 : Hid (IsHi R P lo hi room (lo + ((c : Int) - 1))) := by
      have := H0.out
      by_cases e : (c : Int) - 1 ≤ 0
      · rw [if_pos e] at this
        rw [show (c : Int) - 1 = 0 by omega]
        exact ahide this
      · rw [if_neg e] at this
        exact ahide this
    clear H0
    go_enter Try.func75, Try.ntmps75
    go_wp2_with (go_at_call 92; rw [← hW0]; refine hS.mono ?_; rintro e w' ⟨rfl, q, os, hq⟩; have HW : Hid (Gro W0 w') := ahide ⟨q, os, hq⟩; have q1 : w'.cell? ⟨w.heap.size + 1, 0, none⟩ = some (.int .i64 lo) := gcell_later HW.out.below CL.out; clear hq)
    go_ret
    exact ⟨⟨_, rfl, H1.out⟩, abelow_up HG.out HW.out.below⟩

end Go.Proofs.Ythijegfacnjooaa
