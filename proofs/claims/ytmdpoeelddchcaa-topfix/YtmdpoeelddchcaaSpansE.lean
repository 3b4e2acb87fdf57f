/-
  The contracts of fix.both, fix.SpanAdd and fix.SpanMul.
-/
import Derived.Test.YtmdpoeelddchcaaSpansD
namespace Go.Proofs.Ytmdpoeelddchcaa
open Go.RowKit Plain

theorem below4 (w : World) (o1 o2 o3 o4 : Obj) : Below w.heap.size w ((((w.alloc o1).alloc o2).alloc o3).alloc o4) :=
  ((((Below.refl _ _).alloc (Nat.le_refl _) _).alloc (by simp) _).alloc (by simp; omega) _).alloc (by simp; omega) _

theorem both_no2 (a b c d : Int) (f : Nat) (h1 : mayB a b = true) (h2 : mayB c d = false) (w : World) : Calls Try.prog 34 #[.agg #[.int .i64 a, .int .i64 b], .agg #[.int .i64 c, .int .i64 d], .func (.func f) #[] #[]] w
    fun e w' => e = .returned (.tuple #[.agg #[.int .i64 0, .int .i64 0], .iface 26 (.int .i64 3)]) ∧ Below w.heap.size w w' := by
  have i0 := fun x0 x1 => idxB0 x0 x1
  have i1 := fun x0 x1 => idxB1 x0 x1
  go_enter Try.func34, Try.ntmps34
  go_wp2
  refine wp_loop_rounds 3 ?_
  rw [rounds_succ]
  go_wp2_with fail
  refine (check1_yes _ a b h1 _ ?hl).mono ?_
  case hl => exact ⟨by simp [go_sem], by simp [go_sem], by simp [go_sem], by simp [go_sem], by simp [go_sem]⟩
  rintro e w1 ⟨rfl, hb⟩
  have k : Lies w1 (w.heap.size + 1 + 1) 0 0 := by
    refine Lies.later ?_ hb
    exact ⟨by simp [go_sem], by simp [go_sem], by simp [go_sem], by simp [go_sem], by simp [go_sem]⟩
  have l : Lies w1 (w.heap.size + 1) c d := by
    refine Lies.later ?_ hb
    exact ⟨by simp [go_sem], by simp [go_sem], by simp [go_sem], by simp [go_sem], by simp [go_sem]⟩
  have hB : Below w.heap.size w w1 := (below4 _ _ _ _ _).trans (hb.mono (by simp [go_sem]; omega))
  clear hb
  go_wp2
  rw [rounds_succ]
  go_wp2_with fail
  refine (check2_no _ c d h2 _ l).mono ?_
  rintro e w2 ⟨rfl, hb⟩
  have k' := k.later hb
  clear k l
  obtain ⟨k1, k2, k3, k4, k5⟩ := k'
  have hB2 : Below w.heap.size w w2 := hB.trans (hb.mono hB.size)
  clear hb hB
  go_wp2
  exact bodyPost_ret (v := .tuple #[.agg #[.int .i64 0, .int .i64 0], .iface 26 (.int .i64 3)]) (by simp [results, Try.results34, go_sem, *]) rfl ⟨rfl, (hB2.setCell (by simp; omega) _).setCell (by simp; omega) _⟩

theorem both_yes (a b c d x y : Int) (f : Nat) (h1 : mayB a b = true) (h2 : mayB c d = true)
    (hc : ∀ w, Calls Try.prog 40 #[.agg #[.int .i64 a, .int .i64 b], .agg #[.int .i64 c, .int .i64 d], .func (.func f) #[] #[]] w fun e w' => e = .returned (.agg #[.int .i64 x, .int .i64 y]) ∧ Below w.heap.size w w') (w : World) :
    Calls Try.prog 34 #[.agg #[.int .i64 a, .int .i64 b], .agg #[.int .i64 c, .int .i64 d], .func (.func f) #[] #[]] w
      fun e w' => e = .returned (.tuple #[.agg #[.int .i64 x, .int .i64 y], .nilIface]) ∧ Below w.heap.size w w' := by
  have HC : Hid (∀ w, Calls Try.prog 40 #[.agg #[.int .i64 a, .int .i64 b], .agg #[.int .i64 c, .int .i64 d], .func (.func f) #[] #[]] w fun e w' => e = .returned (.agg #[.int .i64 x, .int .i64 y]) ∧ Below w.heap.size w w') := hc
  clear hc
  have i0 := fun x0 x1 => idxB0 x0 x1
  have i1 := fun x0 x1 => idxB1 x0 x1
  go_enter Try.func34, Try.ntmps34
  go_wp2
  refine wp_loop_rounds 3 ?_
  rw [rounds_succ]
  go_wp2_with fail
  refine (check1_yes _ a b h1 _ ?hl).mono ?_
  case hl => exact ⟨by simp [go_sem], by simp [go_sem], by simp [go_sem], by simp [go_sem], by simp [go_sem]⟩
  rintro e w1 ⟨rfl, hb⟩
  have k : Lies w1 (w.heap.size + 1 + 1) 0 0 := by
    refine Lies.later ?_ hb
    exact ⟨by simp [go_sem], by simp [go_sem], by simp [go_sem], by simp [go_sem], by simp [go_sem]⟩
  have l : Lies w1 (w.heap.size + 1) c d := by
    refine Lies.later ?_ hb
    exact ⟨by simp [go_sem], by simp [go_sem], by simp [go_sem], by simp [go_sem], by simp [go_sem]⟩
  have m : Lies w1 w.heap.size a b := by
    refine Lies.later ?_ hb
    exact ⟨by simp [go_sem], by simp [go_sem], by simp [go_sem], by simp [go_sem], by simp [go_sem]⟩
  have hB : Below w.heap.size w w1 := (below4 _ _ _ _ _).trans (hb.mono (by simp [go_sem]; omega))
  clear hb
  go_wp2
  rw [rounds_succ]
  go_wp2_with fail
  refine (check2_yes _ c d h2 _ l).mono ?_
  rintro e w2 ⟨rfl, hb⟩
  have k' := k.later hb
  have l' := l.later hb
  have m' := m.later hb
  clear k l m
  have hB2 : Below w.heap.size w w2 := hB.trans (hb.mono hB.size)
  clear hb hB
  have K : Hid (Lies w2 (w.heap.size + 1 + 1) 0 0) := k'
  obtain ⟨k1, k2, k3, k4, k5⟩ := k'
  obtain ⟨l1, l2, l3, l4, l5⟩ := l'
  obtain ⟨m1, m2, m3, m4, m5⟩ := m'
  go_wp2
  rw [rounds_succ]
  go_wp2_with fail
  refine (HC.out _).mono ?_
  rintro e w3 ⟨rfl, hb⟩
  have k' := K.out.later hb
  have hB3 : Below w.heap.size w w3 := hB2.trans (hb.mono hB2.size)
  clear hb hB2 k1 k2 k3 k4 l1 l2 l3 l4 m1 m2 m3 m4
  obtain ⟨k1, k2, k3, k4, k6⟩ := k'
  go_wp2
  exact bodyPost_ret (v := .tuple #[.agg #[.int .i64 x, .int .i64 y], .nilIface]) (by simp [results, Try.results34, go_sem, *]) rfl ⟨rfl, (hB3.setCell (by simp; omega) _).setCell (by simp; omega) _⟩

theorem below3 (w : World) (o1 o2 o3 : Obj) : Below w.heap.size w (((w.alloc o1).alloc o2).alloc o3) :=
  (((Below.refl _ _).alloc (Nat.le_refl _) _).alloc (by simp) _).alloc (by simp; omega) _

theorem spanAdd_of (a b c d x y : Int) (ev : Value)
    (hc : ∀ w, Calls Try.prog 34 #[.agg #[.int .i64 a, .int .i64 b], .agg #[.int .i64 c, .int .i64 d], .func (.func 35) #[] #[]] w fun e w' => e = .returned (.tuple #[.agg #[.int .i64 x, .int .i64 y], ev]) ∧ Below w.heap.size w w') (w : World) :
    Calls Try.prog 23 #[.agg #[.int .i64 a, .int .i64 b], .agg #[.int .i64 c, .int .i64 d]] w
      fun e w' => e = .returned (.tuple #[.agg #[.int .i64 x, .int .i64 y], ev]) ∧ Below w.heap.size w w' := by
  have HC : Hid (∀ w, Calls Try.prog 34 #[.agg #[.int .i64 a, .int .i64 b], .agg #[.int .i64 c, .int .i64 d], .func (.func 35) #[] #[]] w fun e w' => e = .returned (.tuple #[.agg #[.int .i64 x, .int .i64 y], ev]) ∧ Below w.heap.size w w') := hc
  clear hc
  go_enter Try.func23, Try.ntmps23
  go_wp2_with fail
  refine (HC.out _).mono ?_
  rintro e w1 ⟨rfl, hb⟩
  have k : Lies w1 (w.heap.size + 1 + 1) 0 0 := by
    refine Lies.later ?_ hb
    exact ⟨by simp [go_sem], by simp [go_sem], by simp [go_sem], by simp [go_sem], by simp [go_sem]⟩
  have hB : Below w.heap.size w w1 := (below3 _ _ _ _).trans (hb.mono (by simp [go_sem]; omega))
  clear hb
  obtain ⟨k1, k2, k3, k4, k5⟩ := k
  go_wp2
  exact bodyPost_ret (v := .tuple #[.agg #[.int .i64 x, .int .i64 y], ev]) (by simp [results, Try.results23, go_sem, *]) rfl ⟨rfl, (hB.setCell (by simp; omega) _).setCell (by simp; omega) _⟩

theorem spanMul_of (a b c d x y : Int) (ev : Value)
    (hc : ∀ w, Calls Try.prog 34 #[.agg #[.int .i64 a, .int .i64 b], .agg #[.int .i64 c, .int .i64 d], .func (.func 36) #[] #[]] w fun e w' => e = .returned (.tuple #[.agg #[.int .i64 x, .int .i64 y], ev]) ∧ Below w.heap.size w w') (w : World) :
    Calls Try.prog 24 #[.agg #[.int .i64 a, .int .i64 b], .agg #[.int .i64 c, .int .i64 d]] w
      fun e w' => e = .returned (.tuple #[.agg #[.int .i64 x, .int .i64 y], ev]) ∧ Below w.heap.size w w' := by
  have HC : Hid (∀ w, Calls Try.prog 34 #[.agg #[.int .i64 a, .int .i64 b], .agg #[.int .i64 c, .int .i64 d], .func (.func 36) #[] #[]] w fun e w' => e = .returned (.tuple #[.agg #[.int .i64 x, .int .i64 y], ev]) ∧ Below w.heap.size w w') := hc
  clear hc
  go_enter Try.func24, Try.ntmps24
  go_wp2_with fail
  refine (HC.out _).mono ?_
  rintro e w1 ⟨rfl, hb⟩
  have k : Lies w1 (w.heap.size + 1 + 1) 0 0 := by
    refine Lies.later ?_ hb
    exact ⟨by simp [go_sem], by simp [go_sem], by simp [go_sem], by simp [go_sem], by simp [go_sem]⟩
  have hB : Below w.heap.size w w1 := (below3 _ _ _ _).trans (hb.mono (by simp [go_sem]; omega))
  clear hb
  obtain ⟨k1, k2, k3, k4, k5⟩ := k
  go_wp2
  exact bodyPost_ret (v := .tuple #[.agg #[.int .i64 x, .int .i64 y], ev]) (by simp [results, Try.results24, go_sem, *]) rfl ⟨rfl, (hB.setCell (by simp; omega) _).setCell (by simp; omega) _⟩

theorem spanAdd_yes (a b c d : Int) (h1 : mayB a b = true) (h2 : mayB c d = true) (w : World) :
    Calls Try.prog 23 #[.agg #[.int .i64 a, .int .i64 b], .agg #[.int .i64 c, .int .i64 d]] w
      fun e w' => e = .returned (.tuple #[.agg #[.int .i64 (lowL (addG a c) [addG a c, addG a d, addG b c, addG b d] 4), .int .i64 (highL (addG a c) [addG a c, addG a d, addG b c, addG b d] 4)], .nilIface]) ∧ Below w.heap.size w w' :=
  spanAdd_of a b c d _ _ _ (fun w => both_yes a b c d _ _ _ h1 h2 (fun w => corners_add a b c d w) w) w
theorem spanAdd_no (a b c d : Int) (h : mayB a b = false ∨ mayB a b = true ∧ mayB c d = false) (w : World) :
    Calls Try.prog 23 #[.agg #[.int .i64 a, .int .i64 b], .agg #[.int .i64 c, .int .i64 d]] w
      fun e w' => e = .returned (.tuple #[.agg #[.int .i64 0, .int .i64 0], .iface 26 (.int .i64 3)]) ∧ Below w.heap.size w w' := by
  rcases h with h | ⟨h1, h2⟩
  · exact spanAdd_of a b c d _ _ _ (fun w => both_no1 a b c d _ h w) w
  · exact spanAdd_of a b c d _ _ _ (fun w => both_no2 a b c d _ h1 h2 w) w

theorem spanMul_yes (a b c d : Int) (h1 : mayB a b = true) (h2 : mayB c d = true) (w : World) :
    Calls Try.prog 24 #[.agg #[.int .i64 a, .int .i64 b], .agg #[.int .i64 c, .int .i64 d]] w
      fun e w' => e = .returned (.tuple #[.agg #[.int .i64 (lowL (mulI a c) [mulI a c, mulI a d, mulI b c, mulI b d] 4), .int .i64 (highL (mulI a c) [mulI a c, mulI a d, mulI b c, mulI b d] 4)], .nilIface]) ∧ Below w.heap.size w w' :=
  spanMul_of a b c d _ _ _ (fun w => both_yes a b c d _ _ _ h1 h2 (fun w => corners_mul a b c d w) w) w
theorem spanMul_no (a b c d : Int) (h : mayB a b = false ∨ mayB a b = true ∧ mayB c d = false) (w : World) :
    Calls Try.prog 24 #[.agg #[.int .i64 a, .int .i64 b], .agg #[.int .i64 c, .int .i64 d]] w
      fun e w' => e = .returned (.tuple #[.agg #[.int .i64 0, .int .i64 0], .iface 26 (.int .i64 3)]) ∧ Below w.heap.size w w' := by
  rcases h with h | ⟨h1, h2⟩
  · exact spanMul_of a b c d _ _ _ (fun w => both_no1 a b c d _ h w) w
  · exact spanMul_of a b c d _ _ _ (fun w => both_no2 a b c d _ h1 h2 w) w

end Go.Proofs.Ytmdpoeelddchcaa
