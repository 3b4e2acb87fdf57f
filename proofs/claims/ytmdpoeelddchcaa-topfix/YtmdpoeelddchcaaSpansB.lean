/-
  Contracts of the functions that make a span of two.
-/
import Derived.Test.YtmdpoeelddchcaaSpansA
import Derived.Laws.EntriesVeiled
import Derived.LoopN
namespace Go.Proofs.Ytmdpoeelddchcaa
open Go.RowKit Plain

theorem addFn_ex (x y : Int) (w : World) : Calls Try.prog 35 #[.int .i64 x, .int .i64 y] w fun e w' => e = .returned (.int .i64 (ofI (ofI x + ofI y))) ∧ w' = w.alloc (.cells #[.int .i64 x, .int .i64 y] 3) := by
  go_enter Try.func35, Try.ntmps35
  go_wp2_with (go_at_call 14; refine (add_two _ _ x y _ (by simp) (by simp)).mono ?_; rintro e w' ⟨rfl, rfl⟩)
  go_ret
  exact ⟨rfl, rfl⟩
theorem mulFn_ex (x y : Int) (w : World) : Calls Try.prog 36 #[.int .i64 x, .int .i64 y] w fun e w' => e = .returned (.int .i64 (mulI x y)) ∧ w' = w.drew := by
  go_enter Try.func36, Try.ntmps36
  go_wp2_with (go_at_call 16; refine (fixMul_any _ _ _).mono ?_; rintro e w' ⟨rfl, rfl⟩)
  go_ret
  exact ⟨rfl, rfl⟩

theorem idxB0 (x0 x1 : Value) (w : World) : (Instr.index 55 (.agg #[x0, x1]) (.int .i64 0)).run Try.prog w = .ok x0 w := by kernel_rfl
theorem idxB1 (x0 x1 : Value) (w : World) : (Instr.index 55 (.agg #[x0, x1]) (.int .i64 1)).run Try.prog w = .ok x1 w := by kernel_rfl
/-- A span lies at block b, and may be written. -/
def Lies (w : World) (b : Nat) (x y : Int) : Prop := w.cell? ⟨b, 0, none⟩ = some (.int .i64 x) ∧ w.cell? ⟨b, 1, none⟩ = some (.int .i64 y) ∧ w.frozen? ⟨b, 0, none⟩ = false ∧ w.frozen? ⟨b, 1, none⟩ = false ∧ b < w.heap.size
theorem Lies.later {w w' : World} {b : Nat} {x y : Int} (h : Lies w b x y) (hb : Below w.heap.size w w') : Lies w' b x y := by
  obtain ⟨h1, h2, h3, h4, h5⟩ := h
  exact ⟨cell_later hb h1, cell_later hb h2, (hb.frozen (p := ⟨b, 0, none⟩) h5).trans h3, (hb.frozen (p := ⟨b, 1, none⟩) h5).trans h4, Nat.lt_of_lt_of_le h5 hb.size⟩

theorem check1_yes (b : Nat) (lo hi : Int) (h : mayB lo hi = true) (w : World) (hl : Lies w b lo hi) :
    Calls Try.prog 38 #[.pointer (some ⟨b, 0, none⟩)] w fun e w' => e = .returned .nilIface ∧ Below w.heap.size w w' := by
  obtain ⟨h1, h2, h3, h4, h5⟩ := hl
  go_enter Try.func38, Try.ntmps38
  go_wp2_with (go_at_call 25; refine (check_yes _ _ h _).mono ?_; rintro e w' ⟨rfl, hb⟩)
  go_ret
  exact ⟨rfl, hb⟩
theorem check1_no (b : Nat) (lo hi : Int) (h : mayB lo hi = false) (w : World) (hl : Lies w b lo hi) :
    Calls Try.prog 38 #[.pointer (some ⟨b, 0, none⟩)] w fun e w' => e = .returned (.iface 26 (.int .i64 3)) ∧ Below w.heap.size w w' := by
  obtain ⟨h1, h2, h3, h4, h5⟩ := hl
  go_enter Try.func38, Try.ntmps38
  go_wp2_with (go_at_call 25; refine (check_no _ _ h _).mono ?_; rintro e w' ⟨rfl, hb⟩)
  go_ret
  exact ⟨rfl, hb⟩
theorem check2_yes (b : Nat) (lo hi : Int) (h : mayB lo hi = true) (w : World) (hl : Lies w b lo hi) :
    Calls Try.prog 39 #[.pointer (some ⟨b, 0, none⟩)] w fun e w' => e = .returned .nilIface ∧ Below w.heap.size w w' := by
  obtain ⟨h1, h2, h3, h4, h5⟩ := hl
  go_enter Try.func39, Try.ntmps39
  go_wp2_with (go_at_call 25; refine (check_yes _ _ h _).mono ?_; rintro e w' ⟨rfl, hb⟩)
  go_ret
  exact ⟨rfl, hb⟩
theorem check2_no (b : Nat) (lo hi : Int) (h : mayB lo hi = false) (w : World) (hl : Lies w b lo hi) :
    Calls Try.prog 39 #[.pointer (some ⟨b, 0, none⟩)] w fun e w' => e = .returned (.iface 26 (.int .i64 3)) ∧ Below w.heap.size w w' := by
  obtain ⟨h1, h2, h3, h4, h5⟩ := hl
  go_enter Try.func39, Try.ntmps39
  go_wp2_with (go_at_call 25; refine (check_no _ _ h _).mono ?_; rintro e w' ⟨rfl, hb⟩)
  go_ret
  exact ⟨rfl, hb⟩

theorem both_no1 (a b c d : Int) (f : Nat) (h : mayB a b = false) (w : World) : Calls Try.prog 34 #[.agg #[.int .i64 a, .int .i64 b], .agg #[.int .i64 c, .int .i64 d], .func (.func f) #[] #[]] w
    fun e w' => e = .returned (.tuple #[.agg #[.int .i64 0, .int .i64 0], .iface 26 (.int .i64 3)]) ∧ Below w.heap.size w w' := by
  have i0 := fun x0 x1 => idxB0 x0 x1
  go_enter Try.func34, Try.ntmps34
  go_wp2
  refine wp_loop_rounds 3 ?_
  rw [rounds_succ]
  go_wp2_with fail
  refine (check1_no _ a b h _ ?hl).mono ?_
  case hl => exact ⟨by simp [go_sem], by simp [go_sem], by simp [go_sem], by simp [go_sem], by simp [go_sem]⟩
  rintro e w1 ⟨rfl, hb⟩
  have k : Lies w1 (w.heap.size + 1 + 1) 0 0 := by
    refine Lies.later ?_ hb
    exact ⟨by simp [go_sem], by simp [go_sem], by simp [go_sem], by simp [go_sem], by simp [go_sem]⟩
  obtain ⟨k1, k2, k3, k4, k5⟩ := k
  have hB : Below w.heap.size w w1 := by
    refine Below.trans ?_ (hb.mono (by simp [go_sem]; omega))
    exact ((((Below.refl _ _).alloc (Nat.le_refl _) _).alloc (by simp) _).alloc (by simp; omega) _).alloc (by simp; omega) _
  clear hb
  go_wp2
  exact bodyPost_ret (v := .tuple #[.agg #[.int .i64 0, .int .i64 0], .iface 26 (.int .i64 3)]) (by simp [results, Try.results34, go_sem, *]) rfl ⟨rfl, (hB.setCell (by simp; omega) _).setCell (by simp; omega) _⟩
end Go.Proofs.Ytmdpoeelddchcaa
