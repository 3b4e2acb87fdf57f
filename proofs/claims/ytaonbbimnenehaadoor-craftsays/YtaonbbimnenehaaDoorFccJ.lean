/-
  The contract of fulmarlaw.longLines.
-/
import Derived.Test.YtaonbbimnenehaaDoorFccE
namespace Go.Proofs.YtaonbbimnenehaaDoor
open Go.RowKit Plain

set_option maxHeartbeats 4000000 in
theorem longLines_any (a0 a1 a2 a3 a4 a5 a6 a7 a8 a9 a10 a11 a14 : Int) (p q : Option Addr) (n m cn cm : Nat) (b0 b1 b2 b3 b4 b5 b6 b7 b8 b9 b10 b11 b14 : Int) (r s : Option Addr) (n' m' dn dm : Nat) (c0 c1 : Int) (w : World) :
    Calls Tryd.prog 4 #[.agg #[.int .i64 a0, .int .i64 a1, .int .i64 a2, .int .i64 a3, .int .i64 a4, .int .i64 a5, .int .i64 a6, .int .i64 a7, .int .i64 a8, .int .i64 a9, .int .i64 a10, .int .i64 a11, .slice p n cn, .slice q m cm, .int .i64 a14, .int .i64 b0, .int .i64 b1, .int .i64 b2, .int .i64 b3, .int .i64 b4, .int .i64 b5, .int .i64 b6, .int .i64 b7, .int .i64 b8, .int .i64 b9, .int .i64 b10, .int .i64 b11, .slice r n' dn, .slice s m' dm, .int .i64 b14, .int .i64 c0, .int .i64 c1]] w fun e w' => e = .returned (.bool (decide (20 < n) || decide (20 < m) || decide (20 < n') || decide (20 < m'))) ∧ Below w.heap.size w w' := by
  have HC0 : Hid (CrH (w.alloc (.cells #[.int .i64 a0, .int .i64 a1, .int .i64 a2, .int .i64 a3, .int .i64 a4, .int .i64 a5, .int .i64 a6, .int .i64 a7, .int .i64 a8, .int .i64 a9, .int .i64 a10, .int .i64 a11, .slice p n cn, .slice q m cm, .int .i64 a14, .int .i64 b0, .int .i64 b1, .int .i64 b2, .int .i64 b3, .int .i64 b4, .int .i64 b5, .int .i64 b6, .int .i64 b7, .int .i64 b8, .int .i64 b9, .int .i64 b10, .int .i64 b11, .slice r n' dn, .slice s m' dm, .int .i64 b14, .int .i64 c0, .int .i64 c1] 29)) w.heap.size [.int .i64 a0, .int .i64 a1, .int .i64 a2, .int .i64 a3, .int .i64 a4, .int .i64 a5, .int .i64 a6, .int .i64 a7, .int .i64 a8, .int .i64 a9, .int .i64 a10, .int .i64 a11, .slice p n cn, .slice q m cm, .int .i64 a14, .int .i64 b0, .int .i64 b1, .int .i64 b2, .int .i64 b3, .int .i64 b4, .int .i64 b5, .int .i64 b6, .int .i64 b7, .int .i64 b8, .int .i64 b9, .int .i64 b10, .int .i64 b11, .slice r n' dn, .slice s m' dm, .int .i64 b14, .int .i64 c0, .int .i64 c1]) := ahide (World.alloc_heap_new w _)
  have HB0 : Hid (Below w.heap.size w (w.alloc (.cells #[.int .i64 a0, .int .i64 a1, .int .i64 a2, .int .i64 a3, .int .i64 a4, .int .i64 a5, .int .i64 a6, .int .i64 a7, .int .i64 a8, .int .i64 a9, .int .i64 a10, .int .i64 a11, .slice p n cn, .slice q m cm, .int .i64 a14, .int .i64 b0, .int .i64 b1, .int .i64 b2, .int .i64 b3, .int .i64 b4, .int .i64 b5, .int .i64 b6, .int .i64 b7, .int .i64 b8, .int .i64 b9, .int .i64 b10, .int .i64 b11, .slice r n' dn, .slice s m' dm, .int .i64 b14, .int .i64 c0, .int .i64 c1] 29))) := ahide (abelow_alloc _ _)
  rcases (show 20 < n ∨ (¬ 20 < n ∧ 20 < m) ∨ (¬ 20 < n ∧ ¬ 20 < m ∧ 20 < n') ∨ (¬ 20 < n ∧ ¬ 20 < m ∧ ¬ 20 < n' ∧ 20 < m') ∨ (¬ 20 < n ∧ ¬ 20 < m ∧ ¬ 20 < n' ∧ ¬ 20 < m') by omega) with c2 | ⟨c2, c3⟩ | ⟨c2, c3, c4⟩ | ⟨c2, c3, c4, c5⟩ | ⟨c2, c3, c4, c5⟩
  · have d0 : decide ((20 : Int) < (n : Int)) = true := decide_eq_true (by omega)
    have HE : Hid ((decide (20 < n) || decide (20 < m) || decide (20 < n') || decide (20 < m')) = true) := ahide (by simp; omega)
    clear c2
    go_enter Tryd.func4, Tryd.ntmps4
    go_wp2_with fail
    obtain ⟨w0, hw0⟩ : ∃ w0, w.alloc (.cells #[.int .i64 a0, .int .i64 a1, .int .i64 a2, .int .i64 a3, .int .i64 a4, .int .i64 a5, .int .i64 a6, .int .i64 a7, .int .i64 a8, .int .i64 a9, .int .i64 a10, .int .i64 a11, .slice p n cn, .slice q m cm, .int .i64 a14, .int .i64 b0, .int .i64 b1, .int .i64 b2, .int .i64 b3, .int .i64 b4, .int .i64 b5, .int .i64 b6, .int .i64 b7, .int .i64 b8, .int .i64 b9, .int .i64 b10, .int .i64 b11, .slice r n' dn, .slice s m' dm, .int .i64 b14, .int .i64 c0, .int .i64 c1] 29) = w0 := ⟨_, rfl⟩
    rw [hw0] at HC0 HB0 ⊢
    clear hw0
    have k12 : w0.cell? ⟨w.heap.size, 12, none⟩ = some (.slice p n cn) := by have := HC0.out.range 12 _ rfl; rwa [Nat.zero_add] at this
    have k13 : w0.cell? ⟨w.heap.size, 13, none⟩ = some (.slice q m cm) := by have := HC0.out.range 13 _ rfl; rwa [Nat.zero_add] at this
    have k27 : w0.cell? ⟨w.heap.size, 27, none⟩ = some (.slice r n' dn) := by have := HC0.out.range 27 _ rfl; rwa [Nat.zero_add] at this
    have k28 : w0.cell? ⟨w.heap.size, 28, none⟩ = some (.slice s m' dm) := by have := HC0.out.range 28 _ rfl; rwa [Nat.zero_add] at this
    refine wp_loop_rounds 3 ?_
    rw [rounds_succ]
    go_wp2_with fail
    go_ret
    exact ⟨by rw [HE.out]; rfl, HB0.out⟩
  · have d0 : decide ((20 : Int) < (n : Int)) = false := decide_eq_false (by omega)
    have d1 : decide ((20 : Int) < (m : Int)) = true := decide_eq_true (by omega)
    have HE : Hid ((decide (20 < n) || decide (20 < m) || decide (20 < n') || decide (20 < m')) = true) := ahide (by simp; omega)
    clear c2 c3
    go_enter Tryd.func4, Tryd.ntmps4
    go_wp2_with fail
    obtain ⟨w0, hw0⟩ : ∃ w0, w.alloc (.cells #[.int .i64 a0, .int .i64 a1, .int .i64 a2, .int .i64 a3, .int .i64 a4, .int .i64 a5, .int .i64 a6, .int .i64 a7, .int .i64 a8, .int .i64 a9, .int .i64 a10, .int .i64 a11, .slice p n cn, .slice q m cm, .int .i64 a14, .int .i64 b0, .int .i64 b1, .int .i64 b2, .int .i64 b3, .int .i64 b4, .int .i64 b5, .int .i64 b6, .int .i64 b7, .int .i64 b8, .int .i64 b9, .int .i64 b10, .int .i64 b11, .slice r n' dn, .slice s m' dm, .int .i64 b14, .int .i64 c0, .int .i64 c1] 29) = w0 := ⟨_, rfl⟩
    rw [hw0] at HC0 HB0 ⊢
    clear hw0
    have k12 : w0.cell? ⟨w.heap.size, 12, none⟩ = some (.slice p n cn) := by have := HC0.out.range 12 _ rfl; rwa [Nat.zero_add] at this
    have k13 : w0.cell? ⟨w.heap.size, 13, none⟩ = some (.slice q m cm) := by have := HC0.out.range 13 _ rfl; rwa [Nat.zero_add] at this
    have k27 : w0.cell? ⟨w.heap.size, 27, none⟩ = some (.slice r n' dn) := by have := HC0.out.range 27 _ rfl; rwa [Nat.zero_add] at this
    have k28 : w0.cell? ⟨w.heap.size, 28, none⟩ = some (.slice s m' dm) := by have := HC0.out.range 28 _ rfl; rwa [Nat.zero_add] at this
    refine wp_loop_rounds 3 ?_
    rw [rounds_succ]
    go_wp2_with fail
    go_ret
    exact ⟨by rw [HE.out]; rfl, HB0.out⟩
  · have d0 : decide ((20 : Int) < (n : Int)) = false := decide_eq_false (by omega)
    have d1 : decide ((20 : Int) < (m : Int)) = false := decide_eq_false (by omega)
    have d2 : decide ((20 : Int) < (n' : Int)) = true := decide_eq_true (by omega)
    have HE : Hid ((decide (20 < n) || decide (20 < m) || decide (20 < n') || decide (20 < m')) = true) := ahide (by simp; omega)
    clear c2 c3 c4
    go_enter Tryd.func4, Tryd.ntmps4
    go_wp2_with fail
    obtain ⟨w0, hw0⟩ : ∃ w0, w.alloc (.cells #[.int .i64 a0, .int .i64 a1, .int .i64 a2, .int .i64 a3, .int .i64 a4, .int .i64 a5, .int .i64 a6, .int .i64 a7, .int .i64 a8, .int .i64 a9, .int .i64 a10, .int .i64 a11, .slice p n cn, .slice q m cm, .int .i64 a14, .int .i64 b0, .int .i64 b1, .int .i64 b2, .int .i64 b3, .int .i64 b4, .int .i64 b5, .int .i64 b6, .int .i64 b7, .int .i64 b8, .int .i64 b9, .int .i64 b10, .int .i64 b11, .slice r n' dn, .slice s m' dm, .int .i64 b14, .int .i64 c0, .int .i64 c1] 29) = w0 := ⟨_, rfl⟩
    rw [hw0] at HC0 HB0 ⊢
    clear hw0
    have k12 : w0.cell? ⟨w.heap.size, 12, none⟩ = some (.slice p n cn) := by have := HC0.out.range 12 _ rfl; rwa [Nat.zero_add] at this
    have k13 : w0.cell? ⟨w.heap.size, 13, none⟩ = some (.slice q m cm) := by have := HC0.out.range 13 _ rfl; rwa [Nat.zero_add] at this
    have k27 : w0.cell? ⟨w.heap.size, 27, none⟩ = some (.slice r n' dn) := by have := HC0.out.range 27 _ rfl; rwa [Nat.zero_add] at this
    have k28 : w0.cell? ⟨w.heap.size, 28, none⟩ = some (.slice s m' dm) := by have := HC0.out.range 28 _ rfl; rwa [Nat.zero_add] at this
    refine wp_loop_rounds 3 ?_
    rw [rounds_succ]
    go_wp2_with fail
    rw [rounds_succ]
    go_wp2_with fail
    go_ret
    exact ⟨by rw [HE.out]; rfl, HB0.out⟩
  · have d0 : decide ((20 : Int) < (n : Int)) = false := decide_eq_false (by omega)
    have d1 : decide ((20 : Int) < (m : Int)) = false := decide_eq_false (by omega)
    have d2 : decide ((20 : Int) < (n' : Int)) = false := decide_eq_false (by omega)
    have d3 : decide ((20 : Int) < (m' : Int)) = true := decide_eq_true (by omega)
    have HE : Hid ((decide (20 < n) || decide (20 < m) || decide (20 < n') || decide (20 < m')) = true) := ahide (by simp; omega)
    clear c2 c3 c4 c5
    go_enter Tryd.func4, Tryd.ntmps4
    go_wp2_with fail
    obtain ⟨w0, hw0⟩ : ∃ w0, w.alloc (.cells #[.int .i64 a0, .int .i64 a1, .int .i64 a2, .int .i64 a3, .int .i64 a4, .int .i64 a5, .int .i64 a6, .int .i64 a7, .int .i64 a8, .int .i64 a9, .int .i64 a10, .int .i64 a11, .slice p n cn, .slice q m cm, .int .i64 a14, .int .i64 b0, .int .i64 b1, .int .i64 b2, .int .i64 b3, .int .i64 b4, .int .i64 b5, .int .i64 b6, .int .i64 b7, .int .i64 b8, .int .i64 b9, .int .i64 b10, .int .i64 b11, .slice r n' dn, .slice s m' dm, .int .i64 b14, .int .i64 c0, .int .i64 c1] 29) = w0 := ⟨_, rfl⟩
    rw [hw0] at HC0 HB0 ⊢
    clear hw0
    have k12 : w0.cell? ⟨w.heap.size, 12, none⟩ = some (.slice p n cn) := by have := HC0.out.range 12 _ rfl; rwa [Nat.zero_add] at this
    have k13 : w0.cell? ⟨w.heap.size, 13, none⟩ = some (.slice q m cm) := by have := HC0.out.range 13 _ rfl; rwa [Nat.zero_add] at this
    have k27 : w0.cell? ⟨w.heap.size, 27, none⟩ = some (.slice r n' dn) := by have := HC0.out.range 27 _ rfl; rwa [Nat.zero_add] at this
    have k28 : w0.cell? ⟨w.heap.size, 28, none⟩ = some (.slice s m' dm) := by have := HC0.out.range 28 _ rfl; rwa [Nat.zero_add] at this
    refine wp_loop_rounds 3 ?_
    rw [rounds_succ]
    go_wp2_with fail
    rw [rounds_succ]
    go_wp2_with fail
    go_ret
    exact ⟨by rw [HE.out]; rfl, HB0.out⟩
  · have d0 : decide ((20 : Int) < (n : Int)) = false := decide_eq_false (by omega)
    have d1 : decide ((20 : Int) < (m : Int)) = false := decide_eq_false (by omega)
    have d2 : decide ((20 : Int) < (n' : Int)) = false := decide_eq_false (by omega)
    have d3 : decide ((20 : Int) < (m' : Int)) = false := decide_eq_false (by omega)
    have HE : Hid ((decide (20 < n) || decide (20 < m) || decide (20 < n') || decide (20 < m')) = false) := ahide (by simp; omega)
    clear c2 c3 c4 c5
    go_enter Tryd.func4, Tryd.ntmps4
    go_wp2_with fail
    obtain ⟨w0, hw0⟩ : ∃ w0, w.alloc (.cells #[.int .i64 a0, .int .i64 a1, .int .i64 a2, .int .i64 a3, .int .i64 a4, .int .i64 a5, .int .i64 a6, .int .i64 a7, .int .i64 a8, .int .i64 a9, .int .i64 a10, .int .i64 a11, .slice p n cn, .slice q m cm, .int .i64 a14, .int .i64 b0, .int .i64 b1, .int .i64 b2, .int .i64 b3, .int .i64 b4, .int .i64 b5, .int .i64 b6, .int .i64 b7, .int .i64 b8, .int .i64 b9, .int .i64 b10, .int .i64 b11, .slice r n' dn, .slice s m' dm, .int .i64 b14, .int .i64 c0, .int .i64 c1] 29) = w0 := ⟨_, rfl⟩
    rw [hw0] at HC0 HB0 ⊢
    clear hw0
    have k12 : w0.cell? ⟨w.heap.size, 12, none⟩ = some (.slice p n cn) := by have := HC0.out.range 12 _ rfl; rwa [Nat.zero_add] at this
    have k13 : w0.cell? ⟨w.heap.size, 13, none⟩ = some (.slice q m cm) := by have := HC0.out.range 13 _ rfl; rwa [Nat.zero_add] at this
    have k27 : w0.cell? ⟨w.heap.size, 27, none⟩ = some (.slice r n' dn) := by have := HC0.out.range 27 _ rfl; rwa [Nat.zero_add] at this
    have k28 : w0.cell? ⟨w.heap.size, 28, none⟩ = some (.slice s m' dm) := by have := HC0.out.range 28 _ rfl; rwa [Nat.zero_add] at this
    refine wp_loop_rounds 3 ?_
    rw [rounds_succ]
    go_wp2_with fail
    rw [rounds_succ]
    go_wp2_with fail
    rw [rounds_succ]
    go_wp2_with fail
    go_ret
    exact ⟨by rw [HE.out]; rfl, HB0.out⟩

end Go.Proofs.YtaonbbimnenehaaDoor
