/-
  The closed fact that the laws of fulmartop ask first: it is so.
-/
import Derived.Test.YthijegfacnjooaaWordB
namespace Go.Proofs.Ythijegfacnjooaa
open Go.RowKit Plain

theorem near_awake (w : World) : Calls Try.prog 63 #[.int .i64 98304, .int .i64 256] w fun e w' => e = .returned (.int .i64 384) ∧ ∃ k, w' = w.drewN k := by
  go_enter Try.func63, Try.ntmps63
  go_wp2
  go_quiet (fail)
  go_wp2
  go_ret
  exact ⟨rfl, _, rfl⟩
theorem mul_awake (w : World) : Calls Try.prog 34 #[.int .i64 768, .int .i64 128] w fun e w' => e = .returned (.int .i64 384) ∧ Below w.heap.size w w' := by
  have f1 := fixOf_any 768
  have f2 := fixOf_any 128
  have f3 := fixOf_any 384
  rw [show ofI 768 = 768 by decide] at f1
  rw [show ofI 128 = 128 by decide] at f2
  rw [show ofI 384 = 384 by decide] at f3
  go_enter Try.func34, Try.ntmps34
  go_wp2_with (first
    | (go_at_call_of 62 (Value.int .i64 768); refine (f1 _).mono ?_; rintro e w1 ⟨rfl, rfl⟩)
    | (go_at_call_of 62 (Value.int .i64 128); refine (f2 _).mono ?_; rintro e w1 ⟨rfl, rfl⟩)
    | (go_at_call_of 62 (Value.int .i64 384); refine (f3 _).mono ?_; rintro e w1 ⟨rfl, rfl⟩)
    | (go_at_call 63; refine (near_awake _).mono ?_; rintro e w1 ⟨rfl, k, rfl⟩))
  go_ret
  exact ⟨rfl, below_drewN (Below.refl _ _) _⟩

theorem awake_any (w : World) : Calls Try.prog 10 #[] w fun e w' => e = .returned (.bool true) ∧ Below w.heap.size w w' := by
  have hp := pack_yes 1 0 3 (-1) (by decide)
  rw [show packI 1 0 3 (-1) = 4294966400 by decide +kernel] at hp
  go_enter Try.func10, Try.ntmps10
  go_wp2_with (first
    | (go_at_call 33; refine (hp _).mono ?_; rintro e w1 ⟨rfl, hb1⟩)
    | (go_at_call 34; refine (mul_awake _).mono ?_; rintro e w2 ⟨rfl, hb2⟩))
  go_ret
  exact ⟨rfl, below_up hb1 hb2⟩

end Go.Proofs.Ythijegfacnjooaa
