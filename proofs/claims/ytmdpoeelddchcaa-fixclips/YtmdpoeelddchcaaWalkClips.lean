/-
  The law FixClips walked: what fix.Clip answers is what the document says.
-/
import Derived.Test.YtmdpoeelddchcaaWalksA
namespace Go.Proofs.Ytmdpoeelddchcaa
open Go.RowKit Plain

theorem fixClips_walk (x lo hi : Int) (w : World) : Calls Try.prog 4 #[.int .i64 x, .int .i64 lo, .int .i64 hi] w fun e w' => e = .returned (.bool true) ∧ Grown w w' := by
  by_cases h : lo ≤ hi
  · go_enter Try.func4, Try.ntmps4
    go_wp2_with (first
      | (go_at_call 18; refine (refClip_any _ _ _ h _).mono ?_; rintro e w' ⟨rfl, rfl⟩)
      | (go_at_call 19; refine (fixClip_any _ _ _ _).mono ?_; rintro e w' ⟨rfl, rfl⟩))
    go_ret
    exact ⟨rfl, Grown.refl _⟩
  · have e1 : clipI x lo hi = lo := by unfold clipI; split <;> (try rfl); rw [if_pos (by omega)]
    have e2 : (clipI x lo hi == lo) = true := by rw [e1]; simp
    clear e1
    go_enter Try.func4, Try.ntmps4
    go_wp2_with (go_at_call 19; refine (fixClip_any _ _ _ _).mono ?_; rintro e w' ⟨rfl, rfl⟩)
    go_ret
    exact ⟨rfl, Grown.refl _⟩

end Go.Proofs.Ytmdpoeelddchcaa
