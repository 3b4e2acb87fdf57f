/-
  Contracts of the small functions of packages fix and fulmarref that take and give numbers: each returns what the plain arithmetic says, and changes nothing.
-/
import Derived.Test.YthijegfacnjooaaProg
import Derived.Test.YthijegfacnjooaaPlain
import Derived.WalkKit
import Derived.WalkLawsBesides
import Derived.WalkSpells
import Derived.ProofKit
import Derived.Outline
namespace Go.Proofs.Ythijegfacnjooaa
open Go.RowKit Plain

def clipI (x lo hi : Int) : Int := if x < lo then lo else if hi < lo then lo else if hi < x then hi else x

theorem fixClip_any (x lo hi : Int) (w : World) : Calls Try.prog 44 #[.int .i64 x, .int .i64 lo, .int .i64 hi] w fun e w' => e = .returned (.int .i64 (clipI x lo hi)) ∧ w' = w := by
  unfold clipI
  by_cases h1 : x < lo
  · rw [if_pos h1]
    go_enter Try.func44, Try.ntmps44
    go_wp2
    go_ret
    exact ⟨rfl, rfl⟩
  · rw [if_neg h1]
    by_cases h2 : hi < lo
    · rw [if_pos h2]
      go_enter Try.func44, Try.ntmps44
      go_wp2
      go_ret
      exact ⟨rfl, rfl⟩
    · rw [if_neg h2]
      by_cases h3 : hi < x
      · rw [if_pos h3]
        go_enter Try.func44, Try.ntmps44
        go_wp2
        go_ret
        exact ⟨rfl, rfl⟩
      · rw [if_neg h3]
        go_enter Try.func44, Try.ntmps44
        go_wp2
        go_ret
        exact ⟨rfl, rfl⟩

theorem refClip_any (x lo hi : Int) (h : lo ≤ hi) (w : World) : Calls Try.prog 14 #[.int .i64 x, .int .i64 lo, .int .i64 hi] w fun e w' => e = .returned (.int .i64 (clipI x lo hi)) ∧ w' = w := by
  unfold clipI
  by_cases h1 : x < lo
  · rw [if_pos h1]
    by_cases h3 : hi < lo
    · omega
    · go_enter Try.func14, Try.ntmps14
      go_wp2
      go_ret
      exact ⟨rfl, rfl⟩
  · rw [if_neg h1, if_neg (show ¬ hi < lo by omega)]
    by_cases h3 : hi < x
    · rw [if_pos h3]
      go_enter Try.func14, Try.ntmps14
      go_wp2
      go_ret
      exact ⟨rfl, rfl⟩
    · rw [if_neg h3]
      go_enter Try.func14, Try.ntmps14
      go_wp2
      go_ret
      exact ⟨rfl, rfl⟩

theorem clip_of (x : Int) : clipI x (-2147483647) 2147483647 = ofI x := by
  unfold clipI ofI; rw [if_neg (show ¬ ((2147483647 : Int) < -2147483647) by omega)]

theorem fixOf_any (x : Int) (w : World) : Calls Try.prog 62 #[.int .i64 x] w fun e w' => e = .returned (.int .i64 (ofI x)) ∧ w' = w := by
  go_enter Try.func62, Try.ntmps62
  go_wp2_with (go_at_call 44; refine (fixClip_any _ _ _ _).mono ?_; rintro e w' ⟨rfl, rfl⟩)
  go_ret
  rw [clip_of]
  exact ⟨rfl, rfl⟩

end Go.Proofs.Ythijegfacnjooaa
