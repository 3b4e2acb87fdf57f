/-
  Contracts of the functions of packages table and fulmarref that take and give numbers or errors: rounding, comparing, telling errors. Each returns what the plain arithmetic says, and changes nothing that was there.
-/
import Derived.Test.YtomigbppimpohaaWalksA
import Derived.Test.YtomigbppimpohaaPlainT
import Derived.RegionTactic
import Derived.ChangeAlike
import Derived.Deep.QuietTactic
import Derived.BigQuiet
namespace Go.Proofs.Ytomigbppimpohaa
open Go.RowKit Plain

theorem clipI_T (x lo hi : Int) : clipI x lo hi = clipT x lo hi := rfl

theorem down_cut (n d : Int) (d0 : 0 < d) : (n - n % d).tdiv d = n / d := by
  have e := Int.mul_ediv_add_emod n d
  have : n - n % d = (n / d) * d := by rw [Int.mul_comm]; omega
  rw [this, Int.mul_tdiv_cancel _ (by omega)]

theorem when_true (e : Int) (w : World) : Calls Try.prog 14 #[.bool true, .int .i64 e] w fun r w' => r = .returned (.int .i64 e) ∧ w' = w := by
  go_enter Try.func14, Try.ntmps14
  go_wp2
  go_ret
  exact ⟨rfl, rfl⟩
theorem when_false (e : Int) (w : World) : Calls Try.prog 14 #[.bool false, .int .i64 e] w fun r w' => r = .returned (.int .i64 0) ∧ w' = w := by
  go_enter Try.func14, Try.ntmps14
  go_wp2
  go_ret
  exact ⟨rfl, rfl⟩
theorem when_any (b : Bool) (e : Int) (w : World) : Calls Try.prog 14 #[.bool b, .int .i64 e] w fun r w' => r = .returned (.int .i64 (if b then e else 0)) ∧ w' = w := by
  cases b
  · exact when_false e w
  · exact when_true e w

/-- The same, its number by a name. -/
theorem when_named (b : Bool) (e : Int) (w : World) : Calls Try.prog 14 #[.bool b, .int .i64 e] w fun r w' => ∃ x, r = .returned (.int .i64 x) ∧ Hid (x = if b then e else 0) ∧ w' = w :=
  (when_any b e w).mono fun _ _ ⟨h1, h2⟩ => ⟨_, h1, rfl, h2⟩

/-- An error of its number. -/
def errV (e : Int) : Value := if e = 0 then .nilIface else .iface 24 (.int .i64 e)
theorem errV_zero : errV 0 = .nilIface := rfl
theorem errV_ne {e : Int} (h : e ≠ 0) : errV e = .iface 24 (.int .i64 e) := by unfold errV; rw [if_neg h]

theorem code_nil (w : World) : Calls Try.prog 19 #[.nilIface] w fun r w' => r = .returned (.int .i64 0) ∧ w' = w := by
  go_enter Try.func19, Try.ntmps19
  go_wp2
  go_ret
  exact ⟨rfl, rfl⟩
theorem as_errno (v : Value) (w : World) : (Instr.typeAssert (.iface 24 v) 29 24 true).run Try.prog w = .ok (.tuple #[v, .bool true]) w := by kernel_rfl
theorem code_errno (x : Int) (w : World) : Calls Try.prog 19 #[.iface 24 (.int .i64 x)] w fun r w' => r = .returned (.int .i64 x) ∧ w' = w := by
  have ta := as_errno (.int .i64 x)
  go_enter Try.func19, Try.ntmps19
  go_wp2
  go_ret
  exact ⟨rfl, rfl⟩
theorem code_any (x : Int) (w : World) : Calls Try.prog 19 #[errV x] w fun r w' => r = .returned (.int .i64 x) ∧ w' = w := by
  by_cases h : x = 0
  · subst h; exact code_nil w
  · rw [errV_ne h]; exact code_errno x w
theorem is_any (x e : Int) (w : World) : Calls Try.prog 8 #[errV x, .int .i64 e] w fun r w' => r = .returned (.bool (x == e)) ∧ w' = w := by
  go_enter Try.func8, Try.ntmps8
  go_wp2_with (go_at_call 19; refine (code_any _ _).mono ?_; rintro e w' ⟨rfl, rfl⟩)
  go_ret
  exact ⟨rfl, rfl⟩

theorem between_any (x lo hi : Int) (w : World) :
    Calls Try.prog 13 #[.int .i64 x, .int .i64 lo, .int .i64 hi] w fun e w' => e = .returned (.bool (decide (lo ≤ x) && decide (x ≤ hi))) ∧ w' = w := by
  by_cases g1 : lo ≤ x
  · by_cases g2 : x ≤ hi
    · rw [decide_eq_true g1, decide_eq_true g2]
      go_enter Try.func13, Try.ntmps13
      go_wp2
      go_ret
      exact ⟨rfl, rfl⟩
    · rw [decide_eq_true g1, decide_eq_false g2]
      go_enter Try.func13, Try.ntmps13
      go_wp2
      go_ret
      exact ⟨by simp, rfl⟩
  · rw [decide_eq_false g1]
    go_enter Try.func13, Try.ntmps13
    go_wp2
    go_ret
    exact ⟨rfl, rfl⟩
theorem between_worth (x : Int) (w : World) :
    Calls Try.prog 13 #[.int .i64 x, .int .i64 (-1000000), .int .i64 1000000] w fun e w' => e = .returned (.bool (within x)) ∧ w' = w := between_any x _ _ w

/-- The first that is one. -/
def firstI : List Int → Int
  | [] => 0
  | x :: l => if x = 0 then firstI l else x
theorem first_step (zs : List Int) (k : Nat) (h : k < zs.length) : firstI (zs.drop k) = if zs.getD k 0 = 0 then firstI (zs.drop (k + 1)) else zs.getD k 0 := by
  rw [List.drop_eq_getElem_cons h, List.getD_eq_getElem?_getD, List.getElem?_eq_getElem h]; rfl
end Go.Proofs.Ytomigbppimpohaa
