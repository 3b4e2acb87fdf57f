/-
  Banks are compared: one that is the same is equal.
-/
import Derived.Test.YtmainmldndidhaaVoteA
import Derived.ChangeKeysEq
namespace Go.Proofs.Ytmainmldndidhaa
open Go.RowKit Plain

theorem infoI : ∃ i, Try.prog.info? 3 = some i ∧ i.size = 1 := by
  have h : (Try.prog.info? 3).map (·.size) = some 1 := by kernel_rfl
  cases hq : Try.prog.info? 3 with
  | none => rw [hq] at h; cases h
  | some i => rw [hq] at h; exact ⟨i, rfl, by simpa using h⟩
theorem infoB : ∃ i, Try.prog.info? 4 = some i ∧ i.size = 1 := by
  have h : (Try.prog.info? 4).map (·.size) = some 1 := by kernel_rfl
  cases hq : Try.prog.info? 4 with
  | none => rw [hq] at h; cases h
  | some i => rw [hq] at h; exact ⟨i, rfl, by simpa using h⟩

theorem cellsI : Try.prog.cellsOf 3 = 1 := by kernel_rfl
theorem cellsB : Try.prog.cellsOf 4 = 1 := by kernel_rfl
theorem eqI3 (d : Nat) (a b c : Int) (w : World) : (Op.equalIn (d + 1 + 1) 43 (.agg #[.int .i64 a, .int .i64 b, .int .i64 c]) (.agg #[.int .i64 a, .int .i64 b, .int .i64 c])).run Try.prog w = .ok true w := by
  obtain ⟨i, hi, _⟩ := infoI
  rw [run_equalIn_array w _ _ _ Try.underlying43 hi, cellsI, show List.range 3 = [0, 1, 2] from rfl]
  simp [Op.eqItems, go_sem]
theorem eqB3 (d : Nat) (a b c : Bool) (w : World) : (Op.equalIn (d + 1 + 1) 44 (.agg #[.bool a, .bool b, .bool c]) (.agg #[.bool a, .bool b, .bool c])).run Try.prog w = .ok true w := by
  obtain ⟨i, hi, _⟩ := infoB
  rw [run_equalIn_array w _ _ _ Try.underlying44 hi, cellsB, show List.range 3 = [0, 1, 2] from rfl]
  simp [Op.eqItems, go_sem]

end Go.Proofs.Ytmainmldndidhaa
