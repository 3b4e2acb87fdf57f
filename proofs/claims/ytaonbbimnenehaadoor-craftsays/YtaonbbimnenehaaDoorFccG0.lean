/-
  The contract of fulmarref.AxisMay.
-/
import Derived.Test.YtaonbbimnenehaaDoorFccE
namespace Go.Proofs.YtaonbbimnenehaaDoor
open Go.RowKit Plain

theorem keepAX {w u u' : World} {a0 a1 a2 a3 a4 a5 a6 a7 a8 a9 a10 a11 a14 : Int} {p q : Option Addr} {al zl : List Int} {cn cm : Nat} (hb : Below u.heap.size u u') (h : (u.cell? ⟨w.heap.size, 0, none⟩ = some (.int .i64 a0) ∧ u.cell? ⟨w.heap.size, 1, none⟩ = some (.int .i64 a1) ∧ u.cell? ⟨w.heap.size, 2, none⟩ = some (.int .i64 a2) ∧ u.cell? ⟨w.heap.size, 3, none⟩ = some (.int .i64 a3) ∧ u.cell? ⟨w.heap.size, 4, none⟩ = some (.int .i64 a4) ∧ u.cell? ⟨w.heap.size, 5, none⟩ = some (.int .i64 a5) ∧ u.cell? ⟨w.heap.size, 6, none⟩ = some (.int .i64 a6) ∧ u.cell? ⟨w.heap.size, 7, none⟩ = some (.int .i64 a7) ∧ u.cell? ⟨w.heap.size, 8, none⟩ = some (.int .i64 a8) ∧ u.cell? ⟨w.heap.size, 9, none⟩ = some (.int .i64 a9) ∧ u.cell? ⟨w.heap.size, 10, none⟩ = some (.int .i64 a10) ∧ u.cell? ⟨w.heap.size, 11, none⟩ = some (.int .i64 a11) ∧ u.cell? ⟨w.heap.size, 12, none⟩ = some (.slice p al.length cn) ∧ u.cell? ⟨w.heap.size, 13, none⟩ = some (.slice q zl.length cm) ∧ u.cell? ⟨w.heap.size, 14, none⟩ = some (.int .i64 a14)) ∧ Lst u p al ∧ Lst u q zl ∧ Below w.heap.size w u) : (u'.cell? ⟨w.heap.size, 0, none⟩ = some (.int .i64 a0) ∧ u'.cell? ⟨w.heap.size, 1, none⟩ = some (.int .i64 a1) ∧ u'.cell? ⟨w.heap.size, 2, none⟩ = some (.int .i64 a2) ∧ u'.cell? ⟨w.heap.size, 3, none⟩ = some (.int .i64 a3) ∧ u'.cell? ⟨w.heap.size, 4, none⟩ = some (.int .i64 a4) ∧ u'.cell? ⟨w.heap.size, 5, none⟩ = some (.int .i64 a5) ∧ u'.cell? ⟨w.heap.size, 6, none⟩ = some (.int .i64 a6) ∧ u'.cell? ⟨w.heap.size, 7, none⟩ = some (.int .i64 a7) ∧ u'.cell? ⟨w.heap.size, 8, none⟩ = some (.int .i64 a8) ∧ u'.cell? ⟨w.heap.size, 9, none⟩ = some (.int .i64 a9) ∧ u'.cell? ⟨w.heap.size, 10, none⟩ = some (.int .i64 a10) ∧ u'.cell? ⟨w.heap.size, 11, none⟩ = some (.int .i64 a11) ∧ u'.cell? ⟨w.heap.size, 12, none⟩ = some (.slice p al.length cn) ∧ u'.cell? ⟨w.heap.size, 13, none⟩ = some (.slice q zl.length cm) ∧ u'.cell? ⟨w.heap.size, 14, none⟩ = some (.int .i64 a14)) ∧ Lst u' p al ∧ Lst u' q zl ∧ Below w.heap.size w u' :=
  ⟨AxB.later (B := w.heap.size) (n := al.length) (m := zl.length) h.1 hb, h.2.1.later hb, h.2.2.1.later hb, abelow_up h.2.2.2 hb⟩
theorem fst6 (e : Nat → Int) : fstN e 6 = if e 0 = 0 then (if firstI [e 1, e 2] = 0 then firstI [e 3, e 4, e 5] else firstI [e 1, e 2]) else e 0 := by
  simp only [fstN, firstI]
  by_cases h0 : e 0 = 0 <;> by_cases h1 : e 1 = 0 <;> by_cases h2 : e 2 = 0 <;> by_cases h3 : e 3 = 0 <;> by_cases h4 : e 4 = 0 <;> by_cases h5 : e 5 = 0 <;> simp [*]
/-- The last of the three, with a doubling that may wrap where the rule of the guard may not be. -/
theorem fm_wrap {l n lo hi m2 e3 e4 : Int} (hm : e3 = 0 → m2 = 2 * n) : firstI [e3, e4, fmE l n lo hi] = firstI [e3, e4, if l < m2 ∨ 0 < lo ∨ hi < 0 then 3 else 0] := by
  by_cases h : e3 = 0
  · rw [hm h]; rfl
  · simp [firstI, h]

end Go.Proofs.YtaonbbimnenehaaDoor
