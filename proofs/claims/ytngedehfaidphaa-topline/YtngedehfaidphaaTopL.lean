/-
  The law TopLine, walked: the closed fact, and the lines that may be.
-/
import Derived.Test.YtngedehfaidphaaOverE
namespace Go.Proofs.Ytngedehfaidphaa
open Go.RowKit Plain

theorem lined_any (w : World) : Calls Try.prog 21 #[] w fun r w' => r = .returned (.bool true) ∧ Below w.heap.size w w' := by
  have h2 : Below w.heap.size w ((w.alloc (.cells #[.int .i64 0, .int .i64 10] 3)).alloc (.cells #[.int .i64 0, .int .i64 5] 3)) := ((Below.refl _ _).alloc (Nat.le_refl _) _).alloc (by simp) _
  have hl : Line ((w.alloc (.cells #[.int .i64 0, .int .i64 10] 3)).alloc (.cells #[.int .i64 0, .int .i64 5] 3)) w.heap.size 0 (w.heap.size + 1) 0 [0, 10] [0, 5] := by
    refine ⟨by decide, fun k hk => ?_, fun k hk => ?_⟩
    · match k, hk with
      | 0, _ => simp [go_sem, at0]
      | 1, _ => simp [go_sem, at0]
    · match k, hk with
      | 0, _ => simp [go_sem, at0]
      | 1, _ => simp [go_sem, at0]
  have kL := look_ok w.heap.size 0 2 (w.heap.size + 1) 0 2 [0, 10] [0, 5] 3 _ (by decide) hl
  have e : lookI [0, 10] [0, 5] 3 = 2 := by decide
  rw [e] at kL
  clear e hl
  go_enter Try.func21, Try.ntmps21
  go_wp2_with (go_at_call 9; refine kL.mono ?_; rintro e w' ⟨rfl, hb⟩)
  go_ret
  exact ⟨rfl, below_up h2 hb⟩

theorem topLine_no (a z : Option Addr) (ca cz : Nat) (al zl : List Int) (x y : Int) (w : World) (hn : zl.length ≤ 9223372036854775807) (ha : Lst w a al) (hz : Lst w z zl) (h : 20 < al.length ∨ lineI al zl ≠ 0) :
    Calls Try.prog 6 #[.agg #[.slice a al.length ca, .slice z zl.length cz], .int .i64 x, .int .i64 y] w fun r w' => r = .returned (.bool true) ∧ Below w.heap.size w w' := by
  have R0 := startR w a z ca cz al zl ha hz
  have kD : ∀ u, u.cell? ⟨w.heap.size, 0, none⟩ = some (.slice a al.length ca) → u.cell? ⟨w.heap.size, 1, none⟩ = some (.slice z zl.length cz) → Rst w w.heap.size a z al zl u →
      Calls Try.prog 21 #[] u fun r u' => r = .returned (.bool true) ∧ u'.cell? ⟨w.heap.size, 0, none⟩ = some (.slice a al.length ca) ∧ u'.cell? ⟨w.heap.size, 1, none⟩ = some (.slice z zl.length cz) ∧ Rst w w.heap.size a z al zl u' := fun u h1 h2 hr => (lined_any u).mono fun _ _ ⟨e, hb⟩ => ⟨e, keepR h1 h2 hr hb⟩
  have kM : al.length ≤ 20 → ∀ u, u.cell? ⟨w.heap.size, 0, none⟩ = some (.slice a al.length ca) → u.cell? ⟨w.heap.size, 1, none⟩ = some (.slice z zl.length cz) → Rst w w.heap.size a z al zl u →
      Calls Try.prog 7 #[.agg #[.slice a al.length ca, .slice z zl.length cz]] u fun r u' => r = .returned (.int .i64 (lineI al zl)) ∧ u'.cell? ⟨w.heap.size, 0, none⟩ = some (.slice a al.length ca) ∧ u'.cell? ⟨w.heap.size, 1, none⟩ = some (.slice z zl.length cz) ∧ Rst w w.heap.size a z al zl u' :=
    fun hl u h1 h2 hr => (lineMay_any a z ca cz al zl u (by omega) hn hr.1 hr.2.1).mono fun _ _ ⟨e, hb⟩ => ⟨e, keepR h1 h2 hr hb⟩
  have c0 : (w.alloc (.cells #[.slice a al.length ca, .slice z zl.length cz] 24)).cell? ⟨w.heap.size, 0, none⟩ = some (.slice a al.length ca) := by simp [go_sem]
  have c1 : (w.alloc (.cells #[.slice a al.length ca, .slice z zl.length cz] 24)).cell? ⟨w.heap.size, 1, none⟩ = some (.slice z zl.length cz) := by simp [go_sem]
  clear ha hz
  by_cases hl : al.length ≤ 20
  · have h0 : lineI al zl ≠ 0 := by rcases h with h | h; omega; exact h
    have h0' : (lineI al zl != 0) = true := by simpa using h0
    have kM' := kM hl
    have l1 : (al.length : Int) ≤ 20 := by omega
    clear h h0 kM hl
    go_enter Try.func6, Try.ntmps6
    go_wp2_with (first
      | (go_at_call 21; refine (kD _ c0 c1 R0).mono ?_; rintro e w1 ⟨rfl, d0, d1, R1⟩; clear c0 c1 R0)
      | (go_at_call 7; refine (kM' _ d0 d1 R1).mono ?_; rintro e w2 ⟨rfl, e0, e1, R2⟩)
      | (go_at_call 21; refine (kD _ e0 e1 R2).mono ?_; rintro e w1 ⟨rfl, f0, f1, R3⟩))
    go_ret
    exact ⟨rfl, R3.2.2⟩
  · have l1 : 20 < (al.length : Int) := by omega
    clear h kM hl
    go_enter Try.func6, Try.ntmps6
    go_wp2_with (first
      | (go_at_call 21; refine (kD _ c0 c1 R0).mono ?_; rintro e w1 ⟨rfl, d0, d1, R1⟩; clear c0 c1 R0)
      | (go_at_call 21; refine (kD _ d0 d1 R1).mono ?_; rintro e w1 ⟨rfl, f0, f1, R3⟩))
    go_ret
    exact ⟨rfl, R3.2.2⟩

end Go.Proofs.Ytngedehfaidphaa
