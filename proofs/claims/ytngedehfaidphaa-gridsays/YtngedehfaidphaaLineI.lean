/-
  The law LineSays, walked at every line: it returns true, and nothing that was there has turned.
-/
import Derived.Test.YtngedehfaidphaaLineH
namespace Go.Proofs.Ytngedehfaidphaa
open Go.RowKit Plain

theorem lineSays_no (a z : Option Addr) (ca cz : Nat) (al zl : List Int) (x : Int) (w : World) (hm : al.length ≤ 20) (hn : zl.length ≤ 20) (hca : al.length ≤ ca) (ha : Lst w a al) (hz : Lst w z zl) (h : lineI al zl ≠ 0) :
    Calls Try.prog 3 #[.agg #[.slice a al.length ca, .slice z zl.length cz], .int .i64 x] w fun r w' => r = .returned (.bool true) ∧ Below w.heap.size w w' := by
  have L := lined w w.heap.size a z ca cz al zl (by omega) (by omega) hca
  have kM := L.may
  have kC := L.check
  have kR := L.rises
  have kL := fun u => L.look u x
  rw [if_neg h] at kL
  rw [decide_eq_false h, Bool.false_and] at kR
  have R0 := startR w a z ca cz al zl ha hz
  have h' : (lineI al zl == 0) = false := by simpa using h
  clear L ha hz h
  have m1 : (al.length : Int) ≤ 20 := by omega
  have n1 : (zl.length : Int) ≤ 20 := by omega
  generalize lineI al zl = er at *
  go_enter Try.func3, Try.ntmps3
  go_upto_region 3 with fail
  obtain ⟨w0, hw0⟩ : ∃ w0, w.alloc (.cells #[.slice a al.length ca, .slice z zl.length cz] 24) = w0 := ⟨_, rfl⟩
  have c0 : w0.cell? ⟨w.heap.size, 0, none⟩ = some (.slice a al.length ca) := by rw [← hw0]; simp [go_sem]
  have c1 : w0.cell? ⟨w.heap.size, 1, none⟩ = some (.slice z zl.length cz) := by rw [← hw0]; simp [go_sem]
  rw [hw0] at R0 ⊢
  clear hw0
  go_wp2_with (go_at_call 7; refine (kM _ c0 c1 R0).mono ?_; rintro e w1 ⟨rfl, d0, d1, R1⟩)
  go_loop [7, 8] (fun r i => r = .bool false ∧ i = .int .i64 1) (fun r i => 0)
  case atStart => exact ⟨rfl, rfl⟩
  case round =>
    obtain ⟨rfl, rfl⟩ := hrel
    clear c0 c1 R0
    by_cases hl : (1 : Int) < (zl.length : Int)
    · go_wp2_with (first
        | (go_at_call 9; refine (kL _ d0 d1 R1).mono ?_; rintro e w4 ⟨rfl, g0, g1, R4⟩)
        | (go_at_call 11; refine (kC _ g0 g1 R4).mono ?_; rintro e w5 ⟨rfl, h0, h1, R5⟩)
        | (go_at_call 12; refine (kR _ h0 h1 R5).mono ?_; rintro e w6 ⟨rfl, i0, i1, R6⟩)
        | (go_at_call 10; refine (is_any _ _ _).mono ?_; rintro e w' ⟨rfl, rfl⟩))
      go_ret
      exact ⟨by simp, R6.2.2⟩
    · go_wp2_with (first
        | (go_at_call 9; refine (kL _ d0 d1 R1).mono ?_; rintro e w4 ⟨rfl, g0, g1, R4⟩)
        | (go_at_call 11; refine (kC _ g0 g1 R4).mono ?_; rintro e w5 ⟨rfl, h0, h1, R5⟩)
        | (go_at_call 12; refine (kR _ h0 h1 R5).mono ?_; rintro e w6 ⟨rfl, i0, i1, R6⟩)
        | (go_at_call 10; refine (is_any _ _ _).mono ?_; rintro e w' ⟨rfl, rfl⟩))
      go_ret
      exact ⟨by simp, R6.2.2⟩

theorem lineSays_walk (a z : Option Addr) (ca cz : Nat) (al zl : List Int) (x : Int) (w : World) (hca : al.length ≤ ca) (ha : Lst w a al) (hz : Lst w z zl) :
    Calls Try.prog 3 #[.agg #[.slice a al.length ca, .slice z zl.length cz], .int .i64 x] w fun r w' => r = .returned (.bool true) ∧ Below w.heap.size w w' := by
  by_cases hm : al.length ≤ 20
  · by_cases hn : zl.length ≤ 20
    · by_cases h : lineI al zl = 0
      · exact lineSays_ok a z ca cz al zl x w hm hn hca ha hz h
      · exact lineSays_no a z ca cz al zl x w hm hn hca ha hz h
    · have m1 : (al.length : Int) ≤ 20 := by omega
      have n1 : 20 < (zl.length : Int) := by omega
      clear ha hz
      go_enter Try.func3, Try.ntmps3
      go_wp2_with fail
      go_ret
      exact ⟨rfl, below_alloc _ _⟩
  · have m1 : 20 < (al.length : Int) := by omega
    clear ha hz
    go_enter Try.func3, Try.ntmps3
    go_wp2_with fail
    go_ret
    exact ⟨rfl, below_alloc _ _⟩

/-- What came in of a slice of numbers. -/
theorem row_list {w : World} {a : Option Addr} {len cap : Nat} (hl : len ≤ cap) {zs : List Int} (hz : zs.length = cap) (h : ∀ x, a = some x → ∀ i, i < zs.length → w.cell? (x.add i) = some (.int .i64 (zs.getD i 0))) (hn : a = none → zs = []) :
    (zs.take len).length = len ∧ Lst w a (zs.take len) := by
  have e : (zs.take len).length = len := by rw [List.length_take]; omega
  refine ⟨e, ?_⟩
  by_cases h0 : len = 0
  · left; subst h0; simp
  · cases a with
    | none => have := hn rfl; subst this; simp at hz; omega
    | some x =>
      obtain ⟨b, off, spot⟩ := x
      have hc := h _ rfl 0 (by omega)
      have hspot : spot = none := by simpa [Addr.add] using World.cell?_spot hc
      subst hspot
      right
      refine ⟨b, off, rfl, fun k hk => ?_⟩
      rw [e] at hk
      have := h _ rfl k (by omega)
      rw [show at0 (zs.take len) k = zs.getD k 0 by simp [at0, List.getD_eq_getElem?_getD, hk]]
      by_cases k0 : k = 0
      · subst k0; simpa [Addr.add] using this
      · simpa [Addr.add, k0] using this

end Go.Proofs.Ytngedehfaidphaa
