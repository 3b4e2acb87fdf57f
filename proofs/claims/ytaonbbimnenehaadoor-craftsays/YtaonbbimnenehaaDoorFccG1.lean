/-
  fulmarref.AxisMay: one of its ways.
-/
import Derived.Test.YtaonbbimnenehaaDoorFccG0
namespace Go.Proofs.YtaonbbimnenehaaDoor
open Go.RowKit Plain

set_option maxRecDepth 100000 in
set_option maxHeartbeats 4000000 in
theorem axisMay_bad (a0 a1 a2 a3 a4 a5 a6 a7 a8 a9 a10 a11 a14 : Int) (p q : Option Addr) (al zl : List Int) (cn cm : Nat) (_hm : al.length ≤ 9223372036854775807) (_hn : zl.length ≤ 9223372036854775807) (w : World) (ha : Lst w p al) (hz : Lst w q zl) (hr : rgE a4 a3 ≠ 0) :
    Calls Tryd.prog 15 #[.agg #[.int .i64 a0, .int .i64 a1, .int .i64 a2, .int .i64 a3, .int .i64 a4, .int .i64 a5, .int .i64 a6, .int .i64 a7, .int .i64 a8, .int .i64 a9, .int .i64 a10, .int .i64 a11, .slice p al.length cn, .slice q zl.length cm, .int .i64 a14]] w fun e w' => e = .returned (.int .i64 (fstN (eAx a0 a1 a2 a3 a4 a5 a6 a7 a8 a9 a10 a11 a14 al zl) 6)) ∧ Below w.heap.size w w' := by
  have HX : Hid (((w.alloc (.cells #[.int .i64 a0, .int .i64 a1, .int .i64 a2, .int .i64 a3, .int .i64 a4, .int .i64 a5, .int .i64 a6, .int .i64 a7, .int .i64 a8, .int .i64 a9, .int .i64 a10, .int .i64 a11, .slice p al.length cn, .slice q zl.length cm, .int .i64 a14] 26)).cell? ⟨w.heap.size, 0, none⟩ = some (.int .i64 a0) ∧ (w.alloc (.cells #[.int .i64 a0, .int .i64 a1, .int .i64 a2, .int .i64 a3, .int .i64 a4, .int .i64 a5, .int .i64 a6, .int .i64 a7, .int .i64 a8, .int .i64 a9, .int .i64 a10, .int .i64 a11, .slice p al.length cn, .slice q zl.length cm, .int .i64 a14] 26)).cell? ⟨w.heap.size, 1, none⟩ = some (.int .i64 a1) ∧ (w.alloc (.cells #[.int .i64 a0, .int .i64 a1, .int .i64 a2, .int .i64 a3, .int .i64 a4, .int .i64 a5, .int .i64 a6, .int .i64 a7, .int .i64 a8, .int .i64 a9, .int .i64 a10, .int .i64 a11, .slice p al.length cn, .slice q zl.length cm, .int .i64 a14] 26)).cell? ⟨w.heap.size, 2, none⟩ = some (.int .i64 a2) ∧ (w.alloc (.cells #[.int .i64 a0, .int .i64 a1, .int .i64 a2, .int .i64 a3, .int .i64 a4, .int .i64 a5, .int .i64 a6, .int .i64 a7, .int .i64 a8, .int .i64 a9, .int .i64 a10, .int .i64 a11, .slice p al.length cn, .slice q zl.length cm, .int .i64 a14] 26)).cell? ⟨w.heap.size, 3, none⟩ = some (.int .i64 a3) ∧ (w.alloc (.cells #[.int .i64 a0, .int .i64 a1, .int .i64 a2, .int .i64 a3, .int .i64 a4, .int .i64 a5, .int .i64 a6, .int .i64 a7, .int .i64 a8, .int .i64 a9, .int .i64 a10, .int .i64 a11, .slice p al.length cn, .slice q zl.length cm, .int .i64 a14] 26)).cell? ⟨w.heap.size, 4, none⟩ = some (.int .i64 a4) ∧ (w.alloc (.cells #[.int .i64 a0, .int .i64 a1, .int .i64 a2, .int .i64 a3, .int .i64 a4, .int .i64 a5, .int .i64 a6, .int .i64 a7, .int .i64 a8, .int .i64 a9, .int .i64 a10, .int .i64 a11, .slice p al.length cn, .slice q zl.length cm, .int .i64 a14] 26)).cell? ⟨w.heap.size, 5, none⟩ = some (.int .i64 a5) ∧ (w.alloc (.cells #[.int .i64 a0, .int .i64 a1, .int .i64 a2, .int .i64 a3, .int .i64 a4, .int .i64 a5, .int .i64 a6, .int .i64 a7, .int .i64 a8, .int .i64 a9, .int .i64 a10, .int .i64 a11, .slice p al.length cn, .slice q zl.length cm, .int .i64 a14] 26)).cell? ⟨w.heap.size, 6, none⟩ = some (.int .i64 a6) ∧ (w.alloc (.cells #[.int .i64 a0, .int .i64 a1, .int .i64 a2, .int .i64 a3, .int .i64 a4, .int .i64 a5, .int .i64 a6, .int .i64 a7, .int .i64 a8, .int .i64 a9, .int .i64 a10, .int .i64 a11, .slice p al.length cn, .slice q zl.length cm, .int .i64 a14] 26)).cell? ⟨w.heap.size, 7, none⟩ = some (.int .i64 a7) ∧ (w.alloc (.cells #[.int .i64 a0, .int .i64 a1, .int .i64 a2, .int .i64 a3, .int .i64 a4, .int .i64 a5, .int .i64 a6, .int .i64 a7, .int .i64 a8, .int .i64 a9, .int .i64 a10, .int .i64 a11, .slice p al.length cn, .slice q zl.length cm, .int .i64 a14] 26)).cell? ⟨w.heap.size, 8, none⟩ = some (.int .i64 a8) ∧ (w.alloc (.cells #[.int .i64 a0, .int .i64 a1, .int .i64 a2, .int .i64 a3, .int .i64 a4, .int .i64 a5, .int .i64 a6, .int .i64 a7, .int .i64 a8, .int .i64 a9, .int .i64 a10, .int .i64 a11, .slice p al.length cn, .slice q zl.length cm, .int .i64 a14] 26)).cell? ⟨w.heap.size, 9, none⟩ = some (.int .i64 a9) ∧ (w.alloc (.cells #[.int .i64 a0, .int .i64 a1, .int .i64 a2, .int .i64 a3, .int .i64 a4, .int .i64 a5, .int .i64 a6, .int .i64 a7, .int .i64 a8, .int .i64 a9, .int .i64 a10, .int .i64 a11, .slice p al.length cn, .slice q zl.length cm, .int .i64 a14] 26)).cell? ⟨w.heap.size, 10, none⟩ = some (.int .i64 a10) ∧ (w.alloc (.cells #[.int .i64 a0, .int .i64 a1, .int .i64 a2, .int .i64 a3, .int .i64 a4, .int .i64 a5, .int .i64 a6, .int .i64 a7, .int .i64 a8, .int .i64 a9, .int .i64 a10, .int .i64 a11, .slice p al.length cn, .slice q zl.length cm, .int .i64 a14] 26)).cell? ⟨w.heap.size, 11, none⟩ = some (.int .i64 a11) ∧ (w.alloc (.cells #[.int .i64 a0, .int .i64 a1, .int .i64 a2, .int .i64 a3, .int .i64 a4, .int .i64 a5, .int .i64 a6, .int .i64 a7, .int .i64 a8, .int .i64 a9, .int .i64 a10, .int .i64 a11, .slice p al.length cn, .slice q zl.length cm, .int .i64 a14] 26)).cell? ⟨w.heap.size, 12, none⟩ = some (.slice p al.length cn) ∧ (w.alloc (.cells #[.int .i64 a0, .int .i64 a1, .int .i64 a2, .int .i64 a3, .int .i64 a4, .int .i64 a5, .int .i64 a6, .int .i64 a7, .int .i64 a8, .int .i64 a9, .int .i64 a10, .int .i64 a11, .slice p al.length cn, .slice q zl.length cm, .int .i64 a14] 26)).cell? ⟨w.heap.size, 13, none⟩ = some (.slice q zl.length cm) ∧ (w.alloc (.cells #[.int .i64 a0, .int .i64 a1, .int .i64 a2, .int .i64 a3, .int .i64 a4, .int .i64 a5, .int .i64 a6, .int .i64 a7, .int .i64 a8, .int .i64 a9, .int .i64 a10, .int .i64 a11, .slice p al.length cn, .slice q zl.length cm, .int .i64 a14] 26)).cell? ⟨w.heap.size, 14, none⟩ = some (.int .i64 a14)) ∧ Lst (w.alloc (.cells #[.int .i64 a0, .int .i64 a1, .int .i64 a2, .int .i64 a3, .int .i64 a4, .int .i64 a5, .int .i64 a6, .int .i64 a7, .int .i64 a8, .int .i64 a9, .int .i64 a10, .int .i64 a11, .slice p al.length cn, .slice q zl.length cm, .int .i64 a14] 26)) p al ∧ Lst (w.alloc (.cells #[.int .i64 a0, .int .i64 a1, .int .i64 a2, .int .i64 a3, .int .i64 a4, .int .i64 a5, .int .i64 a6, .int .i64 a7, .int .i64 a8, .int .i64 a9, .int .i64 a10, .int .i64 a11, .slice p al.length cn, .slice q zl.length cm, .int .i64 a14] 26)) q zl ∧ Below w.heap.size w (w.alloc (.cells #[.int .i64 a0, .int .i64 a1, .int .i64 a2, .int .i64 a3, .int .i64 a4, .int .i64 a5, .int .i64 a6, .int .i64 a7, .int .i64 a8, .int .i64 a9, .int .i64 a10, .int .i64 a11, .slice p al.length cn, .slice q zl.length cm, .int .i64 a14] 26))) := ahide ⟨AxB.new w a0 a1 a2 a3 a4 a5 a6 a7 a8 a9 a10 a11 a14 p q al.length zl.length cn cm, ha.later (abelow_alloc _ _), hz.later (abelow_alloc _ _), abelow_alloc _ _⟩
  have HF := ahide (fst6 (eAx a0 a1 a2 a3 a4 a5 a6 a7 a8 a9 a10 a11 a14 al zl))
  have HF : Hid (fstN (eAx a0 a1 a2 a3 a4 a5 a6 a7 a8 a9 a10 a11 a14 al zl) 6 = if rgE a4 a3 = 0 then (if firstI [ruleE a8 a9, arE a5 a6 a7 a10] = 0 then firstI [grE a0 a1 a2 (a3 + a7) ((a4 - 1) * a5) ((a4 - 1) * a6), ruE a0 a1 a11 a14 ((a4 - 1) * a5) al zl, fmE a8 a2 a0 a1] else firstI [ruleE a8 a9, arE a5 a6 a7 a10]) else rgE a4 a3) := HF
  have f1 := refBetw_any a4 2 4
  have f2 := refBetw_any a3 0 1000
  have HZ := ahide (@rgE_zero a4 a3)
  have HR : Hid (rgE a4 a3 = if betw a4 2 4 && betw a3 0 1000 then 0 else 1) := ahide rfl
  generalize fstN (eAx a0 a1 a2 a3 a4 a5 a6 a7 a8 a9 a10 a11 a14 al zl) 6 = res at *
  generalize rgE a4 a3 = e0 at *
  generalize betw a4 2 4 = x1 at *
  generalize betw a3 0 1000 = x2 at *
  clear ha hz
  rcases (show x1 = false ∨ (x1 = true ∧ x2 = false) ∨ (x1 = true ∧ x2 = true) by cases x1 <;> cases x2 <;> simp) with rfl | ⟨rfl, rfl⟩ | ⟨rfl, rfl⟩
  · have HE : Hid (res = 1) := ahide (by rw [HF.out, HR.out]; rfl)
    clear HF HR HZ
    go_enter Tryd.func15, Tryd.ntmps15
    go_wp2_with (first
      | (go_at_call_of 26 (Value.int .i64 a4); refine (f1 _).mono ?_; rintro e w' ⟨rfl, hq⟩; have hq := hq.symm; subst hq)
      | (go_at_call_of 26 (Value.int .i64 a3); refine (f2 _).mono ?_; rintro e w' ⟨rfl, hq⟩; have hq := hq.symm; subst hq)
      | (go_at_call_of 25 (Value.bool true); refine (when_true _ _).mono ?_; rintro e w' ⟨rfl, hq⟩; have hq := hq.symm; subst hq)
      | (go_at_call_of 25 (Value.bool false); refine (when_false _ _).mono ?_; rintro e w' ⟨rfl, hq⟩; have hq := hq.symm; subst hq))
    go_ret
    exact ⟨by rw [HE.out]; rfl, abelow_alloc _ _⟩
  · have HE : Hid (res = 1) := ahide (by rw [HF.out, HR.out]; rfl)
    clear HF HR HZ
    go_enter Tryd.func15, Tryd.ntmps15
    go_wp2_with (first
      | (go_at_call_of 26 (Value.int .i64 a4); refine (f1 _).mono ?_; rintro e w' ⟨rfl, hq⟩; have hq := hq.symm; subst hq)
      | (go_at_call_of 26 (Value.int .i64 a3); refine (f2 _).mono ?_; rintro e w' ⟨rfl, hq⟩; have hq := hq.symm; subst hq)
      | (go_at_call_of 25 (Value.bool true); refine (when_true _ _).mono ?_; rintro e w' ⟨rfl, hq⟩; have hq := hq.symm; subst hq)
      | (go_at_call_of 25 (Value.bool false); refine (when_false _ _).mono ?_; rintro e w' ⟨rfl, hq⟩; have hq := hq.symm; subst hq))
    go_ret
    exact ⟨by rw [HE.out]; rfl, abelow_alloc _ _⟩
  · exact absurd HR.out hr
set_option maxRecDepth 100000 in
set_option maxHeartbeats 4000000 in
theorem axisMay_v (a0 a1 a2 a3 a4 a5 a6 a7 a8 a9 a10 a11 a14 : Int) (p q : Option Addr) (al zl : List Int) (cn cm : Nat) (_hm : al.length ≤ 9223372036854775807) (_hn : zl.length ≤ 9223372036854775807) (w : World) (ha : Lst w p al) (hz : Lst w q zl) (hr : rgE a4 a3 = 0) (hv : firstI [ruleE a8 a9, arE a5 a6 a7 a10] ≠ 0) :
    Calls Tryd.prog 15 #[.agg #[.int .i64 a0, .int .i64 a1, .int .i64 a2, .int .i64 a3, .int .i64 a4, .int .i64 a5, .int .i64 a6, .int .i64 a7, .int .i64 a8, .int .i64 a9, .int .i64 a10, .int .i64 a11, .slice p al.length cn, .slice q zl.length cm, .int .i64 a14]] w fun e w' => e = .returned (.int .i64 (fstN (eAx a0 a1 a2 a3 a4 a5 a6 a7 a8 a9 a10 a11 a14 al zl) 6)) ∧ Below w.heap.size w w' := by
  have HX : Hid (((w.alloc (.cells #[.int .i64 a0, .int .i64 a1, .int .i64 a2, .int .i64 a3, .int .i64 a4, .int .i64 a5, .int .i64 a6, .int .i64 a7, .int .i64 a8, .int .i64 a9, .int .i64 a10, .int .i64 a11, .slice p al.length cn, .slice q zl.length cm, .int .i64 a14] 26)).cell? ⟨w.heap.size, 0, none⟩ = some (.int .i64 a0) ∧ (w.alloc (.cells #[.int .i64 a0, .int .i64 a1, .int .i64 a2, .int .i64 a3, .int .i64 a4, .int .i64 a5, .int .i64 a6, .int .i64 a7, .int .i64 a8, .int .i64 a9, .int .i64 a10, .int .i64 a11, .slice p al.length cn, .slice q zl.length cm, .int .i64 a14] 26)).cell? ⟨w.heap.size, 1, none⟩ = some (.int .i64 a1) ∧ (w.alloc (.cells #[.int .i64 a0, .int .i64 a1, .int .i64 a2, .int .i64 a3, .int .i64 a4, .int .i64 a5, .int .i64 a6, .int .i64 a7, .int .i64 a8, .int .i64 a9, .int .i64 a10, .int .i64 a11, .slice p al.length cn, .slice q zl.length cm, .int .i64 a14] 26)).cell? ⟨w.heap.size, 2, none⟩ = some (.int .i64 a2) ∧ (w.alloc (.cells #[.int .i64 a0, .int .i64 a1, .int .i64 a2, .int .i64 a3, .int .i64 a4, .int .i64 a5, .int .i64 a6, .int .i64 a7, .int .i64 a8, .int .i64 a9, .int .i64 a10, .int .i64 a11, .slice p al.length cn, .slice q zl.length cm, .int .i64 a14] 26)).cell? ⟨w.heap.size, 3, none⟩ = some (.int .i64 a3) ∧ (w.alloc (.cells #[.int .i64 a0, .int .i64 a1, .int .i64 a2, .int .i64 a3, .int .i64 a4, .int .i64 a5, .int .i64 a6, .int .i64 a7, .int .i64 a8, .int .i64 a9, .int .i64 a10, .int .i64 a11, .slice p al.length cn, .slice q zl.length cm, .int .i64 a14] 26)).cell? ⟨w.heap.size, 4, none⟩ = some (.int .i64 a4) ∧ (w.alloc (.cells #[.int .i64 a0, .int .i64 a1, .int .i64 a2, .int .i64 a3, .int .i64 a4, .int .i64 a5, .int .i64 a6, .int .i64 a7, .int .i64 a8, .int .i64 a9, .int .i64 a10, .int .i64 a11, .slice p al.length cn, .slice q zl.length cm, .int .i64 a14] 26)).cell? ⟨w.heap.size, 5, none⟩ = some (.int .i64 a5) ∧ (w.alloc (.cells #[.int .i64 a0, .int .i64 a1, .int .i64 a2, .int .i64 a3, .int .i64 a4, .int .i64 a5, .int .i64 a6, .int .i64 a7, .int .i64 a8, .int .i64 a9, .int .i64 a10, .int .i64 a11, .slice p al.length cn, .slice q zl.length cm, .int .i64 a14] 26)).cell? ⟨w.heap.size, 6, none⟩ = some (.int .i64 a6) ∧ (w.alloc (.cells #[.int .i64 a0, .int .i64 a1, .int .i64 a2, .int .i64 a3, .int .i64 a4, .int .i64 a5, .int .i64 a6, .int .i64 a7, .int .i64 a8, .int .i64 a9, .int .i64 a10, .int .i64 a11, .slice p al.length cn, .slice q zl.length cm, .int .i64 a14] 26)).cell? ⟨w.heap.size, 7, none⟩ = some (.int .i64 a7) ∧ (w.alloc (.cells #[.int .i64 a0, .int .i64 a1, .int .i64 a2, .int .i64 a3, .int .i64 a4, .int .i64 a5, .int .i64 a6, .int .i64 a7, .int .i64 a8, .int .i64 a9, .int .i64 a10, .int .i64 a11, .slice p al.length cn, .slice q zl.length cm, .int .i64 a14] 26)).cell? ⟨w.heap.size, 8, none⟩ = some (.int .i64 a8) ∧ (w.alloc (.cells #[.int .i64 a0, .int .i64 a1, .int .i64 a2, .int .i64 a3, .int .i64 a4, .int .i64 a5, .int .i64 a6, .int .i64 a7, .int .i64 a8, .int .i64 a9, .int .i64 a10, .int .i64 a11, .slice p al.length cn, .slice q zl.length cm, .int .i64 a14] 26)).cell? ⟨w.heap.size, 9, none⟩ = some (.int .i64 a9) ∧ (w.alloc (.cells #[.int .i64 a0, .int .i64 a1, .int .i64 a2, .int .i64 a3, .int .i64 a4, .int .i64 a5, .int .i64 a6, .int .i64 a7, .int .i64 a8, .int .i64 a9, .int .i64 a10, .int .i64 a11, .slice p al.length cn, .slice q zl.length cm, .int .i64 a14] 26)).cell? ⟨w.heap.size, 10, none⟩ = some (.int .i64 a10) ∧ (w.alloc (.cells #[.int .i64 a0, .int .i64 a1, .int .i64 a2, .int .i64 a3, .int .i64 a4, .int .i64 a5, .int .i64 a6, .int .i64 a7, .int .i64 a8, .int .i64 a9, .int .i64 a10, .int .i64 a11, .slice p al.length cn, .slice q zl.length cm, .int .i64 a14] 26)).cell? ⟨w.heap.size, 11, none⟩ = some (.int .i64 a11) ∧ (w.alloc (.cells #[.int .i64 a0, .int .i64 a1, .int .i64 a2, .int .i64 a3, .int .i64 a4, .int .i64 a5, .int .i64 a6, .int .i64 a7, .int .i64 a8, .int .i64 a9, .int .i64 a10, .int .i64 a11, .slice p al.length cn, .slice q zl.length cm, .int .i64 a14] 26)).cell? ⟨w.heap.size, 12, none⟩ = some (.slice p al.length cn) ∧ (w.alloc (.cells #[.int .i64 a0, .int .i64 a1, .int .i64 a2, .int .i64 a3, .int .i64 a4, .int .i64 a5, .int .i64 a6, .int .i64 a7, .int .i64 a8, .int .i64 a9, .int .i64 a10, .int .i64 a11, .slice p al.length cn, .slice q zl.length cm, .int .i64 a14] 26)).cell? ⟨w.heap.size, 13, none⟩ = some (.slice q zl.length cm) ∧ (w.alloc (.cells #[.int .i64 a0, .int .i64 a1, .int .i64 a2, .int .i64 a3, .int .i64 a4, .int .i64 a5, .int .i64 a6, .int .i64 a7, .int .i64 a8, .int .i64 a9, .int .i64 a10, .int .i64 a11, .slice p al.length cn, .slice q zl.length cm, .int .i64 a14] 26)).cell? ⟨w.heap.size, 14, none⟩ = some (.int .i64 a14)) ∧ Lst (w.alloc (.cells #[.int .i64 a0, .int .i64 a1, .int .i64 a2, .int .i64 a3, .int .i64 a4, .int .i64 a5, .int .i64 a6, .int .i64 a7, .int .i64 a8, .int .i64 a9, .int .i64 a10, .int .i64 a11, .slice p al.length cn, .slice q zl.length cm, .int .i64 a14] 26)) p al ∧ Lst (w.alloc (.cells #[.int .i64 a0, .int .i64 a1, .int .i64 a2, .int .i64 a3, .int .i64 a4, .int .i64 a5, .int .i64 a6, .int .i64 a7, .int .i64 a8, .int .i64 a9, .int .i64 a10, .int .i64 a11, .slice p al.length cn, .slice q zl.length cm, .int .i64 a14] 26)) q zl ∧ Below w.heap.size w (w.alloc (.cells #[.int .i64 a0, .int .i64 a1, .int .i64 a2, .int .i64 a3, .int .i64 a4, .int .i64 a5, .int .i64 a6, .int .i64 a7, .int .i64 a8, .int .i64 a9, .int .i64 a10, .int .i64 a11, .slice p al.length cn, .slice q zl.length cm, .int .i64 a14] 26))) := ahide ⟨AxB.new w a0 a1 a2 a3 a4 a5 a6 a7 a8 a9 a10 a11 a14 p q al.length zl.length cn cm, ha.later (abelow_alloc _ _), hz.later (abelow_alloc _ _), abelow_alloc _ _⟩
  have HF := ahide (fst6 (eAx a0 a1 a2 a3 a4 a5 a6 a7 a8 a9 a10 a11 a14 al zl))
  have HF : Hid (fstN (eAx a0 a1 a2 a3 a4 a5 a6 a7 a8 a9 a10 a11 a14 al zl) 6 = if rgE a4 a3 = 0 then (if firstI [ruleE a8 a9, arE a5 a6 a7 a10] = 0 then firstI [grE a0 a1 a2 (a3 + a7) ((a4 - 1) * a5) ((a4 - 1) * a6), ruE a0 a1 a11 a14 ((a4 - 1) * a5) al zl, fmE a8 a2 a0 a1] else firstI [ruleE a8 a9, arE a5 a6 a7 a10]) else rgE a4 a3) := HF
  have f1 := refBetw_any a4 2 4
  have f2 := refBetw_any a3 0 1000
  have HZ := ahide (@rgE_zero a4 a3)
  have HR : Hid (rgE a4 a3 = if betw a4 2 4 && betw a3 0 1000 then 0 else 1) := ahide rfl
  generalize fstN (eAx a0 a1 a2 a3 a4 a5 a6 a7 a8 a9 a10 a11 a14 al zl) 6 = res at *
  generalize rgE a4 a3 = e0 at *
  generalize betw a4 2 4 = x1 at *
  generalize betw a3 0 1000 = x2 at *
  clear ha hz
  rcases (show x1 = false ∨ (x1 = true ∧ x2 = false) ∨ (x1 = true ∧ x2 = true) by cases x1 <;> cases x2 <;> simp) with rfl | ⟨rfl, rfl⟩ | ⟨rfl, rfl⟩
  · exact absurd hr (by rw [HR.out]; simp)
  · exact absurd hr (by rw [HR.out]; simp)
  · have he0 : e0 = 0 := HR.out
    obtain ⟨h4, h3⟩ := HZ.out he0
    have HF : Hid (res = (if firstI [ruleE a8 a9, arE a5 a6 a7 a10] = 0 then firstI [grE a0 a1 a2 (a3 + a7) ((a4 - 1) * a5) ((a4 - 1) * a6), ruE a0 a1 a11 a14 ((a4 - 1) * a5) al zl, fmE a8 a2 a0 a1] else firstI [ruleE a8 a9, arE a5 a6 a7 a10])) := ahide (by rw [HF.out, if_pos he0])
    clear he0 HR HZ
    have g1 := fulmarref_VoteRule_r a0 a1 a2 a3 a4 a5 a6 a7 a8 a9 a10 a11 a14 p q al.length zl.length cn cm
    have g2 := ruleMay_any a8 a9
    have g3 := fulmarref_ActRule_r a0 a1 a2 a3 a4 a5 a6 a7 a8 a9 a10 a11 a14 p q al.length zl.length cn cm
    have g4 := refActRule_any a5 a6 a7 a10
    have HA2 := ahide (fun h : arE a5 a6 a7 a10 = 0 => arB_true (arE_zero h))
    have HD3 := ahide (@grE_noise a0 a1 a2 (a3 + a7) ((a4 - 1) * a5) ((a4 - 1) * a6))
    have HFZ : ∀ x y : Int, firstI [x, y] = 0 → y = 0 := fun x y h => by
      simp only [firstI] at h
      by_cases hx : x = 0
      · rw [if_pos hx] at h
        by_cases hy : y = 0
        · exact hy
        · rw [if_neg hy] at h; exact h
      · rw [if_neg hx] at h; exact absurd h hx
    generalize ruleE a8 a9 = e1 at *
    generalize arE a5 a6 a7 a10 = e2 at *
    obtain ⟨v, HV⟩ : ∃ v, Hid (firstI [e1, e2] = v) := ⟨_, ahide rfl⟩
    have g5 : ∀ (T : TypeId) (u : World), Calls Tryd.prog 14 #[.slice (some ⟨u.heap.size, 0, none⟩) 2 2] (u.alloc (.cells #[.int .i64 e1, .int .i64 e2] T)) fun r w' => r = .returned (.int .i64 v) ∧ w' = u.alloc (.cells #[.int .i64 e1, .int .i64 e2] T) := fun T u => by rw [← HV.out]; exact first_new2 T e1 e2 u
    have HF : Hid (res = (if v = 0 then firstI [grE a0 a1 a2 (a3 + a7) ((a4 - 1) * a5) ((a4 - 1) * a6), ruE a0 a1 a11 a14 ((a4 - 1) * a5) al zl, fmE a8 a2 a0 a1] else v)) := ahide (by rw [HF.out, HV.out])
    have HA2 : Hid (v = 0 → _) := ahide (fun h : v = 0 => HA2.out (HFZ e1 e2 (HV.out.trans h)))
    rw [HV.out] at hv
    clear HFZ HV
    · clear HA2 HD3
      have HF : Hid (res = v) := ahide (by rw [HF.out, if_neg hv])
      go_enter Tryd.func15, Tryd.ntmps15
      go_upto_region 4 with (first
      | (go_at_call_of 26 (Value.int .i64 a4); refine (f1 _).mono ?_; rintro e w' ⟨rfl, hq⟩; have hq := hq.symm; subst hq)
      | (go_at_call_of 26 (Value.int .i64 a3); refine (f2 _).mono ?_; rintro e w' ⟨rfl, hq⟩; have hq := hq.symm; subst hq)
      | (go_at_call_of 25 (Value.bool true); refine (when_true _ _).mono ?_; rintro e w' ⟨rfl, hq⟩; have hq := hq.symm; subst hq)
      | (go_at_call_of 25 (Value.bool false); refine (when_false _ _).mono ?_; rintro e w' ⟨rfl, hq⟩; have hq := hq.symm; subst hq))
      obtain ⟨w0, hw0⟩ : ∃ w0, w.alloc (.cells #[.int .i64 a0, .int .i64 a1, .int .i64 a2, .int .i64 a3, .int .i64 a4, .int .i64 a5, .int .i64 a6, .int .i64 a7, .int .i64 a8, .int .i64 a9, .int .i64 a10, .int .i64 a11, .slice p al.length cn, .slice q zl.length cm, .int .i64 a14] 26) = w0 := ⟨_, rfl⟩
      rw [hw0] at HX ⊢
      clear hw0
      have S0 : (w0.cell? ⟨w.heap.size, 0, none⟩ = some (.int .i64 a0) ∧ w0.cell? ⟨w.heap.size, 1, none⟩ = some (.int .i64 a1) ∧ w0.cell? ⟨w.heap.size, 2, none⟩ = some (.int .i64 a2) ∧ w0.cell? ⟨w.heap.size, 3, none⟩ = some (.int .i64 a3) ∧ w0.cell? ⟨w.heap.size, 4, none⟩ = some (.int .i64 a4) ∧ w0.cell? ⟨w.heap.size, 5, none⟩ = some (.int .i64 a5) ∧ w0.cell? ⟨w.heap.size, 6, none⟩ = some (.int .i64 a6) ∧ w0.cell? ⟨w.heap.size, 7, none⟩ = some (.int .i64 a7) ∧ w0.cell? ⟨w.heap.size, 8, none⟩ = some (.int .i64 a8) ∧ w0.cell? ⟨w.heap.size, 9, none⟩ = some (.int .i64 a9) ∧ w0.cell? ⟨w.heap.size, 10, none⟩ = some (.int .i64 a10) ∧ w0.cell? ⟨w.heap.size, 11, none⟩ = some (.int .i64 a11) ∧ w0.cell? ⟨w.heap.size, 12, none⟩ = some (.slice p al.length cn) ∧ w0.cell? ⟨w.heap.size, 13, none⟩ = some (.slice q zl.length cm) ∧ w0.cell? ⟨w.heap.size, 14, none⟩ = some (.int .i64 a14)) ∧ Lst w0 p al ∧ Lst w0 q zl ∧ Below w.heap.size w w0 := HX.out
      go_region_held3 (fun u => (u.cell? ⟨w.heap.size, 0, none⟩ = some (.int .i64 a0) ∧ u.cell? ⟨w.heap.size, 1, none⟩ = some (.int .i64 a1) ∧ u.cell? ⟨w.heap.size, 2, none⟩ = some (.int .i64 a2) ∧ u.cell? ⟨w.heap.size, 3, none⟩ = some (.int .i64 a3) ∧ u.cell? ⟨w.heap.size, 4, none⟩ = some (.int .i64 a4) ∧ u.cell? ⟨w.heap.size, 5, none⟩ = some (.int .i64 a5) ∧ u.cell? ⟨w.heap.size, 6, none⟩ = some (.int .i64 a6) ∧ u.cell? ⟨w.heap.size, 7, none⟩ = some (.int .i64 a7) ∧ u.cell? ⟨w.heap.size, 8, none⟩ = some (.int .i64 a8) ∧ u.cell? ⟨w.heap.size, 9, none⟩ = some (.int .i64 a9) ∧ u.cell? ⟨w.heap.size, 10, none⟩ = some (.int .i64 a10) ∧ u.cell? ⟨w.heap.size, 11, none⟩ = some (.int .i64 a11) ∧ u.cell? ⟨w.heap.size, 12, none⟩ = some (.slice p al.length cn) ∧ u.cell? ⟨w.heap.size, 13, none⟩ = some (.slice q zl.length cm) ∧ u.cell? ⟨w.heap.size, 14, none⟩ = some (.int .i64 a14)) ∧ Lst u p al ∧ Lst u q zl ∧ Below w.heap.size w u)
        (first
          | (with_reducible assumption)
          | (with_reducible refine keepAX (abelow_alloc _ _) ?_; with_reducible assumption)
          | (with_reducible apply keepAX; with_reducible assumption; with_reducible assumption)
          | (refine keepAX ?_ HX.out; exact (Below.refl _ _).drew))
        (first
          | (go_at_call 27; refine (g1 _).mono ?_; rintro e w' ⟨rfl, hb⟩)
          | (go_at_call 16; refine (g2 _).mono ?_; rintro e w' ⟨rfl, hb⟩)
          | (go_at_call 29; refine (g3 _).mono ?_; rintro e w' ⟨rfl, hb⟩)
          | (go_at_call 28; refine (g4 _).mono ?_; rintro e w' ⟨rfl, hb⟩)
          | (go_at_call 14; refine (g5 _ _).mono ?_; rintro e w' ⟨rfl, rfl⟩))

      all_goals
        rename_i hH
        have HB := ahide hH.2.2.2
        clear hH
        go_wp2_with fail
        go_ret
        exact ⟨by rw [HF.out]; rfl, HB.out⟩

end Go.Proofs.YtaonbbimnenehaaDoor
