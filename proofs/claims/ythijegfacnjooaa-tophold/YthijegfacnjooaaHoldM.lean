/-
  Contract of fulmarref.HoldMay: may a rule, a state, an ask be?
-/
import Derived.Test.YthijegfacnjooaaHoldC
import Derived.Test.YthijegfacnjooaaHoldR
namespace Go.Proofs.Ythijegfacnjooaa
open Go.RowKit Plain

theorem firstI_ne {x y z : Int} (h : x ≠ 0) : firstI [x, y, z] = x := by simp only [firstI]; rw [if_neg h]

set_option maxRecDepth 100000 in
set_option maxHeartbeats 4000000 in
theorem holdMay_any (L H U B M : Int) (a z : Option Addr) (ca cz : Nat) (al zl : List Int) (A D W k p v n q : Int) (hm : al.length ≤ 9223372036854775807) (hn : zl.length ≤ 9223372036854775807) (w : World) (ha : Lst w a al) (hz : Lst w z zl) :
    Calls Try.prog 31 #[.agg #[.int .i64 L, .int .i64 H, .int .i64 U, .int .i64 B, .int .i64 M, .slice a al.length ca, .slice z zl.length cz], .agg #[.int .i64 A, .int .i64 D, .int .i64 W], .agg #[.int .i64 k, .int .i64 p, .int .i64 v, .int .i64 n, .int .i64 q]] w fun e w' => e = .returned (.int .i64 (hoE L H U B M al zl A D W k n q)) ∧ Below w.heap.size w w' := by
  have hrm := fun u (h1 : Lst u a al) (h2 : Lst u z zl) => holdRuleMay_any L H U B M a z ca cz al zl hm hn u h1 h2
  have HX := ahide (newHS L H U B M a z ca cz al zl A D W k p v n q w ha hz)
  dsimp only at HX
  clear ha hz
  by_cases h0 : ruE L H U B M al zl = 0
  · obtain ⟨_, _, _, _, m0, m1⟩ := ruB_true (ruE_zero h0).1
    have HE := ahide (show hoE L H U B M al zl A D W k n q = firstI [0, if betw A L H && betw D (-M) M && betw W 0 3 then 0 else 3, if betw k (-100) 100 && betw n 0 3 && betw q (-M) M then 0 else 1] by
      unfold hoE; rw [if_pos h0]; unfold stB asB
      cases betw A L H && betw D (-M) M && betw W 0 3 <;> cases betw k (-100) 100 && betw n 0 3 && betw q (-M) M <;> rfl)
    simp only [h0] at hrm
    generalize hoE L H U B M al zl A D W k n q = E at *
    clear h0
    have f1 := refBetw_any A L H
    have f2 := refBetw_any D (-M) M
    have f3 := refBetw_any W 0 3
    have f4 := refBetw_any k (-100) 100
    have f5 := refBetw_any n 0 3
    have f6 := refBetw_any q (-M) M
    generalize betw A L H = x1 at *
    generalize betw D (-M) M = x2 at *
    generalize betw W 0 3 = x3 at *
    generalize betw k (-100) 100 = y1 at *
    generalize betw n 0 3 = y2 at *
    generalize betw q (-M) M = y3 at *
    rcases (show x1 = false ∨ (x1 = true ∧ x2 = false) ∨ (x1 = true ∧ x2 = true ∧ x3 = false) ∨ (x1 = true ∧ x2 = true ∧ x3 = true) by cases x1 <;> cases x2 <;> cases x3 <;> simp) with rfl | ⟨rfl, rfl⟩ | ⟨rfl, rfl, rfl⟩ | ⟨rfl, rfl, rfl⟩
    all_goals
      go_enter Try.func31, Try.ntmps31
      go_upto_region 2 with (first
          | (go_at_call_of 12 (Value.int .i64 A); refine (f1 _).mono ?_; rintro e w' ⟨rfl, hq⟩; have hq := hq.symm; subst hq)
          | (go_at_call_of 12 (Value.int .i64 D); refine (f2 _).mono ?_; rintro e w' ⟨rfl, hq⟩; have hq := hq.symm; subst hq)
          | (go_at_call_of 12 (Value.int .i64 W); refine (f3 _).mono ?_; rintro e w' ⟨rfl, hq⟩; have hq := hq.symm; subst hq))
      rcases (show y1 = false ∨ (y1 = true ∧ y2 = false) ∨ (y1 = true ∧ y2 = true ∧ y3 = false) ∨ (y1 = true ∧ y2 = true ∧ y3 = true) by cases y1 <;> cases y2 <;> cases y3 <;> simp) with rfl | ⟨rfl, rfl⟩ | ⟨rfl, rfl, rfl⟩ | ⟨rfl, rfl, rfl⟩
      all_goals
        go_wp2_with (first
            | (go_at_call_of 12 (Value.int .i64 k); refine (f4 _).mono ?_; rintro e w' ⟨rfl, hq⟩; have hq := hq.symm; subst hq)
            | (go_at_call_of 12 (Value.int .i64 n); refine (f5 _).mono ?_; rintro e w' ⟨rfl, hq⟩; have hq := hq.symm; subst hq)
            | (go_at_call_of 12 (Value.int .i64 q); refine (f6 _).mono ?_; rintro e w' ⟨rfl, hq⟩; have hq := hq.symm; subst hq)
            | (go_at_call 53; refine (hrm _ HX.out.2.2.2.1 HX.out.2.2.2.2.1).mono ?_; rintro e w1 ⟨rfl, hb⟩; have HX := ahide (keepHS hb HX.out); clear hb)
            | (go_at_call_of 35 (Value.bool true); refine (when_true _ _).mono ?_; rintro e w' ⟨rfl, hq⟩; have hq := hq.symm; subst hq)
            | (go_at_call_of 35 (Value.bool false); refine (when_false _ _).mono ?_; rintro e w' ⟨rfl, hq⟩; have hq := hq.symm; subst hq)
            | (go_at_call 52; refine (first_new3 _ _ _ _ _).mono ?_; rintro e w' ⟨rfl, hq⟩; have hq := hq.symm; subst hq))
        go_ret
        exact ⟨by rw [HE.out]; rfl, (abelow_up HX.out.2.2.2.2.2 (abelow_alloc _ _))⟩
  · have HE := ahide (show ∀ s t, hoE L H U B M al zl A D W k n q = firstI [ruE L H U B M al zl, s, t] from fun s t => by
      rw [firstI_ne h0]; unfold hoE; rw [if_neg h0])
    generalize hoE L H U B M al zl A D W k n q = E at *
    generalize ruE L H U B M al zl = F at *
    clear h0
    have f1 := refBetw_any A L H
    have f2 := refBetw_any D (wrap64 (-M)) M
    have f3 := refBetw_any W 0 3
    have f4 := refBetw_any k (-100) 100
    have f5 := refBetw_any n 0 3
    have f6 := refBetw_any q (wrap64 (-M)) M
    generalize betw A L H = x1 at *
    generalize betw D (wrap64 (-M)) M = x2 at *
    generalize betw W 0 3 = x3 at *
    generalize betw k (-100) 100 = y1 at *
    generalize betw n 0 3 = y2 at *
    generalize betw q (wrap64 (-M)) M = y3 at *
    rcases (show x1 = false ∨ (x1 = true ∧ x2 = false) ∨ (x1 = true ∧ x2 = true ∧ x3 = false) ∨ (x1 = true ∧ x2 = true ∧ x3 = true) by cases x1 <;> cases x2 <;> cases x3 <;> simp) with rfl | ⟨rfl, rfl⟩ | ⟨rfl, rfl, rfl⟩ | ⟨rfl, rfl, rfl⟩
    all_goals
      go_enter Try.func31, Try.ntmps31
      go_upto_region 2 with (first
          | (go_at_call_of 12 (Value.int .i64 A); refine (f1 _).mono ?_; rintro e w' ⟨rfl, hq⟩; have hq := hq.symm; subst hq)
          | (go_at_call_of 12 (Value.int .i64 D); refine (f2 _).mono ?_; rintro e w' ⟨rfl, hq⟩; have hq := hq.symm; subst hq)
          | (go_at_call_of 12 (Value.int .i64 W); refine (f3 _).mono ?_; rintro e w' ⟨rfl, hq⟩; have hq := hq.symm; subst hq))
      rcases (show y1 = false ∨ (y1 = true ∧ y2 = false) ∨ (y1 = true ∧ y2 = true ∧ y3 = false) ∨ (y1 = true ∧ y2 = true ∧ y3 = true) by cases y1 <;> cases y2 <;> cases y3 <;> simp) with rfl | ⟨rfl, rfl⟩ | ⟨rfl, rfl, rfl⟩ | ⟨rfl, rfl, rfl⟩
      all_goals
        go_wp2_with (first
            | (go_at_call_of 12 (Value.int .i64 k); refine (f4 _).mono ?_; rintro e w' ⟨rfl, hq⟩; have hq := hq.symm; subst hq)
            | (go_at_call_of 12 (Value.int .i64 n); refine (f5 _).mono ?_; rintro e w' ⟨rfl, hq⟩; have hq := hq.symm; subst hq)
            | (go_at_call_of 12 (Value.int .i64 q); refine (f6 _).mono ?_; rintro e w' ⟨rfl, hq⟩; have hq := hq.symm; subst hq)
            | (go_at_call 53; refine (hrm _ HX.out.2.2.2.1 HX.out.2.2.2.2.1).mono ?_; rintro e w1 ⟨rfl, hb⟩; have HX := ahide (keepHS hb HX.out); clear hb)
            | (go_at_call_of 35 (Value.bool true); refine (when_true _ _).mono ?_; rintro e w' ⟨rfl, hq⟩; have hq := hq.symm; subst hq)
            | (go_at_call_of 35 (Value.bool false); refine (when_false _ _).mono ?_; rintro e w' ⟨rfl, hq⟩; have hq := hq.symm; subst hq)
            | (go_at_call 52; refine (first_new3 _ _ _ _ _).mono ?_; rintro e w' ⟨rfl, hq⟩; have hq := hq.symm; subst hq))
        go_ret
        exact ⟨by rw [HE.out _ _]; rfl, (abelow_up HX.out.2.2.2.2.2 (abelow_alloc _ _))⟩

end Go.Proofs.Ythijegfacnjooaa
