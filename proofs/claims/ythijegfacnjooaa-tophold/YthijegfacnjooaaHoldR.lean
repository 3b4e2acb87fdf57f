/-
  Contract of fulmarref.HoldRuleMay: may a rule be?
-/
import Derived.Test.YthijegfacnjooaaHoldB
namespace Go.Proofs.Ythijegfacnjooaa
open Go.RowKit Plain

set_option maxRecDepth 100000 in
set_option maxHeartbeats 4000000 in
theorem holdRuleMay_any (L H U B M : Int) (a z : Option Addr) (ca cz : Nat) (al zl : List Int) (hm : al.length ≤ 9223372036854775807) (hn : zl.length ≤ 9223372036854775807) (w : World) (ha : Lst w a al) (hz : Lst w z zl) :
    Calls Try.prog 53 #[.agg #[.int .i64 L, .int .i64 H, .int .i64 U, .int .i64 B, .int .i64 M, .slice a al.length ca, .slice z zl.length cz]] w fun e w' => e = .returned (.int .i64 (ruE L H U B M al zl)) ∧ Below w.heap.size w w' := by
  have HX := ahide (newHR L H U B M a z ca cz al zl w ha hz)
  dsimp only at HX
  have hlm : ∀ u, (u.cell? ⟨w.heap.size, 0, none⟩ = some (.int .i64 L) ∧ u.cell? ⟨w.heap.size, 1, none⟩ = some (.int .i64 H) ∧ u.cell? ⟨w.heap.size, 2, none⟩ = some (.int .i64 U) ∧ u.cell? ⟨w.heap.size, 3, none⟩ = some (.int .i64 B) ∧ u.cell? ⟨w.heap.size, 4, none⟩ = some (.int .i64 M) ∧ u.cell? ⟨w.heap.size, 5, none⟩ = some (.slice a al.length ca) ∧ u.cell? ⟨w.heap.size, 6, none⟩ = some (.slice z zl.length cz)) ∧ Lst u a al ∧ Lst u z zl ∧ Below w.heap.size w u → Calls Try.prog 79 #[.agg #[.slice a al.length ca, .slice z zl.length cz]] u fun r w' => r = .returned (.int .i64 (lineI al zl)) ∧ Below u.heap.size u w' := fun u h => lineMay_any a z ca cz al zl u hm hn h.2.1 h.2.2.1
  have h0E := ahide (show r0E L H U B M al zl = firstI [if ruB L H U B M then 0 else 1, if H < L then 3 else 0, lineI al zl] from rfl)
  have hw2 : ∀ w, Calls Try.prog 35 #[.bool (decide (H < L)), .int .i64 3] w fun r w' => r = .returned (.int .i64 (if H < L then 3 else 0)) ∧ w' = w := by
    intro w
    by_cases h : H < L
    · rw [decide_eq_true h, if_pos h]; exact when_true 3 w
    · rw [decide_eq_false h, if_neg h]; exact when_false 3 w
  have HZ := ahide (rkE_zero L H U B M al zl)
  have HF := ahide (show ruE L H U B M al zl = rkE L H U B M al zl zl.length from rfl)
  have HS := ahide (rkE_step L H U B M al zl)
  have hy : ∃ y : Int, y = if H < L then 3 else 0 := ⟨_, rfl⟩
  obtain ⟨y, hy⟩ := hy
  rw [← hy] at hw2 h0E
  clear hy ha hz
  have f1 := refBetw_any L (-100000) 100000
  have f2 := refBetw_any H (-100000) 100000
  have f3 := refBetw_any U 0 1000
  have f4 := refBetw_any B 0 65536
  have f5 := refBetw_any M 1 4000
  unfold ruB at h0E
  generalize betw L (-100000) 100000 = x1 at *
  generalize betw H (-100000) 100000 = x2 at *
  generalize betw U 0 1000 = x3 at *
  generalize betw B 0 65536 = x4 at *
  generalize betw M 1 4000 = x5 at *
  rcases (show x1 = false ∨ (x1 = true ∧ x2 = false) ∨ (x1 = true ∧ x2 = true ∧ x3 = false) ∨ (x1 = true ∧ x2 = true ∧ x3 = true ∧ x4 = false) ∨ (x1 = true ∧ x2 = true ∧ x3 = true ∧ x4 = true ∧ x5 = false) ∨ (x1 = true ∧ x2 = true ∧ x3 = true ∧ x4 = true ∧ x5 = true) by cases x1 <;> cases x2 <;> cases x3 <;> cases x4 <;> cases x5 <;> simp) with rfl | ⟨rfl, rfl⟩ | ⟨rfl, rfl, rfl⟩ | ⟨rfl, rfl, rfl, rfl⟩ | ⟨rfl, rfl, rfl, rfl, rfl⟩ | ⟨rfl, rfl, rfl, rfl, rfl⟩
  all_goals
    simp only [Bool.and_false, Bool.false_and, Bool.and_self, Bool.false_eq_true, if_false, if_true] at h0E
    generalize lineI al zl = E at *
    generalize r0E L H U B M al zl = e0 at *
    go_enter Try.func53, Try.ntmps53
    go_upto_region 2 with (first
      | (go_at_call_of 12 (Value.int .i64 L); refine (f1 _).mono ?_; rintro e w' ⟨rfl, hq⟩; have hq := hq.symm; subst hq)
      | (go_at_call_of 12 (Value.int .i64 H); refine (f2 _).mono ?_; rintro e w' ⟨rfl, hq⟩; have hq := hq.symm; subst hq)
      | (go_at_call_of 12 (Value.int .i64 U); refine (f3 _).mono ?_; rintro e w' ⟨rfl, hq⟩; have hq := hq.symm; subst hq)
      | (go_at_call_of 12 (Value.int .i64 B); refine (f4 _).mono ?_; rintro e w' ⟨rfl, hq⟩; have hq := hq.symm; subst hq)
      | (go_at_call_of 12 (Value.int .i64 M); refine (f5 _).mono ?_; rintro e w' ⟨rfl, hq⟩; have hq := hq.symm; subst hq))
    obtain ⟨w0, hw0⟩ : ∃ w0, w.alloc (.cells #[.int .i64 L, .int .i64 H, .int .i64 U, .int .i64 B, .int .i64 M, .slice a al.length ca, .slice z zl.length cz] 95) = w0 := ⟨_, rfl⟩
    rw [hw0] at HX ⊢
    clear hw0
    have S0 : (w0.cell? ⟨w.heap.size, 0, none⟩ = some (.int .i64 L) ∧ w0.cell? ⟨w.heap.size, 1, none⟩ = some (.int .i64 H) ∧ w0.cell? ⟨w.heap.size, 2, none⟩ = some (.int .i64 U) ∧ w0.cell? ⟨w.heap.size, 3, none⟩ = some (.int .i64 B) ∧ w0.cell? ⟨w.heap.size, 4, none⟩ = some (.int .i64 M) ∧ w0.cell? ⟨w.heap.size, 5, none⟩ = some (.slice a al.length ca) ∧ w0.cell? ⟨w.heap.size, 6, none⟩ = some (.slice z zl.length cz)) ∧ Lst w0 a al ∧ Lst w0 z zl ∧ Below w.heap.size w w0 := HX.out
    go_region_held3 (fun u => (u.cell? ⟨w.heap.size, 0, none⟩ = some (.int .i64 L) ∧ u.cell? ⟨w.heap.size, 1, none⟩ = some (.int .i64 H) ∧ u.cell? ⟨w.heap.size, 2, none⟩ = some (.int .i64 U) ∧ u.cell? ⟨w.heap.size, 3, none⟩ = some (.int .i64 B) ∧ u.cell? ⟨w.heap.size, 4, none⟩ = some (.int .i64 M) ∧ u.cell? ⟨w.heap.size, 5, none⟩ = some (.slice a al.length ca) ∧ u.cell? ⟨w.heap.size, 6, none⟩ = some (.slice z zl.length cz)) ∧ Lst u a al ∧ Lst u z zl ∧ Below w.heap.size w u)
      (first
        | (with_reducible assumption)
        | (with_reducible refine keepHR (abelow_alloc _ _) ?_; with_reducible assumption)
        | (with_reducible apply keepHR; with_reducible assumption; with_reducible assumption)
        | (refine keepHR ?_ HX.out; exact (Below.refl _ _).drew))
      (first
        | (go_at_call_of 35 (Value.int .i64 3); refine (hw2 _).mono ?_; rintro e w' ⟨rfl, rfl⟩)
        | (go_at_call_of 35 (Value.bool true); refine (when_true _ _).mono ?_; rintro e w' ⟨rfl, rfl⟩)
        | (go_at_call_of 35 (Value.bool false); refine (when_false _ _).mono ?_; rintro e w' ⟨rfl, rfl⟩)
        | (go_at_call 79; refine (hlm _ ?_).mono ?_; (with_reducible assumption); rintro e w' ⟨rfl, hb⟩)
        | (go_at_call 52; refine (first_new3 _ _ _ _ _).mono ?_; rintro e w' ⟨rfl, rfl⟩))
    all_goals
      rename_i hH
      have HX := ahide hH
      obtain ⟨⟨_, _, _, _, _, _, q6⟩, _⟩ := hH
      clear hlm
      go_wp2_with fail
      go_loopw [4, 5] (fun e i wr => ∃ k : Nat, k ≤ zl.length ∧ i = .int .i64 k ∧ e = .int .i64 (rkE L H U B M al zl k) ∧ ((wr.cell? ⟨w.heap.size, 0, none⟩ = some (.int .i64 L) ∧ wr.cell? ⟨w.heap.size, 1, none⟩ = some (.int .i64 H) ∧ wr.cell? ⟨w.heap.size, 2, none⟩ = some (.int .i64 U) ∧ wr.cell? ⟨w.heap.size, 3, none⟩ = some (.int .i64 B) ∧ wr.cell? ⟨w.heap.size, 4, none⟩ = some (.int .i64 M) ∧ wr.cell? ⟨w.heap.size, 5, none⟩ = some (.slice a al.length ca) ∧ wr.cell? ⟨w.heap.size, 6, none⟩ = some (.slice z zl.length cz)) ∧ Lst wr a al ∧ Lst wr z zl ∧ Below w.heap.size w wr)) (fun _ i _ => zl.length - (intOf i).toNat)
      case atStart => exact ⟨0, Nat.zero_le _, rfl, by rw [HZ.out, h0E.out], HX.out⟩
      case round =>
        clear HX q6 HZ h0E
        obtain ⟨k, hk, rfl, rfl, hX⟩ := hrel
        have HX := ahide hX
        obtain ⟨⟨_, _, _, _, _, _, q6⟩, _⟩ := hX
        by_cases hlt : k < zl.length
        · obtain ⟨bz, oz, rfl, hcs⟩ := HX.out.2.2.1.at (ne_nil_of_lt hlt)
          have hc := hcs k hlt
          have HT := ahide (HS.out k)
          have hbt := refBetw_any (at0 zl k) 0 65536
          have hwh : ∀ w, Calls Try.prog 35 #[.bool (!betw (at0 zl k) 0 65536), .int .i64 1] w fun r w' => r = .returned (.int .i64 (if betw (at0 zl k) 0 65536 then 0 else 1)) ∧ w' = w := by
            intro w; cases betw (at0 zl k) 0 65536
            · exact when_true 1 w
            · exact when_false 1 w
          have j0 : (0 : Int) ≤ (k : Int) := by omega
          have j1 : (k : Int) < (zl.length : Int) := by omega
          clear hcs
          generalize (if betw (at0 zl k) 0 65536 then (0 : Int) else 1) = t at *
          generalize betw (at0 zl k) 0 65536 = b at *
          generalize at0 zl k = x at *
          generalize rkE L H U B M al zl k = s at *
          go_wp2_with (first
            | (go_at_call 12; refine (hbt _).mono ?_; rintro e w' ⟨rfl, hq⟩; have hq := hq.symm; subst hq)
            | (go_at_call 35; refine (hwh _).mono ?_; rintro e w' ⟨rfl, hq⟩; have hq := hq.symm; subst hq)
            | (go_at_call 52; refine (first_new2 _ _ _ _).mono ?_; rintro e w' ⟨rfl, hq⟩; have hq := hq.symm; subst hq))
          go_roundw
          case rel => exact ⟨k + 1, by omega, by go_num, by rw [HT.out], keepHR (abelow_alloc _ _) HX.out⟩
          case measure => simp [intOf]; omega
        · have e : k = zl.length := by omega
          subst e
          go_wp2_with fail
          go_ret
          exact ⟨by rw [HF.out]; rfl, HX.out.2.2.2⟩

end Go.Proofs.Ythijegfacnjooaa
