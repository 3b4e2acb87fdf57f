/-
  The law LawSays, walked: it returns true, and nothing that was there has turned.
-/
import Derived.Test.YtdelhnbaomclcaaLwB
namespace Go.Proofs.Ytdelhnbaomclcaa
open Go.RowKit Plain

theorem keepHL {w u u' : World} {bl ol k : Nat} {x y z : Int} (hb : Below u.heap.size u u') (h : (u.cell? ⟨bl, ol + k * 3, none⟩ = some (.int .i64 x) ∧ u.cell? ⟨bl, ol + k * 3 + 1, none⟩ = some (.int .i64 y) ∧ u.cell? ⟨bl, ol + k * 3 + 2, none⟩ = some (.int .i64 z)) ∧ Below w.heap.size w u) : (u'.cell? ⟨bl, ol + k * 3, none⟩ = some (.int .i64 x) ∧ u'.cell? ⟨bl, ol + k * 3 + 1, none⟩ = some (.int .i64 y) ∧ u'.cell? ⟨bl, ol + k * 3 + 2, none⟩ = some (.int .i64 z)) ∧ Below w.heap.size w u' :=
  ⟨⟨cell_later hb h.1.1, cell_later hb h.1.2.1, cell_later hb h.1.2.2⟩, abelow_up h.2 hb⟩

set_option maxRecDepth 100000 in
set_option maxHeartbeats 4000000 in
theorem lawSays_in (l : List He) (a : Option Addr) (cap : Nat) (n m : Int) (g : Bool) (hl : l.length ≤ 20) (w : World) (hv : HLs w a l) :
    Calls Try.prog 4 #[.slice a l.length cap, .int .i64 n, .int .i64 m, .bool g] w fun e w' => e = .returned (.bool true) ∧ Below w.heap.size w w' := by
  have HV := ahide hv
  have l1 : (l.length : Int) ≤ 20 := by omega
  clear hv
  go_enter Try.func4, Try.ntmps4
  go_wp2
  go_loopw [9, 10, 11] (fun e s i wr => ∃ (k : Nat) (x : Int), k ≤ l.length ∧ i = .int .i64 k ∧ e = .int .i64 (weU l k) ∧ s = .int .i64 x ∧ Hid (weU l k = 0 → x = wlU l k) ∧ Below w.heap.size w wr) (fun _ _ i _ => l.length - (intOf i).toNat)
  case atStart => exact ⟨0, 0, Nat.zero_le _, rfl, rfl, rfl, fun _ => rfl, Below.refl _ _⟩
  case round =>
    obtain ⟨k, s, hk, rfl, rfl, rfl, hE, hb⟩ := hrel
    by_cases hlt : k < l.length
    · obtain ⟨bl, ol, rfl, d0, d1, d2⟩ := (HV.out.later hb).at hlt
      have j0 : (0 : Int) ≤ (k : Int) := by omega
      have j1 : (k : Int) < (l.length : Int) := by omega
      have hh := healthMay_any (heAt l k).1 (heAt l k).2.1 (heAt l k).2.2
      have hc := lawCheck_any (heAt l k).1 (heAt l k).2.1 (heAt l k).2.2
      have hi := is_any (heE (heAt l k).1 (heAt l k).2.1 (heAt l k).2.2) (heE (heAt l k).1 (heAt l k).2.1 (heAt l k).2.2)
      rw [show (heE (heAt l k).1 (heAt l k).2.1 (heAt l k).2.2 == heE (heAt l k).1 (heAt l k).2.1 (heAt l k).2.2) = true by simp] at hi
      have hx := fun ts t p q w => lwrun_max2 ts t p q w
      have HS := ahide (weU_step l k)
      have HW := ahide (show weU l (k + 1) = firstI [weU l k, heE (heAt l k).1 (heAt l k).2.1 (heAt l k).2.2] from rfl)
      have HL := ahide (show wlU l (k + 1) = mxL (wlU l k) (lawI (heAt l k).1 (heAt l k).2.1 (heAt l k).2.2) from rfl)
      have HQ := ahide (show weU l (k + 1) = 0 → heB (heAt l k).1 (heAt l k).2.1 (heAt l k).2.2 = true ∧ weU l k = 0 from fun h => by
        rw [HS.out] at h
        split at h
        · rename_i q; exact ⟨heE_zero h, q⟩
        · rename_i q; exact absurd h q)
      have hq : weU l (k + 1) = 0 → ∀ w, Calls Try.prog 18 #[.agg #[.int .i64 (heAt l k).1, .int .i64 (heAt l k).2.1, .int .i64 (heAt l k).2.2]] w fun e w' => e = .returned (.int .i64 (lawI (heAt l k).1 (heAt l k).2.1 (heAt l k).2.2)) ∧ Below w.heap.size w w' := fun h => lawOf_any _ _ _ (HQ.out h).1
      have HN := ahide (show weU l (k + 1) = 0 → mxL s (lawI (heAt l k).1 (heAt l k).2.1 (heAt l k).2.2) = wlU l (k + 1) from fun h => by rw [HL.out, hE.out (HQ.out h).2])
      have Z := ahide (show (wr.cell? ⟨bl, ol + k * 3, none⟩ = some (.int .i64 (heAt l k).1) ∧ wr.cell? ⟨bl, ol + k * 3 + 1, none⟩ = some (.int .i64 (heAt l k).2.1) ∧ wr.cell? ⟨bl, ol + k * 3 + 2, none⟩ = some (.int .i64 (heAt l k).2.2)) ∧ Below w.heap.size w wr from ⟨⟨d0, d1, d2⟩, hb⟩)
      clear HS HL HQ hE hb
      generalize lawI (heAt l k).1 (heAt l k).2.1 (heAt l k).2.2 = q at *
      generalize heE (heAt l k).1 (heAt l k).2.1 (heAt l k).2.2 = t at *
      generalize hy : weU l (k + 1) = y at *
      generalize weU l k = v at *
      generalize (heAt l k).1 = x0 at *
      generalize (heAt l k).2.1 = x1 at *
      generalize (heAt l k).2.2 = x2 at *
      have HY := ahide hy
      clear hy
      have hF : ∀ (T : TypeId) (w : World), Calls Try.prog 15 #[.slice (some ⟨w.heap.size, 0, none⟩) 2 2] (w.alloc (.cells #[.int .i64 v, .int .i64 t] T)) fun r w' => r = .returned (.int .i64 y) ∧ Below w.heap.size w w' := fun T w => by
        have := first_new2 T v t w
        rw [← HW.out] at this
        exact this.mono fun _ _ ⟨h1, h2⟩ => ⟨h1, by rw [h2]; exact abelow_alloc _ _⟩
      clear HW
      go_upto_region 8 with (first
        | (go_at_call 16; refine (hh _).mono ?_; rintro e w1 ⟨rfl, hb1⟩; have Z := ahide (keepHL hb1 Z.out); clear hb1 d0 d1 d2)
        | (go_at_call 15; refine (hF _ _).mono ?_; rintro e w2 ⟨rfl, hb2⟩; have Z := ahide (keepHL hb2 Z.out); clear hb2))
      go_region_held3 (fun u => (u.cell? ⟨bl, ol + k * 3, none⟩ = some (.int .i64 x0) ∧ u.cell? ⟨bl, ol + k * 3 + 1, none⟩ = some (.int .i64 x1) ∧ u.cell? ⟨bl, ol + k * 3 + 2, none⟩ = some (.int .i64 x2)) ∧ Below w.heap.size w u)
        (first
          | (with_reducible assumption)
          | (with_reducible apply keepHL; with_reducible assumption; with_reducible assumption)
          | (refine keepHL ?_ Z.out; exact (Below.refl _ _).drew))
        (first
          | (go_at_call 17; refine (hc _).mono ?_; rintro e w' ⟨rfl, hb⟩)
          | (go_at_call 16; refine (hh _).mono ?_; rintro e w' ⟨rfl, hb⟩)
          | (go_at_call 13; refine (hi _).mono ?_; rintro e w' ⟨rfl, rfl⟩))
      all_goals
        rename_i hH
        have HH := ahide hH
        obtain ⟨⟨d0, d1, d2⟩, _⟩ := hH
        clear Z
        by_cases h0 : y = 0
        · subst h0
          have hqq := hq rfl
          have HNN := ahide (HN.out rfl)
          clear hq HN
          go_wp2_with (go_at_call 18; refine (hqq _).mono ?_; rintro e w9 ⟨rfl, hb9⟩)
          go_roundw
          case rel => exact ⟨k + 1, _, by omega, by go_num, by rw [HY.out], rfl, fun _ => HNN.out, abelow_up HH.out.2 hb9⟩
          case measure => simp [intOf]; omega
        · have h0' : (y == 0) = false := by simpa using h0
          have h0h := ahide h0
          clear h0 hq HN
          go_wp2_with fail
          go_roundw
          case rel => exact ⟨k + 1, _, by omega, by go_num, by rw [HY.out], rfl, fun h => absurd (HY.out.symm.trans h) h0h.out, HH.out.2⟩
          case measure => simp [intOf]; omega
    · have e : k = l.length := by omega
      subst e
      have hw := wanted_any l a cap (by omega) wr (HV.out.later hb)
      have hi1 := is_any (weU l l.length) (weU l l.length)
      rw [show (weU l l.length == weU l l.length) = true by simp] at hi1
      have HX := ahide (show waI l = if weU l l.length = 0 then s else 0 by
        unfold waI; by_cases q : weU l l.length = 0
        · rw [if_pos q, if_pos q, hE.out q]
        · rw [if_neg q, if_neg q])
      clear hE HV
      have b2 : ¬ (l.length : Int) < (l.length : Int) := by omega
      generalize weU l l.length = E at *
      generalize waI l = V at *
      have f1 := refBetw_any n 0 3
      have f2 := refBetw_any m 0 3
      have f3 := refBetw_any n 0 1
      have hg := guarded_any n
      have hx := fun ts t p q w => lwrun_max2 ts t p q w
      have hn := next_any n m g
      have hi2 := is_any (neE n m) (neE n m)
      rw [show (neE n m == neE n m) = true by simp] at hi2
      have HF := ahide (show neE n m = if betw n 0 3 && betw m 0 3 then 0 else 1 from rfl)
      have HN := ahide (show neI n m g = if betw n 0 3 && betw m 0 3 then (if g then m else mxL n m) else 0 from rfl)
      have HB := ahide hb
      clear hb
      generalize betw n 0 1 = x3 at *
      generalize neE n m = F at *
      generalize neI n m g = N at *
      generalize betw n 0 3 = x1 at *
      generalize betw m 0 3 = x2 at *
      generalize hM : mxL n m = M at *
      have hx' : ∀ ts t w, (Builtin.max_ ts t #[.int .i64 n, .int .i64 m]).run Try.prog w = .ok (.int .i64 M) w := fun ts t w => by rw [hx, hM]
      clear hx hM
      by_cases hE0 : E = 0
      · have HV := ahide (show V = s by rw [HX.out, if_pos hE0])
        have hE1 : (E != 0) = false := by simp [hE0]
        clear hE0 HX
        have HV' := HV.out
        subst HV'
        clear HV
        rcases (show x1 = false ∨ (x1 = true ∧ x2 = false) ∨ (x1 = true ∧ x2 = true) by cases x1 <;> cases x2 <;> simp) with rfl | ⟨rfl, rfl⟩ | ⟨rfl, rfl⟩
        · obtain rfl : F = 1 := HF.out
          obtain rfl : N = 0 := HN.out
          go_wp2_with (first
            | (go_at_call 19; refine hw.mono ?_; rintro e w1 ⟨rfl, hb1⟩)
            | (go_at_call 21; refine (hn _).mono ?_; rintro e w2 ⟨rfl, hb2⟩)
            | (go_at_call 22; refine (hg _).mono ?_; rintro e w' ⟨rfl, hq⟩; have hq := hq.symm; subst hq)
            | (go_at_call_of 20 (Value.int .i64 1); refine (f3 _).mono ?_; rintro e w' ⟨rfl, hq⟩; have hq := hq.symm; subst hq)
            | (go_at_call_of 20 (Value.int .i64 m); refine (f2 _).mono ?_; rintro e w' ⟨rfl, hq⟩; have hq := hq.symm; subst hq)
            | (go_at_call_of 20 (Value.int .i64 n); refine (f1 _).mono ?_; rintro e w' ⟨rfl, hq⟩; have hq := hq.symm; subst hq)
            | (go_at_call 8; refine (when_any _ _ _).mono ?_; rintro e w' ⟨rfl, hq⟩; have hq := hq.symm; subst hq)
            | (go_at_call_of 13 (errV E); refine (hi1 _).mono ?_; rintro e w' ⟨rfl, hq⟩; have hq := hq.symm; subst hq)
            | (go_at_call 13; refine (hi2 _).mono ?_; rintro e w' ⟨rfl, hq⟩; have hq := hq.symm; subst hq))
          go_ret
          exact ⟨by simp, abelow_up HB.out (abelow_up hb1 hb2)⟩
        · obtain rfl : F = 1 := HF.out
          obtain rfl : N = 0 := HN.out
          go_wp2_with (first
            | (go_at_call 19; refine hw.mono ?_; rintro e w1 ⟨rfl, hb1⟩)
            | (go_at_call 21; refine (hn _).mono ?_; rintro e w2 ⟨rfl, hb2⟩)
            | (go_at_call 22; refine (hg _).mono ?_; rintro e w' ⟨rfl, hq⟩; have hq := hq.symm; subst hq)
            | (go_at_call_of 20 (Value.int .i64 1); refine (f3 _).mono ?_; rintro e w' ⟨rfl, hq⟩; have hq := hq.symm; subst hq)
            | (go_at_call_of 20 (Value.int .i64 m); refine (f2 _).mono ?_; rintro e w' ⟨rfl, hq⟩; have hq := hq.symm; subst hq)
            | (go_at_call_of 20 (Value.int .i64 n); refine (f1 _).mono ?_; rintro e w' ⟨rfl, hq⟩; have hq := hq.symm; subst hq)
            | (go_at_call 8; refine (when_any _ _ _).mono ?_; rintro e w' ⟨rfl, hq⟩; have hq := hq.symm; subst hq)
            | (go_at_call_of 13 (errV E); refine (hi1 _).mono ?_; rintro e w' ⟨rfl, hq⟩; have hq := hq.symm; subst hq)
            | (go_at_call 13; refine (hi2 _).mono ?_; rintro e w' ⟨rfl, hq⟩; have hq := hq.symm; subst hq))
          go_ret
          exact ⟨by simp, abelow_up HB.out (abelow_up hb1 hb2)⟩
        · obtain rfl : F = 0 := HF.out
          cases g
          · obtain rfl : N = M := HN.out
            go_wp2_with (first
            | (go_at_call 19; refine hw.mono ?_; rintro e w1 ⟨rfl, hb1⟩)
            | (go_at_call 21; refine (hn _).mono ?_; rintro e w2 ⟨rfl, hb2⟩)
            | (go_at_call 22; refine (hg _).mono ?_; rintro e w' ⟨rfl, hq⟩; have hq := hq.symm; subst hq)
            | (go_at_call_of 20 (Value.int .i64 1); refine (f3 _).mono ?_; rintro e w' ⟨rfl, hq⟩; have hq := hq.symm; subst hq)
            | (go_at_call_of 20 (Value.int .i64 m); refine (f2 _).mono ?_; rintro e w' ⟨rfl, hq⟩; have hq := hq.symm; subst hq)
            | (go_at_call_of 20 (Value.int .i64 n); refine (f1 _).mono ?_; rintro e w' ⟨rfl, hq⟩; have hq := hq.symm; subst hq)
            | (go_at_call 8; refine (when_any _ _ _).mono ?_; rintro e w' ⟨rfl, hq⟩; have hq := hq.symm; subst hq)
            | (go_at_call_of 13 (errV E); refine (hi1 _).mono ?_; rintro e w' ⟨rfl, hq⟩; have hq := hq.symm; subst hq)
            | (go_at_call 13; refine (hi2 _).mono ?_; rintro e w' ⟨rfl, hq⟩; have hq := hq.symm; subst hq))
            go_ret
            exact ⟨by simp, abelow_up HB.out (abelow_up hb1 hb2)⟩
          · obtain rfl : m = N := HN.out.symm
            go_wp2_with (first
            | (go_at_call 19; refine hw.mono ?_; rintro e w1 ⟨rfl, hb1⟩)
            | (go_at_call 21; refine (hn _).mono ?_; rintro e w2 ⟨rfl, hb2⟩)
            | (go_at_call 22; refine (hg _).mono ?_; rintro e w' ⟨rfl, hq⟩; have hq := hq.symm; subst hq)
            | (go_at_call_of 20 (Value.int .i64 1); refine (f3 _).mono ?_; rintro e w' ⟨rfl, hq⟩; have hq := hq.symm; subst hq)
            | (go_at_call_of 20 (Value.int .i64 m); refine (f2 _).mono ?_; rintro e w' ⟨rfl, hq⟩; have hq := hq.symm; subst hq)
            | (go_at_call_of 20 (Value.int .i64 n); refine (f1 _).mono ?_; rintro e w' ⟨rfl, hq⟩; have hq := hq.symm; subst hq)
            | (go_at_call 8; refine (when_any _ _ _).mono ?_; rintro e w' ⟨rfl, hq⟩; have hq := hq.symm; subst hq)
            | (go_at_call_of 13 (errV E); refine (hi1 _).mono ?_; rintro e w' ⟨rfl, hq⟩; have hq := hq.symm; subst hq)
            | (go_at_call 13; refine (hi2 _).mono ?_; rintro e w' ⟨rfl, hq⟩; have hq := hq.symm; subst hq))
            go_ret
            exact ⟨by simp, abelow_up HB.out (abelow_up hb1 hb2)⟩
      · have HV := ahide (show V = 0 by rw [HX.out, if_neg hE0])
        have hE1 : (E != 0) = true := by simp [hE0]
        clear hE0 HX
        have HV' := HV.out
        subst HV'
        clear HV
        rcases (show x1 = false ∨ (x1 = true ∧ x2 = false) ∨ (x1 = true ∧ x2 = true) by cases x1 <;> cases x2 <;> simp) with rfl | ⟨rfl, rfl⟩ | ⟨rfl, rfl⟩
        · obtain rfl : F = 1 := HF.out
          obtain rfl : N = 0 := HN.out
          go_wp2_with (first
            | (go_at_call 19; refine hw.mono ?_; rintro e w1 ⟨rfl, hb1⟩)
            | (go_at_call 21; refine (hn _).mono ?_; rintro e w2 ⟨rfl, hb2⟩)
            | (go_at_call 22; refine (hg _).mono ?_; rintro e w' ⟨rfl, hq⟩; have hq := hq.symm; subst hq)
            | (go_at_call_of 20 (Value.int .i64 1); refine (f3 _).mono ?_; rintro e w' ⟨rfl, hq⟩; have hq := hq.symm; subst hq)
            | (go_at_call_of 20 (Value.int .i64 m); refine (f2 _).mono ?_; rintro e w' ⟨rfl, hq⟩; have hq := hq.symm; subst hq)
            | (go_at_call_of 20 (Value.int .i64 n); refine (f1 _).mono ?_; rintro e w' ⟨rfl, hq⟩; have hq := hq.symm; subst hq)
            | (go_at_call 8; refine (when_any _ _ _).mono ?_; rintro e w' ⟨rfl, hq⟩; have hq := hq.symm; subst hq)
            | (go_at_call_of 13 (errV E); refine (hi1 _).mono ?_; rintro e w' ⟨rfl, hq⟩; have hq := hq.symm; subst hq)
            | (go_at_call 13; refine (hi2 _).mono ?_; rintro e w' ⟨rfl, hq⟩; have hq := hq.symm; subst hq))
          go_ret
          exact ⟨by simp, abelow_up HB.out (abelow_up hb1 hb2)⟩
        · obtain rfl : F = 1 := HF.out
          obtain rfl : N = 0 := HN.out
          go_wp2_with (first
            | (go_at_call 19; refine hw.mono ?_; rintro e w1 ⟨rfl, hb1⟩)
            | (go_at_call 21; refine (hn _).mono ?_; rintro e w2 ⟨rfl, hb2⟩)
            | (go_at_call 22; refine (hg _).mono ?_; rintro e w' ⟨rfl, hq⟩; have hq := hq.symm; subst hq)
            | (go_at_call_of 20 (Value.int .i64 1); refine (f3 _).mono ?_; rintro e w' ⟨rfl, hq⟩; have hq := hq.symm; subst hq)
            | (go_at_call_of 20 (Value.int .i64 m); refine (f2 _).mono ?_; rintro e w' ⟨rfl, hq⟩; have hq := hq.symm; subst hq)
            | (go_at_call_of 20 (Value.int .i64 n); refine (f1 _).mono ?_; rintro e w' ⟨rfl, hq⟩; have hq := hq.symm; subst hq)
            | (go_at_call 8; refine (when_any _ _ _).mono ?_; rintro e w' ⟨rfl, hq⟩; have hq := hq.symm; subst hq)
            | (go_at_call_of 13 (errV E); refine (hi1 _).mono ?_; rintro e w' ⟨rfl, hq⟩; have hq := hq.symm; subst hq)
            | (go_at_call 13; refine (hi2 _).mono ?_; rintro e w' ⟨rfl, hq⟩; have hq := hq.symm; subst hq))
          go_ret
          exact ⟨by simp, abelow_up HB.out (abelow_up hb1 hb2)⟩
        · obtain rfl : F = 0 := HF.out
          cases g
          · obtain rfl : N = M := HN.out
            go_wp2_with (first
            | (go_at_call 19; refine hw.mono ?_; rintro e w1 ⟨rfl, hb1⟩)
            | (go_at_call 21; refine (hn _).mono ?_; rintro e w2 ⟨rfl, hb2⟩)
            | (go_at_call 22; refine (hg _).mono ?_; rintro e w' ⟨rfl, hq⟩; have hq := hq.symm; subst hq)
            | (go_at_call_of 20 (Value.int .i64 1); refine (f3 _).mono ?_; rintro e w' ⟨rfl, hq⟩; have hq := hq.symm; subst hq)
            | (go_at_call_of 20 (Value.int .i64 m); refine (f2 _).mono ?_; rintro e w' ⟨rfl, hq⟩; have hq := hq.symm; subst hq)
            | (go_at_call_of 20 (Value.int .i64 n); refine (f1 _).mono ?_; rintro e w' ⟨rfl, hq⟩; have hq := hq.symm; subst hq)
            | (go_at_call 8; refine (when_any _ _ _).mono ?_; rintro e w' ⟨rfl, hq⟩; have hq := hq.symm; subst hq)
            | (go_at_call_of 13 (errV E); refine (hi1 _).mono ?_; rintro e w' ⟨rfl, hq⟩; have hq := hq.symm; subst hq)
            | (go_at_call 13; refine (hi2 _).mono ?_; rintro e w' ⟨rfl, hq⟩; have hq := hq.symm; subst hq))
            go_ret
            exact ⟨by simp, abelow_up HB.out (abelow_up hb1 hb2)⟩
          · obtain rfl : m = N := HN.out.symm
            go_wp2_with (first
            | (go_at_call 19; refine hw.mono ?_; rintro e w1 ⟨rfl, hb1⟩)
            | (go_at_call 21; refine (hn _).mono ?_; rintro e w2 ⟨rfl, hb2⟩)
            | (go_at_call 22; refine (hg _).mono ?_; rintro e w' ⟨rfl, hq⟩; have hq := hq.symm; subst hq)
            | (go_at_call_of 20 (Value.int .i64 1); refine (f3 _).mono ?_; rintro e w' ⟨rfl, hq⟩; have hq := hq.symm; subst hq)
            | (go_at_call_of 20 (Value.int .i64 m); refine (f2 _).mono ?_; rintro e w' ⟨rfl, hq⟩; have hq := hq.symm; subst hq)
            | (go_at_call_of 20 (Value.int .i64 n); refine (f1 _).mono ?_; rintro e w' ⟨rfl, hq⟩; have hq := hq.symm; subst hq)
            | (go_at_call 8; refine (when_any _ _ _).mono ?_; rintro e w' ⟨rfl, hq⟩; have hq := hq.symm; subst hq)
            | (go_at_call_of 13 (errV E); refine (hi1 _).mono ?_; rintro e w' ⟨rfl, hq⟩; have hq := hq.symm; subst hq)
            | (go_at_call 13; refine (hi2 _).mono ?_; rintro e w' ⟨rfl, hq⟩; have hq := hq.symm; subst hq))
            go_ret
            exact ⟨by simp, abelow_up HB.out (abelow_up hb1 hb2)⟩

theorem lawSays_walk (l : List He) (a : Option Addr) (cap : Nat) (n m : Int) (g : Bool) (w : World) (hv : HLs w a l) :
    Calls Try.prog 4 #[.slice a l.length cap, .int .i64 n, .int .i64 m, .bool g] w fun e w' => e = .returned (.bool true) ∧ Below w.heap.size w w' := by
  by_cases h : l.length ≤ 20
  · exact lawSays_in l a cap n m g h w hv
  · have l1 : 20 < (l.length : Int) := by omega
    clear hv
    go_enter Try.func4, Try.ntmps4
    go_wp2
    go_ret
    exact ⟨rfl, Below.refl _ _⟩

end Go.Proofs.Ytdelhnbaomclcaa
