/-
  The walk of the law GuardBounds.
-/
import Derived.Test.YtbgabomjiibphabGuardH
import Derived.Test.YtbgabomjiibphabGuardD
namespace Go.Proofs.Ytbgabomjiibphab
open Go.RowKit Go.Sort Plain

theorem gfirst_neE {x : Int} (hx : x ≠ 0) (T : TypeId) (y : Int) (w : World) :
    Calls Try.prog 31 #[.slice (some ⟨w.heap.size, 0, none⟩) 2 2] (w.alloc (.cells #[.int .i64 x, .int .i64 y] T)) fun r w' => r = .returned (.int .i64 x) ∧ w' = w.alloc (.cells #[.int .i64 x, .int .i64 y] T) := by
  have h := first_new2 T x y w
  rw [show firstI [x, y] = x by simp [firstI, hx]] at h
  exact h
theorem gfirst_zeroE (T : TypeId) (y : Int) (w : World) :
    Calls Try.prog 31 #[.slice (some ⟨w.heap.size, 0, none⟩) 2 2] (w.alloc (.cells #[.int .i64 0, .int .i64 y] T)) fun r w' => r = .returned (.int .i64 y) ∧ w' = w.alloc (.cells #[.int .i64 0, .int .i64 y] T) := by
  have h := first_new2 T 0 y w
  rw [show firstI [0, y] = y by simp [firstI]; omega] at h
  exact h
theorem gspan_new (w : World) : (fun u B => u.cell? ⟨B, 0, none⟩ = some (.int .i64 0) ∧ u.cell? ⟨B, 1, none⟩ = some (.int .i64 0) ∧ u.frozen? ⟨B, 0, none⟩ = false ∧ u.frozen? ⟨B, 1, none⟩ = false) (w.alloc (.cells #[.int .i64 0, .int .i64 0] 84)) w.heap.size := by
  refine ⟨?_, ?_, ?_, ?_⟩ <;> simp [go_sem]

theorem GB.later2 {w u : World} {Q : Nat} {L H N P M R : Int} (h : GB w u L H N P M R) (hQ : w.heap.size < Q) (a b : Value) : GB w ((u.setCell ⟨Q, 0, none⟩ a).setCell ⟨Q, 1, none⟩ b) L H N P M R := by
  have hn : Q ≠ w.heap.size := by omega
  have one : ∀ {v : World} {j : Nat} {x : Value}, GB w v L H N P M R → GB w (v.setCell ⟨Q, j, none⟩ x) L H N P M R := fun h =>
    ⟨⟨gset_other hn h.1.1, gset_other hn h.1.2.1, gset_other hn h.1.2.2.1, gset_other hn h.1.2.2.2.1, gset_other hn h.1.2.2.2.2.1, gset_other hn h.1.2.2.2.2.2⟩, h.2.setCell (by simp; omega) _⟩
  exact one (one h)
theorem gput2 {w : World} {Q : Nat} {x y : Value} (h0 : w.cell? ⟨Q, 0, none⟩ = some x) (h1 : w.cell? ⟨Q, 1, none⟩ = some y) (a b : Value) :
    ((w.setCell ⟨Q, 0, none⟩ a).setCell ⟨Q, 1, none⟩ b).cell? ⟨Q, 0, none⟩ = some a ∧ ((w.setCell ⟨Q, 0, none⟩ a).setCell ⟨Q, 1, none⟩ b).cell? ⟨Q, 1, none⟩ = some b := by
  constructor <;> simp [go_sem, h0, h1]
theorem gpair_later {u u' : World} {Q : Nat} {x y : Value} (h : u.cell? ⟨Q, 0, none⟩ = some x ∧ u.cell? ⟨Q, 1, none⟩ = some y) (hb : Below u.heap.size u u') : u'.cell? ⟨Q, 0, none⟩ = some x ∧ u'.cell? ⟨Q, 1, none⟩ = some y := ⟨gcell_later hb h.1, gcell_later hb h.2⟩
theorem gpair_new (w : World) (x y : Value) (t : TypeId) : (w.alloc (.cells #[x, y] t)).cell? ⟨w.heap.size, 0, none⟩ = some x ∧ (w.alloc (.cells #[x, y] t)).cell? ⟨w.heap.size, 1, none⟩ = some y := by
  constructor <;> simp [go_sem]

set_option maxHeartbeats 2000000 in
theorem guardBounds_ok (L H N P M R x q wt : Int) (he : gmE L H N P M R q = 0) (w : World) :
    Calls Try.prog 13 #[.agg #[.int .i64 L, .int .i64 H, .int .i64 N, .int .i64 P, .int .i64 M, .int .i64 R], .int .i64 x, .int .i64 q, .int .i64 wt] w fun e w' => e = .returned (.bool true) ∧ Below w.heap.size w w' := by
  have hgm := guardMay_any L H N P M R
  have hrb : Hid _ := ahide (refBounds_any L H N P M R x q (gmE_ok he).1 (gmE_ok he).2.1 (gmE_ok he).2.2)
  have hbd : Hid _ := ahide (gBounds_ok L H N P M R x q he)
  have hcp : Hid _ := ahide (gClamp_ok L H N P M R x q wt he)
  have HX := ahide (GB.new w L H N P M R)
  obtain ⟨g, k0, k1⟩ := gmE_ok he
  have he1 : grE L H N P M R = 0 := by unfold gmE at he; split at he <;> simp_all
  rw [he1] at hgm
  have HG := ahide g
  have HE := ahide he
  obtain ⟨⟨l0, l1, h0, h1, n0, n1, p0, p1, m0, m1, r0, r1⟩, pm, pr, room⟩ := g
  have f1 := refBetw_any q (-M) M
  rw [betw_mk k0 k1] at f1
  have v3 : IntKind.i64.wrap (-M) = -M := gwrap_id (by omega) (by omega)
  have hfi := gfirst_zeroE
  clear he he1 room
  go_enter Try.func13, Try.ntmps13
  go_upto_region 1 with fail
  generalize w.alloc (.cells #[.int .i64 L, .int .i64 H, .int .i64 N, .int .i64 P, .int .i64 M, .int .i64 R] 24) = w1 at *
  go_cut [9] (fun v u => v = .int .i64 (gmE L H N P M R q) ∧ GB w u L H N P M R)
  case first =>
    obtain ⟨⟨q0, q1, q2, q3, q4, q5⟩, _⟩ := HX.out
    have S0 : (w1.cell? ⟨w.heap.size, 0, none⟩ = some (.int .i64 L) ∧ w1.cell? ⟨w.heap.size, 1, none⟩ = some (.int .i64 H) ∧ w1.cell? ⟨w.heap.size, 2, none⟩ = some (.int .i64 N) ∧ w1.cell? ⟨w.heap.size, 3, none⟩ = some (.int .i64 P) ∧ w1.cell? ⟨w.heap.size, 4, none⟩ = some (.int .i64 M) ∧ w1.cell? ⟨w.heap.size, 5, none⟩ = some (.int .i64 R)) ∧ Below w.heap.size w w1 := HX.out
    have Z := ahide S0
    go_region_held3 (fun u => (u.cell? ⟨w.heap.size, 0, none⟩ = some (.int .i64 L) ∧ u.cell? ⟨w.heap.size, 1, none⟩ = some (.int .i64 H) ∧ u.cell? ⟨w.heap.size, 2, none⟩ = some (.int .i64 N) ∧ u.cell? ⟨w.heap.size, 3, none⟩ = some (.int .i64 P) ∧ u.cell? ⟨w.heap.size, 4, none⟩ = some (.int .i64 M) ∧ u.cell? ⟨w.heap.size, 5, none⟩ = some (.int .i64 R)) ∧ Below w.heap.size w u)
      (first
        | (with_reducible assumption)
        | (with_reducible apply keepGB; with_reducible assumption; with_reducible assumption)
        | (with_reducible refine keepGB (abelow_alloc _ _) ?_; with_reducible assumption)
        | (refine keepGB ?_ Z.out; exact (Below.refl _ _).drew))
      (first
        | (go_at_call 25; refine (hgm _).mono ?_; rintro e w' ⟨rfl, hb⟩)
        | (go_at_call 16; with_reducible refine (f1 _).mono ?_; rintro e w' ⟨rfl, rfl⟩)
        | (go_at_call 32; with_reducible refine (when_any _ _ _).mono ?_; rintro e w' ⟨rfl, rfl⟩)
        | (go_at_call 31; refine (hfi _ _ _).mono ?_; rintro e w' ⟨rfl, rfl⟩))
    all_goals
      rename_i hH
      have HB := ahide hH
      clear hH
      go_wp2_with fail
      go_meet
      (case rel => exact ⟨by rw [HE.out], HB.out⟩)
  case rest =>
    obtain ⟨rfl, hX⟩ := hcut
    rename World => wb
    clear HX
    have HX := ahide hX
    clear hX
    rw [HE.out]
    go_upto_region 4 with fail
    have HQ := ahide (HX.out.later (abelow_alloc wb (.cells #[.int .i64 0, .int .i64 0] 84)))
    have HR := ahide (gspan_new wb)
    have ZQ := ahide (World.block_lt_of_cell? wb ⟨w.heap.size, 0, none⟩ HX.out.1.1)
    generalize wb.alloc (.cells #[.int .i64 0, .int .i64 0] 84) = w2 at *
    generalize wb.heap.size = Q at *
    obtain ⟨⟨q0, q1, q2, q3, q4, q5⟩, _⟩ := HQ.out
    go_upto_region 5 with (go_at_call 36; refine (hrb.out _).mono ?_; rintro e w3 ⟨⟨a, b, rfl, ha, hb⟩, hb3⟩; have HHA := ahide ha; have HHB := ahide hb; have HQ := ahide (HQ.out.later hb3); have HR := ahide (r2_later HR.out hb3); obtain ⟨y0, y1, g0, g1⟩ := HR.out; clear hb3 ha hb q0 q1 q2 q3 q4 q5)
    have HQ := ahide (HQ.out.later2 ZQ.out (.int .i64 (-a)) (.int .i64 b))
    have PP : Hid _ := ahide (gput2 y0 y1 (.int .i64 (-a)) (.int .i64 b))
    generalize (w3.setCell ⟨Q, 0, none⟩ (.int .i64 (-a))).setCell ⟨Q, 1, none⟩ (.int .i64 b) = w4 at *
    clear y0 y1 g0 g1 HR
    have hab := no_cross HG.out (can_le r0 m0 k0 k1).2.1 (can_le r0 m0 k0 k1).2.2.1 HHA.out HHB.out
    obtain ⟨y0, y1⟩ := PP.out
    go_upto_region 6 with (go_at_call 21; refine (refClip_any _ _ _ hab _).mono ?_; rintro e w' ⟨rfl, hq⟩; have hq := hq.symm; subst hq)
    obtain ⟨⟨q0, q1, q2, q3, q4, q5⟩, _⟩ := HQ.out
    go_upto_region 7 with (go_at_call 37; refine (hbd.out _).mono ?_; rintro e w5 ⟨⟨a1, b1, rfl, ha, hb⟩, hb5⟩; obtain rfl := HHA.out.only ha; obtain rfl := HHB.out.only hb; have HQ := ahide ((HQ.out.later hb5).later (abelow_alloc w5 (.cells #[.int .i64 (-a), .int .i64 b] 84))); have PP := ahide (gpair_later (gpair_later PP.out hb5) (abelow_alloc w5 (.cells #[.int .i64 (-a), .int .i64 b] 84))); have PN := ahide (gpair_new w5 (.int .i64 (-a)) (.int .i64 b) 84); clear hb5 ha hb q0 q1 q2 q3 q4 q5 y0 y1)
    generalize w5.alloc (.cells #[.int .i64 (-a), .int .i64 b] 84) = w6 at *
    generalize w5.heap.size = Q2 at *
    obtain ⟨⟨q0, q1, q2, q3, q4, q5⟩, _⟩ := HQ.out
    go_upto_region 8 with (go_at_call 26; refine (hcp.out _).mono ?_; rintro e w7 ⟨⟨a1, b1, rfl, ha, hb⟩, hb7⟩; obtain rfl := HHA.out.only ha; obtain rfl := HHB.out.only hb; have HQ := ahide (HQ.out.later hb7); have PP := ahide (gpair_later PP.out hb7); have PN := ahide (gpair_later PN.out hb7); clear hb7 ha hb q0 q1 q2 q3 q4 q5)
    obtain ⟨y0, y1⟩ := PP.out
    obtain ⟨t0, t1⟩ := PN.out
    go_wp2_with (go_at_call 34; refine (gis_zero _).mono ?_; rintro e w' ⟨rfl, hq⟩; have hq := hq.symm; subst hq)
    go_ret
    exact ⟨by simp, HQ.out.2⟩

set_option maxHeartbeats 2000000 in
theorem guardBounds_no (L H N P M R x q wt : Int) (he : gmE L H N P M R q ≠ 0) (w : World) :
    Calls Try.prog 13 #[.agg #[.int .i64 L, .int .i64 H, .int .i64 N, .int .i64 P, .int .i64 M, .int .i64 R], .int .i64 x, .int .i64 q, .int .i64 wt] w fun e w' => e = .returned (.bool true) ∧ Below w.heap.size w w' := by
  have hgm := guardMay_any L H N P M R
  have HX := ahide (GB.new w L H N P M R)
  by_cases he1 : grE L H N P M R = 0
  · obtain ⟨⟨l0, l1, h0, h1, n0, n1, p0, p1, m0, m1, r0, r1⟩, pm, pr, room⟩ := grE_ok he1
    rw [he1] at hgm
    have hE : gmE L H N P M R q = if betw q (-M) M then 0 else 1 := by unfold gmE; rw [if_pos he1]
    have hb0 : betw q (-M) M = false := by
      cases h : betw q (-M) M
      · rfl
      · rw [h] at hE; exact absurd hE he
    rw [hb0] at hE
    have HE : Hid (gmE L H N P M R q = 1) := ahide hE
    have f1 := refBetw_any q (-M) M
    rw [hb0] at f1
    have v3 : IntKind.i64.wrap (-M) = -M := gwrap_id (by omega) (by omega)
    have hfi := gfirst_zeroE
    clear he1 room hE hb0
    go_enter Try.func13, Try.ntmps13
    go_upto_region 1 with fail
    generalize w.alloc (.cells #[.int .i64 L, .int .i64 H, .int .i64 N, .int .i64 P, .int .i64 M, .int .i64 R] 24) = w1 at *
    go_cut [9] (fun v u => v = .int .i64 (gmE L H N P M R q) ∧ GB w u L H N P M R)
    case first =>
      obtain ⟨⟨q0, q1, q2, q3, q4, q5⟩, _⟩ := HX.out
      have S0 : (w1.cell? ⟨w.heap.size, 0, none⟩ = some (.int .i64 L) ∧ w1.cell? ⟨w.heap.size, 1, none⟩ = some (.int .i64 H) ∧ w1.cell? ⟨w.heap.size, 2, none⟩ = some (.int .i64 N) ∧ w1.cell? ⟨w.heap.size, 3, none⟩ = some (.int .i64 P) ∧ w1.cell? ⟨w.heap.size, 4, none⟩ = some (.int .i64 M) ∧ w1.cell? ⟨w.heap.size, 5, none⟩ = some (.int .i64 R)) ∧ Below w.heap.size w w1 := HX.out
      have Z := ahide S0
      go_region_held3 (fun u => (u.cell? ⟨w.heap.size, 0, none⟩ = some (.int .i64 L) ∧ u.cell? ⟨w.heap.size, 1, none⟩ = some (.int .i64 H) ∧ u.cell? ⟨w.heap.size, 2, none⟩ = some (.int .i64 N) ∧ u.cell? ⟨w.heap.size, 3, none⟩ = some (.int .i64 P) ∧ u.cell? ⟨w.heap.size, 4, none⟩ = some (.int .i64 M) ∧ u.cell? ⟨w.heap.size, 5, none⟩ = some (.int .i64 R)) ∧ Below w.heap.size w u)
        (first
          | (with_reducible assumption)
          | (with_reducible apply keepGB; with_reducible assumption; with_reducible assumption)
          | (with_reducible refine keepGB (abelow_alloc _ _) ?_; with_reducible assumption)
          | (refine keepGB ?_ Z.out; exact (Below.refl _ _).drew))
        (first
          | (go_at_call 25; refine (hgm _).mono ?_; rintro e w' ⟨rfl, hb⟩)
          | (go_at_call 16; with_reducible refine (f1 _).mono ?_; rintro e w' ⟨rfl, rfl⟩)
          | (go_at_call 32; with_reducible refine (when_any _ _ _).mono ?_; rintro e w' ⟨rfl, rfl⟩)
          | (go_at_call 31; refine (hfi _ _ _).mono ?_; rintro e w' ⟨rfl, rfl⟩))
      all_goals
        rename_i hH
        have HB := ahide hH
        clear hH
        go_wp2_with fail
        go_meet
        (case rel => exact ⟨by rw [HE.out], HB.out⟩)
    case rest =>
      obtain ⟨rfl, hX⟩ := hcut
      rename World => wb
      clear HX
      have HX := ahide hX
      clear hX
      have hbd := gBounds_err L H N P M R x q he
      have hcp := gClamp_err L H N P M R x q wt he
      have hy : (gmE L H N P M R q == 0) = false := by simpa using he
      have his := gis_iface he
      clear hgm HE
      generalize gmE L H N P M R q = y at *
      go_upto_region 6 with fail
      have HQ := ahide (HX.out.later (abelow_alloc wb (.cells #[.int .i64 0, .int .i64 0] 84)))
      have PP := ahide (gpair_new wb (.int .i64 0) (.int .i64 0) 84)
      generalize wb.alloc (.cells #[.int .i64 0, .int .i64 0] 84) = w2 at *
      generalize wb.heap.size = Q at *
      obtain ⟨⟨q0, q1, q2, q3, q4, q5⟩, _⟩ := HQ.out
      go_upto_region 7 with (go_at_call 37; refine (hbd _).mono ?_; rintro e w5 ⟨rfl, hb5⟩; have HQ := ahide ((HQ.out.later hb5).later (abelow_alloc w5 (.cells #[.int .i64 0, .int .i64 0] 84))); have PP := ahide (gpair_later (gpair_later PP.out hb5) (abelow_alloc w5 (.cells #[.int .i64 0, .int .i64 0] 84))); have PN := ahide (gpair_new w5 (.int .i64 0) (.int .i64 0) 84); clear hb5 q0 q1 q2 q3 q4 q5)
      generalize w5.alloc (.cells #[.int .i64 0, .int .i64 0] 84) = w6 at *
      generalize w5.heap.size = Q2 at *
      obtain ⟨⟨q0, q1, q2, q3, q4, q5⟩, _⟩ := HQ.out
      go_upto_region 8 with (go_at_call 26; refine (hcp _).mono ?_; rintro e w7 ⟨rfl, hb7⟩; have HQ := ahide (HQ.out.later hb7); have PP := ahide (gpair_later PP.out hb7); have PN := ahide (gpair_later PN.out hb7); clear hb7 q0 q1 q2 q3 q4 q5)
      obtain ⟨y0, y1⟩ := PP.out
      obtain ⟨t0, t1⟩ := PN.out
      go_wp2_with (go_at_call 34; refine (his _).mono ?_; rintro e w' ⟨rfl, hq⟩; have hq := hq.symm; subst hq)
      go_ret
      exact ⟨by simp, HQ.out.2⟩
  · have hE : gmE L H N P M R q = grE L H N P M R := by unfold gmE; rw [if_neg he1]
    have HE : Hid _ := ahide hE
    have f1 : ∀ lo hi w, Calls Try.prog 16 #[.int .i64 q, .int .i64 lo, .int .i64 hi] w fun e w' => (∃ b, e = .returned (.bool b)) ∧ w' = w := fun lo hi w => (refBetw_any q lo hi w).mono fun e w' h => ⟨⟨_, h.1⟩, h.2⟩
    have hwh : ∀ (x : Bool) w, Calls Try.prog 32 #[.bool x, .int .i64 1] w fun r w' => (∃ y, r = .returned (.int .i64 y)) ∧ w' = w := fun x w => (when_any x 1 w).mono fun e w' h => ⟨⟨_, h.1⟩, h.2⟩
    have hfi := gfirst_neE he1
    clear he1 hE
    go_enter Try.func13, Try.ntmps13
    go_upto_region 1 with fail
    generalize w.alloc (.cells #[.int .i64 L, .int .i64 H, .int .i64 N, .int .i64 P, .int .i64 M, .int .i64 R] 24) = w1 at *
    go_cut [9] (fun v u => v = .int .i64 (gmE L H N P M R q) ∧ GB w u L H N P M R)
    case first =>
      obtain ⟨⟨q0, q1, q2, q3, q4, q5⟩, _⟩ := HX.out
      have S0 : (w1.cell? ⟨w.heap.size, 0, none⟩ = some (.int .i64 L) ∧ w1.cell? ⟨w.heap.size, 1, none⟩ = some (.int .i64 H) ∧ w1.cell? ⟨w.heap.size, 2, none⟩ = some (.int .i64 N) ∧ w1.cell? ⟨w.heap.size, 3, none⟩ = some (.int .i64 P) ∧ w1.cell? ⟨w.heap.size, 4, none⟩ = some (.int .i64 M) ∧ w1.cell? ⟨w.heap.size, 5, none⟩ = some (.int .i64 R)) ∧ Below w.heap.size w w1 := HX.out
      have Z := ahide S0
      go_region_held3 (fun u => (u.cell? ⟨w.heap.size, 0, none⟩ = some (.int .i64 L) ∧ u.cell? ⟨w.heap.size, 1, none⟩ = some (.int .i64 H) ∧ u.cell? ⟨w.heap.size, 2, none⟩ = some (.int .i64 N) ∧ u.cell? ⟨w.heap.size, 3, none⟩ = some (.int .i64 P) ∧ u.cell? ⟨w.heap.size, 4, none⟩ = some (.int .i64 M) ∧ u.cell? ⟨w.heap.size, 5, none⟩ = some (.int .i64 R)) ∧ Below w.heap.size w u)
        (first
          | (with_reducible assumption)
          | (with_reducible apply keepGB; with_reducible assumption; with_reducible assumption)
          | (with_reducible refine keepGB (abelow_alloc _ _) ?_; with_reducible assumption)
          | (refine keepGB ?_ Z.out; exact (Below.refl _ _).drew))
        (first
          | (go_at_call 25; refine (hgm _).mono ?_; rintro e w' ⟨rfl, hb⟩)
          | (go_at_call 16; refine (f1 _ _ _).mono ?_; rintro e w' ⟨⟨b, rfl⟩, rfl⟩)
          | (go_at_call 32; refine (hwh _ _).mono ?_; rintro e w' ⟨⟨y, rfl⟩, rfl⟩)
          | (go_at_call 31; refine (hfi _ _ _).mono ?_; rintro e w' ⟨rfl, rfl⟩))
      all_goals
        rename_i hH
        have HB := ahide hH
        clear hH
        go_wp2_with fail
        go_meet
        (case rel => exact ⟨by rw [HE.out], HB.out⟩)
    case rest =>
      obtain ⟨rfl, hX⟩ := hcut
      rename World => wb
      clear HX
      have HX := ahide hX
      clear hX
      have hbd := gBounds_err L H N P M R x q he
      have hcp := gClamp_err L H N P M R x q wt he
      have hy : (gmE L H N P M R q == 0) = false := by simpa using he
      have his := gis_iface he
      clear hgm HE
      generalize gmE L H N P M R q = y at *
      go_upto_region 6 with fail
      have HQ := ahide (HX.out.later (abelow_alloc wb (.cells #[.int .i64 0, .int .i64 0] 84)))
      have PP := ahide (gpair_new wb (.int .i64 0) (.int .i64 0) 84)
      generalize wb.alloc (.cells #[.int .i64 0, .int .i64 0] 84) = w2 at *
      generalize wb.heap.size = Q at *
      obtain ⟨⟨q0, q1, q2, q3, q4, q5⟩, _⟩ := HQ.out
      go_upto_region 7 with (go_at_call 37; refine (hbd _).mono ?_; rintro e w5 ⟨rfl, hb5⟩; have HQ := ahide ((HQ.out.later hb5).later (abelow_alloc w5 (.cells #[.int .i64 0, .int .i64 0] 84))); have PP := ahide (gpair_later (gpair_later PP.out hb5) (abelow_alloc w5 (.cells #[.int .i64 0, .int .i64 0] 84))); have PN := ahide (gpair_new w5 (.int .i64 0) (.int .i64 0) 84); clear hb5 q0 q1 q2 q3 q4 q5)
      generalize w5.alloc (.cells #[.int .i64 0, .int .i64 0] 84) = w6 at *
      generalize w5.heap.size = Q2 at *
      obtain ⟨⟨q0, q1, q2, q3, q4, q5⟩, _⟩ := HQ.out
      go_upto_region 8 with (go_at_call 26; refine (hcp _).mono ?_; rintro e w7 ⟨rfl, hb7⟩; have HQ := ahide (HQ.out.later hb7); have PP := ahide (gpair_later PP.out hb7); have PN := ahide (gpair_later PN.out hb7); clear hb7 q0 q1 q2 q3 q4 q5)
      obtain ⟨y0, y1⟩ := PP.out
      obtain ⟨t0, t1⟩ := PN.out
      go_wp2_with (go_at_call 34; refine (his _).mono ?_; rintro e w' ⟨rfl, hq⟩; have hq := hq.symm; subst hq)
      go_ret
      exact ⟨by simp, HQ.out.2⟩

theorem guardBounds_walk (L H N P M R x q wt : Int) (w : World) :
    Calls Try.prog 13 #[.agg #[.int .i64 L, .int .i64 H, .int .i64 N, .int .i64 P, .int .i64 M, .int .i64 R], .int .i64 x, .int .i64 q, .int .i64 wt] w fun e w' => e = .returned (.bool true) ∧ Below w.heap.size w w' := by
  by_cases he : gmE L H N P M R q = 0
  · exact guardBounds_ok L H N P M R x q wt he w
  · exact guardBounds_no L H N P M R x q wt he w

end Go.Proofs.Ytbgabomjiibphab
