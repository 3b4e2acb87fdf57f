/-
  The contract of share.Spread.
-/
import Derived.Test.YthijegfacnjooaaShareE
namespace Go.Proofs.Ythijegfacnjooaa
open Go.RowKit Plain

theorem svE_ok {T R S C : Int} {s : Sv} (h : svE T R S C s.1 s.2.1 s.2.2 = 0) : svB T C s.1 s.2.1 s.2.2 = true := (svE_zero h).2
theorem sfirstI_two (x y : Int) : firstI [x, y] = if x = 0 then y else x := by
  unfold firstI; split
  · unfold firstI; split
    · rename_i h; rw [h]; rfl
    · rfl
  · rfl
/-- Nothing is wrong of the first k, or what is. -/
theorem sp_split (T R S C : Int) (l : List Sv) : ∀ k, k ≤ l.length →
    (spU T R S C l k = 0 ∧ arE T R S C = 0 ∧ betw (l.length : Int) 1 4 = true ∧ ∀ j, j < k → svB T C (svAt l j).1 (svAt l j).2.1 (svAt l j).2.2 = true) ∨
    (spU T R S C l k ≠ 0 ∧ ((arE T R S C ≠ 0 ∧ spU T R S C l k = arE T R S C) ∨ (arE T R S C = 0 ∧ betw (l.length : Int) 1 4 = false ∧ spU T R S C l k = 2) ∨
      (arE T R S C = 0 ∧ betw (l.length : Int) 1 4 = true ∧ ∃ n0, n0 < k ∧ (∀ j, j < n0 → svB T C (svAt l j).1 (svAt l j).2.1 (svAt l j).2.2 = true) ∧ svE T R S C (svAt l n0).1 (svAt l n0).2.1 (svAt l n0).2.2 ≠ 0 ∧ spU T R S C l k = svE T R S C (svAt l n0).1 (svAt l n0).2.1 (svAt l n0).2.2)))
  | 0, _ => by
    have e : spU T R S C l 0 = if arE T R S C = 0 then (if betw (l.length : Int) 1 4 then 0 else 2) else arE T R S C := sfirstI_two _ _
    by_cases h1 : arE T R S C = 0
    · rw [if_pos h1] at e
      cases h2 : betw (l.length : Int) 1 4
      · rw [h2] at e; right; rw [e]; exact ⟨by simp, .inr (.inl ⟨h1, rfl, rfl⟩)⟩
      · rw [h2] at e; left; rw [e]; exact ⟨rfl, h1, rfl, fun j hj => by omega⟩
    · rw [if_neg h1] at e; right; rw [e]; exact ⟨h1, .inl ⟨h1, rfl⟩⟩
  | k + 1, hk => by
    have e : spU T R S C l (k + 1) = if spU T R S C l k = 0 then svE T R S C (svAt l k).1 (svAt l k).2.1 (svAt l k).2.2 else spU T R S C l k := sfirstI_two _ _
    rcases sp_split T R S C l k (by omega) with ⟨h1, h2, h3, h4⟩ | ⟨h1, h2⟩
    · rw [if_pos h1] at e
      by_cases hs : svE T R S C (svAt l k).1 (svAt l k).2.1 (svAt l k).2.2 = 0
      · left; rw [e]
        refine ⟨hs, h2, h3, fun j hj => ?_⟩
        by_cases ej : j = k
        · subst ej; exact svE_ok hs
        · exact h4 j (by omega)
      · right; rw [e]; exact ⟨hs, .inr (.inr ⟨h2, h3, k, by omega, h4, hs, rfl⟩)⟩
    · rw [if_neg h1] at e
      right; rw [e]
      refine ⟨h1, ?_⟩
      rcases h2 with h2 | h2 | ⟨a, b, n0, c, d⟩
      · exact .inl h2
      · exact .inr (.inl h2)
      · exact .inr (.inr ⟨a, b, n0, by omega, d⟩)

theorem keepS {w u u' : World} {x : Option Addr} {T R : Int} {l : List Sv} (hb : Below u.heap.size u u') (h : u.cell? ⟨w.heap.size, 0, none⟩ = some (.int .i64 T) ∧ WLs u x T R l ∧ Below w.heap.size w u) : u'.cell? ⟨w.heap.size, 0, none⟩ = some (.int .i64 T) ∧ WLs u' x T R l ∧ Below w.heap.size w u' := ⟨cell_later hb h.1, h.2.1.later hb, abelow_up h.2.2 hb⟩

set_option maxRecDepth 100000 in
set_option maxHeartbeats 2000000 in
theorem spread_at (T R S C sum v : Int) (l : List Sv) (a : Option Addr) (ca : Nat) (hok : AllOk T R S C l) (h1 : 1 ≤ l.length) (h4 : l.length ≤ 4) (hv : IsLev T R l (clipI sum (tot T R l (-T)) (tot T R l T)) v) (w : World) (hw : VLs w a l) :
    Calls Try.prog 47 #[.agg #[.int .i64 T, .int .i64 R, .int .i64 S, .int .i64 C], .slice a l.length ca, .int .i64 sum] w fun e w' => (∃ g cap, e = .returned (.tuple #[.slice (some ⟨g, 0, none⟩) l.length cap, .nilIface]) ∧ w.heap.size ≤ g ∧ ILs w' (some ⟨g, 0, none⟩) (dlU T R l v (clipI sum (tot T R l (-T)) (tot T R l T) - tot T R l v) l.length)) ∧ Below w.heap.size w w' := by
  have HR := ahide (RB.new w T R S C)
  have HV := ahide hw
  have HOK := ahide hok
  have ⟨t0, t1⟩ := (arB_true hok.1).1
  have hcr := actRule_any T R S C
  rw [show arE T R S C = 0 by unfold arE; rw [if_pos hok.1], errV_zero] at hcr
  have htk := fun u hu => takers_any T R S C l a ca l.length (Nat.le_refl _) hok.1 hok.2 (fun h => by omega) (by omega) u hu
  have b1 := tot_bd hok (by omega) (-T)
  have b2 := tot_bd hok (by omega) T
  have HM := ahide (tot_mono T R l (show -T ≤ T by omega))
  obtain ⟨s, HSE⟩ : ∃ s, Hid (clipI sum (tot T R l (-T)) (tot T R l T) = s) := ⟨_, rfl⟩
  have hcl := fixClip_any sum (tot T R l (-T)) (tot T R l T)
  have bs := clip_bd (v := sum) HM.out
  rw [HSE.out] at hv hcl bs
  have bv := And.intro hv.1 hv.2.1
  have hfl := fun x c u hu => findLevel_any T R S C s v l x c (by omega) t1 hok (by omega) bs.1 hv u hu
  have hdl := fun x c u hu => deal_at T R S C v s l x c (by omega) (by omega) (by omega) (by omega) hok (by omega) u hu
  have htA := fun x c u hu => together_any T R S C l (-T) x c hok (by omega) u hu
  have htB := fun x c u hu => together_any T R S C l T x c hok (by omega) u hu
  have i1 : (1 : Int) ≤ (l.length : Int) := by omega
  have i4 : (l.length : Int) ≤ 4 := by omega
  have v1 : IntKind.i64.wrap (-T) = -T := swrap_id (by omega) (by omega)
  clear hw hok hv
  rw [HSE.out]
  go_enter Try.func47, Try.ntmps47
  go_upto_region 9 with (first
    | (go_at_call 68; refine (hcr _).mono ?_; rintro e w1 ⟨rfl, hb1⟩; have HR := ahide (HR.out.later hb1); obtain ⟨q0, q1, q2, q3⟩ := HR.out.1; clear hb1)
    | (go_at_call 71; refine (htk _ (HV.out.later HR.out.2)).mono ?_; rintro e w2 ⟨(⟨_, x, cap, rfl, hws⟩ | ⟨hno, _⟩), hb2⟩; rotate_left; omega; have HR := ahide (HR.out.later hb2); have HWS := ahide hws; obtain ⟨q0, q1, q2, q3⟩ := HR.out.1; clear hb2 hws))
  generalize tot T R l (-T) = tA at *
  generalize tot T R l T = tB at *
  have S0 : w2.cell? ⟨w.heap.size, 0, none⟩ = some (.int .i64 T) ∧ WLs w2 x T R l ∧ Below w.heap.size w w2 := ⟨q0, HWS.out, HR.out.2⟩
  have Z := ahide S0
  have htA' : ∀ u, (u.cell? ⟨w.heap.size, 0, none⟩ = some (.int .i64 T) ∧ WLs u x T R l ∧ Below w.heap.size w u) → Calls Try.prog 72 #[.slice x l.length cap, .int .i64 (-T)] u fun e w' => e = .returned (.int .i64 tA) ∧ Below u.heap.size u w' := fun u hu => htA x cap u hu.2.1
  have htB' : ∀ u, (u.cell? ⟨w.heap.size, 0, none⟩ = some (.int .i64 T) ∧ WLs u x T R l ∧ Below w.heap.size w u) → Calls Try.prog 72 #[.slice x l.length cap, .int .i64 T] u fun e w' => e = .returned (.int .i64 tB) ∧ Below u.heap.size u w' := fun u hu => htB x cap u hu.2.1
  clear htA htB
  go_cut [2] (fun c u => c = .int .i64 s ∧ (u.cell? ⟨w.heap.size, 0, none⟩ = some (.int .i64 T) ∧ WLs u x T R l ∧ Below w.heap.size w u))
  case first =>
    go_region_held3 (fun u => u.cell? ⟨w.heap.size, 0, none⟩ = some (.int .i64 T) ∧ WLs u x T R l ∧ Below w.heap.size w u)
      (first
        | (with_reducible assumption)
        | (with_reducible apply keepS; with_reducible assumption; with_reducible assumption)
        | (refine keepS ?_ Z.out; exact (Below.refl _ _).drew))
      (first
        | (go_at_call_of 72 (Value.int .i64 (-T)); refine (htA' _ (by with_reducible assumption)).mono ?_; rintro e w' ⟨rfl, hb⟩)
        | (go_at_call 72; refine (htB' _ (by with_reducible assumption)).mono ?_; rintro e w' ⟨rfl, hb⟩)
        | (go_at_call 44; refine (hcl _).mono ?_; rintro e w' ⟨rfl, rfl⟩))
    all_goals
      rename_i hH
      go_wp2_with fail
      go_meet
      (case rel => exact ⟨rfl, hH⟩)
  case rest =>
    obtain ⟨rfl, hH⟩ := hcut
    rename World => wb
    clear S0 Z q0 q1 q2 q3 HWS HR
    have HH := ahide hH
    have p0 := hH.1
    clear hH
    go_wp2_with (first
      | (go_at_call 74; refine (hfl _ _ _ HH.out.2.1).mono ?_; rintro e w4 ⟨rfl, hb4⟩; have HH := ahide (keepS hb4 HH.out); clear hb4)
      | (go_at_call 73; refine (hdl _ _ _ HH.out.2.1).mono ?_; rintro e w5 ⟨⟨y, cy, rfl, hyg, hys⟩, hb5⟩; have HY := ahide hys; have HYG := ahide (Nat.le_trans HH.out.2.2.size hyg); clear hyg; have HB := ahide (abelow_up HH.out.2.2 hb5); clear hb5 hys))
    go_ret2
    exact ⟨⟨_, _, rfl, HYG.out, HY.out⟩, HB.out⟩

theorem spread_ok (T R S C sum v : Int) (l : List Sv) (a : Option Addr) (ca : Nat) (hok : AllOk T R S C l) (h1 : 1 ≤ l.length) (h4 : l.length ≤ 4) (hv : IsLev T R l (clipI sum (tot T R l (-T)) (tot T R l T)) v) (w : World) (hw : VLs w a l) :
    Calls Try.prog 47 #[.agg #[.int .i64 T, .int .i64 R, .int .i64 S, .int .i64 C], .slice a l.length ca, .int .i64 sum] w fun e w' => (∃ x cap, e = .returned (.tuple #[.slice x l.length cap, .nilIface]) ∧ ILs w' x (dlU T R l v (clipI sum (tot T R l (-T)) (tot T R l T) - tot T R l v) l.length)) ∧ Below w.heap.size w w' :=
  (spread_at T R S C sum v l a ca hok h1 h4 hv w hw).mono fun _ _ ⟨⟨_, cap, h1, _, h2⟩, hb⟩ => ⟨⟨_, cap, h1, h2⟩, hb⟩

set_option maxRecDepth 100000 in
set_option maxHeartbeats 2000000 in
theorem spread_err (T R S C sum : Int) (l : List Sv) (a : Option Addr) (ca : Nat) (hl : l.length ≤ 9) (he : spE T R S C l ≠ 0) (w : World) (hw : VLs w a l) :
    Calls Try.prog 47 #[.agg #[.int .i64 T, .int .i64 R, .int .i64 S, .int .i64 C], .slice a l.length ca, .int .i64 sum] w fun e w' => e = .returned (.tuple #[.slice none 0 0, .iface 26 (.int .i64 (spE T R S C l))]) ∧ Below w.heap.size w w' := by
  have HR := ahide (RB.new w T R S C)
  have HV := ahide hw
  have hcr := actRule_any T R S C
  clear hw
  rcases sp_split T R S C l l.length (Nat.le_refl _) with ⟨h1, _⟩ | ⟨_, h2⟩
  · exact absurd h1 he
  · rcases h2 with ⟨a1, a2⟩ | ⟨a1, a2, a3⟩ | ⟨a1, a2, n0, a3, a4, a5, a6⟩
    · rw [errV_ne a1] at hcr
      obtain ⟨y, HY⟩ : ∃ y, Hid (arE T R S C = y) := ⟨_, rfl⟩
      have HE : Hid (spE T R S C l = y) := a2.trans HY.out
      rw [HY.out] at hcr
      clear a1 a2 he
      go_enter Try.func47, Try.ntmps47
      go_wp2_with (go_at_call 68; refine (hcr _).mono ?_; rintro e w1 ⟨rfl, hb1⟩; have HR := ahide (HR.out.later hb1); obtain ⟨q0, q1, q2, q3⟩ := HR.out.1; clear hb1)
      go_ret2
      exact ⟨by rw [HE.out]; rfl, HR.out.2⟩
    · rw [a1, errV_zero] at hcr
      have HE : Hid (spE T R S C l = 2) := a3
      have hb := betw_false a2
      clear a1 a2 a3 he
      by_cases h0 : (l.length : Int) < 1
      · go_enter Try.func47, Try.ntmps47
        go_wp2_with (go_at_call 68; refine (hcr _).mono ?_; rintro e w1 ⟨rfl, hb1⟩; have HR := ahide (HR.out.later hb1); obtain ⟨q0, q1, q2, q3⟩ := HR.out.1; clear hb1)
        go_ret2
        exact ⟨by rw [HE.out]; rfl, HR.out.2⟩
      · have h4 : (4 : Int) < (l.length : Int) := by omega
        go_enter Try.func47, Try.ntmps47
        go_wp2_with (go_at_call 68; refine (hcr _).mono ?_; rintro e w1 ⟨rfl, hb1⟩; have HR := ahide (HR.out.later hb1); obtain ⟨q0, q1, q2, q3⟩ := HR.out.1; clear hb1)
        go_ret2
        exact ⟨by rw [HE.out]; rfl, HR.out.2⟩
    · have hr := arE_zero a1
      rw [a1, errV_zero] at hcr
      have htk := fun u hu => takers_any T R S C l a ca n0 (by omega) hr a4 (fun _ => a5) hl u hu
      obtain ⟨y, HY⟩ : ∃ y, Hid (svE T R S C (svAt l n0).1 (svAt l n0).2.1 (svAt l n0).2.2 = y) := ⟨_, rfl⟩
      have HE : Hid (spE T R S C l = y) := a6.trans HY.out
      rw [HY.out] at htk
      have hb := betw_true a2
      have i1 : (1 : Int) ≤ (l.length : Int) := hb.1
      have i4 : (l.length : Int) ≤ 4 := hb.2
      have hn : n0 ≠ l.length := by omega
      clear a1 a2 a4 a5 a6 he hr hb
      go_enter Try.func47, Try.ntmps47
      go_wp2_with (first
        | (go_at_call 68; refine (hcr _).mono ?_; rintro e w1 ⟨rfl, hb1⟩; have HR := ahide (HR.out.later hb1); obtain ⟨q0, q1, q2, q3⟩ := HR.out.1; clear hb1)
        | (go_at_call 71; refine (htk _ (HV.out.later HR.out.2)).mono ?_; rintro e w2 ⟨(⟨hno, _⟩ | ⟨_, rfl⟩), hb2⟩; exact absurd hno hn; have HB := ahide (abelow_up HR.out.2 hb2); clear hb2))
      go_ret2
      exact ⟨by rw [HE.out]; rfl, HB.out⟩


end Go.Proofs.Ythijegfacnjooaa
