/-
  The walk of the law TopFree.
-/
import Derived.Test.YthijegfacnjooaaGuardH
import Derived.Test.YthijegfacnjooaaAwake
namespace Go.Proofs.Ythijegfacnjooaa
open Go.RowKit Go.Sort Plain

theorem clipI_in {x lo hi : Int} (h0 : lo ≤ x) (h1 : x ≤ hi) : clipI x lo hi = x := by unfold clipI; split <;> (try split) <;> (try split) <;> omega

set_option maxHeartbeats 4000000 in
theorem topFree_walk (L H N P M R x q wt : Int) (w : World) :
    Calls Try.prog 8 #[.agg #[.int .i64 L, .int .i64 H, .int .i64 N, .int .i64 P, .int .i64 M, .int .i64 R], .int .i64 x, .int .i64 q, .int .i64 wt] w fun e w' => e = .returned (.bool true) ∧ Below w.heap.size w w' := by
  have hgm := guardMay_any L H N P M R
  have HX := ahide (GB.new w L H N P M R)
  by_cases he : grE L H N P M R = 0
  · have HE := ahide he
    have HG := ahide (grE_ok he)
    obtain ⟨⟨l0, l1, h0, h1, n0, n1, p0, p1, m0, m1, r0, r1⟩, pm, pr, room⟩ := grE_ok he
    have hbr := gBrake_any L H N P M R M
    rw [show gmE L H N P M R M = 0 by unfold gmE; rw [if_pos he, if_pos (betw_mk (by omega) (by omega))], if_pos rfl, errV_zero] at hbr
    rw [he] at hgm
    have hk := bk_lt (R := R) (f := M + P) (by omega) (by omega)
    have hk0 := bk_nonneg R (M + P)
    have HK : Hid (∃ k, k = bk R (M + P)) := ahide ⟨_, rfl⟩
    obtain ⟨k, hkk⟩ : ∃ k, Hid (bk R (M + P) = k) := ⟨_, ahide rfl⟩
    rw [hkk.out] at hk hk0 hbr room
    clear HK he
    have d0 := Int.emod_nonneg q (b := 2 * M + 1) (by omega)
    have d1 := Int.emod_lt_of_pos q (b := 2 * M + 1) (by omega)
    have e0 := Int.emod_nonneg x (b := H - L - 2 * (N + k) + 1) (by omega)
    have e1 := Int.emod_lt_of_pos x (b := H - L - 2 * (N + k) + 1) (by omega)
    have pk1 := pick_any q (2 * M + 1) (by omega) (by omega)
    have pk2 := pick_any x (H - L - 2 * (N + k) + 1) (by omega) (by omega)
    generalize q % (2 * M + 1) = q1 at *
    generalize x % (H - L - 2 * (N + k) + 1) = x1 at *
    obtain ⟨qq, hqq⟩ : ∃ t, t = q1 - M := ⟨_, rfl⟩
    obtain ⟨xx, hxx⟩ : ∃ t, t = L + N + k + x1 := ⟨_, rfl⟩
    have hcm := gClamp_ok L H N P M R xx qq wt (by unfold gmE; rw [if_pos HE.out, if_pos (betw_mk (by omega) (by omega))])
    rw [clipI_in (x := xx) (by omega) (by omega)] at hcm
    have cn := can_le (q := qq) r0 m0 (by omega) (by omega)
    have F1 : Hid (IsHi R P (-canHi M R qq) (-canLo M R qq) (xx - N - L) (-canLo M R qq)) := ahide (free_hi (M := M) r0 (by omega) (by omega) (by rw [hkk.out]; omega))
    have F2 : Hid (IsHi R P (canLo M R qq) (canHi M R qq) (H - N - xx) (canHi M R qq)) := ahide (free_hi (M := M) r0 (by omega) (by omega) (by rw [hkk.out]; omega))
    have mx : ∀ ts t w, (Builtin.max_ ts t #[.int .i64 (-M), .int .i64 (qq - R)]).run Try.prog w = .ok (.int .i64 (canLo M R qq)) w := fun ts t w => by rw [run_maxG]; congr 2; unfold canLo; split <;> split <;> congr 1 <;> omega
    have mn : ∀ ts t w, (Builtin.min_ ts t #[.int .i64 M, .int .i64 (qq + R)]).run Try.prog w = .ok (.int .i64 (canHi M R qq)) w := fun ts t w => by rw [run_minG]; congr 2; unfold canHi; split <;> split <;> congr 1 <;> omega
    generalize canLo M R qq = lo at *
    generalize canHi M R qq = hi at *
    obtain ⟨cn0, cn1, cn2, cn3, cn4⟩ := cn
    have hrc := refClip_any wt lo hi cn0
    have v1 : IntKind.i64.wrap (2 * M) = 2 * M := gwrap_id (by omega) (by omega)
    have v2 : IntKind.i64.wrap (2 * M + 1) = 2 * M + 1 := gwrap_id (by omega) (by omega)
    have v3 : IntKind.i64.wrap (q1 - M) = qq := by rw [hqq]; exact gwrap_id (by omega) (by omega)
    have v4 : IntKind.i64.wrap (L + N) = L + N := gwrap_id (by omega) (by omega)
    have v5 : IntKind.i64.wrap (L + N + k) = L + N + k := gwrap_id (by omega) (by omega)
    have v6 : IntKind.i64.wrap (H - L) = H - L := gwrap_id (by omega) (by omega)
    have v7 : IntKind.i64.wrap (N + k) = N + k := gwrap_id (by omega) (by omega)
    have v8 : IntKind.i64.wrap (2 * (N + k)) = 2 * (N + k) := gwrap_id (by omega) (by omega)
    have v9 : IntKind.i64.wrap (H - L - 2 * (N + k)) = H - L - 2 * (N + k) := gwrap_id (by omega) (by omega)
    have v10 : IntKind.i64.wrap (H - L - 2 * (N + k) + 1) = H - L - 2 * (N + k) + 1 := gwrap_id (by omega) (by omega)
    have v11 : IntKind.i64.wrap (L + N + k + x1) = xx := by rw [hxx]; exact gwrap_id (by omega) (by omega)
    have v12 : IntKind.i64.wrap (qq - R) = qq - R := gwrap_id (by omega) (by omega)
    have v13 : IntKind.i64.wrap (qq + R) = qq + R := gwrap_id (by omega) (by omega)
    have v14 : IntKind.i64.wrap (-M) = -M := gwrap_id (by omega) (by omega)
    have HQQ := ahide hqq
    have HXX := ahide hxx
    clear hqq hxx room
    go_enter Try.func8, Try.ntmps8
    go_upto_region 6 with (first
      | (go_at_call 10; refine (awake_any _).mono ?_; rintro e w1 ⟨rfl, hb1⟩; have HX := ahide (HX.out.later hb1); obtain ⟨⟨q0, q1, q2, q3, q4, q5⟩, _⟩ := HX.out; clear hb1)
      | (go_at_call 25; refine (hgm _).mono ?_; rintro e w2 ⟨rfl, hb2⟩; have HX := ahide (HX.out.later hb2); obtain ⟨⟨q0, q1, q2, q3, q4, q5⟩, _⟩ := HX.out; clear hb2)
      | (go_at_call 30; refine (hbr _).mono ?_; rintro e w3 ⟨rfl, hb3⟩; have HX := ahide (HX.out.later hb3); obtain ⟨⟨q0, q1, q2, q3, q4, q5⟩, _⟩ := HX.out; clear hb3))
    go_quiet ((go_at_call 13; exact Calls.quiet_of_same (pk1 _)))
    go_upto_region 7 with fail
    have HX4 := ahide (HX.out.later (below_drewN (Below.refl _ w3) nq))
    generalize w3.drewN nq = w4 at *
    clear q0 q1 q2 q3 q4 q5
    obtain ⟨⟨q0, q1, q2, q3, q4, q5⟩, _⟩ := HX4.out
    go_quiet ((go_at_call 13; exact Calls.quiet_of_same (pk2 _)))
    go_upto_region 8 with fail
    have HX5 := ahide (HX4.out.later (below_drewN (Below.refl _ w4) nq))
    generalize w4.drewN nq = w5 at *
    clear q0 q1 q2 q3 q4 q5
    obtain ⟨⟨q0, q1, q2, q3, q4, q5⟩, _⟩ := HX5.out
    go_wp2_with (first
      | (go_at_call 26; refine (hcm _).mono ?_; rintro e w6 ⟨⟨a, b, rfl, ha, hb⟩, hb6⟩; obtain rfl := ha.only F1.out; obtain rfl := hb.only F2.out; have HX6 := ahide (HX5.out.later hb6); clear q0 q1 q2 q3 q4 q5 ha hb hb6; obtain ⟨⟨q0, q1, q2, q3, q4, q5⟩, _⟩ := HX6.out)
      | (go_at_call 14; refine (hrc _).mono ?_; rintro e w' ⟨rfl, hq⟩; have hq := hq.symm; subst hq))
    go_ret
    exact ⟨by simp, HX6.out.2⟩
  · have hx : (grE L H N P M R == 0) = false := by simpa using he
    have hx' : (grE L H N P M R != 0) = true := by simpa using he
    generalize grE L H N P M R = y at *
    go_enter Try.func8, Try.ntmps8
    go_wp2_with (first
      | (go_at_call 10; refine (awake_any _).mono ?_; rintro e w1 ⟨rfl, hb1⟩; have HX := ahide (HX.out.later hb1); obtain ⟨⟨q0, q1, q2, q3, q4, q5⟩, _⟩ := HX.out; clear hb1)
      | (go_at_call 25; refine (hgm _).mono ?_; rintro e w2 ⟨rfl, hb2⟩; have HX := ahide (HX.out.later hb2); obtain ⟨⟨q0, q1, q2, q3, q4, q5⟩, _⟩ := HX.out; clear hb2))
    go_ret
    exact ⟨rfl, HX.out.2⟩

end Go.Proofs.Ythijegfacnjooaa
