/-
  The walk of the law TopGuard.
-/
import Derived.Test.YthijegfacnjooaaGuardH
import Derived.Test.YthijegfacnjooaaAwake
import Derived.Test.YthijegfacnjooaaFreeA
namespace Go.Proofs.Ythijegfacnjooaa
open Go.RowKit Go.Sort Plain

/-- Gusts lie in a slice: how far off it is seen, how it is pushed, what is wanted. -/
def GLs (w : World) (a : Option Addr) (O U D : Nat → Int) (len : Nat) : Prop := len = 0 ∨ ∃ bl ol, a = some ⟨bl, ol, none⟩ ∧ ∀ k, k < len → (w.cell? ⟨bl, ol + k * 3, none⟩ = some (.int .i64 (O k)) ∧ w.cell? ⟨bl, ol + k * 3 + 1, none⟩ = some (.int .i64 (U k)) ∧ w.cell? ⟨bl, ol + k * 3 + 2, none⟩ = some (.int .i64 (D k)))
theorem GLs.later {w w' : World} {a : Option Addr} {O U D : Nat → Int} {len : Nat} (h : GLs w a O U D len) (hb : Below w.heap.size w w') : GLs w' a O U D len := by
  rcases h with h | ⟨bl, ol, e, h⟩
  · exact Or.inl h
  · exact Or.inr ⟨bl, ol, e, fun k hk => ⟨gcell_later hb (h k hk).1, gcell_later hb (h k hk).2.1, gcell_later hb (h k hk).2.2⟩⟩
theorem GLs.at {w : World} {a : Option Addr} {O U D : Nat → Int} {len k : Nat} (h : GLs w a O U D len) (hk : k < len) : ∃ bl ol, a = some ⟨bl, ol, none⟩ ∧ (w.cell? ⟨bl, ol + k * 3, none⟩ = some (.int .i64 (O k)) ∧ w.cell? ⟨bl, ol + k * 3 + 1, none⟩ = some (.int .i64 (U k)) ∧ w.cell? ⟨bl, ol + k * 3 + 2, none⟩ = some (.int .i64 (D k))) := by
  rcases h with h | ⟨bl, ol, e, h⟩
  · omega
  · exact ⟨bl, ol, e, h k hk⟩
theorem keepTG {w u u' : World} {bl ol k : Nat} {L H N P M R of wt : Int} (hb : Below u.heap.size u u') (h : (u.cell? ⟨w.heap.size, 0, none⟩ = some (.int .i64 L) ∧ u.cell? ⟨w.heap.size, 1, none⟩ = some (.int .i64 H) ∧ u.cell? ⟨w.heap.size, 2, none⟩ = some (.int .i64 N) ∧ u.cell? ⟨w.heap.size, 3, none⟩ = some (.int .i64 P) ∧ u.cell? ⟨w.heap.size, 4, none⟩ = some (.int .i64 M) ∧ u.cell? ⟨w.heap.size, 5, none⟩ = some (.int .i64 R)) ∧ (u.cell? ⟨bl, ol + k * 3, none⟩ = some (.int .i64 of) ∧ u.cell? ⟨bl, ol + k * 3 + 2, none⟩ = some (.int .i64 wt)) ∧ Below w.heap.size w u) : (u'.cell? ⟨w.heap.size, 0, none⟩ = some (.int .i64 L) ∧ u'.cell? ⟨w.heap.size, 1, none⟩ = some (.int .i64 H) ∧ u'.cell? ⟨w.heap.size, 2, none⟩ = some (.int .i64 N) ∧ u'.cell? ⟨w.heap.size, 3, none⟩ = some (.int .i64 P) ∧ u'.cell? ⟨w.heap.size, 4, none⟩ = some (.int .i64 M) ∧ u'.cell? ⟨w.heap.size, 5, none⟩ = some (.int .i64 R)) ∧ (u'.cell? ⟨bl, ol + k * 3, none⟩ = some (.int .i64 of) ∧ u'.cell? ⟨bl, ol + k * 3 + 2, none⟩ = some (.int .i64 wt)) ∧ Below w.heap.size w u' :=
  ⟨B6.later h.1 hb, ⟨gcell_later hb h.2.1.1, gcell_later hb h.2.1.2⟩, abelow_up h.2.2 hb⟩
theorem gclip_bd {x b : Int} (h : 0 ≤ b) : -b ≤ clipI x (-b) b ∧ clipI x (-b) b ≤ b := by unfold clipI; split <;> (try split) <;> (try split) <;> omega
theorem clipI_clp {x lo hi : Int} (h : lo ≤ hi) : clipI x lo hi = clp x lo hi := by unfold clipI clp; split <;> (try split) <;> (try split) <;> (try split) <;> omega

set_option maxRecDepth 100000 in
set_option maxHeartbeats 4000000 in
theorem topGuard_walk (L H N P M R x : Int) (a : Option Addr) (cap : Nat) (O U D : Nat → Int) (len : Nat) (hm : len ≤ 9223372036854775807) (w : World) (hl : GLs w a O U D len) :
    Calls Try.prog 6 #[.agg #[.int .i64 L, .int .i64 H, .int .i64 N, .int .i64 P, .int .i64 M, .int .i64 R], .int .i64 x, .slice a len cap] w fun e w' => e = .returned (.bool true) ∧ Below w.heap.size w w' := by
  have hgm := guardMay_any L H N P M R
  have HX := ahide (GB.new w L H N P M R)
  have HL := ahide hl
  clear hl
  by_cases he : grE L H N P M R = 0
  · by_cases hn : (300 : Int) < (len : Int)
    · rw [he] at hgm
      clear he
      go_enter Try.func6, Try.ntmps6
      go_wp2_with (first
        | (go_at_call 10; refine (awake_any _).mono ?_; rintro e w1 ⟨rfl, hb1⟩; have HX := ahide (HX.out.later hb1); obtain ⟨⟨q0, q1, q2, q3, q4, q5⟩, _⟩ := HX.out; clear hb1)
        | (go_at_call 25; refine (hgm _).mono ?_; rintro e w2 ⟨rfl, hb2⟩; have HX := ahide (HX.out.later hb2); obtain ⟨⟨q0, q1, q2, q3, q4, q5⟩, _⟩ := HX.out; clear hb2))
      go_ret
      exact ⟨rfl, HX.out.2⟩
    · have HE := ahide he
      have HG := ahide (grE_ok he)
      obtain ⟨⟨l0, l1, h0, h1, n0, n1, p0, p1, m0, m1, r0, r1⟩, pm, pr, room⟩ := grE_ok he
      rw [he] at hgm
      have hk0 := bk_nonneg R (M + P)
      have e0 := Int.emod_nonneg x (b := H - L + 1) (by omega)
      have e1 := Int.emod_lt_of_pos x (b := H - L + 1) (by omega)
      have pk := pick_any x (H - L + 1) (by omega) (by omega)
      generalize x % (H - L + 1) = x1 at *
      have v1 : IntKind.i64.wrap (H - L) = H - L := gwrap_id (by omega) (by omega)
      have v2 : IntKind.i64.wrap (H - L + 1) = H - L + 1 := gwrap_id (by omega) (by omega)
      have v3 : IntKind.i64.wrap (L + x1) = L + x1 := gwrap_id (by omega) (by omega)
      have HK := ahide (Kept.start (x := L + x1) HG.out (by omega) (by omega))
      clear he room hk0
      go_enter Try.func6, Try.ntmps6
      go_upto_region 3 with (first
        | (go_at_call 10; refine (awake_any _).mono ?_; rintro e w1 ⟨rfl, hb1⟩; have HX := ahide (HX.out.later hb1); obtain ⟨⟨q0, q1, q2, q3, q4, q5⟩, _⟩ := HX.out; clear hb1)
        | (go_at_call 25; refine (hgm _).mono ?_; rintro e w2 ⟨rfl, hb2⟩; have HX := ahide (HX.out.later hb2); obtain ⟨⟨q0, q1, q2, q3, q4, q5⟩, _⟩ := HX.out; clear hb2))
      go_quiet ((go_at_call 13; exact Calls.quiet_of_same (pk _)))
      go_wp2_with fail
      have HX3 := ahide (HX.out.later (below_drewN (Below.refl _ w2) nq))
      generalize w2.drewN nq = w3 at *
      clear q0 q1 q2 q3 q4 q5 pk
      have hn' : (len : Int) ≤ 300 := by omega
      go_loopw [1, 7, 8] (fun ux up ui wr => ∃ (k : Nat) (xx q : Int), k ≤ len ∧ ux = .int .i64 xx ∧ up = .int .i64 q ∧ ui = .int .i64 k ∧ Hid (Kept L H P M R xx q) ∧ GB w wr L H N P M R) (fun _ _ ui _ => len - (intOf ui).toNat)
      case atStart => exact ⟨0, L + x1, 0, Nat.zero_le _, rfl, rfl, rfl, HK, HX3.out⟩
      case round =>
        clear HX3 HK
        obtain ⟨k, xx, q, hk, rfl, rfl, rfl, hkp, hX⟩ := hrel
        rename World => wr
        have HY := ahide hX
        clear hX
        by_cases hlt : k < len
        · obtain ⟨bl, ol, rfl, c0, c1, c2⟩ := HL.out.at hlt
          generalize O k = of at *
          generalize U k = pu at *
          generalize D k = wt at *
          have c0 := gcell_later HY.out.2 c0
          have c1 := gcell_later HY.out.2 c1
          have c2 := gcell_later HY.out.2 c2
          have hcl := refClip_any of (-N) N (by omega)
          have hcu := refClip_any pu (-P) P (by omega)
          obtain ⟨b0, b1⟩ := gclip_bd (x := of) n0
          obtain ⟨d0, d1⟩ := gclip_bd (x := pu) p0
          generalize clipI of (-N) N = co at *
          generalize clipI pu (-P) P = cu at *
          have x0 := hkp.out.lo
          have x2 := hkp.out.hi
          have k0 := hkp.out.q0
          have k1 := hkp.out.q1
          have hcm : ∀ w, Calls Try.prog 26 #[.agg #[.int .i64 L, .int .i64 H, .int .i64 N, .int .i64 P, .int .i64 M, .int .i64 R], .int .i64 (xx + co), .int .i64 q, .int .i64 wt] w fun e w' => (∃ s, e = .returned (.tuple #[.int .i64 s, .nilIface]) ∧ Kept L H P M R (xx + s + cu) s ∧ -R ≤ s - q ∧ s - q ≤ R) ∧ Below w.heap.size w w' := fun w => by
            refine (gClamp_ok L H N P M R (xx + co) q wt (by unfold gmE; rw [if_pos HE.out, if_pos (betw_mk k0 k1)]) w).mono ?_
            rintro e w' ⟨⟨a, b, rfl, ha, hb⟩, h⟩
            rw [clipI_in (x := xx + co) (by omega) (by omega)] at ha hb
            have cn := can_le r0 m0 k0 k1
            have st := hkp.out.step (wt := wt) (u := cu) HG.out b0 b1 d0 d1 ha hb
            refine ⟨⟨_, rfl, ?_⟩, h⟩
            rw [clipI_clp (no_cross HG.out cn.2.1 cn.2.2.1 ha hb)]
            exact st
          have v4 : IntKind.i64.wrap (xx + co) = xx + co := gwrap_id (by omega) (by omega)
          have v5 : IntKind.i64.wrap (-N) = -N := gwrap_id (by omega) (by omega)
          have v6 : IntKind.i64.wrap (-P) = -P := gwrap_id (by omega) (by omega)
          have j0 : (0 : Int) ≤ (k : Int) := by omega
          have j1 : (k : Int) < (len : Int) := by omega
          go_upto_region 8 with fail
          obtain ⟨⟨q0, q1, q2, q3, q4, q5⟩, _⟩ := HY.out
          have S0 : (wr.cell? ⟨w.heap.size, 0, none⟩ = some (.int .i64 L) ∧ wr.cell? ⟨w.heap.size, 1, none⟩ = some (.int .i64 H) ∧ wr.cell? ⟨w.heap.size, 2, none⟩ = some (.int .i64 N) ∧ wr.cell? ⟨w.heap.size, 3, none⟩ = some (.int .i64 P) ∧ wr.cell? ⟨w.heap.size, 4, none⟩ = some (.int .i64 M) ∧ wr.cell? ⟨w.heap.size, 5, none⟩ = some (.int .i64 R)) ∧ (wr.cell? ⟨bl, ol + k * 3, none⟩ = some (.int .i64 of) ∧ wr.cell? ⟨bl, ol + k * 3 + 2, none⟩ = some (.int .i64 wt)) ∧ Below w.heap.size w wr := ⟨HY.out.1, ⟨c0, c2⟩, HY.out.2⟩
          have Z := ahide S0
          have C1 := ahide c1
          clear c1
          go_region_held3 (fun u => (u.cell? ⟨w.heap.size, 0, none⟩ = some (.int .i64 L) ∧ u.cell? ⟨w.heap.size, 1, none⟩ = some (.int .i64 H) ∧ u.cell? ⟨w.heap.size, 2, none⟩ = some (.int .i64 N) ∧ u.cell? ⟨w.heap.size, 3, none⟩ = some (.int .i64 P) ∧ u.cell? ⟨w.heap.size, 4, none⟩ = some (.int .i64 M) ∧ u.cell? ⟨w.heap.size, 5, none⟩ = some (.int .i64 R)) ∧ (u.cell? ⟨bl, ol + k * 3, none⟩ = some (.int .i64 of) ∧ u.cell? ⟨bl, ol + k * 3 + 2, none⟩ = some (.int .i64 wt)) ∧ Below w.heap.size w u)
            (first
              | (with_reducible assumption)
              | (with_reducible apply keepTG; with_reducible assumption; with_reducible assumption)
              | (refine keepTG ?_ Z.out; exact (Below.refl _ _).drew))
            (first
              | (go_at_call 14; refine (hcl _).mono ?_; rintro e w' ⟨rfl, rfl⟩)
              | (go_at_call 26; refine (hcm _).mono ?_; rintro e w' ⟨⟨s, rfl, hs⟩, hb⟩; have HS := ahide hs; have HC : Hid (w'.cell? ⟨bl, ol + k * 3 + 1, none⟩ = some (.int .i64 pu)) := ahide (gcell_later hb C1.out); clear hs))
          rename_i hH
          have HW : Hid (GB w w' L H N P M R) := ahide ⟨hH.1, hH.2.2⟩
          clear hH S0 Z HY q0 q1 q2 q3 q4 q5 c0 c2 hcm hcl
          have y0 := HS.out.1.q0
          have y1 := HS.out.1.q1
          have y2 := HS.out.1.lo
          have y3 := HS.out.1.hi
          have y4 := HS.out.2.1
          have y5 := HS.out.2.2
          have HKP := ahide HS.out.1
          have f1 := refBetw_any s (-M) M
          rw [betw_mk y0 y1] at f1
          have f2 := refBetw_any (s - q) (-R) R
          rw [betw_mk y4 y5] at f2
          have f3 := refBetw_any (xx + s + cu) L H
          rw [betw_mk y2 y3] at f3
          have v7 : IntKind.i64.wrap (xx + s) = xx + s := gwrap_id (by omega) (by omega)
          have v8 : IntKind.i64.wrap (xx + s + cu) = xx + s + cu := gwrap_id (by omega) (by omega)
          have v9 : IntKind.i64.wrap (s - q) = s - q := gwrap_id (by omega) (by omega)
          clear HS
          obtain ⟨⟨q0, q1, q2, q3, q4, q5⟩, _⟩ := HW.out
          have c1 := HC.out
          go_upto_region 11 with (first
            | (go_at_call_of 12 (Value.int .i64 s); refine (f1 _).mono ?_; rintro e w' ⟨rfl, hq⟩; have hq := hq.symm; subst hq)
            | (go_at_call_of 12 (Value.int .i64 (s - q)); refine (f2 _).mono ?_; rintro e w' ⟨rfl, hq⟩; have hq := hq.symm; subst hq))
          go_quiet ((go_at_call 14; exact Calls.quiet_of_same (hcu _)))
          go_upto_region 13 with fail
          have HV := ahide (HW.out.later (below_drewN (Below.refl _ w') nq))
          generalize w'.drewN nq = w6 at *
          clear q0 q1 q2 q3 q4 q5 c1 HC HW
          obtain ⟨⟨q0, q1, q2, q3, q4, q5⟩, _⟩ := HV.out
          go_wp2_with (first
            | (go_at_call_of 12 (Value.int .i64 (xx + s + cu)); refine (f3 _).mono ?_; rintro e w' ⟨rfl, hq⟩; have hq := hq.symm; subst hq))
          go_roundw
          case rel => exact ⟨k + 1, xx + s + cu, s, by omega, rfl, rfl, by go_num, HKP, HV.out⟩
          case measure => simp [intOf]; omega
        · go_wp2_with fail
          go_ret
          exact ⟨rfl, HY.out.2⟩
  · have hx : (grE L H N P M R == 0) = false := by simpa using he
    have hx' : (grE L H N P M R != 0) = true := by simpa using he
    generalize grE L H N P M R = y at *
    go_enter Try.func6, Try.ntmps6
    go_wp2_with (first
      | (go_at_call 10; refine (awake_any _).mono ?_; rintro e w1 ⟨rfl, hb1⟩; have HX := ahide (HX.out.later hb1); obtain ⟨⟨q0, q1, q2, q3, q4, q5⟩, _⟩ := HX.out; clear hb1)
      | (go_at_call 25; refine (hgm _).mono ?_; rintro e w2 ⟨rfl, hb2⟩; have HX := ahide (HX.out.later hb2); obtain ⟨⟨q0, q1, q2, q3, q4, q5⟩, _⟩ := HX.out; clear hb2))
    go_ret
    exact ⟨rfl, HX.out.2⟩

end Go.Proofs.Ythijegfacnjooaa
