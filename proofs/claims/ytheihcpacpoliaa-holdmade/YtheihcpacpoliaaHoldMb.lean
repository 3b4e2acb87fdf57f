/-
  The walk of the law HoldMade.
-/
import Derived.Test.YtheihcpacpoliaaHoldMd
namespace Go.Proofs.Ytheihcpacpoliaa
open Go.RowKit Plain

set_option maxRecDepth 100000 in
set_option maxHeartbeats 20000000 in
theorem holdMade_walk (a0 a : Option Addr) (l0 l : List Int) (cap0 cap : Nat) (got : Int) (w : World) (hil0 : ILs w a0 l0) (hil : ILs w a l) :
    Calls Try.prog 4 #[.slice a0 l0.length cap0, .slice a l.length cap, .int .i64 got] w fun e w' => e = .returned (.bool true) ∧ Below w.heap.size w w' := by
  have HIL0 := ahide hil0
  have HIL := ahide hil
  have HRAW := ahide (raw_of hil)
  clear hil0 hil
  by_cases hl0 : (100 : Int) < (l0.length : Int)
  · go_enter Try.func4, Try.ntmps4
    go_wp2
    go_ret
    exact ⟨rfl, Below.refl _ _⟩
  by_cases hl : (100 : Int) < (l.length : Int)
  · go_enter Try.func4, Try.ntmps4
    go_wp2
    go_ret
    exact ⟨rfl, Below.refl _ _⟩
  have hl0' : l0.length ≤ 100 := by omega
  have hl' : l.length ≤ 100 := by omega
  have hfa := fld_axes
  have hif := idx_second
  go_enter Try.func4, Try.ntmps4
  go_upto_region 3 with fail
  go_cut [7] (fun p u => ∃ (P G1 G2 : Nat) (L H U B M gz gx gy : Int), p = .pointer (some ⟨P, 0, none⟩) ∧ PRm w u P G1 G2 L H U B M gz gx gy ∧ ((w.heap.size ≤ P ∧ P < u.heap.size) ∧ (w.heap.size < G1 ∧ G1 < u.heap.size) ∧ w.heap.size < G2 ∧ G2 < u.heap.size) ∧ ((-100000 ≤ L ∧ L ≤ 0) ∧ 0 ≤ H ∧ H ≤ 100000) ∧ (0 ≤ U ∧ U ≤ 1000) ∧ (0 ≤ B ∧ B ≤ 65536) ∧ 1 ≤ M ∧ M ≤ 3000)
  case first =>
    go_wp2_with (first
      | (go_at_call 13; refine (craft_second a0 l0 cap0 hl0' _ HIL0.out).mono ?_; rintro e w1 ⟨⟨v, b0, b1, b2, b3, b4, b5, b6, b7, b8, b9, b10, b11, b14, G1, G2, rfl, hax, ⟨gz, gx, gy, hgl⟩, k1, k2⟩, hb1⟩; have HA := ahide hax; have HG := ahide hgl; have HB1 := ahide hb1; have HK12 := ahide (And.intro k1 k2); clear hax hb1 hgl k1 k2)
      | (go_at_call 12; refine (mholdRule_any b0 b1 b2 b3 b4 b5 b6 b7 b8 b9 b10 b11 b14 _ _ HA.out.s0 HA.out.s1 HA.out.t0 HA.out.t1 ⟨_, _, _, rfl⟩ ⟨_, _, _, rfl⟩ _).mono ?_; rintro e w2 ⟨rfl, hb2⟩; have HB2 := ahide (abelow_up HB1.out hb2); have HG := ahide (HG.out.later hb2); clear hb2))
    go_meet
    case rel =>
      have hA := HA.out
      have hm := hmul_bd hA.s0 hA.s1 hA.t0 hA.t1
      have g1 := World.block_lt_of_cell? w2 ⟨G1, 0, none⟩ HG.out.1.1
      have g2 := World.block_lt_of_cell? w2 ⟨G2, 0, none⟩ HG.out.1.2.2.1
      simp only at g1 g2
      refine ⟨w2.heap.size, G1, G2, b0, b1, b11, b14, (b4 - 1) * b5, gz, gx, gy, rfl, ⟨?_, HG.out.later (abelow_alloc _ _), abelow_up HB2.out (abelow_alloc _ _)⟩, ⟨⟨HB2.out.size, by simp⟩, ⟨HK12.out.1, by simp; omega⟩, HK12.out.2, by simp; omega⟩, ⟨⟨hA.lo, hA.lz⟩, hA.hz, hA.hi⟩, ⟨hA.u0, hA.u1⟩, ⟨hA.b0, hA.b1⟩, hm⟩
      refine ⟨?_, ?_, ?_, ?_, ?_, ?_, ?_⟩ <;> simp [go_sem]
  case rest =>
  obtain ⟨P, G1, G2, L, H, U, B, M, gz, gx, gy, rfl, hX, ⟨⟨p1, p2⟩, ⟨p3, p4⟩, p5, p6⟩, ⟨⟨L0, L1⟩, H0, H1⟩, ⟨U0, U1⟩, ⟨B0, B1⟩, M0, M1⟩ := hcut
  rename World => w3
  have HX := ahide hX
  clear hX hfa hif HIL0
  have v1 : IntKind.i64.wrap (H - L) = H - L := swrap_id (by omega) (by omega)
  have v2 : IntKind.i64.wrap (H - L + 1) = H - L + 1 := swrap_id (by omega) (by omega)
  have v3 : IntKind.i64.wrap (2 * M) = 2 * M := swrap_id (by omega) (by omega)
  have v4 : IntKind.i64.wrap (2 * M + 1) = 2 * M + 1 := swrap_id (by omega) (by omega)
  go_upto_region 5 with fail
  have HD0 : Hid (Dc (w3.alloc (.cells #[.slice a l.length cap, .int .i64 0] 55)) w3.heap.size a l cap 0) := ahide ⟨⟨by simp [go_sem], by simp [go_sem]⟩, by simp [go_sem], HIL.out.later (abelow_up HX.out.2.2 (abelow_alloc _ _)), fun b off e hne => by have := HRAW.out b off e hne; have := HX.out.2.2.size; omega⟩
  have HX := ahide (HX.out.later (abelow_alloc w3 (.cells #[.slice a l.length cap, .int .i64 0] 55)))
  have HNE : Hid (P ≠ w3.heap.size ∧ G1 ≠ w3.heap.size ∧ G2 ≠ w3.heap.size ∧ w.heap.size ≤ w3.heap.size) := ahide ⟨by omega, by omega, by omega, by omega⟩
  have KF0 : Hid (w3.heap.size < (w3.alloc (.cells #[.slice a l.length cap, .int .i64 0] 55)).heap.size ∧ (w3.alloc (.cells #[.slice a l.length cap, .int .i64 0] 55)).heap.size ≤ (w3.alloc (.cells #[.slice a l.length cap, .int .i64 0] 55)).heap.size) := ahide ⟨by simp, Nat.le_refl _⟩
  have HPK : Hid (P < (w3.alloc (.cells #[.slice a l.length cap, .int .i64 0] 55)).heap.size ∧ G1 < (w3.alloc (.cells #[.slice a l.length cap, .int .i64 0] 55)).heap.size ∧ G2 < (w3.alloc (.cells #[.slice a l.length cap, .int .i64 0] 55)).heap.size ∧ w.heap.size ≤ (w3.alloc (.cells #[.slice a l.length cap, .int .i64 0] 55)).heap.size) := ahide ⟨by simp; omega, by simp; omega, by simp; omega, by simp; omega⟩
  have HRK : Hid (RawAt a l (w3.alloc (.cells #[.slice a l.length cap, .int .i64 0] 55)).heap.size) := ahide (fun b off e hne => Nat.lt_of_lt_of_le (HRAW.out b off e hne) HPK.out.2.2.2)
  clear HIL HRAW p1 p2 p3 p4 p5 p6
  generalize w3.alloc (.cells #[.slice a l.length cap, .int .i64 0] 55) = w4 at *
  generalize w3.heap.size = O at *
  obtain ⟨K, hK0⟩ : ∃ K, w4.heap.size = K := ⟨_, rfl⟩
  rw [hK0] at HPK HRK
  have KF0 : Hid (O < K ∧ K ≤ w4.heap.size) := ahide ⟨by have := KF0.out; omega, by omega⟩
  clear hK0
  have HVC : Hid (∀ V, K ≤ V → P ≠ V ∧ G1 ≠ V ∧ G2 ≠ V ∧ w.heap.size ≤ V) := ahide (fun V hV => by have := HPK.out; omega)
  obtain ⟨qn, hqn⟩ : ∃ qn : Nat, qn = 0 := ⟨_, rfl⟩
  rw [← hqn] at HD0
  have hq5 : qn ≤ 5 := by omega
  clear hqn
  go_cut [9] (fun p u => ∃ (V : Nat) (A D Wl : Int), p = .pointer (some ⟨V, 0, none⟩) ∧ (u.cell? ⟨V, 0, none⟩ = some (.int .i64 A) ∧ u.cell? ⟨V, 1, none⟩ = some (.int .i64 D) ∧ u.cell? ⟨V, 2, none⟩ = some (.int .i64 Wl)) ∧ ((L ≤ A ∧ A ≤ H) ∧ (-M ≤ D ∧ D ≤ M) ∧ 0 ≤ Wl ∧ Wl ≤ 3) ∧ PRm w u P G1 G2 L H U B M gz gx gy ∧ Dc u O a l cap (qn + 3) ∧ K ≤ V ∧ V < u.heap.size)
  case rest =>
    obtain ⟨V1, A, D, Wl, rfl, hc, ⟨⟨A0, A1⟩, ⟨D0, D1⟩, W0, W1⟩, hX, hD, hV, hV'⟩ := hcut
    refine akont (by assumption) ?_
    exact hmTail6_any w a0 a l0.length cap0 l cap got P G1 G2 O V1 L H U B M gz gx gy A D Wl L0 L1 H0 H1 U0 U1 B0 B1 M0 M1 A0 A1 D0 D1 W0 W1 qn hq5 hl' K HNE (ahide KF0.out.1) HPK _ hc hX hD hV hV' _ _ _ _ _ _ _ _ _ _ _ _ _ _ _ _ _ _ _ _ _ _ _ _ _ _ _ _ _ _ _ _ _ _ _ _ _ _ _ _ _ _ _ _ _ _ _ _ _ _ _ _ _ _ _ _ _ _ _ _ _ _ _ _ _ _ _ _ _ _ _ _ _ _ _ _ _ _ _ _ _ _ _ _ _ _ _ _ _ _ _ _ _ _ _ _ _ _ _ _ _ _
  case first =>
    have Z := ahide (show (w4.cell? ⟨P, 0, none⟩ = some (.int .i64 L) ∧ w4.cell? ⟨P, 1, none⟩ = some (.int .i64 H) ∧ w4.cell? ⟨P, 4, none⟩ = some (.int .i64 M)) ∧ PRm w w4 P G1 G2 L H U B M gz gx gy from ⟨⟨HX.out.1.1, HX.out.1.2.1, HX.out.1.2.2.2.2.1⟩, HX.out⟩)
    have HDK0 := ahide (DK.refl O w4)
    have TK1 : Hid True := trivial
    have TK2 : Hid True := trivial
    have TK3 : Hid True := trivial
    go_region_held3 (fun u => (u.cell? ⟨P, 0, none⟩ = some (.int .i64 L) ∧ u.cell? ⟨P, 1, none⟩ = some (.int .i64 H) ∧ u.cell? ⟨P, 4, none⟩ = some (.int .i64 M)) ∧ PRm w u P G1 G2 L H U B M gz gx gy)
          (first
            | (with_reducible assumption)
            | (with_reducible assumption)
            | (with_reducible exact KS3.out)
            | (with_reducible exact KS2.out)
            | (with_reducible exact KS1.out)
            | (with_reducible exact keepHMs (HVC.out _ (NV.le NS.out)) (keepHMs (HVC.out _ (NV.le NS.out)) (keepHMs (HVC.out _ (NV.le NS.out)) (KS3.out))))
            | (with_reducible refine keepHM (abelow_alloc _ _) ?_; with_reducible assumption)
            | (with_reducible exact keepHM (abelow_alloc _ _) KS3.out)
            | (with_reducible exact keepHM (abelow_alloc _ _) (keepHM (abelow_alloc _ _) KS3.out))
            | ((repeat (with_reducible first | exact Z.out | refine keepHM (Below.refl _ _).drew ?_ | refine keepHM (abelow_alloc _ _) ?_)); done))
          (first
            | (go_at_call 14; clear TK1; refine (diceN_any O a l cap (qn + 0) (H - L + 1) (by omega) (by omega) (by omega) hl' _ (Dc.later HD0.out ?_)).mono ?_; (repeat' (first | with_reducible exact Below.refl _ _ | with_reducible apply hbw_alloc | with_reducible apply hbw_drew)); rintro e y1 ⟨⟨x, rfl, x0, x1⟩, hD, hK, hsz⟩; have KS1 := ahide (keepHMd HNE.out hK (by with_reducible assumption)); have HDK1 := ahide (hdk_chain HDK0.out (by (repeat' (first | with_reducible exact Below.refl _ _ | with_reducible apply hbw_alloc | with_reducible apply hbw_drew))) hK); have KF1 := ahide (show O < K ∧ K ≤ y1.heap.size from ⟨KF0.out.1, Nat.le_trans KF0.out.2 HDK1.out.size⟩); have vx : IntKind.i64.wrap (L + x) = L + x := swrap_id (by omega) (by omega); (first | (apply nv_lay (w := y1) (O := O) (K := K) (m := 3); (focus (with_reducible apply NV.dk hK; (repeat' (first | with_reducible exact NS.out | (with_reducible refine NV.new5b _ rfl ?_; (focus (exact KF0.out))) | (with_reducible refine NV.new3 _ rfl ?_; (focus (have z := KF0.out; first | exact z | exact ⟨z.1, Nat.le_trans z.2 (abelow_alloc _ _).size⟩))) | with_reducible apply NV.drew | with_reducible apply NV.alloc)); done)); intro NS; obtain ⟨⟨t0, u0⟩, ⟨t1, u1⟩, ⟨t2, u2⟩⟩ := nv_cells3 NS.out) | skip); have HD1 := ahide hD; have HK1 := ahide hK; clear hsz hD hK)
            | (go_at_call 14; clear TK2; refine (diceN_any O a l cap (qn + 1) (2 * M + 1) (by omega) (by omega) (by omega) hl' _ (Dc.later HD1.out ?_)).mono ?_; (repeat' (first | with_reducible exact Below.refl _ _ | with_reducible apply hbw_alloc | with_reducible apply hbw_drew)); rintro e y2 ⟨⟨y, rfl, y0, y1⟩, hD, hK, hsz⟩; have KS2 := ahide (keepHMd HNE.out hK (by with_reducible assumption)); have HDK2 := ahide (hdk_chain HDK1.out (by (repeat' (first | with_reducible exact Below.refl _ _ | with_reducible apply hbw_alloc | with_reducible apply hbw_drew))) hK); have KF2 := ahide (show O < K ∧ K ≤ y2.heap.size from ⟨KF0.out.1, Nat.le_trans KF0.out.2 HDK2.out.size⟩); have vy : IntKind.i64.wrap (y - M) = y - M := swrap_id (by omega) (by omega); (first | (apply nv_lay (w := y2) (O := O) (K := K) (m := 3); (focus (with_reducible apply NV.dk hK; (repeat' (first | with_reducible exact NS.out | (with_reducible refine NV.new5b _ rfl ?_; (focus (exact KF1.out))) | (with_reducible refine NV.new3 _ rfl ?_; (focus (have z := KF1.out; first | exact z | exact ⟨z.1, Nat.le_trans z.2 (abelow_alloc _ _).size⟩))) | with_reducible apply NV.drew | with_reducible apply NV.alloc)); done)); intro NS; obtain ⟨⟨t0, u0⟩, ⟨t1, u1⟩, ⟨t2, u2⟩⟩ := nv_cells3 NS.out) | skip); have HD2 := ahide hD; have HK2 := ahide hK; clear hsz hD hK)
            | (go_at_call 14; clear TK3; refine (diceN_any O a l cap (qn + 2) 4 (by omega) (by omega) (by omega) hl' _ (Dc.later HD2.out ?_)).mono ?_; (repeat' (first | with_reducible exact Below.refl _ _ | with_reducible apply hbw_alloc | with_reducible apply hbw_drew)); rintro e y3 ⟨⟨n, rfl, n0, n1⟩, hD, hK, hsz⟩; have KS3 := ahide (keepHMd HNE.out hK (by with_reducible assumption)); have HDK3 := ahide (hdk_chain HDK2.out (by (repeat' (first | with_reducible exact Below.refl _ _ | with_reducible apply hbw_alloc | with_reducible apply hbw_drew))) hK); have KF3 := ahide (show O < K ∧ K ≤ y3.heap.size from ⟨KF0.out.1, Nat.le_trans KF0.out.2 HDK3.out.size⟩); (first | (apply nv_lay (w := y3) (O := O) (K := K) (m := 3); (focus (with_reducible apply NV.dk hK; (repeat' (first | with_reducible exact NS.out | (with_reducible refine NV.new5b _ rfl ?_; (focus (exact KF2.out))) | (with_reducible refine NV.new3 _ rfl ?_; (focus (have z := KF2.out; first | exact z | exact ⟨z.1, Nat.le_trans z.2 (abelow_alloc _ _).size⟩))) | with_reducible apply NV.drew | with_reducible apply NV.alloc)); done)); intro NS; obtain ⟨⟨t0, u0⟩, ⟨t1, u1⟩, ⟨t2, u2⟩⟩ := nv_cells3 NS.out) | skip); have HD3 := ahide hD; have HK3 := ahide hK; clear hsz hD hK))
    all_goals
     as_aux_lemma =>
      go_wp2_with fail
      go_meet
      (case rel =>
        first
          | exact ⟨_, L + x, y - M, n, rfl, ⟨hset_off (by decide) (hset_off (by decide) (hset_same t0)), hset_off (by decide) (hset_same (hset_off (by decide) t1)), hset_same (hset_off (by decide) (hset_off (by decide) t2))⟩, ⟨⟨by omega, by omega⟩, ⟨by omega, by omega⟩, by omega, by omega⟩, ((KS3.out.2.set (HVC.out _ NS.out.2.1)).set (HVC.out _ NS.out.2.1)).set (HVC.out _ NS.out.2.1), ((HD3.out.hset NS.out.2.2.1 NS.out.2.1 HRK.out).hset NS.out.2.2.1 NS.out.2.1 HRK.out).hset NS.out.2.2.1 NS.out.2.1 HRK.out, NS.out.2.1, by simpa using NS.out.2.2.2⟩
          | exact ⟨_, L + x, y - M, n, rfl, ⟨by simp [go_sem], by simp [go_sem], by simp [go_sem]⟩, ⟨⟨by omega, by omega⟩, ⟨by omega, by omega⟩, by omega, by omega⟩, KS3.out.2.later (abelow_alloc _ _), HD3.out.later (abelow_alloc _ _), KF3.out.2, by simp⟩)

end Go.Proofs.Ytheihcpacpoliaa
