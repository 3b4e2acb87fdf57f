/-
  The ask of the law HoldMade.
-/
import Derived.Test.YtheihcpacpoliaaHoldMc
namespace Go.Proofs.Ytheihcpacpoliaa
open Go.RowKit Plain

noncomputable def hmTail6 : Code := adrop 5 (Try.f4.body.getD .skip)
set_option maxRecDepth 1000000 in
set_option maxHeartbeats 40000000 in
theorem hmTail6_any (w : World) (a0 a : Option Addr) (n0 cap0 : Nat) (l : List Int) (cap : Nat) (got : Int) (P G1 G2 O V1 : Nat) (L H U B M gz gx gy A D Wl : Int) (L0 : -100000 ≤ L) (L1 : L ≤ 0) (H0 : 0 ≤ H) (H1 : H ≤ 100000) (U0 : 0 ≤ U) (U1 : U ≤ 1000) (B0 : 0 ≤ B) (B1 : B ≤ 65536) (M0 : 1 ≤ M) (M1 : M ≤ 3000) (A0 : L ≤ A) (A1 : A ≤ H) (D0 : -M ≤ D) (D1 : D ≤ M) (W0 : 0 ≤ Wl) (W1 : Wl ≤ 3) (qn : Nat) (hq5 : qn ≤ 5) (hl' : l.length ≤ 100) (K : Nat) (HNE : Hid (P ≠ O ∧ G1 ≠ O ∧ G2 ≠ O ∧ w.heap.size ≤ O)) (KF0 : Hid (O < K)) (HPK : Hid (P < K ∧ G1 < K ∧ G2 < K ∧ w.heap.size ≤ K)) (w5 : World) (hc : (w5.cell? ⟨V1, 0, none⟩ = some (.int .i64 A) ∧ w5.cell? ⟨V1, 1, none⟩ = some (.int .i64 D) ∧ w5.cell? ⟨V1, 2, none⟩ = some (.int .i64 Wl))) (hX : PRm w w5 P G1 G2 L H U B M gz gx gy) (hD : Dc w5 O a l cap (qn + 3)) (hV : K ≤ V1) (hV' : V1 < w5.heap.size) (u3 u4 u5 u6 u10 u11 u12 u13 u14 u15 u16 u17 u18 u19 u20 u21 u22 u23 u24 u25 u26 u27 u28 u29 u30 u31 u32 u33 u34 u35 u36 u37 u38 u39 u40 u41 u42 u43 u44 u45 u46 u47 u48 u49 u50 u51 u52 u53 u54 u55 u56 u57 u58 u59 u60 u61 u62 u63 u64 u65 u66 u67 u68 u69 u70 u71 u72 u73 u74 u75 u76 u77 u78 u79 u80 u81 u82 u83 u84 u85 u86 u87 u88 u89 u90 u91 u92 u93 u94 u95 u96 u97 u98 u99 u100 u101 u102 u103 u104 u105 u106 u107 : Value) :
    Code.wp Try.prog hmTail6 (bodyPost Try.prog Try.f4 (fun e w' => e = .returned (.bool true) ∧ Below w.heap.size w w')) ⟨#[.slice a0 n0 cap0, .slice a l.length cap, .int .i64 got, u3, u4, u5, u6, .pointer (some ⟨P, 0, none⟩), .pointer (some ⟨O, 0, none⟩), .pointer (some ⟨V1, 0, none⟩), u10, u11, u12, u13, u14, u15, u16, u17, u18, u19, u20, u21, u22, u23, u24, u25, u26, u27, u28, u29, u30, u31, u32, u33, u34, u35, u36, u37, u38, u39, u40, u41, u42, u43, u44, u45, u46, u47, u48, u49, u50, u51, u52, u53, u54, u55, u56, u57, u58, u59, u60, u61, u62, u63, u64, u65, u66, u67, u68, u69, u70, u71, u72, u73, u74, u75, u76, u77, u78, u79, u80, u81, u82, u83, u84, u85, u86, u87, u88, u89, u90, u91, u92, u93, u94, u95, u96, u97, u98, u99, u100, u101, u102, u103, u104, u105, u106, u107], []⟩ w5 := by
  have v1 : IntKind.i64.wrap (H - L) = H - L := swrap_id (by omega) (by omega)
  have v2 : IntKind.i64.wrap (H - L + 1) = H - L + 1 := swrap_id (by omega) (by omega)
  have v3 : IntKind.i64.wrap (2 * M) = 2 * M := swrap_id (by omega) (by omega)
  have v4 : IntKind.i64.wrap (2 * M + 1) = 2 * M + 1 := swrap_id (by omega) (by omega)
  conv => arg 2; whnf
  have HX := ahide hX
  have HC := ahide hc
  have hO1 := KF0.out
  have hpk := HPK.out
  have HNE : Hid ((P ≠ O ∧ G1 ≠ O ∧ G2 ≠ O ∧ w.heap.size ≤ O) ∧ V1 ≠ O) := ahide ⟨HNE.out, by omega⟩
  have KF0 : Hid (O < w5.heap.size ∧ w5.heap.size ≤ w5.heap.size) := ahide ⟨by omega, Nat.le_refl _⟩
  have HVC : Hid (∀ V, w5.heap.size ≤ V → (P ≠ V ∧ G1 ≠ V ∧ G2 ≠ V ∧ w.heap.size ≤ V) ∧ V1 ≠ V) := ahide (fun V hVV => by omega)
  have HD0 := ahide hD
  clear hX hc hD hO1 hpk hV hV' HPK
  obtain ⟨K, hK0⟩ : ∃ K, w5.heap.size = K := ⟨_, rfl⟩
  rw [hK0] at HVC
  have KF0 : Hid (O < K ∧ K ≤ w5.heap.size) := ahide ⟨by have := KF0.out; omega, by omega⟩
  clear hK0
  obtain ⟨qn, hqn⟩ : ∃ q : Nat, qn + 3 = q := ⟨_, rfl⟩
  rw [hqn] at HD0
  have hq8 : qn ≤ 8 := by omega
  clear hqn hq5
  go_upto_region 6 with fail
  go_frame
  go_cut [10] (fun p u => ∃ (V2 : Nat) (kk pp vv nn qq : Int), p = .pointer (some ⟨V2, 0, none⟩) ∧ (u.cell? ⟨V2, 0, none⟩ = some (.int .i64 kk) ∧ u.cell? ⟨V2, 1, none⟩ = some (.int .i64 pp) ∧ u.cell? ⟨V2, 2, none⟩ = some (.int .i64 vv) ∧ u.cell? ⟨V2, 3, none⟩ = some (.int .i64 nn) ∧ u.cell? ⟨V2, 4, none⟩ = some (.int .i64 qq)) ∧ ((-100 ≤ kk ∧ kk ≤ 100) ∧ (0 ≤ nn ∧ nn ≤ 3) ∧ -M ≤ qq ∧ qq ≤ M) ∧ PRm w u P G1 G2 L H U B M gz gx gy ∧ (u.cell? ⟨V1, 0, none⟩ = some (.int .i64 A) ∧ u.cell? ⟨V1, 1, none⟩ = some (.int .i64 D) ∧ u.cell? ⟨V1, 2, none⟩ = some (.int .i64 Wl)))
  case first =>
    have Z := ahide (show (w5.cell? ⟨P, 0, none⟩ = some (.int .i64 L) ∧ w5.cell? ⟨P, 1, none⟩ = some (.int .i64 H) ∧ w5.cell? ⟨P, 4, none⟩ = some (.int .i64 M)) ∧ PRm w w5 P G1 G2 L H U B M gz gx gy ∧ (w5.cell? ⟨V1, 0, none⟩ = some (.int .i64 A) ∧ w5.cell? ⟨V1, 1, none⟩ = some (.int .i64 D) ∧ w5.cell? ⟨V1, 2, none⟩ = some (.int .i64 Wl)) from ⟨⟨HX.out.1.1, HX.out.1.2.1, HX.out.1.2.2.2.2.1⟩, HX.out, HC.out⟩)
    have HDK0 := ahide (DK.refl O w5)
    have TK1 : Hid True := trivial
    have TK2 : Hid True := trivial
    have TK3 : Hid True := trivial
    have TK4 : Hid True := trivial
    have TK5 : Hid True := trivial
    go_region_held3 (fun u => (u.cell? ⟨P, 0, none⟩ = some (.int .i64 L) ∧ u.cell? ⟨P, 1, none⟩ = some (.int .i64 H) ∧ u.cell? ⟨P, 4, none⟩ = some (.int .i64 M)) ∧ PRm w u P G1 G2 L H U B M gz gx gy ∧ (u.cell? ⟨V1, 0, none⟩ = some (.int .i64 A) ∧ u.cell? ⟨V1, 1, none⟩ = some (.int .i64 D) ∧ u.cell? ⟨V1, 2, none⟩ = some (.int .i64 Wl)))
        (first
            | (with_reducible exact keepHGs5 (HVC.out _ (NV.le NS.out)) KS5.out)
            | (with_reducible assumption)
            | (with_reducible exact KS5.out)
            | (with_reducible exact KS4.out)
            | (with_reducible exact KS3.out)
            | (with_reducible exact KS2.out)
            | (with_reducible exact KS1.out)
            | (with_reducible exact keepHGs5 (HVC.out _ (NV.le NS.out)) KS5.out)
            | (with_reducible refine keepHG (abelow_alloc _ _) ?_; with_reducible assumption)
            | (with_reducible exact keepHG (abelow_alloc _ _) KS5.out)
            | (with_reducible exact keepHG (abelow_alloc _ _) (keepHG (abelow_alloc _ _) KS5.out))
            | ((repeat (with_reducible first | exact Z.out | refine keepHG (Below.refl _ _).drew ?_ | refine keepHG (abelow_alloc _ _) ?_)); done))
        (first
          | (go_at_call 14; clear TK1; refine (diceN_any O a l cap (qn + 0) 201 (by omega) (by omega) (by omega) hl' _ (Dc.later HD0.out ?_)).mono ?_; (repeat' (first | with_reducible exact Below.refl _ _ | with_reducible apply hbw_alloc | with_reducible apply hbw_drew)); rintro e y1 ⟨⟨s, rfl, s0, s1⟩, hD, hK, hsz⟩; have KS1 := ahide (keepHGd HNE.out hK (by with_reducible assumption)); have HDK1 := ahide (hdk_chain HDK0.out (by (repeat' (first | with_reducible exact Below.refl _ _ | with_reducible apply hbw_alloc | with_reducible apply hbw_drew))) hK); have KF1 := ahide (show O < K ∧ K ≤ y1.heap.size from ⟨KF0.out.1, Nat.le_trans KF0.out.2 HDK1.out.size⟩); have vs : IntKind.i64.wrap (s - 100) = s - 100 := swrap_id (by omega) (by omega); (first | (apply nv_lay (w := y1) (O := O) (K := K) (m := 5); (focus (with_reducible apply NV.dk hK; (repeat' (first | with_reducible exact NS.out | (with_reducible refine NV.new5b _ rfl ?_; (focus (exact KF0.out))) | (with_reducible refine NV.new5 _ rfl ?_; (focus (have z := KF0.out; first | exact z | exact ⟨z.1, Nat.le_trans z.2 (abelow_alloc _ _).size⟩))) | with_reducible apply NV.drew | with_reducible apply NV.alloc)); done)); intro NS; obtain ⟨⟨t0, u0⟩, ⟨t1, u1⟩, ⟨t2, u2⟩, ⟨t3, u3⟩, ⟨t4, u4⟩⟩ := nv_cells5 NS.out) | skip); have HD1 := ahide hD; have HK1 := ahide hK; clear hsz hD hK)
          | (go_at_call 14; clear TK2; refine (diceN_any O a l cap (qn + 1) (H - L + 1) (by omega) (by omega) (by omega) hl' _ (Dc.later HD1.out ?_)).mono ?_; (repeat' (first | with_reducible exact Below.refl _ _ | with_reducible apply hbw_alloc | with_reducible apply hbw_drew)); rintro e y2 ⟨⟨i, rfl, i0, i1⟩, hD, hK, hsz⟩; have KS2 := ahide (keepHGd HNE.out hK (by with_reducible assumption)); have HDK2 := ahide (hdk_chain HDK1.out (by (repeat' (first | with_reducible exact Below.refl _ _ | with_reducible apply hbw_alloc | with_reducible apply hbw_drew))) hK); have KF2 := ahide (show O < K ∧ K ≤ y2.heap.size from ⟨KF0.out.1, Nat.le_trans KF0.out.2 HDK2.out.size⟩); have vi : IntKind.i64.wrap (L + i) = L + i := swrap_id (by omega) (by omega); (first | (apply nv_lay (w := y2) (O := O) (K := K) (m := 5); (focus (with_reducible apply NV.dk hK; (repeat' (first | with_reducible exact NS.out | (with_reducible refine NV.new5b _ rfl ?_; (focus (exact KF1.out))) | (with_reducible refine NV.new5 _ rfl ?_; (focus (have z := KF1.out; first | exact z | exact ⟨z.1, Nat.le_trans z.2 (abelow_alloc _ _).size⟩))) | with_reducible apply NV.drew | with_reducible apply NV.alloc)); done)); intro NS; obtain ⟨⟨t0, u0⟩, ⟨t1, u1⟩, ⟨t2, u2⟩, ⟨t3, u3⟩, ⟨t4, u4⟩⟩ := nv_cells5 NS.out) | skip); have HD2 := ahide hD; have HK2 := ahide hK; clear hsz hD hK)
          | (go_at_call 14; clear TK3; refine (diceN_any O a l cap (qn + 2) 1200 (by omega) (by omega) (by omega) hl' _ (Dc.later HD2.out ?_)).mono ?_; (repeat' (first | with_reducible exact Below.refl _ _ | with_reducible apply hbw_alloc | with_reducible apply hbw_drew)); rintro e y3 ⟨⟨sp, rfl, sp0, sp1⟩, hD, hK, hsz⟩; have KS3 := ahide (keepHGd HNE.out hK (by with_reducible assumption)); have HDK3 := ahide (hdk_chain HDK2.out (by (repeat' (first | with_reducible exact Below.refl _ _ | with_reducible apply hbw_alloc | with_reducible apply hbw_drew))) hK); have KF3 := ahide (show O < K ∧ K ≤ y3.heap.size from ⟨KF0.out.1, Nat.le_trans KF0.out.2 HDK3.out.size⟩); (first | (apply nv_lay (w := y3) (O := O) (K := K) (m := 5); (focus (with_reducible apply NV.dk hK; (repeat' (first | with_reducible exact NS.out | (with_reducible refine NV.new5b _ rfl ?_; (focus (exact KF2.out))) | (with_reducible refine NV.new5 _ rfl ?_; (focus (have z := KF2.out; first | exact z | exact ⟨z.1, Nat.le_trans z.2 (abelow_alloc _ _).size⟩))) | with_reducible apply NV.drew | with_reducible apply NV.alloc)); done)); intro NS; obtain ⟨⟨t0, u0⟩, ⟨t1, u1⟩, ⟨t2, u2⟩, ⟨t3, u3⟩, ⟨t4, u4⟩⟩ := nv_cells5 NS.out) | skip); have HD3 := ahide hD; have HK3 := ahide hK; clear hsz hD hK)
          | (go_at_call 15; clear TK4; refine (diceLaw O _ a l cap (qn + 3) _ (by omega) hl' _ (Dc.later HD3.out ?_) ?_).mono ?_; (repeat' (first | with_reducible exact Below.refl _ _ | with_reducible apply hbw_alloc | with_reducible apply hbw_drew)); (repeat' (first | (with_reducible refine IB.new _ ?_ ?_; (first | rfl | focus (simp; done)); (focus (have z := KF3.out; have z' := KF0.out; have k1 := KF1.out; have k2 := KF2.out; have k3 := KF3.out; first | omega | (simp; omega)))) | with_reducible apply IB.alloc | with_reducible apply IB.drew | with_reducible apply IB.dk HK1.out | with_reducible apply IB.dk HK2.out | with_reducible apply IB.dk HK3.out)); rintro e y4 ⟨⟨lw, rfl, lw0, lw1⟩, hD, hK, hsz⟩; have KS4 := ahide (keepHGd HNE.out hK (by with_reducible assumption)); have HDK4 := ahide (hdk_chain HDK3.out (by (repeat' (first | with_reducible exact Below.refl _ _ | with_reducible apply hbw_alloc | with_reducible apply hbw_drew))) hK); have KF4 := ahide (show O < K ∧ K ≤ y4.heap.size from ⟨KF0.out.1, Nat.le_trans KF0.out.2 HDK4.out.size⟩); (first | (apply nv_lay (w := y4) (O := O) (K := K) (m := 5); (focus (with_reducible apply NV.dk hK; (repeat' (first | with_reducible exact NS.out | (with_reducible refine NV.new5b _ rfl ?_; (focus (exact KF3.out))) | (with_reducible refine NV.new5 _ rfl ?_; (focus (have z := KF3.out; first | exact z | exact ⟨z.1, Nat.le_trans z.2 (abelow_alloc _ _).size⟩))) | with_reducible apply NV.drew | with_reducible apply NV.alloc)); done)); intro NS; obtain ⟨⟨t0, u0⟩, ⟨t1, u1⟩, ⟨t2, u2⟩, ⟨t3, u3⟩, ⟨t4, u4⟩⟩ := nv_cells5 NS.out) | skip); have HD4 := ahide hD; have HK4 := ahide hK; clear hsz hD hK)
          | (go_at_call 14; clear TK5; refine (diceN_any O a l cap (qn + 4) (2 * M + 1) (by omega) (by omega) (by omega) hl' _ (Dc.later HD4.out ?_)).mono ?_; (repeat' (first | with_reducible exact Below.refl _ _ | with_reducible apply hbw_alloc | with_reducible apply hbw_drew)); rintro e y5 ⟨⟨pv, rfl, pv0, pv1⟩, hD, hK, hsz⟩; have KS5 := ahide (keepHGd HNE.out hK (by with_reducible assumption)); have HDK5 := ahide (hdk_chain HDK4.out (by (repeat' (first | with_reducible exact Below.refl _ _ | with_reducible apply hbw_alloc | with_reducible apply hbw_drew))) hK); have KF5 := ahide (show O < K ∧ K ≤ y5.heap.size from ⟨KF0.out.1, Nat.le_trans KF0.out.2 HDK5.out.size⟩); have vp : IntKind.i64.wrap (pv - M) = pv - M := swrap_id (by omega) (by omega); (first | (apply nv_lay (w := y5) (O := O) (K := K) (m := 5); (focus (with_reducible apply NV.dk hK; (repeat' (first | with_reducible exact NS.out | (with_reducible refine NV.new5b _ rfl ?_; (focus (exact KF4.out))) | (with_reducible refine NV.new5 _ rfl ?_; (focus (have z := KF4.out; first | exact z | exact ⟨z.1, Nat.le_trans z.2 (abelow_alloc _ _).size⟩))) | with_reducible apply NV.drew | with_reducible apply NV.alloc)); done)); intro NS; obtain ⟨⟨t0, u0⟩, ⟨t1, u1⟩, ⟨t2, u2⟩, ⟨t3, u3⟩, ⟨t4, u4⟩⟩ := nv_cells5 NS.out) | skip); have HD5 := ahide hD; have HK5 := ahide hK; clear hsz hD hK))
    all_goals
     as_aux_lemma =>
      go_wp2_with fail
      go_meet
      (case rel =>
        first
          | exact ⟨_, s - 100, L + i, sp, lw, pv - M, rfl, put5 t0 t1 t2 t3 t4 _ _ _ _ _, ⟨⟨by omega, by omega⟩, ⟨by omega, by omega⟩, by omega, by omega⟩, (keepHGs5 (HVC.out _ NS.out.2.1) KS5.out).2.1, (keepHGs5 (HVC.out _ NS.out.2.1) KS5.out).2.2⟩
          | exact ⟨_, s - 100, L + i, sp, lw, pv - M, rfl, ⟨by simp [go_sem], by simp [go_sem], by simp [go_sem], by simp [go_sem], by simp [go_sem]⟩, ⟨⟨by omega, by omega⟩, ⟨by omega, by omega⟩, by omega, by omega⟩, KS5.out.2.1.later (abelow_alloc _ _), (keepHG (abelow_alloc _ _) KS5.out).2.2⟩)
  case rest =>
    obtain ⟨V2, kk, pp, vv, nn, qq, rfl, hc5, ⟨hk, hn, hq⟩, hX, hc3⟩ := hcut
    refine akont (by assumption) ?_
    exact hmTail7_any w a0 a n0 cap0 l cap got P G1 G2 O V1 L H U B M gz gx gy A D Wl L0 L1 H0 H1 U0 U1 B0 B1 M0 M1 A0 A1 D0 D1 W0 W1 V2 kk pp vv nn qq _ hc5 hk hn hq hX hc3 _ _ _ _ _ _ _ _ _ _ _ _ _ _ _ _ _ _ _ _ _ _ _ _ _ _ _ _ _ _ _ _ _ _ _ _ _ _ _ _ _ _ _ _ _ _ _ _ _ _ _ _ _ _ _ _ _ _ _ _ _ _ _ _ _ _ _ _ _ _ _ _ _ _ _ _ _ _ _ _ _ _ _ _ _ _ _ _ _ _ _ _ _ _ _ _ _ _ _ _ _

end Go.Proofs.Ytheihcpacpoliaa
