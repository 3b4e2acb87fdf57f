/-
  The walk of fulmarref.axisFrom.
-/
import Derived.Test.YthijegfacnjooaaAxisT
namespace Go.Proofs.Ythijegfacnjooaa
open Go.RowKit Plain

set_option maxRecDepth 100000 in
set_option maxHeartbeats 4000000 in
theorem axisFrom_any (O : Nat) (a : Option Addr) (l : List Int) (cap n : Nat) (hn : n ≤ 900000) (hl : l.length ≤ 100) (w : World) (hd : Dc w O a l cap n) (hraw : RawAt a l w.heap.size) :
    Calls Try.prog 45 #[.pointer (some ⟨O, 0, none⟩)] w fun e w' => (∃ (a0 a1 a2 a3 a4 a5 a6 a7 a8 a9 a10 a11 a14 : Int) (G1 G2 : Nat), e = .returned (.agg #[.int .i64 a0, .int .i64 a1, .int .i64 a2, .int .i64 a3, .int .i64 a4, .int .i64 a5, .int .i64 a6, .int .i64 a7, .int .i64 a8, .int .i64 a9, .int .i64 a10, .int .i64 a11, .slice (some ⟨G1, 0, none⟩) 2 2, .slice (some ⟨G2, 0, none⟩) 2 2, .int .i64 a14]) ∧ AxK a0 a1 a2 a3 a4 a5 a6 a7 a8 a9 a10 a11 a14 ∧ (∃ x y z, GL w' G1 G2 x y z) ∧ w.heap.size ≤ G1 ∧ w.heap.size ≤ G2) ∧ Dc w' O a l cap (n + 22) ∧ DK O w w' := by
  have hO := hd.lt
  have m2 := fun ts t p q w => run_minA ts t p q w
  have x2 := fun ts t p q w => run_maxA ts t p q w
  have HD := ahide (hd.later (abelow_alloc w (.cells #[.int .i64 0, .int .i64 0, .int .i64 0, .int .i64 0, .int .i64 0, .int .i64 0, .int .i64 0, .int .i64 0, .int .i64 0, .int .i64 0, .int .i64 0, .int .i64 0, .slice none 0 0, .slice none 0 0, .int .i64 0] 65)))
  have HZ := ahide (ax_zero w 65)
  have HK : Hid (DK O w (w.alloc (.cells #[.int .i64 0, .int .i64 0, .int .i64 0, .int .i64 0, .int .i64 0, .int .i64 0, .int .i64 0, .int .i64 0, .int .i64 0, .int .i64 0, .int .i64 0, .int .i64 0, .slice none 0 0, .slice none 0 0, .int .i64 0] 65))) := DK.of_below (abelow_alloc _ _)
  go_enter Try.func45, Try.ntmps45
  go_upto_region 1 with fail
  generalize (w.alloc (.cells #[.int .i64 0, .int .i64 0, .int .i64 0, .int .i64 0, .int .i64 0, .int .i64 0, .int .i64 0, .int .i64 0, .int .i64 0, .int .i64 0, .int .i64 0, .int .i64 0, .slice none 0 0, .slice none 0 0, .int .i64 0] 65)) = u0 at *
  have hZO : w.heap.size ≠ O := by omega
  go_upto_region 2 with (first
    | (go_at_call_of 29 (Value.int .i64 3); refine (diceN_any O a l cap n 3 (by omega) (by omega) (by omega) hl _ HD.out).mono ?_; rintro e y0 ⟨⟨s, rfl, s0, s1⟩, hD, hK, hsz⟩; clear hsz; have HD := ahide hD; have HZ := ahide (HZ.out.dk hK hZO); have HK := ahide (HK.out.trans hK); clear hD hK)
    | (go_at_call 28; refine (diceMost3 O a l cap (n + 1) 4 60 1000 1 1000 (by omega) hl ?_ _ HD.out).mono ?_; (omega); rintro e y1 ⟨⟨q, rfl, q0, q1⟩, hD, hK⟩; have HD := ahide hD; have HZ := ahide (HZ.out.dk hK hZO); have HK := ahide (HK.out.trans hK); clear hD hK)
    | (go_at_call 29; refine (diceN_any O a l cap (n + 2) q (by omega) (by omega) (by omega) hl _ HD.out).mono ?_; rintro e y2 ⟨⟨t, rfl, t0, t1⟩, hD, hK, hsz⟩; clear hsz; have HD := ahide hD; have HZ := ahide (HZ.out.dk hK hZO); have HK := ahide (HK.out.trans hK); clear hD hK))
  have HX := ahide (⟨HD.out.later (abelow_alloc _ _), ax_new y2 (2 + s) (1 + t) 65, HZ.out.later (abelow_alloc _ _), HK.out.trans (DK.of_below (abelow_alloc _ _)), ⟨hO, Nat.le_refl _, HZ.out.lt, hraw⟩, by intro x hx; cases hx⟩ : AXS w (y2.alloc (.cells #[.int .i64 0, .int .i64 0, .int .i64 0, .int .i64 0, .int .i64 (2 + s), .int .i64 (1 + t), .int .i64 0, .int .i64 0, .int .i64 0, .int .i64 0, .int .i64 0, .int .i64 0, .slice none 0 0, .slice none 0 0, .int .i64 0] 65)) O w.heap.size y2.heap.size a l cap (n + 3) (updV (updV zV 4 (.int .i64 (2 + s))) 5 (.int .i64 (1 + t))) [])
  generalize y2.alloc (.cells #[.int .i64 0, .int .i64 0, .int .i64 0, .int .i64 0, .int .i64 (2 + s), .int .i64 (1 + t), .int .i64 0, .int .i64 0, .int .i64 0, .int .i64 0, .int .i64 0, .int .i64 0, .slice none 0 0, .slice none 0 0, .int .i64 0] 65) = u3 at *
  generalize y2.heap.size = B at *
  have HL := ahide ((ls_zero.put 4 (.int .i64 (2 + s))).put 5 (.int .i64 (1 + t)))
  generalize updV (updV zV 4 (.int .i64 (2 + s))) 5 (.int .i64 (1 + t)) = v3 at HX HL
  have bs : 2 ≤ 2 + s ∧ 2 + s ≤ 4 := by omega
  have bt : 1 ≤ 1 + t ∧ 1 + t ≤ 1000 := by omega
  generalize 2 + s = sf at *
  generalize 1 + t = tv at *
  obtain ⟨bs0, bs1⟩ := bs
  obtain ⟨bt0, bt1⟩ := bt
  clear HD HZ HK hd s0 s1 q0 q1 t0 t1
  have c5 := AXS.ld HX.out HL.out (j := 5) (x := .int .i64 tv) rfl
  have TK3 : Hid True := trivial
  go_upto_region 3 with (go_at_call 29; clear TK3; refine (diceN_any O a l cap (n + 3) tv (by omega) (by omega) (by omega) hl _ HX.out.1).mono ?_; rintro e y3 ⟨⟨r, rfl, r0, r1⟩, hD, hK, hsz⟩; clear hsz; have HX := ahide (AXS.dk HX.out hD hK); clear hD hK; have d6 := (HX.out.2.1 6 (by omega)).1; have f6 := (HX.out.2.1 6 (by omega)).2)
  have HX := ahide (AXS.put (HX.out) 6 (.int .i64 (1 + r)))
  have HL := ahide ((HL.out).put 6 (.int .i64 (1 + r)))
  generalize (updV v3 6 (.int .i64 (1 + r))) = v4 at HX HL
  generalize (y3.setCell ⟨B, 6, none⟩ (.int .i64 (1 + r))) = u4 at *
  have br : 1 ≤ 1 + r ∧ 1 + r ≤ tv := by omega
  generalize 1 + r = rv at *
  obtain ⟨br0, br1⟩ := br
  clear r0 r1 c5 d6 f6
  have c4 := AXS.ld HX.out HL.out (j := 4) (x := .int .i64 sf) rfl
  have c5 := AXS.ld HX.out HL.out (j := 5) (x := .int .i64 tv) rfl
  have c6 := AXS.ld HX.out HL.out (j := 6) (x := .int .i64 rv) rfl
  have bm : 1 ≤ (sf - 1) * tv ∧ (sf - 1) * tv ≤ 3000 := by rcases (show sf = 2 ∨ sf = 3 ∨ sf = 4 by omega) with rfl | rfl | rfl <;> omega
  have bc : 1 ≤ (sf - 1) * rv ∧ (sf - 1) * rv ≤ 3000 := by rcases (show sf = 2 ∨ sf = 3 ∨ sf = 4 by omega) with rfl | rfl | rfl <;> omega
  have vm : IntKind.i64.wrap ((sf - 1) * tv) = (sf - 1) * tv := swrap_id (by omega) (by omega)
  have vc : IntKind.i64.wrap ((sf - 1) * rv) = (sf - 1) * rv := swrap_id (by omega) (by omega)
  obtain ⟨bm0, bm1⟩ := bm
  obtain ⟨bc0, bc1⟩ := bc
  go_upto_region 5 with fail
  have bn : 1 ≤ mnA ((sf - 1) * rv) 1000 ∧ mnA ((sf - 1) * rv) 1000 ≤ 1000 := by unfold mnA; omega
  have HCN := ahide (show mnA ((sf - 1) * rv) 1000 ≤ (sf - 1) * rv by unfold mnA; omega)
  generalize mnA ((sf - 1) * rv) 1000 = cn at *
  generalize hmo : (sf - 1) * tv = mo at *
  have HMO := ahide hmo
  clear hmo
  obtain ⟨bn0, bn1⟩ := bn
  clear vm vc bc0 bc1 c4 c5 c6
  have c5 := AXS.ld HX.out HL.out (j := 5) (x := .int .i64 tv) rfl
  have Z := ahide c5
  have m3 := fun ts t p q r w => mrun_min3 ts t p q r w
  go_region_held3 (fun u => u.cell? ⟨B, 5, none⟩ = some (.int .i64 tv))
    (first
      | (with_reducible assumption)
      | (exact keepC (abelow_alloc _ _) (by with_reducible assumption))
      | (exact keepC (Below.refl _ _).drew Z.out)
      | (exact keepC ((abelow_alloc _ _).drew) Z.out)
      | (exact keepCs (by decide) (by with_reducible assumption)))
    (first
      | (go_at_call 28; (first | (refine (diceMost3 O a l cap (n + 4) 1 10 1000 1 1000 (by omega) hl ?_ _ HX.out.1).mono ?_; (omega); rintro e y4 ⟨⟨q, rfl, q0, q1⟩, hD, hK⟩; have HX := ahide (AXS.dk HX.out hD hK)) | (refine (diceMost3d O a l cap (n + 4) 1 10 1000 1 1000 (by omega) hl ?_ _ HX.out.1).mono ?_; (omega); rintro e y4 ⟨⟨q, rfl, q0, q1⟩, hD, hK⟩; have HX := ahide (AXS.dk HX.out hD hK))); clear hD hK; have c5 := AXS.ld HX.out HL.out (j := 5) (x := .int .i64 tv) rfl)
      | (go_at_call 29; have bq : 1 ≤ mnA (mnA tv cn) q + 1 ∧ mnA (mnA tv cn) q + 1 ≤ 1001 ∧ mnA (mnA tv cn) q ≤ tv ∧ mnA (mnA tv cn) q ≤ cn := (min3_bd bt0 bn0 q0 bt1); have vq : IntKind.i64.wrap (mnA (mnA tv cn) q + 1) = mnA (mnA tv cn) q + 1 := swrap_id (by omega) (by omega); rw [vq]; refine (diceN_any O a l cap (n + 5) (mnA (mnA tv cn) q + 1) (by omega) (by omega) (by omega) hl _ HX.out.1).mono ?_; rintro e y5 ⟨⟨ks, rfl, ks0, ks1⟩, hD, hK, hsz⟩; clear hsz vq; have HX := ahide (AXS.dk HX.out hD hK); clear hD hK; have c5 := AXS.ld HX.out HL.out (j := 5) (x := .int .i64 tv) rfl; have d7 := (HX.out.2.1 7 (by omega)).1; have f7 := (HX.out.2.1 7 (by omega)).2))
  rename_i hH
  clear hH
  go_upto_region 6 with fail
  have HX := ahide (AXS.put (HX.out) 7 (.int .i64 ks))
  have HL := ahide ((HL.out).put 7 (.int .i64 ks))
  generalize (updV v4 7 (.int .i64 ks)) = v6 at HX HL
  generalize (y5.setCell ⟨B, 7, none⟩ (.int .i64 ks)) = u6 at *
  have bk : ks ≤ tv ∧ ks ≤ cn := by omega
  obtain ⟨bk0, bk1⟩ := bk
  clear ks1 bq c5 d7 f7 Z m3 q0 q1
  have c7 := AXS.ld HX.out HL.out (j := 7) (x := .int .i64 ks) rfl
  have TK6 : Hid True := trivial
  go_upto_region 7 with (go_at_call 29; clear TK6; refine (diceN_any O a l cap (n + 6) (cn - ks + 1) (by omega) (by omega) (by omega) hl _ HX.out.1).mono ?_; rintro e y6 ⟨⟨pu, rfl, pu0, pu1⟩, hD, hK, hsz⟩; clear hsz; have HX := ahide (AXS.dk HX.out hD hK); clear hD hK; have d3 := (HX.out.2.1 3 (by omega)).1; have f3 := (HX.out.2.1 3 (by omega)).2)
  have HX := ahide (AXS.put (HX.out) 3 (.int .i64 pu))
  have HL := ahide ((HL.out).put 3 (.int .i64 pu))
  generalize (updV v6 3 (.int .i64 pu)) = v7 at HX HL
  generalize (y6.setCell ⟨B, 3, none⟩ (.int .i64 pu)) = u7 at *
  have bp : pu ≤ 1000 := by omega
  have HPK := ahide (show pu + ks ≤ cn by omega)
  clear pu1 c7 d3 f3
  have TK7 : Hid True := trivial
  have TK8 : Hid True := trivial
  go_upto_region 8 with (first
    | (go_at_call 28; clear TK7; refine (diceMost3 O a l cap (n + 7) 2 10 1001 1 1001 (by omega) hl ?_ _ HX.out.1).mono ?_; (omega); rintro e y7 ⟨⟨q, rfl, q0, q1⟩, hD, hK⟩; have HX := ahide (AXS.dk HX.out hD hK); clear hD hK)
    | (go_at_call 29; clear TK8; refine (diceN_any O a l cap (n + 8) q (by omega) (by omega) (by omega) hl _ HX.out.1).mono ?_; rintro e y8 ⟨⟨nz, rfl, nz0, nz1⟩, hD, hK, hsz⟩; clear hsz; have HX := ahide (AXS.dk HX.out hD hK); clear hD hK; have d2 := (HX.out.2.1 2 (by omega)).1; have f2 := (HX.out.2.1 2 (by omega)).2))
  have HX := ahide (AXS.put (HX.out) 2 (.int .i64 nz))
  have HL := ahide ((HL.out).put 2 (.int .i64 nz))
  generalize (updV v7 2 (.int .i64 nz)) = v9 at HX HL
  generalize (y8.setCell ⟨B, 2, none⟩ (.int .i64 nz)) = u9 at *
  have bz : nz ≤ 1000 := by omega
  clear nz1 d2 f2 q0 q1
  have c2 := AXS.ld HX.out HL.out (j := 2) (x := .int .i64 nz) rfl
  have Z := ahide c2
  have vz : IntKind.i64.wrap (2 * nz) = 2 * nz := swrap_id (by omega) (by omega)
  go_region_held3 (fun u => u.cell? ⟨B, 2, none⟩ = some (.int .i64 nz))
    (first
      | (with_reducible assumption)
      | (exact keepC (abelow_alloc _ _) (by with_reducible assumption))
      | (exact keepC (Below.refl _ _).drew Z.out)
      | (exact keepC ((abelow_alloc _ _).drew) Z.out)
      | (exact keepCs (by decide) (by with_reducible assumption)))
    (first
      | (go_at_call 29; (first | (refine (diceN_any O a l cap (n + 9) 40 (by omega) (by omega) (by omega) hl _ HX.out.1).mono ?_; rintro e y9 ⟨⟨li, rfl, li0, li1⟩, hD, hK, hsz⟩; clear hsz; have HX := ahide (AXS.dk HX.out hD hK)) | (refine (diceN_any O a l cap (n + 9) 40 (by omega) (by omega) (by omega) hl _ (AXS.later HX.out (Below.refl _ _).drew).1).mono ?_; rintro e y9 ⟨⟨li, rfl, li0, li1⟩, hD, hK, hsz⟩; clear hsz; have HX := ahide (AXS.dk (AXS.later HX.out (Below.refl _ _).drew) hD hK))); clear hD hK; have c2 := AXS.ld HX.out HL.out (j := 2) (x := .int .i64 nz) rfl; have d8 := (HX.out.2.1 8 (by omega)).1; have f8 := (HX.out.2.1 8 (by omega)).2))
  rename_i hH
  clear hH
  have vl : IntKind.i64.wrap (2 * nz + li) = 2 * nz + li := swrap_id (by omega) (by omega)
  go_upto_region 9 with fail
  rw [vl]
  have HX := ahide (AXS.put (HX.out) 8 (.int .i64 (2 * nz + li)))
  have HL := ahide ((HL.out).put 8 (.int .i64 (2 * nz + li)))
  generalize (updV v9 8 (.int .i64 (2 * nz + li))) = v10 at HX HL
  generalize (y9.setCell ⟨B, 8, none⟩ (.int .i64 (2 * nz + li))) = u10 at *
  have blm : 2 * nz ≤ 2 * nz + li ∧ 2 * nz + li ≤ 2040 := by omega
  clear vl vz
  generalize 2 * nz + li = lm at *
  have HLM := ahide blm
  clear li0 li1 c2 d8 f8 Z blm
  have TK10 : Hid True := trivial
  have TK11 : Hid True := trivial
  go_upto_region 10 with (first
    | (go_at_call 29; clear TK10; refine (diceN_any O a l cap (n + 10) 10 (by omega) (by omega) (by omega) hl _ HX.out.1).mono ?_; rintro e y10 ⟨⟨cf, rfl, cf0, cf1⟩, hD, hK, hsz⟩; clear hsz; have HX := ahide (AXS.dk HX.out hD hK); clear hD hK)
    | (go_at_call 29; clear TK11; refine (diceN_any O a l cap (n + 11) 10 (by omega) (by omega) (by omega) hl _ HX.out.1).mono ?_; rintro e y11 ⟨⟨wt, rfl, wt0, wt1⟩, hD, hK, hsz⟩; clear hsz; have HX := ahide (AXS.dk HX.out hD hK); clear hD hK; have d9 := (HX.out.2.1 9 (by omega)).1; have f9 := (HX.out.2.1 9 (by omega)).2; have d10 := (HX.out.2.1 10 (by omega)).1; have f10 := (HX.out.2.1 10 (by omega)).2))
  have HX := ahide (AXS.put (AXS.put (HX.out) 9 (.int .i64 (1 + cf))) 10 (.int .i64 (1 + wt)))
  have HL := ahide (((HL.out).put 9 (.int .i64 (1 + cf))).put 10 (.int .i64 (1 + wt)))
  generalize (updV (updV v10 9 (.int .i64 (1 + cf))) 10 (.int .i64 (1 + wt))) = v12 at HX HL
  generalize ((y11.setCell ⟨B, 9, none⟩ (.int .i64 (1 + cf))).setCell ⟨B, 10, none⟩ (.int .i64 (1 + wt))) = u12 at *
  have bw : 1 ≤ 1 + wt ∧ 1 + wt ≤ 10 := by omega
  have bcv : 1 ≤ 1 + cf ∧ 1 + cf ≤ 10 := by omega
  generalize 1 + wt = wa at *
  generalize 1 + cf = cv at *
  have HCV := ahide bcv
  clear cf0 cf1 wt0 wt1 d9 f9 d10 f10 bcv
  have TK12 : Hid True := trivial
  have TK13 : Hid True := trivial
  have TK14 : Hid True := trivial
  go_upto_region 11 with (first
    | (go_at_call 29; clear TK12; refine (diceN_any O a l cap (n + 12) 1001 (by omega) (by omega) (by omega) hl _ HX.out.1).mono ?_; rintro e y12 ⟨⟨tu, rfl, tu0, tu1⟩, hD, hK, hsz⟩; clear hsz; have HX := ahide (AXS.dk HX.out hD hK); clear hD hK)
    | (go_at_call 28; clear TK13; refine (diceMost3 O a l cap (n + 13) 4 200 65537 1 65537 (by omega) hl ?_ _ HX.out.1).mono ?_; (omega); rintro e y13 ⟨⟨q, rfl, q0, q1⟩, hD, hK⟩; have HX := ahide (AXS.dk HX.out hD hK); clear hD hK)
    | (go_at_call 29; clear TK14; refine (diceN_any O a l cap (n + 14) q (by omega) (by omega) (by omega) hl _ HX.out.1).mono ?_; rintro e y14 ⟨⟨bu, rfl, bu0, bu1⟩, hD, hK, hsz⟩; clear hsz; have HX := ahide (AXS.dk HX.out hD hK); clear hD hK; have d11 := (HX.out.2.1 11 (by omega)).1; have f11 := (HX.out.2.1 11 (by omega)).2; have d14 := (HX.out.2.1 14 (by omega)).1; have f14 := (HX.out.2.1 14 (by omega)).2))
  have HX := ahide (AXS.put (AXS.put (HX.out) 11 (.int .i64 tu)) 14 (.int .i64 bu))
  have HL := ahide (((HL.out).put 11 (.int .i64 tu)).put 14 (.int .i64 bu))
  generalize (updV (updV v12 11 (.int .i64 tu)) 14 (.int .i64 bu)) = v15 at HX HL
  generalize ((y14.setCell ⟨B, 11, none⟩ (.int .i64 tu)).setCell ⟨B, 14, none⟩ (.int .i64 bu)) = u15 at *
  have HTB := ahide (show (0 ≤ tu ∧ tu ≤ 1000) ∧ 0 ≤ bu ∧ bu ≤ 65536 by omega)
  clear tu0 tu1 bu0 bu1 q0 q1 d11 f11 d14 f14
  have TK15 : Hid True := trivial
  have TK16 : Hid True := trivial
  have TK17 : Hid True := trivial
  have TK18 : Hid True := trivial
  go_upto_region 12 with (first
    | (go_at_call 29; clear TK15; refine (diceN_any O a l cap (n + 15) 900 (by omega) (by omega) (by omega) hl _ HX.out.1).mono ?_; rintro e y15 ⟨⟨ga, rfl, ga0, ga1⟩, hD, hK, hsz⟩; clear hsz; have HX := ahide (AXS.dk HX.out hD hK); clear hD hK)
    | (go_at_call 28; clear TK16; refine (diceMost2k O a l cap (n + 16) _ 60 65537 1 65537 (by omega) hl ?_ _ ?_ (AXS.later HX.out (abelow_alloc y15 (.cells #[.int .i64 0, .int .i64 (100 + ga)] 3))).1).mono ?_; (omega); (simp [go_sem]); rintro e y16 ⟨⟨q, rfl, q0, q1⟩, hD, hK⟩; have HX := ahide (AXS.dk (AXS.grow HX.out 0 (100 + ga) 3) hD hK); clear hD hK)
    | (go_at_call 29; clear TK17; refine (diceN_any O a l cap (n + 17) q (by omega) (by omega) (by omega) hl _ HX.out.1).mono ?_; rintro e y17 ⟨⟨gx, rfl, gx0, gx1⟩, hD, hK, hsz⟩; clear hsz; have HX := ahide (AXS.dk HX.out hD hK); clear hD hK)
    | (go_at_call 29; clear TK18; refine (diceN_any O a l cap (n + 18) 300 (by omega) (by omega) (by omega) hl _ HX.out.1).mono ?_; rintro e y18 ⟨⟨gy, rfl, gy0, gy1⟩, hD, hK, hsz⟩; clear hsz; have HX := ahide (AXS.grow (AXS.dk HX.out hD hK) gx gy 3); clear hD hK; have d12 := (HX.out.2.1 12 (by omega)).1; have f12 := (HX.out.2.1 12 (by omega)).2; have d13 := (HX.out.2.1 13 (by omega)).1; have f13 := (HX.out.2.1 13 (by omega)).2))
  have HX := ahide (AXS.put (AXS.put (HX.out) 12 (.slice (some ⟨y15.heap.size, 0, none⟩) 2 2)) 13 (.slice (some ⟨y18.heap.size, 0, none⟩) 2 2))
  have HL := ahide ((HL.out.put 12 (.slice (some ⟨y15.heap.size, 0, none⟩) 2 2)).put 13 (.slice (some ⟨y18.heap.size, 0, none⟩) 2 2))
  generalize updV (updV v15 12 (.slice (some ⟨y15.heap.size, 0, none⟩) 2 2)) 13 (.slice (some ⟨y18.heap.size, 0, none⟩) 2 2) = v19 at HX HL
  generalize (((y18.alloc (.cells #[.int .i64 gx, .int .i64 gy] 3)).setCell ⟨B, 12, none⟩ (.slice (some ⟨y15.heap.size, 0, none⟩) 2 2)).setCell ⟨B, 13, none⟩ (.slice (some ⟨y18.heap.size, 0, none⟩) 2 2)) = u19 at *
  have HGB := ahide (show (100 ≤ 100 + ga ∧ 100 + ga ≤ 999) ∧ (0 ≤ gx ∧ gx ≤ 65536) ∧ 0 ≤ gy ∧ gy ≤ 299 by omega)
  generalize y15.heap.size = G1 at *
  generalize y18.heap.size = G2 at *
  generalize 100 + ga = gz at *
  clear ga0 ga1 gx0 gx1 gy0 gy1 q0 q1 d12 f12 d13 f13
  have bc : 1 ≤ (sf - 1) * rv ∧ (sf - 1) * rv ≤ 3000 := by rcases (show sf = 2 ∨ sf = 3 ∨ sf = 4 by omega) with rfl | rfl | rfl <;> omega
  have S0 : u19.cell? ⟨B, 0, none⟩ = some (.int .i64 0) ∧ u19.cell? ⟨B, 1, none⟩ = some (.int .i64 0) ∧ u19.cell? ⟨B, 2, none⟩ = some (.int .i64 nz) ∧ u19.cell? ⟨B, 3, none⟩ = some (.int .i64 pu) ∧ u19.cell? ⟨B, 4, none⟩ = some (.int .i64 sf) ∧ u19.cell? ⟨B, 5, none⟩ = some (.int .i64 tv) ∧ u19.cell? ⟨B, 6, none⟩ = some (.int .i64 rv) ∧ u19.cell? ⟨B, 7, none⟩ = some (.int .i64 ks) ∧ u19.cell? ⟨B, 8, none⟩ = some (.int .i64 lm) ∧ u19.cell? ⟨B, 9, none⟩ = some (.int .i64 cv) ∧ u19.cell? ⟨B, 10, none⟩ = some (.int .i64 wa) ∧ u19.cell? ⟨B, 11, none⟩ = some (.int .i64 tu) ∧ u19.cell? ⟨B, 12, none⟩ = some (.slice (some ⟨G1, 0, none⟩) 2 2) ∧ u19.cell? ⟨B, 13, none⟩ = some (.slice (some ⟨G2, 0, none⟩) 2 2) ∧ u19.cell? ⟨B, 14, none⟩ = some (.int .i64 bu) := AXS.all HX.out (show Ls v19 [.int .i64 0, .int .i64 0, .int .i64 nz, .int .i64 pu, .int .i64 sf, .int .i64 tv, .int .i64 rv, .int .i64 ks, .int .i64 lm, .int .i64 cv, .int .i64 wa, .int .i64 tu, .slice (some ⟨G1, 0, none⟩) 2 2, .slice (some ⟨G2, 0, none⟩) 2 2, .int .i64 bu] from HL.out)
  have Z := ahide S0
  have hgr := mguardRule_any 0 0 nz pu sf tv rv ks lm cv wa tu bu (.slice (some ⟨G1, 0, none⟩) 2 2) (.slice (some ⟨G2, 0, none⟩) 2 2) ⟨pu0, bp⟩ ⟨ks0, by omega⟩ ⟨bs0, bs1⟩ ⟨bt0, bt1⟩ ⟨by omega, by omega⟩
  have hbr := refBrake_ex 0 0 nz (pu + ks) ((sf - 1) * tv) ((sf - 1) * rv) mo (by omega) (by omega) (by omega) (by omega) (by omega) (by omega)
  obtain ⟨bkv, hbkv⟩ : ∃ bkv, bk ((sf - 1) * rv) (mo + (pu + ks)) = bkv := ⟨_, rfl⟩
  rw [hbkv] at hbr
  have bkv0 : 0 ≤ bkv := by rw [← hbkv]; exact bk_nonneg _ _
  have bkv1 : bkv ≤ 36000000 := by rw [← hbkv]; exact bk_lt (by omega) (by omega)
  have Hbkv := ahide hbkv
  clear hbkv
  generalize pu + ks = r3 at hgr hbr
  generalize (sf - 1) * tv = r4 at hgr hbr
  generalize (sf - 1) * rv = r5 at hgr hbr
  go_region_held3 (fun u => u.cell? ⟨B, 0, none⟩ = some (.int .i64 0) ∧ u.cell? ⟨B, 1, none⟩ = some (.int .i64 0) ∧ u.cell? ⟨B, 2, none⟩ = some (.int .i64 nz) ∧ u.cell? ⟨B, 3, none⟩ = some (.int .i64 pu) ∧ u.cell? ⟨B, 4, none⟩ = some (.int .i64 sf) ∧ u.cell? ⟨B, 5, none⟩ = some (.int .i64 tv) ∧ u.cell? ⟨B, 6, none⟩ = some (.int .i64 rv) ∧ u.cell? ⟨B, 7, none⟩ = some (.int .i64 ks) ∧ u.cell? ⟨B, 8, none⟩ = some (.int .i64 lm) ∧ u.cell? ⟨B, 9, none⟩ = some (.int .i64 cv) ∧ u.cell? ⟨B, 10, none⟩ = some (.int .i64 wa) ∧ u.cell? ⟨B, 11, none⟩ = some (.int .i64 tu) ∧ u.cell? ⟨B, 12, none⟩ = some (.slice (some ⟨G1, 0, none⟩) 2 2) ∧ u.cell? ⟨B, 13, none⟩ = some (.slice (some ⟨G2, 0, none⟩) 2 2) ∧ u.cell? ⟨B, 14, none⟩ = some (.int .i64 bu))
    (first
      | (with_reducible assumption)
      | (with_reducible apply keep15; with_reducible assumption; with_reducible assumption)
      | (refine keep15 ?_ Z.out; exact (Below.refl _ _).drew))
    (first
      | (go_at_call 27; refine (hgr _).mono ?_; rintro e w1 ⟨rfl, hb⟩; (first | (have HX := ahide (AXS.later HX.out hb)) | (have HX := ahide (AXS.later (AXS.later HX.out (Below.refl _ _).drew) hb))))
      | (go_at_call 48; refine (hbr _).mono ?_; rintro e w2 ⟨rfl, hq⟩; have hb := below_eq hq; clear hq; (first | (have HX := ahide (AXS.later HX.out hb)) | (have HX := ahide (AXS.later (AXS.later HX.out (Below.refl _ _).drew) hb))); have vb1 : IntKind.i64.wrap (nz + bkv) = nz + bkv := swrap_id (by omega) (by omega); have vb2 : IntKind.i64.wrap (2 * (nz + bkv)) = 2 * (nz + bkv) := swrap_id (by omega) (by omega)))
  rename_i hH
  clear hH
  go_upto_if 108 with fail
  have HPR := ahide (show pu + ks ≤ (sf - 1) * rv from Int.le_trans HPK.out HCN.out)
  have bwd : 0 ≤ 2 * (nz + bkv) ∧ 2 * (nz + bkv) ≤ 130000000 := by omega
  generalize hwd : 2 * (nz + bkv) = wd at *
  have HWD := ahide (show wd = 2 * (nz + bk ((sf - 1) * rv) (mo + (pu + ks))) by rw [Hbkv.out]; exact hwd.symm)
  clear hwd
  obtain ⟨bwd0, bwd1⟩ := bwd
  clear vb1 vb2 bkv0 bkv1 hgr hbr Z S0 Hbkv
  go_cut [6] (fun x u => ∃ (wd rv' : Int) (v' : Nat → Value), x = .int .i64 wd ∧ (0 ≤ wd ∧ wd ≤ 150000) ∧ AXS w u O w.heap.size B a l cap (n + 19) v' [(⟨G2, 0, none⟩, .int .i64 gx), (⟨G2, 1, none⟩, .int .i64 gy), (⟨G1, 0, none⟩, .int .i64 0), (⟨G1, 1, none⟩, .int .i64 gz)] ∧ (Ls v' [.int .i64 0, .int .i64 0, .int .i64 nz, .int .i64 pu, .int .i64 sf, .int .i64 tv, .int .i64 rv', .int .i64 ks, .int .i64 lm, .int .i64 cv, .int .i64 wa, .int .i64 tu, .slice (some ⟨G1, 0, none⟩) 2 2, .slice (some ⟨G2, 0, none⟩) 2 2, .int .i64 bu]) ∧ (1 ≤ rv' ∧ rv' ≤ tv) ∧ pu + ks ≤ (sf - 1) * rv' ∧ wd = 2 * (nz + bk ((sf - 1) * rv') (mo + (pu + ks))))
  case first =>
    by_cases hw : 150000 < wd
    · have c5 := AXS.ld HX.out HL.out (j := 5) (x := .int .i64 tv) rfl
      have d6 := (HX.out.2.1 6 (by omega)).1
      have f6 := (HX.out.2.1 6 (by omega)).2
      go_upto_region 15 with fail
      have HX := ahide (AXS.put (HX.out) 6 (.int .i64 tv))
      have HL := ahide (HL.out.put 6 (.int .i64 tv))
      generalize updV v19 6 (.int .i64 tv) = v20 at HX HL
      generalize w2.setCell ⟨B, 6, none⟩ (.int .i64 tv) = u20 at *
      clear c5 d6 f6
      have bc2 : 1 ≤ (sf - 1) * tv ∧ (sf - 1) * tv ≤ 3000 := by rcases (show sf = 2 ∨ sf = 3 ∨ sf = 4 by omega) with rfl | rfl | rfl <;> omega
      have S0 : u20.cell? ⟨B, 0, none⟩ = some (.int .i64 0) ∧ u20.cell? ⟨B, 1, none⟩ = some (.int .i64 0) ∧ u20.cell? ⟨B, 2, none⟩ = some (.int .i64 nz) ∧ u20.cell? ⟨B, 3, none⟩ = some (.int .i64 pu) ∧ u20.cell? ⟨B, 4, none⟩ = some (.int .i64 sf) ∧ u20.cell? ⟨B, 5, none⟩ = some (.int .i64 tv) ∧ u20.cell? ⟨B, 6, none⟩ = some (.int .i64 tv) ∧ u20.cell? ⟨B, 7, none⟩ = some (.int .i64 ks) ∧ u20.cell? ⟨B, 8, none⟩ = some (.int .i64 lm) ∧ u20.cell? ⟨B, 9, none⟩ = some (.int .i64 cv) ∧ u20.cell? ⟨B, 10, none⟩ = some (.int .i64 wa) ∧ u20.cell? ⟨B, 11, none⟩ = some (.int .i64 tu) ∧ u20.cell? ⟨B, 12, none⟩ = some (.slice (some ⟨G1, 0, none⟩) 2 2) ∧ u20.cell? ⟨B, 13, none⟩ = some (.slice (some ⟨G2, 0, none⟩) 2 2) ∧ u20.cell? ⟨B, 14, none⟩ = some (.int .i64 bu) := AXS.all HX.out (show Ls v20 [.int .i64 0, .int .i64 0, .int .i64 nz, .int .i64 pu, .int .i64 sf, .int .i64 tv, .int .i64 tv, .int .i64 ks, .int .i64 lm, .int .i64 cv, .int .i64 wa, .int .i64 tu, .slice (some ⟨G1, 0, none⟩) 2 2, .slice (some ⟨G2, 0, none⟩) 2 2, .int .i64 bu] from HL.out)
      have Z := ahide S0
      have hgr := mguardRule_any 0 0 nz pu sf tv tv ks lm cv wa tu bu (.slice (some ⟨G1, 0, none⟩) 2 2) (.slice (some ⟨G2, 0, none⟩) 2 2) ⟨pu0, bp⟩ ⟨ks0, by omega⟩ ⟨bs0, bs1⟩ ⟨bt0, bt1⟩ ⟨by omega, by omega⟩
      have hbr := refBrake_ex 0 0 nz (pu + ks) ((sf - 1) * tv) ((sf - 1) * tv) mo (by omega) (by omega) (by omega) (by omega) (by omega) (by omega)
      obtain ⟨bj, hbj⟩ : ∃ bj, bk ((sf - 1) * tv) (mo + (pu + ks)) = bj := ⟨_, rfl⟩
      rw [hbj] at hbr
      have bj0 : 0 ≤ bj := by rw [← hbj]; exact bk_nonneg _ _
      have bj1 : bj ≤ 36000000 := by rw [← hbj]; exact bk_lt (by omega) (by omega)
      have Hbj := ahide hbj
      clear hbj
      generalize pu + ks = r3 at hgr hbr
      generalize (sf - 1) * tv = r4 at hgr hbr
      generalize (sf - 1) * tv = r5 at hgr hbr
      go_region_held3 (fun u => u.cell? ⟨B, 0, none⟩ = some (.int .i64 0) ∧ u.cell? ⟨B, 1, none⟩ = some (.int .i64 0) ∧ u.cell? ⟨B, 2, none⟩ = some (.int .i64 nz) ∧ u.cell? ⟨B, 3, none⟩ = some (.int .i64 pu) ∧ u.cell? ⟨B, 4, none⟩ = some (.int .i64 sf) ∧ u.cell? ⟨B, 5, none⟩ = some (.int .i64 tv) ∧ u.cell? ⟨B, 6, none⟩ = some (.int .i64 tv) ∧ u.cell? ⟨B, 7, none⟩ = some (.int .i64 ks) ∧ u.cell? ⟨B, 8, none⟩ = some (.int .i64 lm) ∧ u.cell? ⟨B, 9, none⟩ = some (.int .i64 cv) ∧ u.cell? ⟨B, 10, none⟩ = some (.int .i64 wa) ∧ u.cell? ⟨B, 11, none⟩ = some (.int .i64 tu) ∧ u.cell? ⟨B, 12, none⟩ = some (.slice (some ⟨G1, 0, none⟩) 2 2) ∧ u.cell? ⟨B, 13, none⟩ = some (.slice (some ⟨G2, 0, none⟩) 2 2) ∧ u.cell? ⟨B, 14, none⟩ = some (.int .i64 bu))
        (first
          | (with_reducible assumption)
          | (with_reducible apply keep15; with_reducible assumption; with_reducible assumption)
          | (refine keep15 ?_ Z.out; exact (Below.refl _ _).drew))
        (first
          | (go_at_call 27; refine (hgr _).mono ?_; rintro e w1 ⟨rfl, hb⟩; (first | (have HX := ahide (AXS.later HX.out hb)) | (have HX := ahide (AXS.later (AXS.later HX.out (Below.refl _ _).drew) hb))))
          | (go_at_call 48; refine (hbr _).mono ?_; rintro e w2 ⟨rfl, hq⟩; have hb := below_eq hq; clear hq; (first | (have HX := ahide (AXS.later HX.out hb)) | (have HX := ahide (AXS.later (AXS.later HX.out (Below.refl _ _).drew) hb))); have vb1 : IntKind.i64.wrap (nz + bj) = nz + bj := swrap_id (by omega) (by omega); have vb2 : IntKind.i64.wrap (2 * (nz + bj)) = 2 * (nz + bj) := swrap_id (by omega) (by omega)))
      rename_i hH
      clear hH
      go_wp2_with fail
      have bjx : bj ≤ 5000 := by rw [← Hbj.out, ← HMO.out]; have := bk_all (R := (sf - 1) * tv) (P := pu + ks) (by omega) (by omega) (Int.le_trans HPR.out (Int.mul_le_mul_of_nonneg_left br1 (by omega))); have := HPK.out; omega
      go_meet
      (case rel => exact ⟨2 * (nz + bj), tv, _, rfl, ⟨by omega, by omega⟩, HX.out, HL.out, ⟨by omega, by omega⟩, Int.le_trans HPR.out (Int.mul_le_mul_of_nonneg_left br1 (by omega)), by rw [Hbj.out]⟩)
    · go_wp2
      go_meet
      (case rel => exact ⟨wd, rv, _, rfl, ⟨by omega, by omega⟩, HX.out, HL.out, ⟨by omega, by omega⟩, HPR.out, HWD.out⟩)
  case rest =>
    obtain ⟨wi, rx, vr, rfl, bwi, hX, hvs, brx, hpr, hwi⟩ := hcut
    refine akont (by assumption) ?_
    exact axisTail_any O a l cap n hn hl w hraw hO _ B G1 G2 sf tv nz ks pu wa mo cn lm cv tu bu gx gy gz _ wi rx vr bwi hX hvs brx hpr (by rw [hwi, HMO.out]) HGB.out HLM.out HCV.out HTB.out ⟨bs0, bs1⟩ ⟨bt0, bt1⟩ ⟨nz0, bz⟩ ⟨ks0, bk0⟩ ⟨pu0, bp⟩ bw _ _ _ _ _ _ _ _ _ _ _ _ _ _ _ _ _ _ _ _ _ _ _ _ _ _ _ _ _ _ _ _ _ _ _ _ _ _ _ _ _ _ _ _ _ _ _ _ _ _ _ _ _ _ _ _ _ _ _ _ _ _ _ _ _ _ _ _ _ _ _ _ _ _ _ _ _ _ _ _ _ _ _ _ _ _ _ _ _ _ _ _ _ _ _ _ _ _ _ _ _ _ _ _ _ _ _ _ _ _ _ _ _ _ _ _ _ _ _ _ _ _ _ _ _ _ _ _ _ _ _ _ _ _ _ _ _ _ _ _ _ _ _

end Go.Proofs.Ythijegfacnjooaa
