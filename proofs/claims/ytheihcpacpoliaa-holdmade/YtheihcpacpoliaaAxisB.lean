/-
  The walk of fulmarref.axisFrom.
-/
import Derived.Test.YtheihcpacpoliaaAxisT
namespace Go.Proofs.Ytheihcpacpoliaa
open Go.RowKit Plain

set_option maxRecDepth 100000 in
set_option maxHeartbeats 4000000 in
theorem axisFrom_any (O : Nat) (a : Option Addr) (l : List Int) (cap n : Nat) (hn : n ≤ 900000) (hl : l.length ≤ 100) (w : World) (hd : Dc w O a l cap n) (hraw : RawAt a l w.heap.size) :
    Calls Try.prog 26 #[.pointer (some ⟨O, 0, none⟩)] w fun e w' => (∃ (a0 a1 a2 a3 a4 a5 a6 a7 a8 a9 a10 a11 a14 : Int) (G1 G2 : Nat), e = .returned (.agg #[.int .i64 a0, .int .i64 a1, .int .i64 a2, .int .i64 a3, .int .i64 a4, .int .i64 a5, .int .i64 a6, .int .i64 a7, .int .i64 a8, .int .i64 a9, .int .i64 a10, .int .i64 a11, .slice (some ⟨G1, 0, none⟩) 2 2, .slice (some ⟨G2, 0, none⟩) 2 2, .int .i64 a14]) ∧ AxK a0 a1 a2 a3 a4 a5 a6 a7 a8 a9 a10 a11 a14 ∧ (∃ x y z, GL w' G1 G2 x y z) ∧ w.heap.size ≤ G1 ∧ w.heap.size ≤ G2) ∧ Dc w' O a l cap (n + 22) ∧ DK O w w' := by
  have hO := hd.lt
  have m2 := fun ts t p q w => run_minA ts t p q w
  have x2 := fun ts t p q w => run_maxA ts t p q w
  have HD := ahide (hd.later (abelow_alloc w (.cells #[.int .i64 0, .int .i64 0, .int .i64 0, .int .i64 0, .int .i64 0, .int .i64 0, .int .i64 0, .int .i64 0, .int .i64 0, .int .i64 0, .int .i64 0, .int .i64 0, .slice none 0 0, .slice none 0 0, .int .i64 0] 48)))
  have HZ := ahide (ax_zero w 48)
  have HK : Hid (DK O w (w.alloc (.cells #[.int .i64 0, .int .i64 0, .int .i64 0, .int .i64 0, .int .i64 0, .int .i64 0, .int .i64 0, .int .i64 0, .int .i64 0, .int .i64 0, .int .i64 0, .int .i64 0, .slice none 0 0, .slice none 0 0, .int .i64 0] 48))) := DK.of_below (abelow_alloc _ _)
  go_enter Try.func26, Try.ntmps26
  go_upto_region 1 with fail
  generalize (w.alloc (.cells #[.int .i64 0, .int .i64 0, .int .i64 0, .int .i64 0, .int .i64 0, .int .i64 0, .int .i64 0, .int .i64 0, .int .i64 0, .int .i64 0, .int .i64 0, .int .i64 0, .slice none 0 0, .slice none 0 0, .int .i64 0] 48)) = u0 at *
  have hZO : w.heap.size ≠ O := by omega
  go_upto_region 2 with (first
    | (go_at_call_of 14 (Value.int .i64 3); refine (diceN_any O a l cap n 3 (by omega) (by omega) (by omega) hl _ HD.out).mono ?_; rintro e y0 ⟨⟨s, rfl, s0, s1⟩, hD, hK, hsz⟩; clear hsz; have HD := ahide hD; have HZ := ahide (HZ.out.dk hK hZO); have HK := ahide (HK.out.trans hK); clear hD hK)
    | (go_at_call 15; refine (diceMost3 O a l cap (n + 1) 4 60 1000 1 1000 (by omega) hl ?_ _ HD.out).mono ?_; (omega); rintro e y1 ⟨⟨q, rfl, q0, q1⟩, hD, hK⟩; have HD := ahide hD; have HZ := ahide (HZ.out.dk hK hZO); have HK := ahide (HK.out.trans hK); clear hD hK)
    | (go_at_call 14; refine (diceN_any O a l cap (n + 2) q (by omega) (by omega) (by omega) hl _ HD.out).mono ?_; rintro e y2 ⟨⟨t, rfl, t0, t1⟩, hD, hK, hsz⟩; clear hsz; have HD := ahide hD; have HZ := ahide (HZ.out.dk hK hZO); have HK := ahide (HK.out.trans hK); clear hD hK))
  have HX := ahide (⟨HD.out.later (abelow_alloc _ _), ax_new y2 (2 + s) (1 + t) 48, HZ.out.later (abelow_alloc _ _), HK.out.trans (DK.of_below (abelow_alloc _ _)), ⟨hO, Nat.le_refl _, HZ.out.lt, hraw⟩, by intro x hx; cases hx⟩ : AXS w (y2.alloc (.cells #[.int .i64 0, .int .i64 0, .int .i64 0, .int .i64 0, .int .i64 (2 + s), .int .i64 (1 + t), .int .i64 0, .int .i64 0, .int .i64 0, .int .i64 0, .int .i64 0, .int .i64 0, .slice none 0 0, .slice none 0 0, .int .i64 0] 48)) O w.heap.size y2.heap.size a l cap (n + 3) (updV (updV zV 4 (.int .i64 (2 + s))) 5 (.int .i64 (1 + t))) [])
  generalize y2.alloc (.cells #[.int .i64 0, .int .i64 0, .int .i64 0, .int .i64 0, .int .i64 (2 + s), .int .i64 (1 + t), .int .i64 0, .int .i64 0, .int .i64 0, .int .i64 0, .int .i64 0, .int .i64 0, .slice none 0 0, .slice none 0 0, .int .i64 0] 48) = u3 at *
  generalize y2.heap.size = B at *
  obtain ⟨v3, HV3⟩ : ∃ v3, Hid (updV (updV zV 4 (.int .i64 (2 + s))) 5 (.int .i64 (1 + t)) = v3) := ⟨_, rfl⟩
  have H4 : Hid (v3 4 = .int .i64 (2 + s)) := by rw [← HV3.out]; rfl
  have H5 : Hid (v3 5 = .int .i64 (1 + t)) := by rw [← HV3.out]; rfl
  have H0 : Hid (v3 0 = .int .i64 0) := by rw [← HV3.out]; rfl
  have H1 : Hid (v3 1 = .int .i64 0) := by rw [← HV3.out]; rfl
  have H2 : Hid (v3 2 = .int .i64 0) := by rw [← HV3.out]; rfl
  have H3 : Hid (v3 3 = .int .i64 0) := by rw [← HV3.out]; rfl
  have H6 : Hid (v3 6 = .int .i64 0) := by rw [← HV3.out]; rfl
  have H7 : Hid (v3 7 = .int .i64 0) := by rw [← HV3.out]; rfl
  have H8 : Hid (v3 8 = .int .i64 0) := by rw [← HV3.out]; rfl
  have H9 : Hid (v3 9 = .int .i64 0) := by rw [← HV3.out]; rfl
  have H10 : Hid (v3 10 = .int .i64 0) := by rw [← HV3.out]; rfl
  have H11 : Hid (v3 11 = .int .i64 0) := by rw [← HV3.out]; rfl
  have H12 : Hid (v3 12 = .slice none 0 0) := by rw [← HV3.out]; rfl
  have H13 : Hid (v3 13 = .slice none 0 0) := by rw [← HV3.out]; rfl
  have H14 : Hid (v3 14 = .int .i64 0) := by rw [← HV3.out]; rfl
  rw [HV3.out] at HX
  have bs : 2 ≤ 2 + s ∧ 2 + s ≤ 4 := by omega
  have bt : 1 ≤ 1 + t ∧ 1 + t ≤ 1000 := by omega
  generalize 2 + s = sf at *
  generalize 1 + t = tv at *
  obtain ⟨bs0, bs1⟩ := bs
  obtain ⟨bt0, bt1⟩ := bt
  clear HV3 HD HZ HK hd s0 s1 q0 q1 t0 t1
  have c5 := (HX.out.2.1 5 (by omega)).1
  rw [H5.out] at c5
  have TK3 : Hid True := trivial
  go_upto_region 3 with (go_at_call 14; clear TK3; refine (diceN_any O a l cap (n + 3) tv (by omega) (by omega) (by omega) hl _ HX.out.1).mono ?_; rintro e y3 ⟨⟨r, rfl, r0, r1⟩, hD, hK, hsz⟩; clear hsz; have HX := ahide (AXS.dk HX.out hD hK); clear hD hK; have d6 := (HX.out.2.1 6 (by omega)).1; have f6 := (HX.out.2.1 6 (by omega)).2)
  have HX := ahide (AXS.put (HX.out) 6 (.int .i64 (1 + r)))
  obtain ⟨v4, HV4⟩ : ∃ v4, Hid ((updV v3 6 (.int .i64 (1 + r))) = v4) := ⟨_, rfl⟩
  have H0 : Hid (v4 0 = .int .i64 0) := by rw [← HV4.out]; exact (updV_other (k := 6) H0.out (by decide))
  have H1 : Hid (v4 1 = .int .i64 0) := by rw [← HV4.out]; exact (updV_other (k := 6) H1.out (by decide))
  have H2 : Hid (v4 2 = .int .i64 0) := by rw [← HV4.out]; exact (updV_other (k := 6) H2.out (by decide))
  have H3 : Hid (v4 3 = .int .i64 0) := by rw [← HV4.out]; exact (updV_other (k := 6) H3.out (by decide))
  have H4 : Hid (v4 4 = .int .i64 sf) := by rw [← HV4.out]; exact (updV_other (k := 6) H4.out (by decide))
  have H5 : Hid (v4 5 = .int .i64 tv) := by rw [← HV4.out]; exact (updV_other (k := 6) H5.out (by decide))
  have H7 : Hid (v4 7 = .int .i64 0) := by rw [← HV4.out]; exact (updV_other (k := 6) H7.out (by decide))
  have H8 : Hid (v4 8 = .int .i64 0) := by rw [← HV4.out]; exact (updV_other (k := 6) H8.out (by decide))
  have H9 : Hid (v4 9 = .int .i64 0) := by rw [← HV4.out]; exact (updV_other (k := 6) H9.out (by decide))
  have H10 : Hid (v4 10 = .int .i64 0) := by rw [← HV4.out]; exact (updV_other (k := 6) H10.out (by decide))
  have H11 : Hid (v4 11 = .int .i64 0) := by rw [← HV4.out]; exact (updV_other (k := 6) H11.out (by decide))
  have H12 : Hid (v4 12 = .slice none 0 0) := by rw [← HV4.out]; exact (updV_other (k := 6) H12.out (by decide))
  have H13 : Hid (v4 13 = .slice none 0 0) := by rw [← HV4.out]; exact (updV_other (k := 6) H13.out (by decide))
  have H14 : Hid (v4 14 = .int .i64 0) := by rw [← HV4.out]; exact (updV_other (k := 6) H14.out (by decide))
  have H6 : Hid (v4 6 = .int .i64 (1 + r)) := by rw [← HV4.out]; rfl
  rw [HV4.out] at HX
  generalize (y3.setCell ⟨B, 6, none⟩ (.int .i64 (1 + r))) = u4 at *
  clear HV4
  have br : 1 ≤ 1 + r ∧ 1 + r ≤ tv := by omega
  generalize 1 + r = rv at *
  obtain ⟨br0, br1⟩ := br
  clear r0 r1 c5 d6 f6
  have c4 := (HX.out.2.1 4 (by omega)).1
  rw [H4.out] at c4
  have c5 := (HX.out.2.1 5 (by omega)).1
  rw [H5.out] at c5
  have c6 := (HX.out.2.1 6 (by omega)).1
  rw [H6.out] at c6
  have bm : 1 ≤ (sf - 1) * tv ∧ (sf - 1) * tv ≤ 3000 := by rcases (show sf = 2 ∨ sf = 3 ∨ sf = 4 by omega) with rfl | rfl | rfl <;> omega
  have bc : 1 ≤ (sf - 1) * rv ∧ (sf - 1) * rv ≤ 3000 := by rcases (show sf = 2 ∨ sf = 3 ∨ sf = 4 by omega) with rfl | rfl | rfl <;> omega
  have vm : IntKind.i64.wrap ((sf - 1) * tv) = (sf - 1) * tv := swrap_id (by omega) (by omega)
  have vc : IntKind.i64.wrap ((sf - 1) * rv) = (sf - 1) * rv := swrap_id (by omega) (by omega)
  obtain ⟨bm0, bm1⟩ := bm
  obtain ⟨bc0, bc1⟩ := bc
  go_upto_region 5 with fail
  have bn : 1 ≤ mnA ((sf - 1) * rv) 1000 ∧ mnA ((sf - 1) * rv) 1000 ≤ 1000 := by unfold mnA; omega
  have HCN := ahide (show mnA ((sf - 1) * rv) 1000 ≤ (sf - 1) * rv by unfold mnA; omega)
  generalize mnA ((sf - 1) * rv) 1000 = cn at *
  generalize hmo : (sf - 1) * tv = mo at *
  have HMO := ahide hmo
  clear hmo
  obtain ⟨bn0, bn1⟩ := bn
  clear vm vc bc0 bc1 c4 c5 c6
  have c5 := (HX.out.2.1 5 (by omega)).1
  rw [H5.out] at c5
  have Z := ahide c5
  have m3 := fun ts t p q r w => mrun_min3 ts t p q r w
  go_region_held3 (fun u => u.cell? ⟨B, 5, none⟩ = some (.int .i64 tv))
    (first
      | (with_reducible assumption)
      | (exact keepC (abelow_alloc _ _) (by with_reducible assumption))
      | (exact keepC (Below.refl _ _).drew Z.out)
      | (exact keepC ((abelow_alloc _ _).drew) Z.out)
      | (exact keepCs (by decide) (by with_reducible assumption)))
    (first
      | (go_at_call 15; (first | (refine (diceMost3 O a l cap (n + 4) 1 10 1000 1 1000 (by omega) hl ?_ _ HX.out.1).mono ?_; (omega); rintro e y4 ⟨⟨q, rfl, q0, q1⟩, hD, hK⟩; have HX := ahide (AXS.dk HX.out hD hK)) | (refine (diceMost3d O a l cap (n + 4) 1 10 1000 1 1000 (by omega) hl ?_ _ HX.out.1).mono ?_; (omega); rintro e y4 ⟨⟨q, rfl, q0, q1⟩, hD, hK⟩; have HX := ahide (AXS.dk HX.out hD hK))); clear hD hK; have c5 := (HX.out.2.1 5 (by omega)).1; rw [H5.out] at c5)
      | (go_at_call 14; have bq : 1 ≤ mnA (mnA tv cn) q + 1 ∧ mnA (mnA tv cn) q + 1 ≤ 1001 ∧ mnA (mnA tv cn) q ≤ tv ∧ mnA (mnA tv cn) q ≤ cn := (min3_bd bt0 bn0 q0 bt1); have vq : IntKind.i64.wrap (mnA (mnA tv cn) q + 1) = mnA (mnA tv cn) q + 1 := swrap_id (by omega) (by omega); rw [vq]; refine (diceN_any O a l cap (n + 5) (mnA (mnA tv cn) q + 1) (by omega) (by omega) (by omega) hl _ HX.out.1).mono ?_; rintro e y5 ⟨⟨ks, rfl, ks0, ks1⟩, hD, hK, hsz⟩; clear hsz vq; have HX := ahide (AXS.dk HX.out hD hK); clear hD hK; have c5 := (HX.out.2.1 5 (by omega)).1; rw [H5.out] at c5; have d7 := (HX.out.2.1 7 (by omega)).1; have f7 := (HX.out.2.1 7 (by omega)).2))
  rename_i hH
  clear hH
  go_upto_region 6 with fail
  have HX := ahide (AXS.put (HX.out) 7 (.int .i64 ks))
  obtain ⟨v6, HV6⟩ : ∃ v6, Hid ((updV v4 7 (.int .i64 ks)) = v6) := ⟨_, rfl⟩
  have H0 : Hid (v6 0 = .int .i64 0) := by rw [← HV6.out]; exact (updV_other (k := 7) H0.out (by decide))
  have H1 : Hid (v6 1 = .int .i64 0) := by rw [← HV6.out]; exact (updV_other (k := 7) H1.out (by decide))
  have H2 : Hid (v6 2 = .int .i64 0) := by rw [← HV6.out]; exact (updV_other (k := 7) H2.out (by decide))
  have H3 : Hid (v6 3 = .int .i64 0) := by rw [← HV6.out]; exact (updV_other (k := 7) H3.out (by decide))
  have H4 : Hid (v6 4 = .int .i64 sf) := by rw [← HV6.out]; exact (updV_other (k := 7) H4.out (by decide))
  have H5 : Hid (v6 5 = .int .i64 tv) := by rw [← HV6.out]; exact (updV_other (k := 7) H5.out (by decide))
  have H6 : Hid (v6 6 = .int .i64 rv) := by rw [← HV6.out]; exact (updV_other (k := 7) H6.out (by decide))
  have H8 : Hid (v6 8 = .int .i64 0) := by rw [← HV6.out]; exact (updV_other (k := 7) H8.out (by decide))
  have H9 : Hid (v6 9 = .int .i64 0) := by rw [← HV6.out]; exact (updV_other (k := 7) H9.out (by decide))
  have H10 : Hid (v6 10 = .int .i64 0) := by rw [← HV6.out]; exact (updV_other (k := 7) H10.out (by decide))
  have H11 : Hid (v6 11 = .int .i64 0) := by rw [← HV6.out]; exact (updV_other (k := 7) H11.out (by decide))
  have H12 : Hid (v6 12 = .slice none 0 0) := by rw [← HV6.out]; exact (updV_other (k := 7) H12.out (by decide))
  have H13 : Hid (v6 13 = .slice none 0 0) := by rw [← HV6.out]; exact (updV_other (k := 7) H13.out (by decide))
  have H14 : Hid (v6 14 = .int .i64 0) := by rw [← HV6.out]; exact (updV_other (k := 7) H14.out (by decide))
  have H7 : Hid (v6 7 = .int .i64 ks) := by rw [← HV6.out]; rfl
  rw [HV6.out] at HX
  generalize (y5.setCell ⟨B, 7, none⟩ (.int .i64 ks)) = u6 at *
  clear HV6
  have bk : ks ≤ tv ∧ ks ≤ cn := by omega
  obtain ⟨bk0, bk1⟩ := bk
  clear ks1 bq c5 d7 f7 Z m3 q0 q1
  have c7 := (HX.out.2.1 7 (by omega)).1
  rw [H7.out] at c7
  have TK6 : Hid True := trivial
  go_upto_region 7 with (go_at_call 14; clear TK6; refine (diceN_any O a l cap (n + 6) (cn - ks + 1) (by omega) (by omega) (by omega) hl _ HX.out.1).mono ?_; rintro e y6 ⟨⟨pu, rfl, pu0, pu1⟩, hD, hK, hsz⟩; clear hsz; have HX := ahide (AXS.dk HX.out hD hK); clear hD hK; have d3 := (HX.out.2.1 3 (by omega)).1; have f3 := (HX.out.2.1 3 (by omega)).2)
  have HX := ahide (AXS.put (HX.out) 3 (.int .i64 pu))
  obtain ⟨v7, HV7⟩ : ∃ v7, Hid ((updV v6 3 (.int .i64 pu)) = v7) := ⟨_, rfl⟩
  have H0 : Hid (v7 0 = .int .i64 0) := by rw [← HV7.out]; exact (updV_other (k := 3) H0.out (by decide))
  have H1 : Hid (v7 1 = .int .i64 0) := by rw [← HV7.out]; exact (updV_other (k := 3) H1.out (by decide))
  have H2 : Hid (v7 2 = .int .i64 0) := by rw [← HV7.out]; exact (updV_other (k := 3) H2.out (by decide))
  have H4 : Hid (v7 4 = .int .i64 sf) := by rw [← HV7.out]; exact (updV_other (k := 3) H4.out (by decide))
  have H5 : Hid (v7 5 = .int .i64 tv) := by rw [← HV7.out]; exact (updV_other (k := 3) H5.out (by decide))
  have H6 : Hid (v7 6 = .int .i64 rv) := by rw [← HV7.out]; exact (updV_other (k := 3) H6.out (by decide))
  have H7 : Hid (v7 7 = .int .i64 ks) := by rw [← HV7.out]; exact (updV_other (k := 3) H7.out (by decide))
  have H8 : Hid (v7 8 = .int .i64 0) := by rw [← HV7.out]; exact (updV_other (k := 3) H8.out (by decide))
  have H9 : Hid (v7 9 = .int .i64 0) := by rw [← HV7.out]; exact (updV_other (k := 3) H9.out (by decide))
  have H10 : Hid (v7 10 = .int .i64 0) := by rw [← HV7.out]; exact (updV_other (k := 3) H10.out (by decide))
  have H11 : Hid (v7 11 = .int .i64 0) := by rw [← HV7.out]; exact (updV_other (k := 3) H11.out (by decide))
  have H12 : Hid (v7 12 = .slice none 0 0) := by rw [← HV7.out]; exact (updV_other (k := 3) H12.out (by decide))
  have H13 : Hid (v7 13 = .slice none 0 0) := by rw [← HV7.out]; exact (updV_other (k := 3) H13.out (by decide))
  have H14 : Hid (v7 14 = .int .i64 0) := by rw [← HV7.out]; exact (updV_other (k := 3) H14.out (by decide))
  have H3 : Hid (v7 3 = .int .i64 pu) := by rw [← HV7.out]; rfl
  rw [HV7.out] at HX
  generalize (y6.setCell ⟨B, 3, none⟩ (.int .i64 pu)) = u7 at *
  clear HV7
  have bp : pu ≤ 1000 := by omega
  have HPK := ahide (show pu + ks ≤ cn by omega)
  clear pu1 c7 d3 f3
  have TK7 : Hid True := trivial
  have TK8 : Hid True := trivial
  go_upto_region 8 with (first
    | (go_at_call 15; clear TK7; refine (diceMost3 O a l cap (n + 7) 2 10 1001 1 1001 (by omega) hl ?_ _ HX.out.1).mono ?_; (omega); rintro e y7 ⟨⟨q, rfl, q0, q1⟩, hD, hK⟩; have HX := ahide (AXS.dk HX.out hD hK); clear hD hK)
    | (go_at_call 14; clear TK8; refine (diceN_any O a l cap (n + 8) q (by omega) (by omega) (by omega) hl _ HX.out.1).mono ?_; rintro e y8 ⟨⟨nz, rfl, nz0, nz1⟩, hD, hK, hsz⟩; clear hsz; have HX := ahide (AXS.dk HX.out hD hK); clear hD hK; have d2 := (HX.out.2.1 2 (by omega)).1; have f2 := (HX.out.2.1 2 (by omega)).2))
  have HX := ahide (AXS.put (HX.out) 2 (.int .i64 nz))
  obtain ⟨v9, HV9⟩ : ∃ v9, Hid ((updV v7 2 (.int .i64 nz)) = v9) := ⟨_, rfl⟩
  have H0 : Hid (v9 0 = .int .i64 0) := by rw [← HV9.out]; exact (updV_other (k := 2) H0.out (by decide))
  have H1 : Hid (v9 1 = .int .i64 0) := by rw [← HV9.out]; exact (updV_other (k := 2) H1.out (by decide))
  have H3 : Hid (v9 3 = .int .i64 pu) := by rw [← HV9.out]; exact (updV_other (k := 2) H3.out (by decide))
  have H4 : Hid (v9 4 = .int .i64 sf) := by rw [← HV9.out]; exact (updV_other (k := 2) H4.out (by decide))
  have H5 : Hid (v9 5 = .int .i64 tv) := by rw [← HV9.out]; exact (updV_other (k := 2) H5.out (by decide))
  have H6 : Hid (v9 6 = .int .i64 rv) := by rw [← HV9.out]; exact (updV_other (k := 2) H6.out (by decide))
  have H7 : Hid (v9 7 = .int .i64 ks) := by rw [← HV9.out]; exact (updV_other (k := 2) H7.out (by decide))
  have H8 : Hid (v9 8 = .int .i64 0) := by rw [← HV9.out]; exact (updV_other (k := 2) H8.out (by decide))
  have H9 : Hid (v9 9 = .int .i64 0) := by rw [← HV9.out]; exact (updV_other (k := 2) H9.out (by decide))
  have H10 : Hid (v9 10 = .int .i64 0) := by rw [← HV9.out]; exact (updV_other (k := 2) H10.out (by decide))
  have H11 : Hid (v9 11 = .int .i64 0) := by rw [← HV9.out]; exact (updV_other (k := 2) H11.out (by decide))
  have H12 : Hid (v9 12 = .slice none 0 0) := by rw [← HV9.out]; exact (updV_other (k := 2) H12.out (by decide))
  have H13 : Hid (v9 13 = .slice none 0 0) := by rw [← HV9.out]; exact (updV_other (k := 2) H13.out (by decide))
  have H14 : Hid (v9 14 = .int .i64 0) := by rw [← HV9.out]; exact (updV_other (k := 2) H14.out (by decide))
  have H2 : Hid (v9 2 = .int .i64 nz) := by rw [← HV9.out]; rfl
  rw [HV9.out] at HX
  generalize (y8.setCell ⟨B, 2, none⟩ (.int .i64 nz)) = u9 at *
  clear HV9
  have bz : nz ≤ 1000 := by omega
  clear nz1 d2 f2 q0 q1
  have c2 := (HX.out.2.1 2 (by omega)).1
  rw [H2.out] at c2
  have Z := ahide c2
  have vz : IntKind.i64.wrap (2 * nz) = 2 * nz := swrap_id (by omega) (by omega)
  go_region_held3 (fun u => u.cell? ⟨B, 2, none⟩ = some (.int .i64 nz))
    (first
      | (with_reducible assumption)
      | (exact keepC (abelow_alloc _ _) (by with_reducible assumption))
      | (exact keepC (Below.refl _ _).drew Z.out)
      | (exact keepC ((abelow_alloc _ _).drew) Z.out)
      | (exact keepCs (by decide) (by with_reducible assumption)))
    (first
      | (go_at_call 14; (first | (refine (diceN_any O a l cap (n + 9) 40 (by omega) (by omega) (by omega) hl _ HX.out.1).mono ?_; rintro e y9 ⟨⟨li, rfl, li0, li1⟩, hD, hK, hsz⟩; clear hsz; have HX := ahide (AXS.dk HX.out hD hK)) | (refine (diceN_any O a l cap (n + 9) 40 (by omega) (by omega) (by omega) hl _ (AXS.later HX.out (Below.refl _ _).drew).1).mono ?_; rintro e y9 ⟨⟨li, rfl, li0, li1⟩, hD, hK, hsz⟩; clear hsz; have HX := ahide (AXS.dk (AXS.later HX.out (Below.refl _ _).drew) hD hK))); clear hD hK; have c2 := (HX.out.2.1 2 (by omega)).1; rw [H2.out] at c2; have d8 := (HX.out.2.1 8 (by omega)).1; have f8 := (HX.out.2.1 8 (by omega)).2))
  rename_i hH
  clear hH
  have vl : IntKind.i64.wrap (2 * nz + li) = 2 * nz + li := swrap_id (by omega) (by omega)
  go_upto_region 9 with fail
  rw [vl]
  have HX := ahide (AXS.put (HX.out) 8 (.int .i64 (2 * nz + li)))
  obtain ⟨v10, HV10⟩ : ∃ v10, Hid ((updV v9 8 (.int .i64 (2 * nz + li))) = v10) := ⟨_, rfl⟩
  have H0 : Hid (v10 0 = .int .i64 0) := by rw [← HV10.out]; exact (updV_other (k := 8) H0.out (by decide))
  have H1 : Hid (v10 1 = .int .i64 0) := by rw [← HV10.out]; exact (updV_other (k := 8) H1.out (by decide))
  have H2 : Hid (v10 2 = .int .i64 nz) := by rw [← HV10.out]; exact (updV_other (k := 8) H2.out (by decide))
  have H3 : Hid (v10 3 = .int .i64 pu) := by rw [← HV10.out]; exact (updV_other (k := 8) H3.out (by decide))
  have H4 : Hid (v10 4 = .int .i64 sf) := by rw [← HV10.out]; exact (updV_other (k := 8) H4.out (by decide))
  have H5 : Hid (v10 5 = .int .i64 tv) := by rw [← HV10.out]; exact (updV_other (k := 8) H5.out (by decide))
  have H6 : Hid (v10 6 = .int .i64 rv) := by rw [← HV10.out]; exact (updV_other (k := 8) H6.out (by decide))
  have H7 : Hid (v10 7 = .int .i64 ks) := by rw [← HV10.out]; exact (updV_other (k := 8) H7.out (by decide))
  have H9 : Hid (v10 9 = .int .i64 0) := by rw [← HV10.out]; exact (updV_other (k := 8) H9.out (by decide))
  have H10 : Hid (v10 10 = .int .i64 0) := by rw [← HV10.out]; exact (updV_other (k := 8) H10.out (by decide))
  have H11 : Hid (v10 11 = .int .i64 0) := by rw [← HV10.out]; exact (updV_other (k := 8) H11.out (by decide))
  have H12 : Hid (v10 12 = .slice none 0 0) := by rw [← HV10.out]; exact (updV_other (k := 8) H12.out (by decide))
  have H13 : Hid (v10 13 = .slice none 0 0) := by rw [← HV10.out]; exact (updV_other (k := 8) H13.out (by decide))
  have H14 : Hid (v10 14 = .int .i64 0) := by rw [← HV10.out]; exact (updV_other (k := 8) H14.out (by decide))
  have H8 : Hid (v10 8 = .int .i64 (2 * nz + li)) := by rw [← HV10.out]; rfl
  rw [HV10.out] at HX
  generalize (y9.setCell ⟨B, 8, none⟩ (.int .i64 (2 * nz + li))) = u10 at *
  clear HV10
  have blm : 2 * nz ≤ 2 * nz + li ∧ 2 * nz + li ≤ 2040 := by omega
  clear vl vz
  generalize 2 * nz + li = lm at *
  have HLM := ahide blm
  clear li0 li1 c2 d8 f8 Z blm
  have TK10 : Hid True := trivial
  have TK11 : Hid True := trivial
  go_upto_region 10 with (first
    | (go_at_call 14; clear TK10; refine (diceN_any O a l cap (n + 10) 10 (by omega) (by omega) (by omega) hl _ HX.out.1).mono ?_; rintro e y10 ⟨⟨cf, rfl, cf0, cf1⟩, hD, hK, hsz⟩; clear hsz; have HX := ahide (AXS.dk HX.out hD hK); clear hD hK)
    | (go_at_call 14; clear TK11; refine (diceN_any O a l cap (n + 11) 10 (by omega) (by omega) (by omega) hl _ HX.out.1).mono ?_; rintro e y11 ⟨⟨wt, rfl, wt0, wt1⟩, hD, hK, hsz⟩; clear hsz; have HX := ahide (AXS.dk HX.out hD hK); clear hD hK; have d9 := (HX.out.2.1 9 (by omega)).1; have f9 := (HX.out.2.1 9 (by omega)).2; have d10 := (HX.out.2.1 10 (by omega)).1; have f10 := (HX.out.2.1 10 (by omega)).2))
  have HX := ahide (AXS.put (AXS.put (HX.out) 9 (.int .i64 (1 + cf))) 10 (.int .i64 (1 + wt)))
  obtain ⟨v12, HV12⟩ : ∃ v12, Hid ((updV (updV v10 9 (.int .i64 (1 + cf))) 10 (.int .i64 (1 + wt))) = v12) := ⟨_, rfl⟩
  have H0 : Hid (v12 0 = .int .i64 0) := by rw [← HV12.out]; exact (updV_other (k := 10) (updV_other (k := 9) H0.out (by decide)) (by decide))
  have H1 : Hid (v12 1 = .int .i64 0) := by rw [← HV12.out]; exact (updV_other (k := 10) (updV_other (k := 9) H1.out (by decide)) (by decide))
  have H2 : Hid (v12 2 = .int .i64 nz) := by rw [← HV12.out]; exact (updV_other (k := 10) (updV_other (k := 9) H2.out (by decide)) (by decide))
  have H3 : Hid (v12 3 = .int .i64 pu) := by rw [← HV12.out]; exact (updV_other (k := 10) (updV_other (k := 9) H3.out (by decide)) (by decide))
  have H4 : Hid (v12 4 = .int .i64 sf) := by rw [← HV12.out]; exact (updV_other (k := 10) (updV_other (k := 9) H4.out (by decide)) (by decide))
  have H5 : Hid (v12 5 = .int .i64 tv) := by rw [← HV12.out]; exact (updV_other (k := 10) (updV_other (k := 9) H5.out (by decide)) (by decide))
  have H6 : Hid (v12 6 = .int .i64 rv) := by rw [← HV12.out]; exact (updV_other (k := 10) (updV_other (k := 9) H6.out (by decide)) (by decide))
  have H7 : Hid (v12 7 = .int .i64 ks) := by rw [← HV12.out]; exact (updV_other (k := 10) (updV_other (k := 9) H7.out (by decide)) (by decide))
  have H8 : Hid (v12 8 = .int .i64 lm) := by rw [← HV12.out]; exact (updV_other (k := 10) (updV_other (k := 9) H8.out (by decide)) (by decide))
  have H11 : Hid (v12 11 = .int .i64 0) := by rw [← HV12.out]; exact (updV_other (k := 10) (updV_other (k := 9) H11.out (by decide)) (by decide))
  have H12 : Hid (v12 12 = .slice none 0 0) := by rw [← HV12.out]; exact (updV_other (k := 10) (updV_other (k := 9) H12.out (by decide)) (by decide))
  have H13 : Hid (v12 13 = .slice none 0 0) := by rw [← HV12.out]; exact (updV_other (k := 10) (updV_other (k := 9) H13.out (by decide)) (by decide))
  have H14 : Hid (v12 14 = .int .i64 0) := by rw [← HV12.out]; exact (updV_other (k := 10) (updV_other (k := 9) H14.out (by decide)) (by decide))
  have H9 : Hid (v12 9 = .int .i64 (1 + cf)) := by rw [← HV12.out]; rfl
  have H10 : Hid (v12 10 = .int .i64 (1 + wt)) := by rw [← HV12.out]; rfl
  rw [HV12.out] at HX
  generalize ((y11.setCell ⟨B, 9, none⟩ (.int .i64 (1 + cf))).setCell ⟨B, 10, none⟩ (.int .i64 (1 + wt))) = u12 at *
  clear HV12
  have bw : 1 ≤ 1 + wt ∧ 1 + wt ≤ 10 := by omega
  have bcv : 1 ≤ 1 + cf ∧ 1 + cf ≤ 10 := by omega
  generalize 1 + wt = wa at *
  generalize 1 + cf = cv at *
  have HCV := ahide bcv
  clear cf0 cf1 wt0 wt1 d9 f9 d10 f10 bcv
  have TK12 : Hid True := trivial
  have TK13 : Hid True := trivial
  have TK14 : Hid True := trivial
  go_upto_region 11 with (first
    | (go_at_call 14; clear TK12; refine (diceN_any O a l cap (n + 12) 1001 (by omega) (by omega) (by omega) hl _ HX.out.1).mono ?_; rintro e y12 ⟨⟨tu, rfl, tu0, tu1⟩, hD, hK, hsz⟩; clear hsz; have HX := ahide (AXS.dk HX.out hD hK); clear hD hK)
    | (go_at_call 15; clear TK13; refine (diceMost3 O a l cap (n + 13) 4 200 65537 1 65537 (by omega) hl ?_ _ HX.out.1).mono ?_; (omega); rintro e y13 ⟨⟨q, rfl, q0, q1⟩, hD, hK⟩; have HX := ahide (AXS.dk HX.out hD hK); clear hD hK)
    | (go_at_call 14; clear TK14; refine (diceN_any O a l cap (n + 14) q (by omega) (by omega) (by omega) hl _ HX.out.1).mono ?_; rintro e y14 ⟨⟨bu, rfl, bu0, bu1⟩, hD, hK, hsz⟩; clear hsz; have HX := ahide (AXS.dk HX.out hD hK); clear hD hK; have d11 := (HX.out.2.1 11 (by omega)).1; have f11 := (HX.out.2.1 11 (by omega)).2; have d14 := (HX.out.2.1 14 (by omega)).1; have f14 := (HX.out.2.1 14 (by omega)).2))
  have HX := ahide (AXS.put (AXS.put (HX.out) 11 (.int .i64 tu)) 14 (.int .i64 bu))
  obtain ⟨v15, HV15⟩ : ∃ v15, Hid ((updV (updV v12 11 (.int .i64 tu)) 14 (.int .i64 bu)) = v15) := ⟨_, rfl⟩
  have H0 : Hid (v15 0 = .int .i64 0) := by rw [← HV15.out]; exact (updV_other (k := 14) (updV_other (k := 11) H0.out (by decide)) (by decide))
  have H1 : Hid (v15 1 = .int .i64 0) := by rw [← HV15.out]; exact (updV_other (k := 14) (updV_other (k := 11) H1.out (by decide)) (by decide))
  have H2 : Hid (v15 2 = .int .i64 nz) := by rw [← HV15.out]; exact (updV_other (k := 14) (updV_other (k := 11) H2.out (by decide)) (by decide))
  have H3 : Hid (v15 3 = .int .i64 pu) := by rw [← HV15.out]; exact (updV_other (k := 14) (updV_other (k := 11) H3.out (by decide)) (by decide))
  have H4 : Hid (v15 4 = .int .i64 sf) := by rw [← HV15.out]; exact (updV_other (k := 14) (updV_other (k := 11) H4.out (by decide)) (by decide))
  have H5 : Hid (v15 5 = .int .i64 tv) := by rw [← HV15.out]; exact (updV_other (k := 14) (updV_other (k := 11) H5.out (by decide)) (by decide))
  have H6 : Hid (v15 6 = .int .i64 rv) := by rw [← HV15.out]; exact (updV_other (k := 14) (updV_other (k := 11) H6.out (by decide)) (by decide))
  have H7 : Hid (v15 7 = .int .i64 ks) := by rw [← HV15.out]; exact (updV_other (k := 14) (updV_other (k := 11) H7.out (by decide)) (by decide))
  have H8 : Hid (v15 8 = .int .i64 lm) := by rw [← HV15.out]; exact (updV_other (k := 14) (updV_other (k := 11) H8.out (by decide)) (by decide))
  have H9 : Hid (v15 9 = .int .i64 cv) := by rw [← HV15.out]; exact (updV_other (k := 14) (updV_other (k := 11) H9.out (by decide)) (by decide))
  have H10 : Hid (v15 10 = .int .i64 wa) := by rw [← HV15.out]; exact (updV_other (k := 14) (updV_other (k := 11) H10.out (by decide)) (by decide))
  have H12 : Hid (v15 12 = .slice none 0 0) := by rw [← HV15.out]; exact (updV_other (k := 14) (updV_other (k := 11) H12.out (by decide)) (by decide))
  have H13 : Hid (v15 13 = .slice none 0 0) := by rw [← HV15.out]; exact (updV_other (k := 14) (updV_other (k := 11) H13.out (by decide)) (by decide))
  have H11 : Hid (v15 11 = .int .i64 tu) := by rw [← HV15.out]; rfl
  have H14 : Hid (v15 14 = .int .i64 bu) := by rw [← HV15.out]; rfl
  rw [HV15.out] at HX
  generalize ((y14.setCell ⟨B, 11, none⟩ (.int .i64 tu)).setCell ⟨B, 14, none⟩ (.int .i64 bu)) = u15 at *
  clear HV15
  have HTB := ahide (show (0 ≤ tu ∧ tu ≤ 1000) ∧ 0 ≤ bu ∧ bu ≤ 65536 by omega)
  clear tu0 tu1 bu0 bu1 q0 q1 d11 f11 d14 f14
  have TK15 : Hid True := trivial
  have TK16 : Hid True := trivial
  have TK17 : Hid True := trivial
  have TK18 : Hid True := trivial
  go_upto_region 12 with (first
    | (go_at_call 14; clear TK15; refine (diceN_any O a l cap (n + 15) 900 (by omega) (by omega) (by omega) hl _ HX.out.1).mono ?_; rintro e y15 ⟨⟨ga, rfl, ga0, ga1⟩, hD, hK, hsz⟩; clear hsz; have HX := ahide (AXS.dk HX.out hD hK); clear hD hK)
    | (go_at_call 15; clear TK16; refine (diceMost2k O a l cap (n + 16) _ 60 65537 1 65537 (by omega) hl ?_ _ ?_ (AXS.later HX.out (abelow_alloc y15 (.cells #[.int .i64 0, .int .i64 (100 + ga)] 3))).1).mono ?_; (omega); (simp [go_sem]); rintro e y16 ⟨⟨q, rfl, q0, q1⟩, hD, hK⟩; have HX := ahide (AXS.dk (AXS.grow HX.out 0 (100 + ga) 3) hD hK); clear hD hK)
    | (go_at_call 14; clear TK17; refine (diceN_any O a l cap (n + 17) q (by omega) (by omega) (by omega) hl _ HX.out.1).mono ?_; rintro e y17 ⟨⟨gx, rfl, gx0, gx1⟩, hD, hK, hsz⟩; clear hsz; have HX := ahide (AXS.dk HX.out hD hK); clear hD hK)
    | (go_at_call 14; clear TK18; refine (diceN_any O a l cap (n + 18) 300 (by omega) (by omega) (by omega) hl _ HX.out.1).mono ?_; rintro e y18 ⟨⟨gy, rfl, gy0, gy1⟩, hD, hK, hsz⟩; clear hsz; have HX := ahide (AXS.grow (AXS.dk HX.out hD hK) gx gy 3); clear hD hK; have d12 := (HX.out.2.1 12 (by omega)).1; have f12 := (HX.out.2.1 12 (by omega)).2; have d13 := (HX.out.2.1 13 (by omega)).1; have f13 := (HX.out.2.1 13 (by omega)).2))
  have HX := ahide (AXS.put (AXS.put (HX.out) 12 (.slice (some ⟨y15.heap.size, 0, none⟩) 2 2)) 13 (.slice (some ⟨y18.heap.size, 0, none⟩) 2 2))
  obtain ⟨v19, HV19⟩ : ∃ v19, Hid (updV (updV v15 12 (.slice (some ⟨y15.heap.size, 0, none⟩) 2 2)) 13 (.slice (some ⟨y18.heap.size, 0, none⟩) 2 2) = v19) := ⟨_, rfl⟩
  have H0 : Hid (v19 0 = .int .i64 0) := by rw [← HV19.out]; exact updV_other (updV_other H0.out (by decide)) (by decide)
  have H1 : Hid (v19 1 = .int .i64 0) := by rw [← HV19.out]; exact updV_other (updV_other H1.out (by decide)) (by decide)
  have H2 : Hid (v19 2 = .int .i64 nz) := by rw [← HV19.out]; exact updV_other (updV_other H2.out (by decide)) (by decide)
  have H3 : Hid (v19 3 = .int .i64 pu) := by rw [← HV19.out]; exact updV_other (updV_other H3.out (by decide)) (by decide)
  have H4 : Hid (v19 4 = .int .i64 sf) := by rw [← HV19.out]; exact updV_other (updV_other H4.out (by decide)) (by decide)
  have H5 : Hid (v19 5 = .int .i64 tv) := by rw [← HV19.out]; exact updV_other (updV_other H5.out (by decide)) (by decide)
  have H6 : Hid (v19 6 = .int .i64 rv) := by rw [← HV19.out]; exact updV_other (updV_other H6.out (by decide)) (by decide)
  have H7 : Hid (v19 7 = .int .i64 ks) := by rw [← HV19.out]; exact updV_other (updV_other H7.out (by decide)) (by decide)
  have H8 : Hid (v19 8 = .int .i64 lm) := by rw [← HV19.out]; exact updV_other (updV_other H8.out (by decide)) (by decide)
  have H9 : Hid (v19 9 = .int .i64 cv) := by rw [← HV19.out]; exact updV_other (updV_other H9.out (by decide)) (by decide)
  have H10 : Hid (v19 10 = .int .i64 wa) := by rw [← HV19.out]; exact updV_other (updV_other H10.out (by decide)) (by decide)
  have H11 : Hid (v19 11 = .int .i64 tu) := by rw [← HV19.out]; exact updV_other (updV_other H11.out (by decide)) (by decide)
  have H14 : Hid (v19 14 = .int .i64 bu) := by rw [← HV19.out]; exact updV_other (updV_other H14.out (by decide)) (by decide)
  have H12 : Hid (v19 12 = .slice (some ⟨y15.heap.size, 0, none⟩) 2 2) := by rw [← HV19.out]; rfl
  have H13 : Hid (v19 13 = .slice (some ⟨y18.heap.size, 0, none⟩) 2 2) := by rw [← HV19.out]; rfl
  rw [HV19.out] at HX
  generalize (((y18.alloc (.cells #[.int .i64 gx, .int .i64 gy] 3)).setCell ⟨B, 12, none⟩ (.slice (some ⟨y15.heap.size, 0, none⟩) 2 2)).setCell ⟨B, 13, none⟩ (.slice (some ⟨y18.heap.size, 0, none⟩) 2 2)) = u19 at *
  have HGB := ahide (show (100 ≤ 100 + ga ∧ 100 + ga ≤ 999) ∧ (0 ≤ gx ∧ gx ≤ 65536) ∧ 0 ≤ gy ∧ gy ≤ 299 by omega)
  generalize y15.heap.size = G1 at *
  generalize y18.heap.size = G2 at *
  generalize 100 + ga = gz at *
  clear HV19 ga0 ga1 gx0 gx1 gy0 gy1 q0 q1 d12 f12 d13 f13
  have bc : 1 ≤ (sf - 1) * rv ∧ (sf - 1) * rv ≤ 3000 := by rcases (show sf = 2 ∨ sf = 3 ∨ sf = 4 by omega) with rfl | rfl | rfl <;> omega
  have c0 := (HX.out.2.1 0 (by omega)).1
  rw [H0.out] at c0
  have c1 := (HX.out.2.1 1 (by omega)).1
  rw [H1.out] at c1
  have c2 := (HX.out.2.1 2 (by omega)).1
  rw [H2.out] at c2
  have c3 := (HX.out.2.1 3 (by omega)).1
  rw [H3.out] at c3
  have c4 := (HX.out.2.1 4 (by omega)).1
  rw [H4.out] at c4
  have c5 := (HX.out.2.1 5 (by omega)).1
  rw [H5.out] at c5
  have c6 := (HX.out.2.1 6 (by omega)).1
  rw [H6.out] at c6
  have c7 := (HX.out.2.1 7 (by omega)).1
  rw [H7.out] at c7
  have c8 := (HX.out.2.1 8 (by omega)).1
  rw [H8.out] at c8
  have c9 := (HX.out.2.1 9 (by omega)).1
  rw [H9.out] at c9
  have c10 := (HX.out.2.1 10 (by omega)).1
  rw [H10.out] at c10
  have c11 := (HX.out.2.1 11 (by omega)).1
  rw [H11.out] at c11
  have c12 := (HX.out.2.1 12 (by omega)).1
  rw [H12.out] at c12
  have c13 := (HX.out.2.1 13 (by omega)).1
  rw [H13.out] at c13
  have c14 := (HX.out.2.1 14 (by omega)).1
  rw [H14.out] at c14
  have S0 : u19.cell? ⟨B, 0, none⟩ = some (.int .i64 0) ∧ u19.cell? ⟨B, 1, none⟩ = some (.int .i64 0) ∧ u19.cell? ⟨B, 2, none⟩ = some (.int .i64 nz) ∧ u19.cell? ⟨B, 3, none⟩ = some (.int .i64 pu) ∧ u19.cell? ⟨B, 4, none⟩ = some (.int .i64 sf) ∧ u19.cell? ⟨B, 5, none⟩ = some (.int .i64 tv) ∧ u19.cell? ⟨B, 6, none⟩ = some (.int .i64 rv) ∧ u19.cell? ⟨B, 7, none⟩ = some (.int .i64 ks) ∧ u19.cell? ⟨B, 8, none⟩ = some (.int .i64 lm) ∧ u19.cell? ⟨B, 9, none⟩ = some (.int .i64 cv) ∧ u19.cell? ⟨B, 10, none⟩ = some (.int .i64 wa) ∧ u19.cell? ⟨B, 11, none⟩ = some (.int .i64 tu) ∧ u19.cell? ⟨B, 12, none⟩ = some (.slice (some ⟨G1, 0, none⟩) 2 2) ∧ u19.cell? ⟨B, 13, none⟩ = some (.slice (some ⟨G2, 0, none⟩) 2 2) ∧ u19.cell? ⟨B, 14, none⟩ = some (.int .i64 bu) := ⟨c0, c1, c2, c3, c4, c5, c6, c7, c8, c9, c10, c11, c12, c13, c14⟩
  have Z := ahide S0
  clear c0 c1 c2 c3 c4 c5 c6 c7 c8 c9 c10 c11 c12 c13 c14
  have hgr := mguardRule_any 0 0 nz pu sf tv rv ks lm cv wa tu bu (.slice (some ⟨G1, 0, none⟩) 2 2) (.slice (some ⟨G2, 0, none⟩) 2 2) ⟨pu0, bp⟩ ⟨ks0, by omega⟩ ⟨bs0, bs1⟩ ⟨bt0, bt1⟩ ⟨by omega, by omega⟩
  have hbr := refBrake_ex 0 0 nz (pu + ks) ((sf - 1) * tv) ((sf - 1) * rv) mo (by omega) (by omega) (by omega) (by omega) (by omega) (by omega)
  obtain ⟨bkv, hbkv⟩ : ∃ bkv, bk ((sf - 1) * rv) (mo + (pu + ks)) = bkv := ⟨_, rfl⟩
  rw [hbkv] at hbr
  have bkv0 : 0 ≤ bkv := by rw [← hbkv]; exact bk_nonneg _ _
  have bkv1 : bkv ≤ 36000000 := by rw [← hbkv]; exact bk_lt (by omega) (by omega)
  have Hbkv := ahide hbkv
  clear hbkv
  generalize pu + ks = r3 at hgr hbr
  generalize (sf - 1) * tv = r4 at hgr hbr
  generalize (sf - 1) * rv = r5 at hgr hbr
  go_region_held3 (fun u => u.cell? ⟨B, 0, none⟩ = some (.int .i64 0) ∧ u.cell? ⟨B, 1, none⟩ = some (.int .i64 0) ∧ u.cell? ⟨B, 2, none⟩ = some (.int .i64 nz) ∧ u.cell? ⟨B, 3, none⟩ = some (.int .i64 pu) ∧ u.cell? ⟨B, 4, none⟩ = some (.int .i64 sf) ∧ u.cell? ⟨B, 5, none⟩ = some (.int .i64 tv) ∧ u.cell? ⟨B, 6, none⟩ = some (.int .i64 rv) ∧ u.cell? ⟨B, 7, none⟩ = some (.int .i64 ks) ∧ u.cell? ⟨B, 8, none⟩ = some (.int .i64 lm) ∧ u.cell? ⟨B, 9, none⟩ = some (.int .i64 cv) ∧ u.cell? ⟨B, 10, none⟩ = some (.int .i64 wa) ∧ u.cell? ⟨B, 11, none⟩ = some (.int .i64 tu) ∧ u.cell? ⟨B, 12, none⟩ = some (.slice (some ⟨G1, 0, none⟩) 2 2) ∧ u.cell? ⟨B, 13, none⟩ = some (.slice (some ⟨G2, 0, none⟩) 2 2) ∧ u.cell? ⟨B, 14, none⟩ = some (.int .i64 bu))
    (first
      | (with_reducible assumption)
      | (with_reducible apply keep15; with_reducible assumption; with_reducible assumption)
      | (refine keep15 ?_ Z.out; exact (Below.refl _ _).drew))
    (first
      | (go_at_call 49; refine (hgr _).mono ?_; rintro e w1 ⟨rfl, hb⟩; (first | (have HX := ahide (AXS.later HX.out hb)) | (have HX := ahide (AXS.later (AXS.later HX.out (Below.refl _ _).drew) hb))))
      | (go_at_call 48; refine (hbr _).mono ?_; rintro e w2 ⟨rfl, hq⟩; have hb := below_eq hq; clear hq; (first | (have HX := ahide (AXS.later HX.out hb)) | (have HX := ahide (AXS.later (AXS.later HX.out (Below.refl _ _).drew) hb))); have vb1 : IntKind.i64.wrap (nz + bkv) = nz + bkv := swrap_id (by omega) (by omega); have vb2 : IntKind.i64.wrap (2 * (nz + bkv)) = 2 * (nz + bkv) := swrap_id (by omega) (by omega)))
  rename_i hH
  clear hH
  go_upto_if 108 with fail
  have HPR := ahide (show pu + ks ≤ (sf - 1) * rv from Int.le_trans HPK.out HCN.out)
  have bwd : 0 ≤ 2 * (nz + bkv) ∧ 2 * (nz + bkv) ≤ 130000000 := by omega
  generalize hwd : 2 * (nz + bkv) = wd at *
  have HWD := ahide (show wd = 2 * (nz + bk ((sf - 1) * rv) (mo + (pu + ks))) by rw [Hbkv.out]; exact hwd.symm)
  clear hwd
  obtain ⟨bwd0, bwd1⟩ := bwd
  clear vb1 vb2 bkv0 bkv1 hgr hbr Z S0 Hbkv
  go_cut [6] (fun x u => ∃ (wd rv' : Int) (v' : Nat → Value), x = .int .i64 wd ∧ (0 ≤ wd ∧ wd ≤ 150000) ∧ AXS w u O w.heap.size B a l cap (n + 19) v' [(⟨G2, 0, none⟩, .int .i64 gx), (⟨G2, 1, none⟩, .int .i64 gy), (⟨G1, 0, none⟩, .int .i64 0), (⟨G1, 1, none⟩, .int .i64 gz)] ∧ (v' 0 = .int .i64 0 ∧ v' 1 = .int .i64 0 ∧ v' 2 = .int .i64 nz ∧ v' 3 = .int .i64 pu ∧ v' 4 = .int .i64 sf ∧ v' 5 = .int .i64 tv ∧ v' 6 = .int .i64 rv' ∧ v' 7 = .int .i64 ks ∧ v' 8 = .int .i64 lm ∧ v' 9 = .int .i64 cv ∧ v' 10 = .int .i64 wa ∧ v' 11 = .int .i64 tu ∧ v' 12 = .slice (some ⟨G1, 0, none⟩) 2 2 ∧ v' 13 = .slice (some ⟨G2, 0, none⟩) 2 2 ∧ v' 14 = .int .i64 bu) ∧ (1 ≤ rv' ∧ rv' ≤ tv) ∧ pu + ks ≤ (sf - 1) * rv' ∧ wd = 2 * (nz + bk ((sf - 1) * rv') (mo + (pu + ks))))
  case first =>
    by_cases hw : 150000 < wd
    · have c5 := (HX.out.2.1 5 (by omega)).1
      rw [H5.out] at c5
      have d6 := (HX.out.2.1 6 (by omega)).1
      have f6 := (HX.out.2.1 6 (by omega)).2
      go_upto_region 15 with fail
      have HX := ahide (AXS.put (HX.out) 6 (.int .i64 tv))
      obtain ⟨v20, HV20⟩ : ∃ v20, Hid (updV v19 6 (.int .i64 tv) = v20) := ⟨_, rfl⟩
      have H0 : Hid (v20 0 = .int .i64 0) := by rw [← HV20.out]; exact updV_other H0.out (by decide)
      have H1 : Hid (v20 1 = .int .i64 0) := by rw [← HV20.out]; exact updV_other H1.out (by decide)
      have H2 : Hid (v20 2 = .int .i64 nz) := by rw [← HV20.out]; exact updV_other H2.out (by decide)
      have H3 : Hid (v20 3 = .int .i64 pu) := by rw [← HV20.out]; exact updV_other H3.out (by decide)
      have H4 : Hid (v20 4 = .int .i64 sf) := by rw [← HV20.out]; exact updV_other H4.out (by decide)
      have H5 : Hid (v20 5 = .int .i64 tv) := by rw [← HV20.out]; exact updV_other H5.out (by decide)
      have H7 : Hid (v20 7 = .int .i64 ks) := by rw [← HV20.out]; exact updV_other H7.out (by decide)
      have H8 : Hid (v20 8 = .int .i64 lm) := by rw [← HV20.out]; exact updV_other H8.out (by decide)
      have H9 : Hid (v20 9 = .int .i64 cv) := by rw [← HV20.out]; exact updV_other H9.out (by decide)
      have H10 : Hid (v20 10 = .int .i64 wa) := by rw [← HV20.out]; exact updV_other H10.out (by decide)
      have H11 : Hid (v20 11 = .int .i64 tu) := by rw [← HV20.out]; exact updV_other H11.out (by decide)
      have H12 : Hid (v20 12 = .slice (some ⟨G1, 0, none⟩) 2 2) := by rw [← HV20.out]; exact updV_other H12.out (by decide)
      have H13 : Hid (v20 13 = .slice (some ⟨G2, 0, none⟩) 2 2) := by rw [← HV20.out]; exact updV_other H13.out (by decide)
      have H14 : Hid (v20 14 = .int .i64 bu) := by rw [← HV20.out]; exact updV_other H14.out (by decide)
      have H6 : Hid (v20 6 = .int .i64 tv) := by rw [← HV20.out]; rfl
      rw [HV20.out] at HX
      generalize w2.setCell ⟨B, 6, none⟩ (.int .i64 tv) = u20 at *
      clear HV20 c5 d6 f6
      have bc2 : 1 ≤ (sf - 1) * tv ∧ (sf - 1) * tv ≤ 3000 := by rcases (show sf = 2 ∨ sf = 3 ∨ sf = 4 by omega) with rfl | rfl | rfl <;> omega
      have c0 := (HX.out.2.1 0 (by omega)).1
      rw [H0.out] at c0
      have c1 := (HX.out.2.1 1 (by omega)).1
      rw [H1.out] at c1
      have c2 := (HX.out.2.1 2 (by omega)).1
      rw [H2.out] at c2
      have c3 := (HX.out.2.1 3 (by omega)).1
      rw [H3.out] at c3
      have c4 := (HX.out.2.1 4 (by omega)).1
      rw [H4.out] at c4
      have c5 := (HX.out.2.1 5 (by omega)).1
      rw [H5.out] at c5
      have c6 := (HX.out.2.1 6 (by omega)).1
      rw [H6.out] at c6
      have c7 := (HX.out.2.1 7 (by omega)).1
      rw [H7.out] at c7
      have c8 := (HX.out.2.1 8 (by omega)).1
      rw [H8.out] at c8
      have c9 := (HX.out.2.1 9 (by omega)).1
      rw [H9.out] at c9
      have c10 := (HX.out.2.1 10 (by omega)).1
      rw [H10.out] at c10
      have c11 := (HX.out.2.1 11 (by omega)).1
      rw [H11.out] at c11
      have c12 := (HX.out.2.1 12 (by omega)).1
      rw [H12.out] at c12
      have c13 := (HX.out.2.1 13 (by omega)).1
      rw [H13.out] at c13
      have c14 := (HX.out.2.1 14 (by omega)).1
      rw [H14.out] at c14
      have S0 : u20.cell? ⟨B, 0, none⟩ = some (.int .i64 0) ∧ u20.cell? ⟨B, 1, none⟩ = some (.int .i64 0) ∧ u20.cell? ⟨B, 2, none⟩ = some (.int .i64 nz) ∧ u20.cell? ⟨B, 3, none⟩ = some (.int .i64 pu) ∧ u20.cell? ⟨B, 4, none⟩ = some (.int .i64 sf) ∧ u20.cell? ⟨B, 5, none⟩ = some (.int .i64 tv) ∧ u20.cell? ⟨B, 6, none⟩ = some (.int .i64 tv) ∧ u20.cell? ⟨B, 7, none⟩ = some (.int .i64 ks) ∧ u20.cell? ⟨B, 8, none⟩ = some (.int .i64 lm) ∧ u20.cell? ⟨B, 9, none⟩ = some (.int .i64 cv) ∧ u20.cell? ⟨B, 10, none⟩ = some (.int .i64 wa) ∧ u20.cell? ⟨B, 11, none⟩ = some (.int .i64 tu) ∧ u20.cell? ⟨B, 12, none⟩ = some (.slice (some ⟨G1, 0, none⟩) 2 2) ∧ u20.cell? ⟨B, 13, none⟩ = some (.slice (some ⟨G2, 0, none⟩) 2 2) ∧ u20.cell? ⟨B, 14, none⟩ = some (.int .i64 bu) := ⟨c0, c1, c2, c3, c4, c5, c6, c7, c8, c9, c10, c11, c12, c13, c14⟩
      have Z := ahide S0
      clear c0 c1 c2 c3 c4 c5 c6 c7 c8 c9 c10 c11 c12 c13 c14
      have hgr := mguardRule_any 0 0 nz pu sf tv tv ks lm cv wa tu bu (.slice (some ⟨G1, 0, none⟩) 2 2) (.slice (some ⟨G2, 0, none⟩) 2 2) ⟨pu0, bp⟩ ⟨ks0, by omega⟩ ⟨bs0, bs1⟩ ⟨bt0, bt1⟩ ⟨by omega, by omega⟩
      have hbr := refBrake_ex 0 0 nz (pu + ks) ((sf - 1) * tv) ((sf - 1) * tv) mo (by omega) (by omega) (by omega) (by omega) (by omega) (by omega)
      obtain ⟨bj, hbj⟩ : ∃ bj, bk ((sf - 1) * tv) (mo + (pu + ks)) = bj := ⟨_, rfl⟩
      rw [hbj] at hbr
      have bj0 : 0 ≤ bj := by rw [← hbj]; exact bk_nonneg _ _
      have bj1 : bj ≤ 36000000 := by rw [← hbj]; exact bk_lt (by omega) (by omega)
      have Hbj := ahide hbj
      clear hbj
      generalize pu + ks = r3 at hgr hbr
      generalize (sf - 1) * tv = r4 at hgr hbr
      generalize (sf - 1) * tv = r5 at hgr hbr
      go_region_held3 (fun u => u.cell? ⟨B, 0, none⟩ = some (.int .i64 0) ∧ u.cell? ⟨B, 1, none⟩ = some (.int .i64 0) ∧ u.cell? ⟨B, 2, none⟩ = some (.int .i64 nz) ∧ u.cell? ⟨B, 3, none⟩ = some (.int .i64 pu) ∧ u.cell? ⟨B, 4, none⟩ = some (.int .i64 sf) ∧ u.cell? ⟨B, 5, none⟩ = some (.int .i64 tv) ∧ u.cell? ⟨B, 6, none⟩ = some (.int .i64 tv) ∧ u.cell? ⟨B, 7, none⟩ = some (.int .i64 ks) ∧ u.cell? ⟨B, 8, none⟩ = some (.int .i64 lm) ∧ u.cell? ⟨B, 9, none⟩ = some (.int .i64 cv) ∧ u.cell? ⟨B, 10, none⟩ = some (.int .i64 wa) ∧ u.cell? ⟨B, 11, none⟩ = some (.int .i64 tu) ∧ u.cell? ⟨B, 12, none⟩ = some (.slice (some ⟨G1, 0, none⟩) 2 2) ∧ u.cell? ⟨B, 13, none⟩ = some (.slice (some ⟨G2, 0, none⟩) 2 2) ∧ u.cell? ⟨B, 14, none⟩ = some (.int .i64 bu))
        (first
          | (with_reducible assumption)
          | (with_reducible apply keep15; with_reducible assumption; with_reducible assumption)
          | (refine keep15 ?_ Z.out; exact (Below.refl _ _).drew))
        (first
          | (go_at_call 49; refine (hgr _).mono ?_; rintro e w1 ⟨rfl, hb⟩; (first | (have HX := ahide (AXS.later HX.out hb)) | (have HX := ahide (AXS.later (AXS.later HX.out (Below.refl _ _).drew) hb))))
          | (go_at_call 48; refine (hbr _).mono ?_; rintro e w2 ⟨rfl, hq⟩; have hb := below_eq hq; clear hq; (first | (have HX := ahide (AXS.later HX.out hb)) | (have HX := ahide (AXS.later (AXS.later HX.out (Below.refl _ _).drew) hb))); have vb1 : IntKind.i64.wrap (nz + bj) = nz + bj := swrap_id (by omega) (by omega); have vb2 : IntKind.i64.wrap (2 * (nz + bj)) = 2 * (nz + bj) := swrap_id (by omega) (by omega)))
      rename_i hH
      clear hH
      go_wp2_with fail
      have bjx : bj ≤ 5000 := by rw [← Hbj.out, ← HMO.out]; have := bk_all (R := (sf - 1) * tv) (P := pu + ks) (by omega) (by omega) (Int.le_trans HPR.out (Int.mul_le_mul_of_nonneg_left br1 (by omega))); have := HPK.out; omega
      go_meet
      (case rel => exact ⟨2 * (nz + bj), tv, _, rfl, ⟨by omega, by omega⟩, HX.out, ⟨H0.out, H1.out, H2.out, H3.out, H4.out, H5.out, H6.out, H7.out, H8.out, H9.out, H10.out, H11.out, H12.out, H13.out, H14.out⟩, ⟨by omega, by omega⟩, Int.le_trans HPR.out (Int.mul_le_mul_of_nonneg_left br1 (by omega)), by rw [Hbj.out]⟩)
    · go_wp2
      go_meet
      (case rel => exact ⟨wd, rv, _, rfl, ⟨by omega, by omega⟩, HX.out, ⟨H0.out, H1.out, H2.out, H3.out, H4.out, H5.out, H6.out, H7.out, H8.out, H9.out, H10.out, H11.out, H12.out, H13.out, H14.out⟩, ⟨by omega, by omega⟩, HPR.out, HWD.out⟩)
  case rest =>
    obtain ⟨wi, rx, vr, rfl, bwi, hX, hvs, brx, hpr, hwi⟩ := hcut
    refine akont (by assumption) ?_
    exact axisTail_any O a l cap n hn hl w hraw hO _ B G1 G2 sf tv nz ks pu wa mo cn lm cv tu bu gx gy gz _ wi rx vr bwi hX hvs brx hpr (by rw [hwi, HMO.out]) HGB.out HLM.out HCV.out HTB.out ⟨bs0, bs1⟩ ⟨bt0, bt1⟩ ⟨nz0, bz⟩ ⟨ks0, bk0⟩ ⟨pu0, bp⟩ bw _ _ _ _ _ _ _ _ _ _ _ _ _ _ _ _ _ _ _ _ _ _ _ _ _ _ _ _ _ _ _ _ _ _ _ _ _ _ _ _ _ _ _ _ _ _ _ _ _ _ _ _ _ _ _ _ _ _ _ _ _ _ _ _ _ _ _ _ _ _ _ _ _ _ _ _ _ _ _ _ _ _ _ _ _ _ _ _ _ _ _ _ _ _ _ _ _ _ _ _ _ _ _ _ _ _ _ _ _ _ _ _ _ _ _ _ _ _ _ _ _ _ _ _ _ _ _ _ _ _ _ _ _ _ _ _ _ _ _ _ _ _ _

end Go.Proofs.Ytheihcpacpoliaa
