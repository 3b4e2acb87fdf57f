import Derived.WalkKit
import Derived.ProofKit
import Derived.OpenShut
import Derived.ChangeOld
import Derived.Below
import Derived.Lib.SmallJoins
import Derived.Deep.SlicePairs
import Derived.Test.YtnfdfiholcelaaaGreatDoorJe00
import Derived.Test.YtnfdfiholcelaaaGreatDoorJe01
import Derived.Test.YtnfdfiholcelaaaGreatDoorJe35
import Derived.Test.YtnfdfiholcelaaaGreatDoorJe37
import Derived.Test.YtnfdfiholcelaaaGreatDoorJe38
set_option maxRecDepth 100000
set_option maxHeartbeats 20000000
namespace Go.Proofs.YtnfdfiholcelaaaGreatDoor
open Go.RowKit Plain Tryz
theorem brake_b (C : CR) (i : Nat) (hc : crE C = 0) (hi : i < 2) (w : World) : Calls prog 39 #[.agg #[Vi (C.a i 0), Vi (C.a i 1), Vi (C.a i 2), Vi (C.a i 3 + C.a i 7), Vi ((C.a i 4 - 1) * C.a i 5), Vi ((C.a i 4 - 1) * C.a i 6)], Vi ((C.a i 4 - 1) * C.a i 5)] w fun e w' => e = .returned (Vi (bk (raI C i) (moI C i + puI C i))) ∧ Below w.heap.size w w' := by
 have g := cr_gok hc hi; have h1 := g.m0; have h2 := g.m1; have h3 := g.r0; have h4 := g.r1; have h5 := g.p0; have h6 := g.p1
 unfold moI raI puI at *
 exact (Zef _ _ _ _ _ _ _ h5 h6 h3 (by omega) (by omega) h2 w).mono (by rintro e w' ⟨rfl, rfl⟩; exact ⟨rfl, Zaa _ _⟩)
theorem topLoose_walk (C : CR) (pf : Option Addr) (cf : Nat) (l : List Ft) (ps : Option Addr) (cs : Nat) (ss : List Stp) (hml : l.length ≤ 9223372036854775807) (hms : ss.length ≤ 9223372036854775807) (w : World) (hg : GV w) (hcr : CrL w C) (hF : Fts w pf l) (hS : Sts w ps ss) :
 Calls prog 8 #[.agg (crL C).toArray, .agg #[.slice pf l.length cf, .slice ps ss.length cs]] w fun e w' => e = .returned (.bool true) ∧ Below w.heap.size w w' := by
 have HFW := Zab (fun u (h : Below w.heap.size w u) => flown_any C pf cf l ps cs ss hml hms u (hg.later h) (hcr.later h) (hF.later h) (hS.later h)); have HLO := Zab (fun u (h : Below w.heap.size w u) => looseOf_any pf cf l ps ss.length cs hml u (hF.later h)); have HLI := Zab (fun u (h : Below w.heap.size w u) => lies_any pf cf l ps ss.length cs hml u (hF.later h)); have HK := Zab ((Blk.new w 29 (crL C)).later (Zaa (w.alloc (.cells (crL C).toArray 29)) (.cells #[.slice pf l.length cf, .slice ps ss.length cs] 67))); have HF : Hid (Blk 67 ((w.alloc (.cells (crL C).toArray 29)).alloc (.cells #[.slice pf l.length cf, .slice ps ss.length cs] 67)) (w.heap.size + 1) [.slice pf l.length cf, .slice ps ss.length cs]) := Zab (by have h := Blk.new (w.alloc (.cells (crL C).toArray 29)) 67 [.slice pf l.length cf, .slice ps ss.length cs]; rw [World.size_alloc] at h; exact h); have HB0 := Zab (Zac (Zaa w (.cells (crL C).toArray 29)) (Zaa (w.alloc (.cells (crL C).toArray 29)) (.cells #[.slice pf l.length cf, .slice ps ss.length cs] 67))); clear hcr hF hS hg
 go_enter func8, ntmps8
 go_upto_region 1 with fail; generalize (w.alloc (.cells (crL C).toArray 29)).alloc (.cells #[.slice pf l.length cf, .slice ps ss.length cs] 67) = v0 at *; generalize w.heap.size + 1 = QF at HF ⊢; generalize hQK : w.heap.size = QK at HK ⊢; clear hQK; have xf := (HF.out.cell (j := 0) rfl).1; have xs := (HF.out.cell (j := 1) rfl).1
 go_upto_region 2 with (go_at_call 34; refine (HLO.out _ HB0.out).mono ?_; rintro e v1 ⟨⟨a, u, o, rfl, hlo, hz⟩, hb⟩; have HLO2 := Zab hlo; have HZ := Zab hz; replace HK := Zab (HK.out.later hb); replace HF := Zab (HF.out.later hb); replace HB0 := Zab (Zac HB0.out hb); clear hb hlo hz); clear xf xs; have xf := (HF.out.cell (j := 0) rfl).1; have xs := (HF.out.cell (j := 1) rfl).1; have haw := awake_any
 go_upto_region 4 with (first
  | (go_at_call 35; refine Sb (haw _) fun v2 hb => ?_; replace HK := Zab (HK.out.later hb); replace HF := Zab (HF.out.later hb); replace HB0 := Zab (Zac HB0.out hb); have xf := cell_later hb xf; have xs := cell_later hb xs; clear hb)
  | (go_at_call 36; refine (HLI.out _ HB0.out).mono ?_; rintro e v3 ⟨⟨b, rfl, hli⟩, hb⟩; have HLC := Zab hli; replace HK := Zab (HK.out.later hb); replace HF := Zab (HF.out.later hb); replace HB0 := Zab (Zac HB0.out hb); have xf := cell_later hb xf; have xs := cell_later hb xs; clear hb hli; cases b))
 · go_ret; exact ⟨rfl, HB0.out⟩
 · go_ret; exact ⟨rfl, HB0.out⟩
 have HO : Hid (LO l l.length a u) := Zab (by
  have ho : (!o) = false := by assumption
  cases o
  · cases ho
  · exact HLO2.out rfl)
 clear HLO2; have HLC2 := Zab (HLC.out trivial); clear HZ HLC
 go_upto_region 6 with (first
  | (refine Lq 29 _ rfl ?_; refine wpList_load_mid rfl 29 (.tmp 2) rfl QK 0 rfl (crL C) _ HK.out.range underlying29 rfl Zam ?_)
  | (go_at_call 37; refine (HFW.out _ HB0.out).mono ?_; rintro e v4 ⟨⟨sr, ok, rfl, hy, hn⟩, hb⟩; replace HK := Zab (HK.out.later hb); replace HF := Zab (HF.out.later hb); replace HB0 := Zab (Zac HB0.out hb); clear hb))
 clear xf xs
 cases ok
 · obtain rfl := hn rfl; clear hy hn; refine wp_loop_rounds 1 ?_; rw [rounds_succ]; go_wp2_with fail; go_ret; exact ⟨rfl, HB0.out⟩
 obtain ⟨OK, hrp⟩ := hy rfl; obtain ⟨lq, lu, hfa, hlu⟩ := fa_one OK.ft HLC2.out HO.out; have HFA := Zab (fun k (hk : k < ss.length) => rp_loose OK hfa hlu hk); have HCR := Zab OK.cr; obtain ⟨ra, rc, rfl⟩ := hrp.slice; rw [Zcz] at hrp ⊢; have HRP := Zab hrp; have HRL := Zab (Zcz C l ss ss.length); have hn3 := OK.ns; generalize hK1 : World.heap _ = K1 at HRP; clear hy hn OK hrp hfa hlu HO HLC2 hK1 HF
 go_loopw [10] (fun ix wr => ∃ j : Nat, j ≤ ss.length ∧ ix = Vi j ∧ RpO K1.size wr (.slice ra ss.length rc) (rpU C l ss ss.length) ∧ Blk 29 wr QK (crL C) ∧ Below w.heap.size w wr) (fun ix _ => ss.length - (intOf ix).toNat)
 case atStart => exact ⟨0, by omega, rfl, HRP.out, HK.out, HB0.out⟩
 case round =>
  clear HRP HK HB0; obtain ⟨j, hj, rfl, hrp, hkk, hbw⟩ := hrel
  by_cases hlt : j < ss.length
  · have j0 : (0 : Int) ≤ (j : Int) := by omega
    have j1 : (j : Int) < (ss.length : Int) := by omega
    obtain ⟨g, rfl, hra⟩ := hrp.at (j := j) (by rw [HRL.out]; omega); rw [rpU_at C l ss ss.length j (by omega)] at hra; have hfl := HFA.out j hlt; generalize rpF (flU C l ss (j + 1)) = R at *; have HRA := Zab hra; have HFL := Zab hfl; have HKK := Zab hkk; have HBW := Zab hbw; have HRP := Zab hrp; clear hra hfl hkk hbw hrp
    go_upto_region 10 with (first
     | (refine Lq 95 _ rfl ?_; refine wpList_load_mid rfl 95 (.tmp 50) rfl g (j * 15) rfl (rpL R) _ HRA.out underlying95 rfl infoRp ?_)
     | (refine Sq 95 _ _ rfl ?_; refine wpList_newR R (.tmp 11) (.tmp 51) rfl rfl rfl rfl rfl rfl (fun v4 hb hblk => ?_); have HX := Zab hblk; replace HKK := Zab (HKK.out.later hb); replace HBW := Zab (Zac HBW.out hb); replace HRP := Zab (HRP.out.later hb); clear hb hblk))
    clear HRA; generalize wr.heap.size = QX at HX ⊢
    go_loopw [12] (fun ix wz => ∃ i : Nat, i ≤ 2 ∧ ix = Vi i ∧ Below v4.heap.size v4 wz) (fun ix _ => 2 - (intOf ix).toNat)
    case atStart => exact ⟨0, by omega, rfl, Below.refl _ _⟩
    case round =>
     obtain ⟨i, hi2, rfl, hbz⟩ := hrel; rename World => wq
     by_cases hi : i < 2
     · have i0 : (0 : Int) ≤ (i : Int) := by omega
       have i1 : (i : Int) < 2 := by omega
       have HRX := Zab ((HKK.out.later hbz).sub (i * 15) 15); rw [cr_axi C hi] at HRX; have HBZ := Zab (Zac hbz (Zaa wq (.cells (axL C i).toArray 26))); have HAX : Hid (Blk 26 (wq.alloc (.cells (axL C i).toArray 26)) wq.heap.size (axL C i)) := Zab (Blk.new wq _ _); clear hbz
       go_upto_region 13 with (first
        | (refine Lq 26 _ rfl ?_; refine wpList_load_mid rfl 26 (.tmp 58) rfl QK (i * 15) rfl (axL C i) _ HRX.out underlying26 rfl Zaw ?_)
        | (refine Sq 26 _ _ rfl ?_; refine Zbh (c' := (axL C i).toArray) (.tmp 13) (.tmp 59) rfl rfl rfl rfl rfl rfl (Zau _ rfl) ?_))
       clear HRX; generalize wq.alloc (.cells (axL C i).toArray 26) = v5 at *; generalize wq.heap.size = QA at HAX ⊢; obtain ⟨⟨n0, n1⟩, hfi⟩ := HFL.out; obtain ⟨f1, f2, f3⟩ := hfi i hi; have gk := cr_gok HCR.out hi; have ar := Zas (cr_ar HCR.out hi); have rg := Zdi HCR.out hi; have hb1 := Zai R.n 0 1; rw [Zay ⟨n0, n1⟩] at hb1; have g1 := gk.l0; have g2 := gk.l1; have g3 := gk.h0; have g4 := gk.h1; have hbm : bk (raI C i) (moI C i + puI C i) ≤ 36000000 := bk_lt (by have := gk.r0; omega) (by have := gk.m1; have := gk.p1; omega); have hbn := Zbm (raI C i) (moI C i + puI C i); have htw := Int.mul_le_mul_of_nonneg_left (show C.a i 10 ≤ 10 by omega) (show 0 ≤ 2 * C.a i 5 by omega); have htn := Int.mul_nonneg (show 0 ≤ 2 * C.a i 5 by omega) (show 0 ≤ C.a i 10 by omega)
       by_cases hax : (i : Int) = a
       · subst hax; have xt := (HAX.out.cell (j := 5) rfl).1; have xw := (HAX.out.cell (j := 10) rfl).1; have xc := (HAX.out.cell (ax_su C i)).1; have hgr := Zcx (C.a i 0) (C.a i 1) (C.a i 2) (C.a i 3) (C.a i 4) (C.a i 5) (C.a i 6) (C.a i 7) (C.a i 8) (C.a i 9) (C.a i 10) (C.a i 11) (C.a i 14) (C.p i) (C.q i) (C.al i).length (C.zl i).length (C.cn i) (C.cm i) rg.1 (by omega) rg.2 (by omega) (by omega); have hbk := brake_b C i HCR.out hi; have hmo := gk.m1; have hmo0 := gk.m0
         unfold moI at hmo hmo0
         have hw1 : IntKind.i64.wrap (2 * C.a i 5) = 2 * C.a i 5 := by rw [Zbv] <;> omega
         have hw2 : IntKind.i64.wrap (2 * C.a i 5 * C.a i 10) = 2 * C.a i 5 * C.a i 10 := by rw [Zbv] <;> omega
         have hw3 : IntKind.i64.wrap (C.a i 4 - 1) = C.a i 4 - 1 := by rw [Zbv] <;> omega
         have hw4 : IntKind.i64.wrap ((C.a i 4 - 1) * C.a i 5) = (C.a i 4 - 1) * C.a i 5 := by rw [Zbv] <;> omega
         have hw5 : IntKind.i64.wrap (2 * C.a i 5 * C.a i 10 + bk (raI C i) (moI C i + puI C i)) = 2 * C.a i 5 * C.a i 10 + bk (raI C i) (moI C i + puI C i) := by rw [Zbv] <;> omega
         have HM : Hid ((0 ≤ 2 * C.a i 5 * C.a i 10 + bk (raI C i) (moI C i + puI C i) ∧ 2 * C.a i 5 * C.a i 10 + bk (raI C i) (moI C i + puI C i) ≤ 40000000) ∧ C.a i 0 - (2 * C.a i 5 * C.a i 10 + bk (raI C i) (moI C i + puI C i)) ≤ R.x i ∧ R.x i ≤ C.a i 1 + (2 * C.a i 5 * C.a i 10 + bk (raI C i) (moI C i + puI C i))) := Zab ⟨by omega, f2, f3⟩; clear f1 f2 f3 hfi gk ar rg hbm hbn htw htn hmo hmo0
         go_upto_region 15 with fail; refine Cs [63, 64, 65, 66, 67, 68, 69, 70, 71, 72, 73, 74, 75, 76, 77, 78, 14] ?_; refine Cp 0 63 [] ?_; refine Cq (fun _ h => cell_later h xt) 1 64 [0] ?_; refine Cp 2 65 [1] ?_; refine Cp 3 66 [] ?_; refine Cq (fun _ h => cell_later h xw) 4 67 [3] ?_; refine Cp 5 68 [2, 4] ?_; refine Cl (x := .tmp 13) 6 69 [] (fun y w _ u hSw => ⟨Zae HAX.out.range hSw, rfl⟩) underlying26 Zaw ?_; refine Cc 7 70 [6] (fun y w h _ => hgr _) ?_; refine Cp 8 71 [] ?_; refine Cq (fun _ h => cell_later h xc) 9 72 [8] ?_; refine Cp 10 73 [9] ?_; refine Cp 11 74 [] ?_; refine Cq (fun _ h => cell_later h xt) 12 75 [11] ?_; refine Cp 13 76 [10, 12] ?_; refine Cc 14 77 [7, 13] (fun y w h _ => hbk _) ?_; refine Cp 15 78 [5, 14] ?_; refine Cp 16 14 [15] ?_; refine Ce (fun y u1 hB hf => ?_); have HS1 := Zab hB; clear hB hf; go_simp; have hB3 := HS1.out; clear HS1; generalize u1 = v6 at hB3 ⊢; refine Zbd (by assumption) ?_; have HB6 := Zab (Zac HBZ.out hB3); have HA6 := Zab (HAX.out.later hB3); clear hw1 hw2 hw3 hw4 hw5 xt xw xc hgr hbk hB3; generalize 2 * C.a i 5 * C.a i 10 + bk (raI C i) (moI C i + puI C i) = mr at *; obtain ⟨⟨m0, m1⟩, x0, x1⟩ := HM.out; have rn := ((HX.out.later HB6.out).cell (rp_cell_n R)).1; have rx := ((HX.out.later HB6.out).cell (rp_cell_x R hi)).1; have xl := (HA6.out.cell (j := 0) rfl).1; have xh := (HA6.out.cell (j := 1) rfl).1
         have hw1 : IntKind.i64.wrap (C.a i 0 - mr) = C.a i 0 - mr := by rw [Zbv] <;> omega
         have hw2 : IntKind.i64.wrap (C.a i 1 + mr) = C.a i 1 + mr := by rw [Zbv] <;> omega
         have hb2 := Zai (R.x i) (C.a i 0 - mr) (C.a i 1 + mr); rw [Zay ⟨x0, x1⟩] at hb2
         go_upto_region 16 with fail; refine Cs [79, 80, 81, 82, 83, 84, 85, 86, 87, 88, 89, 90, 91, 92, 93, 94, 95, 96, 97, 98] ?_; refine Cp 0 79 [] ?_; refine Cq (fun _ h => cell_later h rn) 1 80 [0] ?_; refine Cc 2 81 [1] (fun y w h _ => Zez (hb1 _)) ?_; refine Cp 3 82 [2] ?_; refine Cp 4 83 [3] ?_; refine Cp 5 84 [4] ?_ (hw := fun y w hF => Zak (congrArg some hF.1)); refine Cp 6 85 [4] ?_ (hw := fun y w hF => Zak (congrArg some hF.1)); refine Cp 7 86 [6, 5, 4] ?_ (hw := fun y w hF => Zak (congrArg some hF.2.2.1)); refine Cq (fun _ h => cell_later h rx) 8 87 [7, 4] ?_ (hw := fun y w hF => Zak (congrArg some hF.2.1)); refine Cp 9 88 [4] ?_ (hw := fun y w hF => Zak (congrArg some hF.1)); refine Cq (fun _ h => cell_later h xl) 10 89 [9, 4] ?_ (hw := fun y w hF => Zak (congrArg some hF.2.1)); refine Cp 11 90 [4] ?_ (hw := fun y w hF => Zak (congrArg some hF.1)); refine Cp 12 91 [10, 11, 4] ?_ (hw := fun y w hF => Zak (congrArg some hF.2.2.1)); refine Cp 13 92 [4] ?_ (hw := fun y w hF => Zak (congrArg some hF.1)); refine Cq (fun _ h => cell_later h xh) 14 93 [13, 4] ?_ (hw := fun y w hF => Zak (congrArg some hF.2.1)); refine Cp 15 94 [4] ?_ (hw := fun y w hF => Zak (congrArg some hF.1)); refine Cp 16 95 [14, 15, 4] ?_ (hw := fun y w hF => Zak (congrArg some hF.2.2.1)); refine Cc 17 96 [8, 12, 16, 4] (fun y w h _ => Zez (hb2 _)) ?_ (hw := fun y w hF => Zak (congrArg some hF.2.2.2.1)); refine Cp 18 97 [17, 4] ?_ (hw := fun y w hF => Zak (congrArg some hF.2.1)); refine Cp 19 98 [4, 18] ?_; refine Ce (fun y u1 hB hf => ?_); have HS1 := Zab hB; clear hB hf; go_simp; have hB2 := HS1.out; clear HS1; generalize u1 = v7 at hB2 ⊢; refine Zbd (by assumption) ?_; go_wp2_with fail; go_roundw
         case rel => exact ⟨i + 1, by omega, by go_num, Zac HB6.out hB2⟩
         case measure => simp [intOf]; omega
       · obtain ⟨x0, x1⟩ := f1 hax; have HB6 := Zab HBZ.out; clear f1 f2 f3 hfi gk ar rg hbm hbn htw htn; have rn := ((HX.out.later HBZ.out).cell (rp_cell_n R)).1; have rx := ((HX.out.later HBZ.out).cell (rp_cell_x R hi)).1; have xl := (HAX.out.cell (j := 0) rfl).1; have xh := (HAX.out.cell (j := 1) rfl).1
         have hw1 : IntKind.i64.wrap (C.a i 0) = C.a i 0 := by rw [Zbv] <;> omega
         have hw2 : IntKind.i64.wrap (C.a i 1) = C.a i 1 := by rw [Zbv] <;> omega
         have hb2 := Zai (R.x i) (C.a i 0) (C.a i 1); rw [Zay ⟨x0, x1⟩] at hb2
         go_upto_region 16 with fail; refine Cs [79, 80, 81, 82, 83, 84, 85, 86, 87, 88, 89, 90, 91, 92, 93, 94, 95, 96, 97, 98] ?_; refine Cp 0 79 [] ?_; refine Cq (fun _ h => cell_later h rn) 1 80 [0] ?_; refine Cc 2 81 [1] (fun y w h _ => Zez (hb1 _)) ?_; refine Cp 3 82 [2] ?_; refine Cp 4 83 [3] ?_; refine Cp 5 84 [4] ?_ (hw := fun y w hF => Zak (congrArg some hF.1)); refine Cp 6 85 [4] ?_ (hw := fun y w hF => Zak (congrArg some hF.1)); refine Cp 7 86 [6, 5, 4] ?_ (hw := fun y w hF => Zak (congrArg some hF.2.2.1)); refine Cq (fun _ h => cell_later h rx) 8 87 [7, 4] ?_ (hw := fun y w hF => Zak (congrArg some hF.2.1)); refine Cp 9 88 [4] ?_ (hw := fun y w hF => Zak (congrArg some hF.1)); refine Cq (fun _ h => cell_later h xl) 10 89 [9, 4] ?_ (hw := fun y w hF => Zak (congrArg some hF.2.1)); refine Cp 11 90 [4] ?_ (hw := fun y w hF => Zak (congrArg some hF.1)); refine Cp 12 91 [10, 11, 4] ?_ (hw := fun y w hF => Zak (congrArg some hF.2.2.1)); refine Cp 13 92 [4] ?_ (hw := fun y w hF => Zak (congrArg some hF.1)); refine Cq (fun _ h => cell_later h xh) 14 93 [13, 4] ?_ (hw := fun y w hF => Zak (congrArg some hF.2.1)); refine Cp 15 94 [4] ?_ (hw := fun y w hF => Zak (congrArg some hF.1)); refine Cp 16 95 [14, 15, 4] ?_ (hw := fun y w hF => Zak (congrArg some hF.2.2.1)); refine Cc 17 96 [8, 12, 16, 4] (fun y w h _ => Zez (hb2 _)) ?_ (hw := fun y w hF => Zak (congrArg some hF.2.2.2.1)); refine Cp 18 97 [17, 4] ?_ (hw := fun y w hF => Zak (congrArg some hF.2.1)); refine Cp 19 98 [4, 18] ?_; refine Ce (fun y u1 hB hf => ?_); have HS1 := Zab hB; clear hB hf; go_simp; have hB2 := HS1.out; clear HS1; generalize u1 = v7 at hB2 ⊢; refine Zbd (by assumption) ?_; go_wp2_with fail; go_roundw
         case rel => exact ⟨i + 1, by omega, by go_num, Zac HB6.out hB2⟩
         case measure => simp [intOf]; omega
     · obtain rfl : i = 2 := by omega
       have HRZ := Zab (HRP.out.later hbz); have HKZ := Zab (HKK.out.later hbz); have HBZ := Zab (Zac HBW.out hbz); clear hbz; go_wp2_with fail; exact ⟨⟨j + 1, by omega, by go_num, HRZ.out, HKZ.out, HBZ.out⟩, by simp [intOf]; omega⟩
  · have hn4 : ¬ (j : Int) < (ss.length : Int) := by omega
    have HBZ := Zab hbw; clear hrp hkk hbw; go_wp2_with fail; go_ret; exact ⟨rfl, HBZ.out⟩
theorem fts_ne {u : World} {a : Option Addr} {l : List Ft} {X : Nat} {p q : Option Addr} {n m c d : Nat} (h : Fts u a l) (k : Blk 67 u X [.slice p n c, .slice q m d]) : l ≠ [] → ∀ g o, a = some (Ad g o) → g ≠ X := by
 intro h0 g o e e2; subst e2
 rcases h with h | ⟨b, off, e3, hc⟩
 · exact h0 h
 · rw [e] at e3; simp only [Option.some.injEq, Addr.mk.injEq] at e3; obtain ⟨rfl, rfl, -⟩ := e3; have h1 := hc 0 (by cases l with | nil => exact absurd rfl h0 | cons a t => simp) 0 _ rfl; have hb := k
   unfold Blk at hb
   simp only [World.cell?, hb] at h1
   rcases (show o = 0 ∨ o = 1 ∨ ∃ j, o = j + 2 by rcases o with _ | _ | j <;> simp) with rfl | rfl | ⟨j, rfl⟩ <;> simp at h1
theorem sts_ne {u : World} {a : Option Addr} {l : List Stp} {X : Nat} {p q : Option Addr} {n m c d : Nat} (h : Sts u a l) (k : Blk 67 u X [.slice p n c, .slice q m d]) : l ≠ [] → ∀ g o, a = some (Ad g o) → g ≠ X := by
 intro h0 g o e e2; subst e2
 rcases h with h | ⟨b, off, e3, hc⟩
 · exact h0 h
 · rw [e] at e3; simp only [Option.some.injEq, Addr.mk.injEq] at e3; obtain ⟨rfl, rfl, -⟩ := e3; have h1 := hc 0 (by cases l with | nil => exact absurd rfl h0 | cons a t => simp) 0 _ rfl; have hb := k
   unfold Blk at hb
   simp only [World.cell?, hb] at h1
   rcases (show o = 0 ∨ o = 1 ∨ ∃ j, o = j + 2 by rcases o with _ | _ | j <;> simp) with rfl | rfl | ⟨j, rfl⟩ <;> simp at h1
theorem topMade_walk (a1 : Option Addr) (l1 : List Int) (c1 : Nat) (a2 : Option Addr) (l2 : List Int) (c2 : Nat) (many : Int) (lo : Bool) (hm1 : l1.length ≤ 9223372036854775807) (hm2 : l2.length ≤ 9223372036854775807) (w : World) (hg : GV w) (hi1 : ILs w a1 l1) (hi2 : ILs w a2 l2) :
 Calls prog 9 #[.slice a1 l1.length c1, .slice a2 l2.length c2, Vi many, .bool lo] w fun e w' => e = .returned (.bool true) ∧ Below w.heap.size w w' := by
 by_cases h1 : (100 : Int) < (l1.length : Int)
 · go_enter func9, ntmps9
   go_wp2; go_ret; exact ⟨rfl, Below.refl _ _⟩
 by_cases h2 : (100 : Int) < (l2.length : Int)
 · go_enter func9, ntmps9
   go_wp2; go_ret; exact ⟨rfl, Below.refl _ _⟩
 · have HCF := Zab (craftFrom_c a1 l1 c1 (by omega) w hi1); have hpk := pick_any many 250 (by omega) (by omega); have e0 := Int.emod_nonneg many (b := 250) (by omega); have e1 := Int.emod_lt_of_pos many (b := 250) (by omega); obtain ⟨m0, hm0⟩ : ∃ m0 : Nat, many % 250 = (m0 : Int) := ⟨(many % 250).toNat, by omega⟩; rw [hm0] at hpk e1; clear hm0 e0
   go_enter func9, ntmps9
   go_upto_region 4 with (first
    | (go_at_call 21; refine HCF.out.mono ?_; rintro e v1 ⟨⟨C, rfl, hcr, hCL, _⟩, hb1⟩; have HCL := Zab hCL; have HCR := Zab hcr; have HB1 := Zab hb1; clear hCL hcr hb1 HCF)
    | (refine isStoreT 29 _ _ rfl ?_; refine Zdy (c' := (crL C).toArray) 29 32 Zam (.tmp 9) (.tmp 20) rfl rfl rfl rfl rfl rfl (Zau _ rfl) ?_))
   have HA := Zaa v1 (.cells (crL C).toArray 29); have HK := Zab (Blk.new v1 29 (crL C)); have HB := Zab (Zac HB1.out HA); replace HCL := Zab (HCL.out.later HA); have HG := Zab (hg.later HB.out); have HIL := Zab (hi2.later HB.out); clear HA HB1 hg hi1 hi2; generalize v1.alloc (.cells (crL C).toArray 29) = v2 at *; generalize v1.heap.size = QK at *; have HFF := Zab (fun u (h : Below v2.heap.size v2 u) => flightFrom_any C HCR.out a2 l2 c2 m0 lo (by omega) (by omega) u (HIL.out.later h)); refine Cs [21, 22, 23, 24, 25, 26, 10] ?_; refine Cl (x := .tmp 9) 0 21 [] (fun y w _ u hSw => ⟨Zae HK.out.range hSw, rfl⟩) underlying29 Zam ?_; refine Cp 1 22 [] ?_; refine Cp 2 23 [] ?_; refine Cc 3 24 [2] (fun y w h _ => Zez (hpk _)) ?_; refine Cp 4 25 [] ?_; refine Cd 5 26 [0, 1, 3, 4] (fun v u => ∃ (pf : Option Addr) (cf : Nat) (ls : List Ft) (ps : Option Addr) (cs : Nat) (ss : List Stp), v = .agg #[.slice pf ls.length cf, .slice ps ss.length cs] ∧ FlOK C ls ss ∧ Fts u pf ls ∧ Sts u ps ss) (fun y w h _ => (HFF.out _ h).mono (by rintro e w' ⟨⟨pf, cf, ls, ps, cs, ss, rfl, h1, h2, h3⟩, hb⟩; exact ⟨_, rfl, ⟨pf, cf, ls, ps, cs, ss, rfl, h1, h2, h3⟩, hb⟩)) (fun _ _ _ ⟨pf, cf, ls, ps, cs, ss, e, h1, h2, h3⟩ hb => ⟨pf, cf, ls, ps, cs, ss, e, h1, h2.later hb, h3.later hb⟩) ?_; refine Ca 6 10 ?_; refine Cn 1 8 [7] (fun y u1 hB hf => ?_); obtain ⟨XA, e, hA⟩ := hf.1; have HAA1 : Hid (NB _ _ _ XA [.slice none 0 0, .slice none 0 0]) := Zab hA; (try simp only [e]); clear e hA; obtain ⟨pf, cf, ls, ps, cs, ss, e, hOK, hFT, hST⟩ := hf.2.1; simp only [e]; have HOK := Zab hOK; have HFT := Zab hFT; have HST := Zab hST; clear hOK hFT hST e; have HS1 := Zab hB; clear hB hf; refine Ra 7 (fun K hK => ?_); rw [if_pos (by rfl)]; refine Zao 67 (.tmp 10) (.tmp 26) rfl XA 0 #[.slice pf ls.length cf, .slice ps ss.length cs] rfl rfl (HAA1.out.1.there (Nat.le_of_ble_eq_true rfl)) infoFl2 (Zau _ rfl) rfl ?_; have hO9 : Oth u1 (u1.setCells XA 0 [.slice pf ls.length cf, .slice ps ss.length cs]) XA := Oth.setCells _ 0 u1 (Oth.refl u1 XA); replace HFT := Zab (hO9.fts (fts_ne HFT.out HAA1.out.1) HFT.out); replace HST := Zab (hO9.sts (sts_ne HST.out HAA1.out.1) HST.out); have HFB : Hid (Blk 67 (u1.setCells XA 0 [.slice pf ls.length cf, .slice ps ss.length cs]) XA [.slice pf ls.length cf, .slice ps ss.length cs]) := Zab (Blk.setCells [.slice pf ls.length cf, .slice ps ss.length cs] 0 u1 [.slice none 0 0, .slice none 0 0] HAA1.out.1)
   have HS2 := Zab (Zah [.slice pf ls.length cf, .slice ps ss.length cs] 0 u1 HS1.out (NB.le HAA1.out)); clear hO9; generalize hU : World.setCells _ XA 0 _ = u2 at *; clear hU; refine hK.out _ _ HS2.out (fun _ => ?_); clear hK K; (try simp only [Act.put]); clear HS1 HAA1; refine wpAnyH_done (by kernel_rfl) ?_ _; go_simp; have HB2 := HS2; clear HS2; generalize u2 = v4 at HB2 HFT HST HFB ⊢; refine Zbd (by assumption) ?_; have HKR := Zab (Zae HK.out.range HB2.out); have HFR := Zab HFB.out.range; replace HCL := Zab (HCL.out.later HB2.out); replace HG := Zab (HG.out.later HB2.out); replace HB := Zab (Zac HB.out HB2.out); have hfm := fmE_mk HOK.out
   have hl1 : ls.length ≤ 9223372036854775807 := by have := HOK.out.nl; omega
   have hl2 : ss.length ≤ 9223372036854775807 := by have := HOK.out.ns; omega
   have HFM := fun u h1 h2 h3 => by have k := Zhn C pf cf ls ps cs ss hl1 hl2 u h1 h2 h3; rw [hfm] at k; exact k
   clear HB2 HFB HK HFF HIL HOK hpk hfm
   go_wp2_with (first
    | (refine Lq 29 _ rfl ?_; refine Zbx rfl 29 (.tmp 9) rfl QK 0 rfl (crL C) _ HKR.out underlying29 rfl Zam ?_)
    | (refine Lq 67 _ rfl ?_; refine Zbx rfl 67 (.tmp 10) rfl XA 0 rfl [.slice pf ls.length cf, .slice ps ss.length cs] _ HFR.out underlying67 rfl infoFl2 ?_)
    | (go_at_call 25; refine Sb (HFM _ HCL.out HFT.out HST.out) fun v5 hb => ?_; replace HKR := Zab (Zae HKR.out hb); replace HFR := Zab (Zae HFR.out hb); replace HCL := Zab (HCL.out.later hb); replace HG := Zab (HG.out.later hb); replace HFT := Zab (HFT.out.later hb); replace HST := Zab (HST.out.later hb); replace HB := Zab (Zac HB.out hb); clear hb)
    | (go_at_call 7; refine Sb (topFlight_walk C pf cf ls ps cs ss hl1 hl2 _ HG.out HCL.out HFT.out HST.out) fun v6 hb => ?_; replace HKR := Zab (Zae HKR.out hb); replace HFR := Zab (Zae HFR.out hb); replace HCL := Zab (HCL.out.later hb); replace HG := Zab (HG.out.later hb); replace HFT := Zab (HFT.out.later hb); replace HST := Zab (HST.out.later hb); replace HB := Zab (Zac HB.out hb); clear hb)
    | (go_at_call 8; refine Sb (topLoose_walk C pf cf ls ps cs ss hl1 hl2 _ HG.out HCL.out HFT.out HST.out) fun v7 hb => ?_; replace HKR := Zab (Zae HKR.out hb); replace HFR := Zab (Zae HFR.out hb); replace HCL := Zab (HCL.out.later hb); replace HG := Zab (HG.out.later hb); replace HFT := Zab (HFT.out.later hb); replace HST := Zab (HST.out.later hb); replace HB := Zab (Zac HB.out hb); clear hb))
   go_ret; exact ⟨rfl, HB.out⟩
end Go.Proofs.YtnfdfiholcelaaaGreatDoor
namespace Go.Proofs.YtnfdfiholcelaaaGreatDoor
open Go.ChangeShapes Go.WideShapes Go.ChangeAt Go.RowKit Go.Joins Go.Deep Tryz
set_option linter.unusedVariables false
end Go.Proofs.YtnfdfiholcelaaaGreatDoor
namespace Go.Proofs.YtnfdfiholcelaaaGreatDoor
open Go.ChangeShapes Go.WideShapes Go.ChangeAt Go.RowKit Go.Joins Go.Deep Tryz
set_option linter.unusedVariables false
theorem saddr_add (b off n : Nat) : (⟨b, off, none⟩ : Addr).add n = ⟨b, off + n, none⟩ := by unfold Addr.add; split <;> simp_all
theorem open_ils {H : Type} {enc : TypeId × Value → H} {w : World} {base : Nat} {n : Nat} {v : Value} {y : DataW H × List MemPlace} (h : DataW.trod enc prog w base (fun _ => true) true n 22 [v] = some y) :
 ∃ (a : Option Addr) (l : List Int) (cap : Nat), v = .slice a l.length cap ∧ l.length ≤ 9223372036854775807 ∧ ILs w a l ∧ ∀ x ∈ l, -9223372036854775808 ≤ x ∧ x ≤ 9223372036854775807 := by
 rcases open_ints underlying22 underlying3 (by kernel_rfl) h with ⟨hcs, _⟩ | ⟨x, len, cap, zs, hcs, _, hl, hm, hz, _, hcell, hwz⟩
 · simp at hcs
   exact ⟨none, [], 0, by simpa using hcs, by simp, .inl rfl, by simp⟩
 · simp at hcs hz
   have hlen : (zs.take len).length = len := by simp; omega
   refine ⟨some x, zs.take len, cap, by rw [hlen]; exact hcs, by rw [hlen]; unfold maxLen at hm; omega, ?_, fun z hzm => ?_⟩
   · by_cases h0 : len = 0
     · left; subst h0; rfl
     · right
       obtain ⟨b, off, spot⟩ := x; have hc := hcell 0 (by omega)
       have hspot : spot = none := by simpa [Addr.add] using World.cell?_spot hc
       subst hspot; refine ⟨b, off, rfl, fun k hk => ?_⟩; rw [hlen] at hk; have q := hcell k (by omega); rw [saddr_add] at q; rw [q, List.getD_eq_getElem?_getD, List.getD_eq_getElem?_getD, List.getElem?_take, if_pos hk]
   · exact bounds_i64 (hwz z (List.mem_of_mem_take hzm))
end Go.Proofs.YtnfdfiholcelaaaGreatDoor
