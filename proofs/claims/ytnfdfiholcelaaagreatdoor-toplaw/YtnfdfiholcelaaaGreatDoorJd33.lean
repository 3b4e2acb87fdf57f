
import Derived.Test.YtnfdfiholcelaaaGreatDoorJd00
import Derived.Test.YtnfdfiholcelaaaGreatDoorJd31
import Derived.Test.YtnfdfiholcelaaaGreatDoorJd32
set_option maxRecDepth 100000
set_option maxHeartbeats 20000000
namespace Go.Proofs.YtnfdfiholcelaaaGreatDoor
open Go.RowKit Plain
theorem isLoadRq {P : Program} {ops : Array Oper} {rest : List Oper} {op : Oper} {a : Act} {w : World} {Q : Exit → Act → World → Prop} (x : Operand) (_ho : op.op = .load 95 x) (h : wpList P ops Q (op :: rest) a w) : wpList P ops Q (op :: rest) a w := h
theorem isStoreRq {P : Program} {ops : Array Oper} {rest : List Oper} {op : Oper} {a : Act} {w : World} {Q : Exit → Act → World → Prop} (x y : Operand) (_ho : op.op = .store 95 x y) (h : wpList P ops Q (op :: rest) a w) : wpList P ops Q (op :: rest) a w := h
theorem wpList_newR {ops : Array Oper} {rest : List Oper} {op : Oper} {a : Act} {w : World} {Q : Exit → Act → World → Prop} {c : Array Value} (r : Rp) (x y : Operand) (hgd : op.guard = none) (ho : op.op = .store 95 x y)
 (hx : a.eval x = .pointer (some (Ad w.heap.size 0))) (hy : a.eval y = .agg (rpL r).toArray) (hc : c.size = 15) (hd : op.dst = none)
 (h : ∀ u, Below w.heap.size w u → Blk 95 u w.heap.size (rpL r) → wpList Tryz.prog ops Q rest a u) : wpList Tryz.prog ops Q (op :: rest) a (w.alloc (.cells c 95)) :=
 wpList_plain hgd fun K hK => by
  have hb := Blk.new w 95 c.toList; refine Zan 95 x y ho w.heap.size 0 (rpL r).toArray hx hy (hb.there (by simp [hc, Zfl])) (by rw [Zfw]; rfl) (Zat _ rfl) hd ?_; refine hK _ _ (h _ (Zah _ 0 _ (Zaa w _) (Nat.le_refl _)) ?_); have k := Blk.setCells (rpL r) 0 _ _ hb
  rwa [putL_all (rpL r) c.toList (by simp [hc, Zfl])] at k
theorem ax_su (C : CR) (i : Nat) : (axL C i)[4]? = some (Vi (C.a i 4)) := rfl
theorem topFlight_walk (C : CR) (pf : Option Addr) (cf : Nat) (l : List Ft) (ps : Option Addr) (cs : Nat) (ss : List Stp) (hml : l.length ≤ 9223372036854775807) (hms : ss.length ≤ 9223372036854775807) (w : World) (hg : GV w) (hcr : CrL w C) (hF : Fts w pf l) (hS : Sts w ps ss) :
 Calls Tryz.prog 7 #[.agg (crL C).toArray, .agg #[.slice pf l.length cf, .slice ps ss.length cs]] w fun e w' => e = .returned (.bool true) ∧ Below w.heap.size w w' := by
 have HFW := Zab (fun u (h : Below w.heap.size w u) => flown_any C pf cf l ps cs ss hml hms u (hg.later h) (hcr.later h) (hF.later h) (hS.later h)); have HLO := Zab (fun u (h : Below w.heap.size w u) => looseOf_any pf cf l ps ss.length cs hml u (hF.later h)); have HLI := Zab (fun u (h : Below w.heap.size w u) => lies_any pf cf l ps ss.length cs hml u (hF.later h)); have HK := Zab ((Blk.new w 29 (crL C)).later (Zaa (w.alloc (.cells (crL C).toArray 29)) (.cells #[.slice pf l.length cf, .slice ps ss.length cs] 67))); have HF : Hid (Blk 67 ((w.alloc (.cells (crL C).toArray 29)).alloc (.cells #[.slice pf l.length cf, .slice ps ss.length cs] 67)) (w.heap.size + 1) [.slice pf l.length cf, .slice ps ss.length cs]) := Zab (by have h := Blk.new (w.alloc (.cells (crL C).toArray 29)) 67 [.slice pf l.length cf, .slice ps ss.length cs]; rw [World.size_alloc] at h; exact h); have HB0 := Zab (Zac (Zaa w (.cells (crL C).toArray 29)) (Zaa (w.alloc (.cells (crL C).toArray 29)) (.cells #[.slice pf l.length cf, .slice ps ss.length cs] 67))); clear hcr hF hS hg
 go_enter Tryz.func7, Tryz.ntmps7
 go_upto_region 1 with fail; generalize (w.alloc (.cells (crL C).toArray 29)).alloc (.cells #[.slice pf l.length cf, .slice ps ss.length cs] 67) = v0 at *; generalize w.heap.size + 1 = QF at HF ⊢; generalize hQK : w.heap.size = QK at HK ⊢; clear hQK; have xf := (HF.out.cell (j := 0) rfl).1; have xs := (HF.out.cell (j := 1) rfl).1
 go_upto_region 2 with (go_at_call 34; refine (HLO.out _ HB0.out).mono ?_; rintro e v1 ⟨⟨a, u, o, rfl, hlo, hz⟩, hb⟩; have HLO2 := Zab hlo; have HZ := Zab hz; replace HK := Zab (HK.out.later hb); replace HF := Zab (HF.out.later hb); replace HB0 := Zab (Zac HB0.out hb); clear hb hlo hz); clear xf xs; have xf := (HF.out.cell (j := 0) rfl).1; have xs := (HF.out.cell (j := 1) rfl).1; have haw := awake_any
 go_upto_region 4 with (first
  | (go_at_call 35; refine Sb (haw _) fun v2 hb => ?_; replace HK := Zab (HK.out.later hb); replace HF := Zab (HF.out.later hb); replace HB0 := Zab (Zac HB0.out hb); have xf := cell_later hb xf; have xs := cell_later hb xs; clear hb)
  | (go_at_call 36; refine (HLI.out _ HB0.out).mono ?_; rintro e v3 ⟨⟨b, rfl, hli⟩, hb⟩; have HLC := Zab hli; replace HK := Zab (HK.out.later hb); replace HF := Zab (HF.out.later hb); replace HB0 := Zab (Zac HB0.out hb); have xf := cell_later hb xf; have xs := cell_later hb xs; clear hb hli; cases b))
 · go_ret; exact ⟨rfl, HB0.out⟩
 · go_ret; exact ⟨rfl, HB0.out⟩
 have HO : Hid (a < 0 ∧ LO l l.length a u) := Zab (by
  have ha : a < 0 := by assumption
  cases o
  · have := HZ.out rfl; omega
  · exact ⟨ha, HLO2.out rfl⟩)
 have HLC2 := Zab (HLC.out trivial); clear HLO2 HZ HLC
 go_upto_region 6 with (first
  | (refine Zcm _ rfl ?_; refine wpList_load_mid rfl 29 (.tmp 2) rfl QK 0 rfl (crL C) _ HK.out.range Tryz.underlying29 rfl Zbd ?_)
  | (go_at_call 37; refine (HFW.out _ HB0.out).mono ?_; rintro e v4 ⟨⟨sr, ok, rfl, hy, hn⟩, hb⟩; replace HK := Zab (HK.out.later hb); replace HF := Zab (HF.out.later hb); replace HB0 := Zab (Zac HB0.out hb); clear hb))
 clear xf xs
 cases ok
 · obtain rfl := hn rfl; clear hy hn; refine wp_loop_rounds 1 ?_; rw [rounds_succ]; go_wp2_with fail; go_ret; exact ⟨rfl, HB0.out⟩
 obtain ⟨OK, hrp⟩ := hy rfl; obtain ⟨lq, hfa⟩ := fa_none OK.ft HLC2.out HO.out.2 HO.out.1; have HFA := Zab (fun k (hk : k < ss.length) => rp_flight OK hfa hk); obtain ⟨ra, rc, rfl⟩ := hrp.slice; rw [Zcl] at hrp ⊢; have HRP := Zab hrp; have HRL := Zab (Zcl C l ss ss.length); have hn3 := OK.ns; generalize hK1 : World.heap _ = K1 at HRP; clear hy hn OK hrp hfa HO HLC2 hK1 HF
 go_loopw [10] (fun ix wr => ∃ j : Nat, j ≤ ss.length ∧ ix = Vi j ∧ RpO K1.size wr (.slice ra ss.length rc) (rpU C l ss ss.length) ∧ Blk 29 wr QK (crL C) ∧ Below w.heap.size w wr) (fun ix _ => ss.length - (intOf ix).toNat)
 case atStart => exact ⟨0, by omega, rfl, HRP.out, HK.out, HB0.out⟩
 case round =>
  clear HRP HK HB0; obtain ⟨j, hj, rfl, hrp, hkk, hbw⟩ := hrel
  by_cases hlt : j < ss.length
  · have j0 : (0 : Int) ≤ (j : Int) := by omega
    have j1 : (j : Int) < (ss.length : Int) := by omega
    obtain ⟨g, rfl, hra⟩ := hrp.at (j := j) (by rw [HRL.out]; omega); rw [rpU_at C l ss ss.length j (by omega)] at hra; have hfl := HFA.out j hlt; generalize rpF (flU C l ss (j + 1)) = R at *; have HRA := Zab hra; have HFL := Zab hfl; have HKK := Zab hkk; have HBW := Zab hbw; have HRP := Zab hrp; clear hra hfl hkk hbw hrp
    go_upto_region 10 with (first
     | (refine isLoadRq _ rfl ?_; refine wpList_load_mid rfl 95 (.tmp 49) rfl g (j * 15) rfl (rpL R) _ HRA.out Tryz.underlying95 rfl Zfw ?_)
     | (refine isStoreRq _ _ rfl ?_; refine wpList_newR R (.tmp 11) (.tmp 50) rfl rfl rfl rfl rfl rfl (fun v4 hb hblk => ?_); have HX := Zab hblk; replace HKK := Zab (HKK.out.later hb); replace HBW := Zab (Zac HBW.out hb); replace HRP := Zab (HRP.out.later hb); clear hb hblk))
    clear HRA; generalize wr.heap.size = QX at HX ⊢
    go_loopw [12] (fun ix wz => ∃ i : Nat, i ≤ 2 ∧ ix = Vi i ∧ Below v4.heap.size v4 wz) (fun ix _ => 2 - (intOf ix).toNat)
    case atStart => exact ⟨0, by omega, rfl, Below.refl _ _⟩
    case round =>
     obtain ⟨i, hi2, rfl, hbz⟩ := hrel; rename World => wq
     by_cases hi : i < 2
     · have i0 : (0 : Int) ≤ (i : Int) := by omega
       have i1 : (i : Int) < 2 := by omega
       have HRX := Zab ((HKK.out.later hbz).sub (i * 15) 15); rw [cr_axi C hi] at HRX; have HBZ := Zab (Zac hbz (Zaa wq (.cells (axL C i).toArray 26))); have HAX : Hid (Blk 26 (wq.alloc (.cells (axL C i).toArray 26)) wq.heap.size (axL C i)) := Zab (Blk.new wq _ _); clear hbz
       go_upto_region 13 with (first
        | (refine Zft _ rfl ?_; refine wpList_load_mid rfl 26 (.tmp 57) rfl QK (i * 15) rfl (axL C i) _ HRX.out Tryz.underlying26 rfl Zbg ?_)
        | (refine Zda _ _ rfl ?_; refine Zbn (c' := (axL C i).toArray) (.tmp 13) (.tmp 58) rfl rfl rfl rfl rfl rfl (Zat _ rfl) ?_))
       clear HRX; generalize wq.alloc (.cells (axL C i).toArray 26) = v5 at *; generalize wq.heap.size = QA at HAX ⊢; obtain ⟨hn0, hfi⟩ := HFL.out; obtain ⟨f1, f2, f3, f4⟩ := hfi i hi; have rn := ((HX.out.later HBZ.out).cell (Zfk R)).1; rw [hn0] at rn; have rl := ((HX.out.later HBZ.out).cell (rp_l R hi)).1; have rs := ((HX.out.later HBZ.out).cell (rp_s R hi)).1; rw [f2] at rs; have rx := ((HX.out.later HBZ.out).cell (rp_cell_x R hi)).1; have xc := (HAX.out.cell (ax_su C i)).1; have xl := (HAX.out.cell (j := 0) rfl).1; have xh := (HAX.out.cell (j := 1) rfl).1
       have hl2 : ¬ R.l i < 2 := by omega
       have hbt := Zcr (R.x i) (C.a i 0) (C.a i 1); rw [Zbo ⟨f3, f4⟩] at hbt; clear hn0 hfi f1 f2 f3 f4; refine Cs [59, 60, 61, 62, 63, 64, 65, 66, 67, 68, 69, 70, 71, 72, 73, 74, 75, 76, 77, 78, 79, 80, 81, 82, 83, 84, 85, 86, 87, 88, 89] ?_; refine Cp 0 59 [] ?_; refine Cq (fun _ h => cell_later h rn) 1 60 [0] ?_; refine Cp 2 61 [1] ?_; refine Cp 3 62 [2] ?_; refine Cp 4 63 [3] ?_ (hw := fun y w hF => Zaj (congrArg some hF.1)); refine Cp 5 64 [3] ?_ (hw := fun y w hF => Zaj (congrArg some hF.1)); refine Cp 6 65 [5, 4, 3] ?_ (hw := fun y w hF => Zaj (congrArg some hF.2.2.1)); refine Cq (fun _ h => cell_later h rl) 7 66 [6, 3] ?_ (hw := fun y w hF => Zaj (congrArg some hF.2.1)); refine Cp 8 67 [7, 3] ?_ (hw := fun y w hF => Zaj (congrArg some hF.2.1)); refine Cp 9 68 [3, 8] ?_; refine Cp 10 69 [9] ?_; refine Cp 11 70 [10] ?_ (hw := fun y w hF => Zaj (congrArg some hF.1)); refine Cp 12 71 [10] ?_ (hw := fun y w hF => Zaj (congrArg some hF.1)); refine Cp 13 72 [12, 11, 10] ?_ (hw := fun y w hF => Zaj (congrArg some hF.2.2.1)); refine Cq (fun _ h => cell_later h rs) 14 73 [13, 10] ?_ (hw := fun y w hF => Zaj (congrArg some hF.2.1)); refine Cp 15 74 [10] ?_ (hw := fun y w hF => Zaj (congrArg some hF.1)); refine Cq (fun _ h => cell_later h xc) 16 75 [15, 10] ?_ (hw := fun y w hF => Zaj (congrArg some hF.2.1)); refine Cp 17 76 [14, 16, 10] ?_ (hw := fun y w hF => Zaj (congrArg some hF.2.2.1)); refine Cp 18 77 [10, 17] ?_; refine Cp 19 78 [18] ?_; refine Cp 20 79 [19] ?_ (hw := fun y w hF => Zaj (congrArg some hF.1)); refine Cp 21 80 [19] ?_ (hw := fun y w hF => Zaj (congrArg some hF.1)); refine Cp 22 81 [21, 20, 19] ?_ (hw := fun y w hF => Zaj (congrArg some hF.2.2.1)); refine Cq (fun _ h => cell_later h rx) 23 82 [22, 19] ?_ (hw := fun y w hF => Zaj (congrArg some hF.2.1)); refine Cp 24 83 [19] ?_ (hw := fun y w hF => Zaj (congrArg some hF.1)); refine Cq (fun _ h => cell_later h xl) 25 84 [24, 19] ?_ (hw := fun y w hF => Zaj (congrArg some hF.2.1)); refine Cp 26 85 [19] ?_ (hw := fun y w hF => Zaj (congrArg some hF.1)); refine Cq (fun _ h => cell_later h xh) 27 86 [26, 19] ?_ (hw := fun y w hF => Zaj (congrArg some hF.2.1)); refine Cc 28 87 [23, 25, 27, 19] (fun y w h _ => Zgp (hbt _)) ?_ (hw := fun y w hF => Zaj (congrArg some hF.2.2.2.1)); refine Cp 29 88 [28, 19] ?_ (hw := fun y w hF => Zaj (congrArg some hF.2.1)); refine Cp 30 89 [19, 29] ?_; refine Ce (fun y u1 hB hf => ?_); have HS1 := Zab hB
       clear hB hf; go_simp; have hB2 := HS1.out; clear HS1; generalize u1 = v6 at hB2 ⊢; refine Zbh (by assumption) ?_; go_wp2_with fail; go_roundw
       case rel => exact ⟨i + 1, by omega, by go_num, Zac HBZ.out hB2⟩
       case measure => simp [intOf]; omega
     · obtain rfl : i = 2 := by omega
       have HRZ := Zab (HRP.out.later hbz); have HKZ := Zab (HKK.out.later hbz); have HBZ := Zab (Zac HBW.out hbz); clear hbz; go_wp2_with fail; exact ⟨⟨j + 1, by omega, by go_num, HRZ.out, HKZ.out, HBZ.out⟩, by simp [intOf]; omega⟩
  · have hn4 : ¬ (j : Int) < (ss.length : Int) := by omega
    have HBZ := Zab hbw; clear hrp hkk hbw; go_wp2_with fail; go_ret; exact ⟨rfl, HBZ.out⟩
theorem brake_b (C : CR) (i : Nat) (hc : crE C = 0) (hi : i < 2) (w : World) : Calls Tryz.prog 39 #[.agg #[Vi (C.a i 0), Vi (C.a i 1), Vi (C.a i 2), Vi (C.a i 3 + C.a i 7), Vi ((C.a i 4 - 1) * C.a i 5), Vi ((C.a i 4 - 1) * C.a i 6)], Vi ((C.a i 4 - 1) * C.a i 5)] w fun e w' => e = .returned (Vi (bk (raI C i) (moI C i + puI C i))) ∧ Below w.heap.size w w' := by
 have g := cr_gok hc hi; have h1 := g.m0; have h2 := g.m1; have h3 := g.r0; have h4 := g.r1; have h5 := g.p0; have h6 := g.p1
 unfold moI raI puI at *
 exact (refBrake_ex _ _ _ _ _ _ _ h5 h6 h3 (by omega) (by omega) h2 w).mono (by rintro e w' ⟨rfl, rfl⟩; exact ⟨rfl, Zaa _ _⟩)
theorem topLoose_walk (C : CR) (pf : Option Addr) (cf : Nat) (l : List Ft) (ps : Option Addr) (cs : Nat) (ss : List Stp) (hml : l.length ≤ 9223372036854775807) (hms : ss.length ≤ 9223372036854775807) (w : World) (hg : GV w) (hcr : CrL w C) (hF : Fts w pf l) (hS : Sts w ps ss) :
 Calls Tryz.prog 8 #[.agg (crL C).toArray, .agg #[.slice pf l.length cf, .slice ps ss.length cs]] w fun e w' => e = .returned (.bool true) ∧ Below w.heap.size w w' := by
 have HFW := Zab (fun u (h : Below w.heap.size w u) => flown_any C pf cf l ps cs ss hml hms u (hg.later h) (hcr.later h) (hF.later h) (hS.later h)); have HLO := Zab (fun u (h : Below w.heap.size w u) => looseOf_any pf cf l ps ss.length cs hml u (hF.later h)); have HLI := Zab (fun u (h : Below w.heap.size w u) => lies_any pf cf l ps ss.length cs hml u (hF.later h)); have HK := Zab ((Blk.new w 29 (crL C)).later (Zaa (w.alloc (.cells (crL C).toArray 29)) (.cells #[.slice pf l.length cf, .slice ps ss.length cs] 67))); have HF : Hid (Blk 67 ((w.alloc (.cells (crL C).toArray 29)).alloc (.cells #[.slice pf l.length cf, .slice ps ss.length cs] 67)) (w.heap.size + 1) [.slice pf l.length cf, .slice ps ss.length cs]) := Zab (by have h := Blk.new (w.alloc (.cells (crL C).toArray 29)) 67 [.slice pf l.length cf, .slice ps ss.length cs]; rw [World.size_alloc] at h; exact h); have HB0 := Zab (Zac (Zaa w (.cells (crL C).toArray 29)) (Zaa (w.alloc (.cells (crL C).toArray 29)) (.cells #[.slice pf l.length cf, .slice ps ss.length cs] 67))); clear hcr hF hS hg
 go_enter Tryz.func8, Tryz.ntmps8
 go_upto_region 1 with fail; generalize (w.alloc (.cells (crL C).toArray 29)).alloc (.cells #[.slice pf l.length cf, .slice ps ss.length cs] 67) = v0 at *; generalize w.heap.size + 1 = QF at HF ⊢; generalize hQK : w.heap.size = QK at HK ⊢; clear hQK; have xf := (HF.out.cell (j := 0) rfl).1; have xs := (HF.out.cell (j := 1) rfl).1
 go_upto_region 2 with (go_at_call 34; refine (HLO.out _ HB0.out).mono ?_; rintro e v1 ⟨⟨a, u, o, rfl, hlo, hz⟩, hb⟩; have HLO2 := Zab hlo; have HZ := Zab hz; replace HK := Zab (HK.out.later hb); replace HF := Zab (HF.out.later hb); replace HB0 := Zab (Zac HB0.out hb); clear hb hlo hz); clear xf xs; have xf := (HF.out.cell (j := 0) rfl).1; have xs := (HF.out.cell (j := 1) rfl).1; have haw := awake_any
 go_upto_region 4 with (first
  | (go_at_call 35; refine Sb (haw _) fun v2 hb => ?_; replace HK := Zab (HK.out.later hb); replace HF := Zab (HF.out.later hb); replace HB0 := Zab (Zac HB0.out hb); have xf := cell_later hb xf; have xs := cell_later hb xs; clear hb)
  | (go_at_call 36; refine (HLI.out _ HB0.out).mono ?_; rintro e v3 ⟨⟨b, rfl, hli⟩, hb⟩; have HLC := Zab hli; replace HK := Zab (HK.out.later hb); replace HF := Zab (HF.out.later hb); replace HB0 := Zab (Zac HB0.out hb); have xf := cell_later hb xf; have xs := cell_later hb xs; clear hb hli; cases b))
 · go_ret; exact ⟨rfl, HB0.out⟩
 · go_ret; exact ⟨rfl, HB0.out⟩
 have HO : Hid (LO l l.length a u) := Zab (by
  have ho : (!o) = false := by assumption
  cases o
  · cases ho
  · exact HLO2.out rfl)
 clear HLO2; have HLC2 := Zab (HLC.out trivial); clear HZ HLC
 go_upto_region 6 with (first
  | (refine Zcm _ rfl ?_; refine wpList_load_mid rfl 29 (.tmp 2) rfl QK 0 rfl (crL C) _ HK.out.range Tryz.underlying29 rfl Zbd ?_)
  | (go_at_call 37; refine (HFW.out _ HB0.out).mono ?_; rintro e v4 ⟨⟨sr, ok, rfl, hy, hn⟩, hb⟩; replace HK := Zab (HK.out.later hb); replace HF := Zab (HF.out.later hb); replace HB0 := Zab (Zac HB0.out hb); clear hb))
 clear xf xs
 cases ok
 · obtain rfl := hn rfl; clear hy hn; refine wp_loop_rounds 1 ?_; rw [rounds_succ]; go_wp2_with fail; go_ret; exact ⟨rfl, HB0.out⟩
 obtain ⟨OK, hrp⟩ := hy rfl; obtain ⟨lq, lu, hfa, hlu⟩ := fa_one OK.ft HLC2.out HO.out; have HFA := Zab (fun k (hk : k < ss.length) => rp_loose OK hfa hlu hk); have HCR := Zab OK.cr; obtain ⟨ra, rc, rfl⟩ := hrp.slice; rw [Zcl] at hrp ⊢; have HRP := Zab hrp; have HRL := Zab (Zcl C l ss ss.length); have hn3 := OK.ns; generalize hK1 : World.heap _ = K1 at HRP; clear hy hn OK hrp hfa hlu HO HLC2 hK1 HF
 go_loopw [10] (fun ix wr => ∃ j : Nat, j ≤ ss.length ∧ ix = Vi j ∧ RpO K1.size wr (.slice ra ss.length rc) (rpU C l ss ss.length) ∧ Blk 29 wr QK (crL C) ∧ Below w.heap.size w wr) (fun ix _ => ss.length - (intOf ix).toNat)
 case atStart => exact ⟨0, by omega, rfl, HRP.out, HK.out, HB0.out⟩
 case round =>
  clear HRP HK HB0; obtain ⟨j, hj, rfl, hrp, hkk, hbw⟩ := hrel
  by_cases hlt : j < ss.length
  · have j0 : (0 : Int) ≤ (j : Int) := by omega
    have j1 : (j : Int) < (ss.length : Int) := by omega
    obtain ⟨g, rfl, hra⟩ := hrp.at (j := j) (by rw [HRL.out]; omega); rw [rpU_at C l ss ss.length j (by omega)] at hra; have hfl := HFA.out j hlt; generalize rpF (flU C l ss (j + 1)) = R at *; have HRA := Zab hra; have HFL := Zab hfl; have HKK := Zab hkk; have HBW := Zab hbw; have HRP := Zab hrp; clear hra hfl hkk hbw hrp
    go_upto_region 10 with (first
     | (refine isLoadRq _ rfl ?_; refine wpList_load_mid rfl 95 (.tmp 50) rfl g (j * 15) rfl (rpL R) _ HRA.out Tryz.underlying95 rfl Zfw ?_)
     | (refine isStoreRq _ _ rfl ?_; refine wpList_newR R (.tmp 11) (.tmp 51) rfl rfl rfl rfl rfl rfl (fun v4 hb hblk => ?_); have HX := Zab hblk; replace HKK := Zab (HKK.out.later hb); replace HBW := Zab (Zac HBW.out hb); replace HRP := Zab (HRP.out.later hb); clear hb hblk))
    clear HRA; generalize wr.heap.size = QX at HX ⊢
    go_loopw [12] (fun ix wz => ∃ i : Nat, i ≤ 2 ∧ ix = Vi i ∧ Below v4.heap.size v4 wz) (fun ix _ => 2 - (intOf ix).toNat)
    case atStart => exact ⟨0, by omega, rfl, Below.refl _ _⟩
    case round =>
     obtain ⟨i, hi2, rfl, hbz⟩ := hrel; rename World => wq
     by_cases hi : i < 2
     · have i0 : (0 : Int) ≤ (i : Int) := by omega
       have i1 : (i : Int) < 2 := by omega
       have HRX := Zab ((HKK.out.later hbz).sub (i * 15) 15); rw [cr_axi C hi] at HRX; have HBZ := Zab (Zac hbz (Zaa wq (.cells (axL C i).toArray 26))); have HAX : Hid (Blk 26 (wq.alloc (.cells (axL C i).toArray 26)) wq.heap.size (axL C i)) := Zab (Blk.new wq _ _); clear hbz
       go_upto_region 13 with (first
        | (refine Zft _ rfl ?_; refine wpList_load_mid rfl 26 (.tmp 58) rfl QK (i * 15) rfl (axL C i) _ HRX.out Tryz.underlying26 rfl Zbg ?_)
        | (refine Zda _ _ rfl ?_; refine Zbn (c' := (axL C i).toArray) (.tmp 13) (.tmp 59) rfl rfl rfl rfl rfl rfl (Zat _ rfl) ?_))
       clear HRX; generalize wq.alloc (.cells (axL C i).toArray 26) = v5 at *; generalize wq.heap.size = QA at HAX ⊢; obtain ⟨⟨n0, n1⟩, hfi⟩ := HFL.out; obtain ⟨f1, f2, f3⟩ := hfi i hi; have gk := cr_gok HCR.out hi; have ar := Zau (cr_ar HCR.out hi); have rg := Zeb HCR.out hi; have hb1 := Zcr R.n 0 1; rw [Zbo ⟨n0, n1⟩] at hb1; have g1 := gk.l0; have g2 := gk.l1; have g3 := gk.h0; have g4 := gk.h1; have hbm : bk (raI C i) (moI C i + puI C i) ≤ 36000000 := bk_lt (by have := gk.r0; omega) (by have := gk.m1; have := gk.p1; omega); have hbn := Zca (raI C i) (moI C i + puI C i); have htw := Int.mul_le_mul_of_nonneg_left (show C.a i 10 ≤ 10 by omega) (show 0 ≤ 2 * C.a i 5 by omega); have htn := Int.mul_nonneg (show 0 ≤ 2 * C.a i 5 by omega) (show 0 ≤ C.a i 10 by omega)
       by_cases hax : (i : Int) = a
       · subst hax; have xt := (HAX.out.cell (j := 5) rfl).1; have xw := (HAX.out.cell (j := 10) rfl).1; have xc := (HAX.out.cell (ax_su C i)).1; have hgr := Zdd (C.a i 0) (C.a i 1) (C.a i 2) (C.a i 3) (C.a i 4) (C.a i 5) (C.a i 6) (C.a i 7) (C.a i 8) (C.a i 9) (C.a i 10) (C.a i 11) (C.a i 14) (C.p i) (C.q i) (C.al i).length (C.zl i).length (C.cn i) (C.cm i) rg.1 (by omega) rg.2 (by omega) (by omega); have hbk := brake_b C i HCR.out hi; have hmo := gk.m1; have hmo0 := gk.m0
         unfold moI at hmo hmo0
         have hw1 : IntKind.i64.wrap (2 * C.a i 5) = 2 * C.a i 5 := by rw [Zas] <;> omega
         have hw2 : IntKind.i64.wrap (2 * C.a i 5 * C.a i 10) = 2 * C.a i 5 * C.a i 10 := by rw [Zas] <;> omega
         have hw3 : IntKind.i64.wrap (C.a i 4 - 1) = C.a i 4 - 1 := by rw [Zas] <;> omega
         have hw4 : IntKind.i64.wrap ((C.a i 4 - 1) * C.a i 5) = (C.a i 4 - 1) * C.a i 5 := by rw [Zas] <;> omega
         have hw5 : IntKind.i64.wrap (2 * C.a i 5 * C.a i 10 + bk (raI C i) (moI C i + puI C i)) = 2 * C.a i 5 * C.a i 10 + bk (raI C i) (moI C i + puI C i) := by rw [Zas] <;> omega
         have HM : Hid ((0 ≤ 2 * C.a i 5 * C.a i 10 + bk (raI C i) (moI C i + puI C i) ∧ 2 * C.a i 5 * C.a i 10 + bk (raI C i) (moI C i + puI C i) ≤ 40000000) ∧ C.a i 0 - (2 * C.a i 5 * C.a i 10 + bk (raI C i) (moI C i + puI C i)) ≤ R.x i ∧ R.x i ≤ C.a i 1 + (2 * C.a i 5 * C.a i 10 + bk (raI C i) (moI C i + puI C i))) := Zab ⟨by omega, f2, f3⟩; clear f1 f2 f3 hfi gk ar rg hbm hbn htw htn hmo hmo0
         go_upto_region 15 with fail; refine Cs [63, 64, 65, 66, 67, 68, 69, 70, 71, 72, 73, 74, 75, 76, 77, 78, 14] ?_; refine Cp 0 63 [] ?_; refine Cq (fun _ h => cell_later h xt) 1 64 [0] ?_; refine Cp 2 65 [1] ?_; refine Cp 3 66 [] ?_; refine Cq (fun _ h => cell_later h xw) 4 67 [3] ?_; refine Cp 5 68 [2, 4] ?_; refine Cl (x := .tmp 13) 6 69 [] (fun y w _ u hSw => ⟨Zae HAX.out.range hSw, rfl⟩) Tryz.underlying26 Zbg ?_; refine Cc 7 70 [6] (fun y w h _ => hgr _) ?_; refine Cp 8 71 [] ?_; refine Cq (fun _ h => cell_later h xc) 9 72 [8] ?_; refine Cp 10 73 [9] ?_; refine Cp 11 74 [] ?_; refine Cq (fun _ h => cell_later h xt) 12 75 [11] ?_; refine Cp 13 76 [10, 12] ?_; refine Cc 14 77 [7, 13] (fun y w h _ => hbk _) ?_; refine Cp 15 78 [5, 14] ?_; refine Cp 16 14 [15] ?_; refine Ce (fun y u1 hB hf => ?_); have HS1 := Zab hB; clear hB hf; go_simp; have hB3 := HS1.out; clear HS1; generalize u1 = v6 at hB3 ⊢; refine Zbh (by assumption) ?_; have HB6 := Zab (Zac HBZ.out hB3); have HA6 := Zab (HAX.out.later hB3); clear hw1 hw2 hw3 hw4 hw5 xt xw xc hgr hbk hB3; generalize 2 * C.a i 5 * C.a i 10 + bk (raI C i) (moI C i + puI C i) = mr at *; obtain ⟨⟨m0, m1⟩, x0, x1⟩ := HM.out; have rn := ((HX.out.later HB6.out).cell (Zfk R)).1; have rx := ((HX.out.later HB6.out).cell (rp_cell_x R hi)).1; have xl := (HA6.out.cell (j := 0) rfl).1; have xh := (HA6.out.cell (j := 1) rfl).1
         have hw1 : IntKind.i64.wrap (C.a i 0 - mr) = C.a i 0 - mr := by rw [Zas] <;> omega
         have hw2 : IntKind.i64.wrap (C.a i 1 + mr) = C.a i 1 + mr := by rw [Zas] <;> omega
         have hb2 := Zcr (R.x i) (C.a i 0 - mr) (C.a i 1 + mr); rw [Zbo ⟨x0, x1⟩] at hb2
         go_upto_region 16 with fail; refine Cs [79, 80, 81, 82, 83, 84, 85, 86, 87, 88, 89, 90, 91, 92, 93, 94, 95, 96, 97, 98] ?_; refine Cp 0 79 [] ?_; refine Cq (fun _ h => cell_later h rn) 1 80 [0] ?_; refine Cc 2 81 [1] (fun y w h _ => Zgp (hb1 _)) ?_; refine Cp 3 82 [2] ?_; refine Cp 4 83 [3] ?_; refine Cp 5 84 [4] ?_ (hw := fun y w hF => Zaj (congrArg some hF.1)); refine Cp 6 85 [4] ?_ (hw := fun y w hF => Zaj (congrArg some hF.1)); refine Cp 7 86 [6, 5, 4] ?_ (hw := fun y w hF => Zaj (congrArg some hF.2.2.1)); refine Cq (fun _ h => cell_later h rx) 8 87 [7, 4] ?_ (hw := fun y w hF => Zaj (congrArg some hF.2.1)); refine Cp 9 88 [4] ?_ (hw := fun y w hF => Zaj (congrArg some hF.1)); refine Cq (fun _ h => cell_later h xl) 10 89 [9, 4] ?_ (hw := fun y w hF => Zaj (congrArg some hF.2.1)); refine Cp 11 90 [4] ?_ (hw := fun y w hF => Zaj (congrArg some hF.1)); refine Cp 12 91 [10, 11, 4] ?_ (hw := fun y w hF => Zaj (congrArg some hF.2.2.1)); refine Cp 13 92 [4] ?_ (hw := fun y w hF => Zaj (congrArg some hF.1)); refine Cq (fun _ h => cell_later h xh) 14 93 [13, 4] ?_ (hw := fun y w hF => Zaj (congrArg some hF.2.1)); refine Cp 15 94 [4] ?_ (hw := fun y w hF => Zaj (congrArg some hF.1)); refine Cp 16 95 [14, 15, 4] ?_ (hw := fun y w hF => Zaj (congrArg some hF.2.2.1)); refine Cc 17 96 [8, 12, 16, 4] (fun y w h _ => Zgp (hb2 _)) ?_ (hw := fun y w hF => Zaj (congrArg some hF.2.2.2.1)); refine Cp 18 97 [17, 4] ?_ (hw := fun y w hF => Zaj (congrArg some hF.2.1)); refine Cp 19 98 [4, 18] ?_; refine Ce (fun y u1 hB hf => ?_); have HS1 := Zab hB; clear hB hf; go_simp; have hB2 := HS1.out; clear HS1; generalize u1 = v7 at hB2 ⊢; refine Zbh (by assumption) ?_; go_wp2_with fail; go_roundw
         case rel => exact ⟨i + 1, by omega, by go_num, Zac HB6.out hB2⟩
         case measure => simp [intOf]; omega
       · obtain ⟨x0, x1⟩ := f1 hax; have HB6 := Zab HBZ.out; clear f1 f2 f3 hfi gk ar rg hbm hbn htw htn; have rn := ((HX.out.later HBZ.out).cell (Zfk R)).1; have rx := ((HX.out.later HBZ.out).cell (rp_cell_x R hi)).1; have xl := (HAX.out.cell (j := 0) rfl).1; have xh := (HAX.out.cell (j := 1) rfl).1
         have hw1 : IntKind.i64.wrap (C.a i 0) = C.a i 0 := by rw [Zas] <;> omega
         have hw2 : IntKind.i64.wrap (C.a i 1) = C.a i 1 := by rw [Zas] <;> omega
         have hb2 := Zcr (R.x i) (C.a i 0) (C.a i 1); rw [Zbo ⟨x0, x1⟩] at hb2
         go_upto_region 16 with fail; refine Cs [79, 80, 81, 82, 83, 84, 85, 86, 87, 88, 89, 90, 91, 92, 93, 94, 95, 96, 97, 98] ?_; refine Cp 0 79 [] ?_; refine Cq (fun _ h => cell_later h rn) 1 80 [0] ?_; refine Cc 2 81 [1] (fun y w h _ => Zgp (hb1 _)) ?_; refine Cp 3 82 [2] ?_; refine Cp 4 83 [3] ?_; refine Cp 5 84 [4] ?_ (hw := fun y w hF => Zaj (congrArg some hF.1)); refine Cp 6 85 [4] ?_ (hw := fun y w hF => Zaj (congrArg some hF.1)); refine Cp 7 86 [6, 5, 4] ?_ (hw := fun y w hF => Zaj (congrArg some hF.2.2.1)); refine Cq (fun _ h => cell_later h rx) 8 87 [7, 4] ?_ (hw := fun y w hF => Zaj (congrArg some hF.2.1)); refine Cp 9 88 [4] ?_ (hw := fun y w hF => Zaj (congrArg some hF.1)); refine Cq (fun _ h => cell_later h xl) 10 89 [9, 4] ?_ (hw := fun y w hF => Zaj (congrArg some hF.2.1)); refine Cp 11 90 [4] ?_ (hw := fun y w hF => Zaj (congrArg some hF.1)); refine Cp 12 91 [10, 11, 4] ?_ (hw := fun y w hF => Zaj (congrArg some hF.2.2.1)); refine Cp 13 92 [4] ?_ (hw := fun y w hF => Zaj (congrArg some hF.1)); refine Cq (fun _ h => cell_later h xh) 14 93 [13, 4] ?_ (hw := fun y w hF => Zaj (congrArg some hF.2.1)); refine Cp 15 94 [4] ?_ (hw := fun y w hF => Zaj (congrArg some hF.1)); refine Cp 16 95 [14, 15, 4] ?_ (hw := fun y w hF => Zaj (congrArg some hF.2.2.1)); refine Cc 17 96 [8, 12, 16, 4] (fun y w h _ => Zgp (hb2 _)) ?_ (hw := fun y w hF => Zaj (congrArg some hF.2.2.2.1)); refine Cp 18 97 [17, 4] ?_ (hw := fun y w hF => Zaj (congrArg some hF.2.1)); refine Cp 19 98 [4, 18] ?_; refine Ce (fun y u1 hB hf => ?_); have HS1 := Zab hB; clear hB hf; go_simp; have hB2 := HS1.out; clear HS1; generalize u1 = v7 at hB2 ⊢; refine Zbh (by assumption) ?_; go_wp2_with fail; go_roundw
         case rel => exact ⟨i + 1, by omega, by go_num, Zac HB6.out hB2⟩
         case measure => simp [intOf]; omega
     · obtain rfl : i = 2 := by omega
       have HRZ := Zab (HRP.out.later hbz); have HKZ := Zab (HKK.out.later hbz); have HBZ := Zab (Zac HBW.out hbz); clear hbz; go_wp2_with fail; exact ⟨⟨j + 1, by omega, by go_num, HRZ.out, HKZ.out, HBZ.out⟩, by simp [intOf]; omega⟩
  · have hn4 : ¬ (j : Int) < (ss.length : Int) := by omega
    have HBZ := Zab hbw; clear hrp hkk hbw; go_wp2_with fail; go_ret; exact ⟨rfl, HBZ.out⟩
end Go.Proofs.YtnfdfiholcelaaaGreatDoor
