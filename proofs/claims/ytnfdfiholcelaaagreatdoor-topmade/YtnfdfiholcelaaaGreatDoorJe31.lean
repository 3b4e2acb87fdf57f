
import Derived.Test.YtnfdfiholcelaaaGreatDoorJe00
import Derived.Test.YtnfdfiholcelaaaGreatDoorJe23
import Derived.Test.YtnfdfiholcelaaaGreatDoorJe24
import Derived.Test.YtnfdfiholcelaaaGreatDoorJe27
import Derived.Test.YtnfdfiholcelaaaGreatDoorJe30
set_option maxRecDepth 100000
set_option maxHeartbeats 20000000
namespace Go.Proofs.YtnfdfiholcelaaaGreatDoor
open Go.RowKit Plain Tryz
theorem frame_any (B : Nat) (C : CR) (pf : Option Addr) (cf : Nat) (l : List Ft) (now : Int) (q : FT) (s : Stp) (w : World) (hk : Blk 173 w B (flL C pf l.length cf q.S now q.x q.at')) (hf : Fts w pf l) (hl : l.length ≤ 1000) (hnow : 0 ≤ now ∧ now ≤ 1000)
 (hs : SA C s) (hx : ∀ i, i < 2 → -10000000 ≤ q.x i ∧ q.x i ≤ 10000000)
 (ha : ∀ i, i < 2 → ∀ k, k < 4 → -1000 ≤ q.at' i k ∧ q.at' i k ≤ 1000) (hg : GV w) (hcr : CrL w C) (hv : SvL w q.S q.sv) (h0 : stE C q.S q.sv = 0) (hnf : l ≠ [] → ∀ g o, pf = some (Ad g o) → g ≠ B) :
 Calls prog 81 #[.pointer (some (Ad B 0)), .agg (stpL s).toArray] w fun e w' => e = .returned .nilIface ∧ ∃ T, SaS T (stpF C l now q s).S ∧ Blk 173 w' B (flL C pf l.length cf T (now + 1) (stpF C l now q s).x (stpF C l now q s).at') ∧ SvL w' T (stpF C l now q s).sv ∧ SpN T w.heap.size ∧ Oth w w' B := by
 have hc0 := (Zax h0).1
 have hN : ∀ i, i < 2 → 0 ≤ C.a i 2 ∧ C.a i 2 ≤ 1000 := fun i hi => by have g := cr_gok hc0 hi; have := g.n0; have := g.n1; omega
 have h4 : ∀ i, i < 2 → 2 ≤ C.a i 4 ∧ C.a i 4 ≤ 4 := fun i hi => (Zdi hc0 hi).1; have hz := hs.z; have hkk := hs.k
 have h64 : (saR C l now q.x q.at' s).length ≤ 64 := by
  have a := axU_len C l now q.x q.at' s (fun i hi => (h4 i hi).2) 2 (by omega); have b := spR_len l now s.v 3
  unfold saR
  rw [List.length_append, List.length_append]
  have : (if s.g then [((40 : Int), (3 : Int), (3 : Int), (1 : Int))] else []).length ≤ 1 := by split <;> simp
  omega
 have HTM := Zab (told_may (l := l) (now := now) (s := s) h0); have HPU : Hid (∀ i, i < 2 → -1000 ≤ s.p i ∧ s.p i ≤ 1000) := Zab (fun i hi => by have := hs.p i hi; have := (Zdi hc0 hi).2; omega); have HXX := Zab hx; have HNF := Zab hnf; have HH0 := Zab h0; have HFT := Zab (fun u (h : Oth w u B) => h.fts hnf hf); have HBK := Zab hk; have HQB := Zab (show w.heap.size ≠ B from Nat.ne_of_gt hk.lt); have HBL := Zab hk.lt; obtain ⟨now0, now1⟩ := hnow; have HM := Zab (saR_may (C := C) (l := l) (now := now) (x := q.x) (at' := q.at') (s := s) (fun i hi => (h4 i hi).2) ha hkk); have HSA := Zab (fun u (h : Below w.heap.size w u) => said_any B C pf cf l q.S now q.x q.at' s u (hk.later h) (hf.later h) hl hN h4 hz hx); have HPO := Zab (saR_pos C l now q.x q.at' s); have HB0 := Zab (Zaa w (.cells (stpL s).toArray 78)); have HP := Zab (Blk.new w 78 (stpL s)); have HCR := Zab (fun u (h : Below w.heap.size w u) => (fl_cr C pf l.length cf q.S now q.x q.at') ▸ (hk.later h).sub 0 32); have HSR := Zab (fun u (h : Below w.heap.size w u) => (fl_st C pf l.length cf q.S now q.x q.at') ▸ (hk.later h).sub 33 30); have HST := Zab (fun u (h : Below w.heap.size w u) a c (hU : U32s u a ((saR C l now q.x q.at' s).map pk1)) => step_f C q.S q.sv (saR C l now q.x q.at' s) HM.out a c u (hg.later h) (hcr.later h) (hv.later h) hU h64 h0); have HS4x := Zab h4; clear hk hf hN h4 hz hx ha hkk hs hnf hc0
 go_enter func81, ntmps81
 go_upto_region 1 with fail; generalize w.alloc (.cells (stpL s).toArray 78) = v0 at *; generalize w.heap.size = QS at HP HQB ⊢; have HPR := Zab (HP.out.range)
 go_upto_region 4 with (first
  | (refine Lq 78 _ rfl ?_; refine wpList_load_mid rfl 78 (.tmp 3) rfl QS 0 rfl (stpL s) _ HPR.out underlying78 rfl (by rw [infoStp]; rfl) ?_)
  | (go_at_call 129; refine (HSA.out _ HB0.out).mono ?_; rintro e v1 ⟨⟨g, c, rfl, hrd⟩, hb⟩; have HRD := Zab hrd; replace HB0 := Zab (Zac HB0.out hb); replace HP := Zab (HP.out.later hb); clear hb hrd)
  | (go_at_call 113; refine (packAll_ok _ _ _ HPO.out (by omega) (fun k hk => HM.out _ (rat_mem hk)) _ HRD.out).mono ?_; rintro e v2 ⟨⟨g2, c2, rfl, hg2, hu⟩, hb⟩; have HU := Zab hu; have HG2 := Zab hg2; replace HB0 := Zab (Zac HB0.out hb); replace HP := Zab (HP.out.later hb); clear hb hu hg2))
 obtain ⟨rs, hrs⟩ : ∃ rs, rs = rdA (stpF C l now q s).sv (stpF C l now q s).S.n := ⟨_, rfl⟩; have HU := fpkU_map _ ▸ HU.out; have HLN : Hid (∀ i, i < 2 → 1 ≤ ((stpF C l now q s).sv i).length) := Zab (fun i hi => by have e : (stpF C l now q s).sv i = vS3 C q.S (wsF C l now q s) q.sv i := rfl; rw [e, fv3_len _ hi]; have := (Zci h0 hi).1; have := HS4x.out i hi; omega); have HLR : Hid (1 ≤ (rs.map pk1).length) := Zab (by rw [List.length_map, hrs, rdA_len]; omega); replace HCR := Zab (HCR.out v2 HB0.out); replace HSR := Zab (HSR.out v2 HB0.out)
 have HS4 : Hid (∀ u, Below v2.heap.size v2 u → Calls prog 16 #[.agg (crL C).toArray, .agg (stL q.S).toArray, .slice (some (Ad g2 0)) (saR C l now q.x q.at' s).length c2] u fun e w' => (∃ T g c, e = .returned (.tuple #[.agg (stL T).toArray, .slice (some (Ad g 0)) rs.length c, .nilIface]) ∧ (T.bk = (stpF C l now q s).S.bk ∧ T.hd = (stpF C l now q s).S.hd ∧ T.n = (stpF C l now q s).S.n) ∧ SvL w' T (stpF C l now q s).sv ∧ U32s w' (some (Ad g 0)) (rs.map pk1) ∧ ∀ i, i < 2 → ∃ G, T.sp i = some (Ad G 0) ∧ v2.heap.size ≤ G) ∧ Below u.heap.size u w') := Zab (fun u h => by
  subst hrs; refine (HST.out u (Zac HB0.out h) _ _ (HU.later h)).mono ?_; rintro e w' ⟨⟨T, g, c, h1, h2, h3, h4, h5⟩, hb⟩
  exact ⟨⟨T, g, c, h1, h2, h3, h4, fun i hi => (h5 i hi).imp fun G hG => ⟨hG.1, Nat.le_trans h.size hG.2⟩⟩, hb⟩)
 clear HST; have HRS := Zab hrs; have HLX : Hid (rs.length ≤ 64) := Zab (by rw [hrs, rdA_len]; have st := stpF_st (l := l) (now := now) (s := s) HH0.out; have e0 := (Zci st (i := 0) (by omega)).1; have e1 := (Zci st (i := 1) (by omega)).1; have := HS4x.out 0 (by omega); have := HS4x.out 1 (by omega); omega); clear hrs hv hcr hg h0 h64 HM HSA HPO; refine Cs [22, 23, 24, 25, 26, 27, 28, 29, 30, 31, 21, 32, 33, 34, 7] ?_; refine Cp 0 22 [] ?_; refine Cp 1 23 [0] ?_; refine Cp 2 24 [1] ?_; refine Cl (x := .tmp 24) 3 25 [2] (fun y w hF u hSw => ⟨Zae HCR.out hSw, hF.1⟩) underlying29 Zam ?_; refine Cp 4 26 [] ?_; refine Cp 5 27 [4] ?_; refine Cp 6 28 [5] ?_; refine Cl (x := .tmp 28) 7 29 [6] (fun y w hF u hSw => ⟨Zae HSR.out hSw, hF.1⟩) underlying41 Zce ?_; refine Cp 8 30 [] ?_; refine Cd 9 31 [3, 7, 8] (fun v u => ∃ T g c, v = .tuple #[.agg (stL T).toArray, .slice (some (Ad g 0)) rs.length c, .nilIface] ∧ (T.bk = (stpF C l now q s).S.bk ∧ T.hd = (stpF C l now q s).S.hd ∧ T.n = (stpF C l now q s).S.n) ∧ SvL u T (stpF C l now q s).sv ∧ U32s u (some (Ad g 0)) (rs.map pk1) ∧ ∀ i, i < 2 → ∃ G, T.sp i = some (Ad G 0) ∧ v2.heap.size ≤ G) (fun y w h _ => (HS4.out _ h).mono (by rintro e w' ⟨⟨T, g, c, rfl, h1, h2, h3, h4⟩, hb⟩; exact ⟨_, rfl, ⟨T, g, c, rfl, h1, h2, h3, h4⟩, hb⟩)) (fun _ _ _ ⟨T, g, c, e, h1, h2, h3, h4⟩ hb => ⟨T, g, c, e, h1, h2.later hb, h3.later hb, h4⟩) ?_; refine Cu (fun y => y 31) 10 21 [9] ?_ (hy := fun y w _ u => by go_simp); refine Cu (fun y => tg (y 21) 0) 11 32 [10, 9] ?_ (hy := fun y w hF u => by obtain ⟨h10, ⟨T, g, c, e, -⟩, -⟩ := hF; simp only [show y 21 = _ from h10.trans e]; go_simp; rfl); refine Cu (fun y => tg (y 21) 1) 12 33 [10, 9] ?_ (hy := fun y w hF u => by obtain ⟨h10, ⟨T, g, c, e, -⟩, -⟩ := hF; simp only [show y 21 = _ from h10.trans e]; go_simp; rfl); refine Cu (fun y => tg (y 21) 2) 13 34 [10, 9] ?_ (hy := fun y w hF u => by obtain ⟨h10, ⟨T, g, c, e, -⟩, -⟩ := hF; simp only [show y 21 = _ from h10.trans e]; go_simp; rfl); refine Ca 14 7 ?_; refine Cn 3 18 [15, 16, 17] (fun y u1 hB hf => ?_); obtain ⟨XA, e, hA⟩ := hf.1; have HAA1 : Hid (NB _ _ _ XA [Vi 0, Vi 0, Vi 0, .bool false, .bool false, .bool false, Vi 0, Vi 0, Vi 0, Vi 0, .bool false, .bool false, .bool false, Vi 0, Vi 0, Vi 0, Vi 0, .bool false, .bool false, .bool false, Vi 0, .slice none 0 0, .slice none 0 0, Vi 0, Vi 0, Vi 0, Vi 0, Vi 0, Vi 0, Vi 0]) := Zab hA; (try simp only [e]); clear e hA
 obtain ⟨T, g4, c4, e, hT, hSV, hU4, hG4⟩ := hf.2.2.2.2.2.1; simp only [e, tg]; have HS1 := Zab hB; clear hB hf; have HZS : Hid (Blk 41 u1 XA zSt) := Zab HAA1.out.1; have HXA := Zab (NB.le HAA1.out); clear HAA1; refine Ra 15 (fun K hK => ?_); rw [if_pos (by rfl)]; refine Zao 41 (.tmp 7) (.tmp 32) rfl XA 0 (stL T).toArray rfl rfl (HZS.out.there0 T) (stL_info T) (stL_one T) rfl ?_; have HS2 := Zab (Zah (stL T) 0 u1 HS1.out HXA.out); have HTB := Zab (HZS.out.setSt T); have HO2 := (Oth.refl u1 XA).setCells (stL T) 0 u1; have HSV := Zab (HO2.svl (fun i hi g o e => by obtain ⟨G, e2, _⟩ := hG4 i hi; rw [e2] at e; cases e; exact zst_vls HZS.out (by rw [← e2]; exact (hSV i hi).2.2) (HLN.out i hi)) hSV); have HU5 := Zab (HO2.u32 (fun g o e => by cases e; exact zst_u32 HZS.out hU4 HLR.out) hU4); refine hK.out _ _ HS2.out (fun _ => ?_); clear hK K; refine Tq 16 HS2.out ?_; simp only [Act.put, Ly]; refine Tq 17 HS2.out ?_; simp only [Act.put, Ly]; refine wpAnyH_done (by kernel_rfl) ?_ _; go_simp; generalize hU : u1.setCells XA 0 (stL T) = v3 at *; clear hU HO2 hSV hU4 HZS HS1; refine Zbd (by assumption) ?_; have HB3 := Zab (Zac HB0.out HS2.out); replace HP := Zab (HP.out.later HS2.out)
 have HG7 : Hid (∀ u, Below v3.heap.size v3 u → Calls prog 100 #[.slice (some (Ad g4 0)) rs.length c4] u fun e w' => (∃ ta tc, e = .returned (.tuple #[.slice ta (gat rdOf (rs.map pk1)).length tc, Vi (bads rdOf (rs.map pk1)), .nilIface]) ∧ Rds w' ta (gat rdOf (rs.map pk1)) ∧ ∀ g, ta = some (Ad g 0) → g ≠ B) ∧ Below u.heap.size u w') := Zab (fun u h => by
  have k := gather_any (some (Ad g4 0)) c4 (rs.map pk1) (by rw [List.length_map]; exact HLX.out) u (wds_of (HRS.out ▸ HTM.out) (HU5.out.later h)); rw [List.length_map] at k; refine k.mono ?_; rintro e w' ⟨⟨v, rfl, ho⟩, hb⟩; obtain ⟨ta, tc, rfl, hr⟩ := ho.rds
  exact ⟨⟨ta, tc, rfl, hr, own_ne ho (Nat.lt_of_lt_of_le (Nat.lt_of_lt_of_le HBL.out HB3.out.size) h.size)⟩, hb⟩)
 have HSP : Hid (SpN T w.heap.size) := Zab (fun i hi => (hG4 i hi).imp fun G hG => ⟨hG.1, Nat.le_trans HB0.out.size hG.2⟩); have HSN := Zab (HSP.out.svn HBL.out); have HXB : Hid (XA ≠ B) := Zab (by have := HB0.out.size; have := HBL.out; have := HXA.out; omega); have HT := Zab hT; clear HS2 HB0 hG4 HU5 HLX HU HTM hT HXA HCR HSR HS4 HLN HLR HRD HG2 HPR
 go_upto_region 10 with (go_at_call 100; refine (HG7.out _ (Below.refl _ _)).mono ?_; rintro e v4 ⟨⟨ta, tc, rfl, hr, hne⟩, hb⟩; have HR := Zab hr; have HNR := Zab hne; replace HB3 := Zab (Zac HB3.out hb); replace HP := Zab (HP.out.later hb); replace HTB := Zab (HTB.out.later hb); replace HSV := Zab (HSV.out.later hb); clear hb hr hne); have HFL := Zab (HBK.out.later HB3.out); have HTH := Zab (HFL.out.there (o := 33) (n := (stL T).toArray.size) (Nat.le_of_ble_eq_true rfl))
 go_upto_region 12 with (first
  | (refine Lq 41 _ rfl ?_; refine wpList_load_mid rfl 41 (.tmp 7) rfl XA 0 rfl (stL T) _ HTB.out.range underlying41 rfl (stL_infoL T) ?_)
  | (refine Sq 41 _ _ rfl ?_; refine wpList_store_mid rfl 41 (.tmp 50) (.tmp 48) rfl B 33 (stL T).toArray rfl rfl HTH.out (stL_info T) (stL_one T) ?_))
 have HF5 := Blk.setCells (stL T) 33 v4 _ HFL.out; rw [fl_putSt] at HF5; replace HFL := Zab HF5; have HO5 := Zab (Oth.setCells (stL T) 33 v4 (Oth.below (B := B) HB3.out)); have HO4 := Oth.setCells (stL T) 33 v4 (Oth.refl v4 B); replace HP := Zab (HO4.blk HQB.out HP.out); replace HSV := Zab (HO4.svl HSN.out HSV.out); replace HR := Zab (HO4.rds HNR.out HR.out); have HRL : Hid ((.slice ta (gat rdOf (rs.map pk1)).length tc : Value) = .slice ta (gat rdOf ((rdA (stpF C l now q s).sv (stpF C l now q s).S.n).map pk1)).length tc) := Zab (by rw [HRS.out]); rw [HRS.out] at HR; clear HF5 HO4 HTH HTB HB3 HBK HG7 HXB; generalize World.setCells _ B 33 _ = v5 at *
 have HMV : Hid (∀ i, i < 2 → ∀ u, Blk 173 u B (flL C pf l.length cf T now (xkF q (stpF C l now q s) i) (akF q (stpF C l now q s) i)) → Oth v5 u B → Calls prog 130 #[.pointer (some (Ad B 0)), Vi i, .slice ta (gat rdOf (rs.map pk1)).length tc, Vi (s.p i)] u fun e w' => e = .returned (.tuple #[]) ∧ Blk 173 w' B (flL C pf l.length cf T now (xkF q (stpF C l now q s) (i + 1)) (akF q (stpF C l now q s) (i + 1))) ∧ Oth u w' B) := Zab (fun i hi u hb ho => by
  rw [HRS.out]
  exact move_f B pf cf T hi ta tc HH0.out u hb (HFT.out u (HO5.out.trans ho)) hl (ho.rds HNR.out HR.out) HNR.out HNF.out (HXX.out i hi) (HPU.out i hi))
 rw [← xkF_zero q (stpF C l now q s), ← akF_zero q (stpF C l now q s)] at HFL; clear HRL HR HPU HXX HNF HH0 HFT HBL HNR
 go_loopw [51] (fun ix wr => ∃ i : Nat, i ≤ 2 ∧ ix = Vi i ∧ Blk 173 wr B (flL C pf l.length cf T now (xkF q (stpF C l now q s) i) (akF q (stpF C l now q s) i)) ∧ Oth v5 wr B) (fun ix _ => 2 - (intOf ix).toNat)
 case atStart => exact ⟨0, by omega, rfl, HFL.out, Oth.refl _ _⟩
 case round =>
  clear HFL; obtain ⟨i, hi2, rfl, hb, ho⟩ := hrel
  by_cases hi : i < 2
  · have i0 : (0 : Int) ≤ (i : Int) := by omega
    have i1 : (i : Int) < 2 := by omega
    have ep := ((ho.blk HQB.out HP.out).cell (stp_p s hi)).1; have hmv := HMV.out i hi wr hb ho; have HO := Zab ho; clear hb ho
    go_wp2_with (go_at_call 130; refine hmv.mono ?_; rintro e v6 ⟨rfl, hb, ho6⟩; have HB6 := Zab hb; have HO6 := Zab (HO.out.trans ho6); clear hb ho6 ep hmv); go_roundw
    case rel => exact ⟨i + 1, by omega, by go_num, HB6.out, HO6.out⟩
    case measure => simp [intOf]; omega
  · obtain rfl : i = 2 := by omega
    rw [fl_two] at hb; have en := hb.cell (fl_now _ _ _ _ _ _ _ _); have en1 := en.1; have en2 := en.2; have HBE := hb.set 63 (Vi (now + 1)); rw [fl_setNow] at HBE; have HBZ := Zab HBE; have HO := Zab ho; clear hb ho en HBE; go_wp2_with fail; go_ret; exact ⟨rfl, T, HT.out, HBZ.out, HO.out.set.svl HSN.out HSV.out, HSP.out, (HO5.out.trans HO.out).set⟩
theorem Zch {x lo hi : Int} (h0 : lo ≤ x) (h1 : x ≤ hi) (w : World) : Calls prog 76 #[Vi x, Vi lo, Vi hi] w fun e w' => e = .returned (.bool true) ∧ Below w.heap.size w w' := by
 have h := Zca x lo hi w; rw [Zbz h0 h1] at h; exact h
structure FtOK (C : CR) (f : Ft) : Prop where
 a : 0 ≤ f.1 ∧ f.1 ≤ 300
 k : 0 ≤ f.2.1 ∧ f.2.1 ≤ 4
 x : 0 ≤ f.2.2.1 ∧ f.2.2.1 ≤ 2
 u : 0 ≤ f.2.2.2.1
 ch : f.2.1 ≠ 4 → f.2.2.2.1 ≤ 2
 su : f.2.1 = 4 → f.2.2.1 ≤ 1 ∧ f.2.2.2.1 < C.a f.2.2.1.toNat 4
def unI (C : CR) (fk fx : Int) : Int := if fk = 4 then C.a fx.toNat 4 else 3
theorem cr_su (C : CR) {i : Nat} (hi : i < 2) : (crL C)[i * 15 + 4]? = some (Vi (C.a i 4)) := by
 rcases (show i = 0 ∨ i = 1 by omega) with rfl | rfl <;> rfl
theorem units_ok (C : CR) (fa fk fx fu fi : Int) (hx : fk = 4 → (0 ≤ fx ∧ fx ≤ 1) ∧ 0 ≤ C.a fx.toNat 4) (w : World) : Calls prog 77 #[.agg (crL C).toArray, .agg #[Vi fa, Vi fk, Vi fx, Vi fu, Vi fi]] w fun e w' => e = .returned (Vi (unI C fk fx)) ∧ Below w.heap.size w w' := by
 have HK := Zab ((Blk.new w 29 (crL C)).later (Zaa (w.alloc (.cells (crL C).toArray 29)) (.cells #[Vi fa, Vi fk, Vi fx, Vi fu, Vi fi] 73))); have HF : Hid (Blk 73 ((w.alloc (.cells (crL C).toArray 29)).alloc (.cells #[Vi fa, Vi fk, Vi fx, Vi fu, Vi fi] 73)) (w.heap.size + 1) [Vi fa, Vi fk, Vi fx, Vi fu, Vi fi]) := Zab (by have h := Blk.new (w.alloc (.cells (crL C).toArray 29)) 73 [Vi fa, Vi fk, Vi fx, Vi fu, Vi fi]; rw [World.size_alloc] at h; exact h); have HB0 := Zab (Zac (Zaa w (.cells (crL C).toArray 29)) (Zaa (w.alloc (.cells (crL C).toArray 29)) (.cells #[Vi fa, Vi fk, Vi fx, Vi fu, Vi fi] 73)))
 go_enter func77, ntmps77
 go_upto_region 1 with fail; generalize (w.alloc (.cells (crL C).toArray 29)).alloc (.cells #[Vi fa, Vi fk, Vi fx, Vi fu, Vi fi] 73) = v0 at *; have e1 := (HF.out.cell (j := 1) rfl).1; have e2 := (HF.out.cell (j := 2) rfl).1
 by_cases hk : fk = 4
 · obtain ⟨⟨x0, x1⟩, hc⟩ := hx hk; obtain ⟨i, rfl⟩ : ∃ i : Nat, fx = i := ⟨fx.toNat, by omega⟩
   have i0 : (0 : Int) ≤ (i : Int) := by omega
   have i1 : (i : Int) < 2 := by omega
   have hne : ¬ (i : Int) = 2 := by omega
   have ea := (HK.out.cell (cr_su C (show i < 2 by omega))).1; have HU : Hid (unI C fk i = mxL (C.a i 4) 0) := Zab (by unfold unI mxL; rw [if_pos hk, Int.toNat_natCast] at *; split <;> omega); have hmx := fun ts t => lwrun_max2 ts t (C.a i 4) 0; subst hk; clear hc hx; go_wp2_with fail; go_ret; exact ⟨by rw [HU.out]; rfl, HB0.out⟩
 · have HU : Hid (unI C fk fx = 3) := Zab (if_neg hk); clear hx; go_wp2_with fail; go_ret; exact ⟨by rw [HU.out]; rfl, HB0.out⟩
theorem checkFault_ok (C : CR) (f : Ft) (hf : FtOK C f) (h4 : ∀ i, i < 2 → 2 ≤ C.a i 4 ∧ C.a i 4 ≤ 4) (w : World) : Calls prog 27 #[.agg (crL C).toArray, .agg (ftL f).toArray] w fun e w' => e = .returned .nilIface ∧ Below w.heap.size w w' := by
 obtain ⟨fa, fk, fx, fu, fi⟩ := f; have hi1 := Zch hf.a.1 hf.a.2; have hi2 := Zch hf.k.1 hf.k.2; have hi3 := Zch hf.x.1 hf.x.2
 have hub : 1 ≤ unI C fk fx ∧ unI C fk fx ≤ 4 ∧ fu ≤ unI C fk fx - 1 := by
  unfold unI
  split
  · rename_i e
    have := (hf.su e); have := h4 fx.toNat (by have := this.1; dsimp only at this; omega); have := (hf.su e).2
    dsimp only at this
    omega
  · rename_i e
    have := hf.ch e
    dsimp only at this
    omega
 have hwr : IntKind.i64.wrap (unI C fk fx - 1) = unI C fk fx - 1 := by rw [Zbv] <;> omega
 have hi4 := Zch (x := fu) (lo := 0) (hi := unI C fk fx - 1) hf.u hub.2.2; have hun := units_ok C fa fk fx fu fi (fun e => by have h1 := (hf.su e).1; have h0 := hf.x.1; dsimp only at h1 h0; have := h4 fx.toNat (by omega); omega); obtain ⟨u0, u1, _⟩ := hub; generalize unI C fk fx = un at *; clear hf h4
 dsimp only at hi1 hi2 hi3 hi4
 change Calls prog 27 #[.agg (crL C).toArray, .agg #[Vi fa, Vi fk, Vi fx, Vi fu, Vi fi]] w _
 have HK := Zab ((Blk.new w 29 (crL C)).later (Zaa (w.alloc (.cells (crL C).toArray 29)) (.cells #[Vi fa, Vi fk, Vi fx, Vi fu, Vi fi] 73))); have HF : Hid (Blk 73 ((w.alloc (.cells (crL C).toArray 29)).alloc (.cells #[Vi fa, Vi fk, Vi fx, Vi fu, Vi fi] 73)) (w.heap.size + 1) [Vi fa, Vi fk, Vi fx, Vi fu, Vi fi]) := Zab (by have h := Blk.new (w.alloc (.cells (crL C).toArray 29)) 73 [Vi fa, Vi fk, Vi fx, Vi fu, Vi fi]; rw [World.size_alloc] at h; exact h); have HB0 := Zab (Zac (Zaa w (.cells (crL C).toArray 29)) (Zaa (w.alloc (.cells (crL C).toArray 29)) (.cells #[Vi fa, Vi fk, Vi fx, Vi fu, Vi fi] 73)))
 go_enter func27, ntmps27
 go_upto_region 1 with fail; generalize (w.alloc (.cells (crL C).toArray 29)).alloc (.cells #[Vi fa, Vi fk, Vi fx, Vi fu, Vi fi] 73) = v0 at *; have e0 := (HF.out.cell (j := 0) rfl).1; have e1 := (HF.out.cell (j := 1) rfl).1; have e2 := (HF.out.cell (j := 2) rfl).1
 go_upto_region 3 with (first
  | ((first | go_at_call_of 76 (Vi 300) | go_at_call_of 76 (Value.int .i64 300)); refine Sb (hi1 _) fun v1 hb => ?_; replace HF := Zab (HF.out.later hb); replace HK := Zab (HK.out.later hb); replace HB0 := Zab (Zac HB0.out hb); have e1 := (HF.out.cell (j := 1) rfl).1; have e2 := (HF.out.cell (j := 2) rfl).1; clear hb)
  | ((first | go_at_call_of 76 (Vi 4) | go_at_call_of 76 (Value.int .i64 4)); refine Sb (hi2 _) fun v1 hb => ?_; replace HF := Zab (HF.out.later hb); replace HK := Zab (HK.out.later hb); replace HB0 := Zab (Zac HB0.out hb); have e2 := (HF.out.cell (j := 2) rfl).1; clear hb)
  | ((first | go_at_call_of 76 (Vi 2) | go_at_call_of 76 (Value.int .i64 2)); refine Sb (hi3 _) fun v1 hb => ?_; replace HF := Zab (HF.out.later hb); replace HK := Zab (HK.out.later hb); replace HB0 := Zab (Zac HB0.out hb); clear hb))
 rename World => v3; have e3 := (HF.out.cell (j := 3) rfl).1; have HKR := Zab HK.out.range; have HFR := Zab HF.out.range; refine Cs [22, 23, 24, 25, 26, 27, 28, 29] ?_; refine Cp 0 22 [] ?_; refine Cq (fun _ h => cell_later h e3) 1 23 [0] ?_; refine Cl (x := .tmp 2) 2 24 [] (fun y w _ u hSw => ⟨Zae HKR.out hSw, rfl⟩) underlying29 Zam ?_; refine Cl (x := .tmp 3) 3 25 [] (fun y w _ u hSw => ⟨Zae HFR.out hSw, rfl⟩) underlying73 infoF5 ?_; refine Cc 4 26 [2, 3] (fun y w h _ => hun _) ?_; refine Cp 5 27 [4] ?_; refine Cc 6 28 [1, 5] (fun y w h _ => hi4 _) ?_; refine Cp 7 29 [6] ?_; refine Ce (fun y u1 hB hf => ?_); have HS1 := Zab hB; clear hB hf; go_simp; have hB := HS1.out; clear HS1; generalize u1 = v2 at hB ⊢; refine Zbd (by assumption) ?_; go_wp2_with fail; go_ret; exact ⟨rfl, Zac HB0.out hB⟩
theorem isPush_ok (C : CR) (i : Nat) (n : Int) (h : -C.a i 3 ≤ n ∧ n ≤ C.a i 3) (h3 : 0 ≤ C.a i 3 ∧ C.a i 3 ≤ 1000) (w : World) : Calls prog 78 #[.agg (axL C i).toArray, Vi n] w fun e w' => e = .returned (.bool true) ∧ Below w.heap.size w w' := by
 have hi := Zch h.1 h.2; obtain ⟨p0, p1⟩ := h3; have HA := Zab (Blk.new w 26 (axL C i)); have HB0 := Zab (Zaa w (.cells (axL C i).toArray 26)); clear h
 go_enter func78, ntmps78
 go_upto_region 1 with fail; generalize w.alloc (.cells (axL C i).toArray 26) = v0 at *; generalize w.heap.size = QA at HA ⊢; have e3 := (HA.out.cell (j := 3) rfl).1
 go_wp2_with (go_at_call 76; refine Sb (hi _) fun v1 hb => ?_; replace HB0 := Zab (Zac HB0.out hb); clear hb); go_ret; exact ⟨rfl, HB0.out⟩
theorem checkStep_ok (C : CR) (s : Stp) (hs : SA C s) (h3 : ∀ i, i < 2 → 0 ≤ C.a i 3 ∧ C.a i 3 ≤ 1000) (w : World) : Calls prog 29 #[.agg (crL C).toArray, .agg (stpL s).toArray] w fun e w' => e = .returned .nilIface ∧ Below w.heap.size w w' := by
 have HI1 := Zab (fun i (hi : i < 2) => Zch (hs.k i hi).1 (hs.k i hi).2); have HI2 := Zab (fun i (hi : i < 2) => isPush_ok C i (s.p i) (hs.p i hi) (h3 i hi)); have HI3 := Zab (fun i (hi : i < 2) => Zch (hs.z i hi).1 (hs.z i hi).2); have hi4 := Zch hs.v.1 hs.v.2; clear hs h3; have HK := Zab ((Blk.new w 29 (crL C)).later (Zaa (w.alloc (.cells (crL C).toArray 29)) (.cells #[Vi (s.k 0), Vi (s.k 1), Vi (s.p 0), Vi (s.p 1), Vi (s.z 0), Vi (s.z 1), Vi s.v, .bool s.g] 78))); have HF : Hid (Blk 78 ((w.alloc (.cells (crL C).toArray 29)).alloc (.cells #[Vi (s.k 0), Vi (s.k 1), Vi (s.p 0), Vi (s.p 1), Vi (s.z 0), Vi (s.z 1), Vi s.v, .bool s.g] 78)) (w.heap.size + 1) (stpL s)) := Zab (by have h := Blk.new (w.alloc (.cells (crL C).toArray 29)) 78 (stpL s); rw [World.size_alloc] at h; exact h); have HB0 := Zab (Zac (Zaa w (.cells (crL C).toArray 29)) (Zaa (w.alloc (.cells (crL C).toArray 29)) (.cells #[Vi (s.k 0), Vi (s.k 1), Vi (s.p 0), Vi (s.p 1), Vi (s.z 0), Vi (s.z 1), Vi s.v, .bool s.g] 78))); have hstp : (stpL s).toArray = #[Vi (s.k 0), Vi (s.k 1), Vi (s.p 0), Vi (s.p 1), Vi (s.z 0), Vi (s.z 1), Vi s.v, .bool s.g] := rfl; rw [hstp]; clear hstp
 go_enter func29, ntmps29
 go_upto_region 1 with fail; generalize (w.alloc (.cells (crL C).toArray 29)).alloc (.cells #[Vi (s.k 0), Vi (s.k 1), Vi (s.p 0), Vi (s.p 1), Vi (s.z 0), Vi (s.z 1), Vi s.v, .bool s.g] 78) = v0 at *; generalize w.heap.size + 1 = QS at HF ⊢; generalize hQK : w.heap.size = QK at HK ⊢; clear hQK; have HX30 := Zab (HK.out.sub 0 30); rw [cr_axes] at HX30
 go_upto_region 2 with (refine Lq 27 _ rfl ?_; refine wpList_load_mid rfl 27 (.tmp 7) rfl QK 0 rfl (axL C 0 ++ axL C 1) _ HX30.out underlying27 rfl Zgq ?_); clear HX30 HK
 go_loopw [9] (fun ix wr => ∃ i : Nat, i ≤ 2 ∧ ix = Vi i ∧ Blk 78 wr QS (stpL s) ∧ Below w.heap.size w wr) (fun ix _ => 2 - (intOf ix).toNat)
 case atStart => exact ⟨0, by omega, rfl, HF.out, HB0.out⟩
 case round =>
  clear HF HB0; obtain ⟨i, hi2, rfl, hf, hbw⟩ := hrel
  by_cases hi : i < 2
  · have hidx := axidx_i C hi
    have i0 : (0 : Int) ≤ (i : Int) := by omega
    have i1 : (i : Int) < 2 := by omega
    have hi1 := HI1.out i hi; have hi2' := HI2.out i hi; have hi3 := HI3.out i hi; have HF := Zab (hf.later (Zaa wr (.cells (axL C i).toArray 26))); have HBW := Zab (Zac hbw (Zaa wr (.cells (axL C i).toArray 26))); have HAX : Hid (Blk 26 (wr.alloc (.cells (axL C i).toArray 26)) wr.heap.size (axL C i)) := Zab (Blk.new wr _ _); clear hf hbw
    go_upto_region 4 with (refine Sq 26 _ _ rfl ?_; refine Zbh (c' := (axL C i).toArray) (.tmp 6) (.tmp 12) rfl rfl rfl rfl rfl rfl (Zau _ rfl) ?_); clear hidx; generalize wr.alloc (.cells (axL C i).toArray 26) = v1 at *; generalize wr.heap.size = QA at HAX ⊢; have xk := (HF.out.cell (stp_k s hi)).1; have xp := (HF.out.cell (stp_p s hi)).1; have xz := (HF.out.cell (stp_z s hi)).1; refine Cs [13, 14, 15, 16, 17, 18, 19, 20, 21, 22, 23, 24, 25, 26, 27, 28, 29, 30, 31, 32, 33, 34, 35] ?_; refine Cp 0 13 [] ?_; refine Cp 1 14 [] ?_; refine Cp 2 15 [1, 0] ?_; refine Cq (fun _ h => cell_later h xk) 3 16 [2] ?_; refine Cc 4 17 [3] (fun y w h _ => hi1 _) ?_; refine Cp 5 18 [4] ?_; refine Cp 6 19 [5] ?_; refine Cl (x := .tmp 6) 7 20 [6] (fun y w _ u hSw => ⟨Zae HAX.out.range hSw, rfl⟩) underlying26 Zaw ?_ (hw := fun y w hF => Zak (congrArg some hF.1)); refine Cp 8 21 [6] ?_ (hw := fun y w hF => Zak (congrArg some hF.1)); refine Cp 9 22 [6] ?_ (hw := fun y w hF => Zak (congrArg some hF.1)); refine Cp 10 23 [9, 8, 6] ?_ (hw := fun y w hF => Zak (congrArg some hF.2.2.1)); refine Cq (fun _ h => cell_later h xp) 11 24 [10, 6] ?_ (hw := fun y w hF => Zak (congrArg some hF.2.1)); refine Cc 12 25 [7, 11, 6] (fun y w h _ => hi2' _) ?_ (hw := fun y w hF => Zak (congrArg some hF.2.2.1)); refine Cp 13 26 [12, 6] ?_ (hw := fun y w hF => Zak (congrArg some hF.2.1)); refine Cp 14 27 [6, 13] ?_; refine Cp 15 28 [14] ?_; refine Cp 16 29 [15] ?_ (hw := fun y w hF => Zak (congrArg some hF.1)); refine Cp 17 30 [15] ?_ (hw := fun y w hF => Zak (congrArg some hF.1)); refine Cp 18 31 [17, 16, 15] ?_ (hw := fun y w hF => Zak (congrArg some hF.2.2.1)); refine Cq (fun _ h => cell_later h xz) 19 32 [18, 15] ?_ (hw := fun y w hF => Zak (congrArg some hF.2.1)); refine Cc 20 33 [19, 15] (fun y w h _ => hi3 _) ?_ (hw := fun y w hF => Zak (congrArg some hF.2.1)); refine Cp 21 34 [20, 15] ?_ (hw := fun y w hF => Zak (congrArg some hF.2.1)); refine Cp 22 35 [15, 21] ?_; refine Ce (fun y u1 hB hf => ?_); have HS1 := Zab hB; clear hB hf; go_simp; have hB := HS1.out; clear HS1; generalize u1 = v2 at hB ⊢; refine Zbd (by assumption) ?_; go_wp2_with fail; go_roundw
    case rel => exact ⟨i + 1, by omega, by go_num, HF.out.later hB, Zac HBW.out hB⟩
    case measure => simp [intOf]; omega
  · obtain rfl : i = 2 := by omega
    have ev := (hf.cell (j := 6) rfl).1; have HBW := Zab hbw; clear hf hbw
    go_wp2_with (go_at_call 76; refine Sb (hi4 _) fun v1 hb => ?_; replace HBW := Zab (Zac HBW.out hb); clear hb); go_ret; exact ⟨rfl, HBW.out⟩
def Sts (u : World) (a : Option Addr) (l : List Stp) : Prop := l = [] ∨ ∃ b off, a = some (Ad b off) ∧ ∀ k, k < l.length → u.rangeAt b (off + k * 8) (stpL (stAt l k))
theorem Sts.later {u u' : World} {a : Option Addr} {l : List Stp} (h : Sts u a l) (hb : Below u.heap.size u u') : Sts u' a l := by
 rcases h with h | ⟨b, off, h, hc⟩
 · exact .inl h
 · exact .inr ⟨b, off, h, fun k hk j v hj => cell_later hb (hc k hk j v hj)⟩
theorem Sts.at {u : World} {a : Option Addr} {l : List Stp} (h : Sts u a l) {k : Nat} (hk : k < l.length) : ∃ b off, a = some (Ad b off) ∧ u.rangeAt b (off + k * 8) (stpL (stAt l k)) := by
 rcases h with h | ⟨b, off, h, hc⟩
 · rw [h] at hk; simp at hk
 · exact ⟨b, off, h, hc k hk⟩
theorem Oth.sts {w u : World} {B : Nat} {a : Option Addr} {l : List Stp} (h : Oth w u B) (hn : l ≠ [] → ∀ g o, a = some (Ad g o) → g ≠ B) (k : Sts w a l) : Sts u a l := by
 rcases k with k | ⟨g, o, e, hc⟩
 · exact .inl k
 · exact .inr ⟨g, o, e, fun k hk j v hj => h.cell (hn (fun z => by rw [z] at hk; simp at hk) g o e) (hc k hk j v hj)⟩
theorem sts_lt {w : World} {a : Option Addr} {l : List Stp} (k : Sts w a l) : l ≠ [] → ∀ g o, a = some (Ad g o) → g < w.heap.size := by
 intro hl g o e
 rcases k with k | ⟨g', o', e', hc⟩
 · exact absurd k hl
 · rw [e'] at e; cases e; exact World.block_lt_of_cell? w _ (hc 0 (List.length_pos_iff.2 hl) 0 _ rfl)
theorem fcheck_ok (C : CR) (pf : Option Addr) (cf : Nat) (l : List Ft) (ps : Option Addr) (cs : Nat) (ss : List Stp) (hc : crE C = 0) (hf : ∀ k, k < l.length → FtOK C (ftAt l k)) (hs : ∀ k, k < ss.length → SA C (stAt ss k)) (hl : l.length ≤ 20) (hn : ss.length ≤ 300) (w : World) (hg : GV w) (hcr : CrL w C) (hF : Fts w pf l) (hS : Sts w ps ss) :
 Calls prog 79 #[.agg (crL C).toArray, .slice pf l.length cf, .slice ps ss.length cs] w fun e w' => e = .returned .nilIface ∧ Below w.heap.size w w' := by
 have hck := fun u (h : Below w.heap.size w u) => craftCheck_c C u (hg.later h) (hcr.later h); rw [hc, Zaq] at hck; have HCF := Zab (fun k (hk : k < l.length) => checkFault_ok C (ftAt l k) (hf k hk) (fun i hi => (Zdi hc hi).1)); have HCS := Zab (fun k (hk : k < ss.length) => checkStep_ok C (stAt ss k) (hs k hk) (fun i hi => (Zdi hc hi).2)); have HFT := Zab (fun u (h : Below w.heap.size w u) => hF.later h); have HST := Zab (fun u (h : Below w.heap.size w u) => hS.later h); have HK := Zab (Blk.new w 29 (crL C)); have HB0 := Zab (Zaa w (.cells (crL C).toArray 29)); clear hg hcr hF hS hf hs hc
 have hl1 : ¬ (20 : Int) < (l.length : Int) := by omega
 have hl2 : ¬ (300 : Int) < (ss.length : Int) := by omega
 go_enter func79, ntmps79
 go_upto_region 1 with fail; generalize w.alloc (.cells (crL C).toArray 29) = v0 at *; generalize hQK : w.heap.size = QK at HK ⊢; clear hQK
 go_upto_region 7 with (first
  | (refine Lq 29 _ rfl ?_; refine wpList_load_mid rfl 29 (.tmp 3) rfl QK 0 rfl (crL C) _ HK.out.range underlying29 rfl Zam ?_)
  | (go_at_call 64; refine Sb (hck _ HB0.out) fun v1 hb => ?_; replace HK := Zab (HK.out.later hb); replace HB0 := Zab (Zac HB0.out hb); clear hb))
 clear hck
 go_loopw [30] (fun ix wr => ∃ k : Nat, k ≤ l.length ∧ ix = Vi k ∧ Blk 29 wr QK (crL C) ∧ Below w.heap.size w wr) (fun ix _ => l.length - (intOf ix).toNat)
 case atStart => exact ⟨0, by omega, rfl, HK.out, HB0.out⟩
 case round =>
  clear HK HB0; obtain ⟨k, hk, rfl, hkk, hbw⟩ := hrel
  by_cases hlt : k < l.length
  · obtain ⟨b, off, rfl, hr⟩ := (HFT.out wr hbw).at hlt; have hcf := HCF.out k hlt
    have k0 : (0 : Int) ≤ (k : Int) := by omega
    have k1 : (k : Int) < (l.length : Int) := by omega
    generalize ftAt l k = f at *; obtain ⟨fa, fk, fx, fu, fi⟩ := f; have c0 := hr 0 _ rfl; have c1 := hr 1 _ rfl; have c2 := hr 2 _ rfl; have c3 := hr 3 _ rfl; have c4 := hr 4 _ rfl
    dsimp only at c0 c1 c2 c3 c4
    simp only [Nat.add_zero] at c0; have HK := Zab (hkk.later (Zaa wr (.cells #[Vi fa, Vi fk, Vi fx, Vi fu, Vi fi] 73))); have HX : Hid (Blk 73 (wr.alloc (.cells #[Vi fa, Vi fk, Vi fx, Vi fu, Vi fi] 73)) wr.heap.size [Vi fa, Vi fk, Vi fx, Vi fu, Vi fi]) := Zab (Blk.new wr _ _); have HBV := Zab (Zac hbw (Zaa wr (.cells #[Vi fa, Vi fk, Vi fx, Vi fu, Vi fi] 73))); clear hr hkk hbw
    go_upto_region 9 with fail; generalize wr.alloc (.cells #[Vi fa, Vi fk, Vi fx, Vi fu, Vi fi] 73) = v2 at *; clear c0 c1 c2 c3 c4; generalize wr.heap.size = QX at HX ⊢; have c0 := (HX.out.cell (j := 0) rfl).1; have c1 := (HX.out.cell (j := 1) rfl).1; have c2 := (HX.out.cell (j := 2) rfl).1; have c3 := (HX.out.cell (j := 3) rfl).1; have c4 := (HX.out.cell (j := 4) rfl).1; have hcf' : ∀ u, Calls prog 27 #[.agg (crL C).toArray, .agg #[Vi fa, Vi fk, Vi fx, Vi fu, Vi fi]] u fun e w' => e = .returned .nilIface ∧ Below u.heap.size u w' := hcf; clear hcf
    go_wp2_with (first
     | (refine Lq 29 _ rfl ?_; refine wpList_load_mid rfl 29 (.tmp 3) rfl QK 0 rfl (crL C) _ HK.out.range underlying29 rfl Zam ?_)
     | (go_at_call 27; refine Sb (hcf' _) fun v3 hb => ?_; replace HK := Zab (HK.out.later hb); replace HBV := Zab (Zac HBV.out hb); clear hb c0 c1 c2 c3 c4))
    go_roundw
    case rel => exact ⟨k + 1, by omega, by go_num, HK.out, HBV.out⟩
    case measure => simp [intOf]; omega
  · obtain rfl : k = l.length := by omega
    have HK := Zab hkk; have HB0 := Zab hbw; clear hkk hbw
    go_upto_region 14 with fail
    go_loopw [43] (fun ix wr => ∃ k : Nat, k ≤ ss.length ∧ ix = Vi k ∧ Blk 29 wr QK (crL C) ∧ Below w.heap.size w wr) (fun ix _ => ss.length - (intOf ix).toNat)
    case atStart => exact ⟨0, by omega, rfl, HK.out, HB0.out⟩
    case round =>
     clear HK HB0; obtain ⟨k, hk, rfl, hkk, hbw⟩ := hrel
     by_cases hlt : k < ss.length
     · obtain ⟨b, off, rfl, hr⟩ := (HST.out _ hbw).at hlt; have hcf := HCS.out k hlt
       have k0 : (0 : Int) ≤ (k : Int) := by omega
       have k1 : (k : Int) < (ss.length : Int) := by omega
       generalize stAt ss k = s at *; have c0 := hr 0 _ rfl; have c1 := hr 1 _ rfl; have c2 := hr 2 _ rfl; have c3 := hr 3 _ rfl; have c4 := hr 4 _ rfl; have c5 := hr 5 _ rfl; have c6 := hr 6 _ rfl; have c7 := hr 7 _ rfl; simp only [Nat.add_zero] at c0; rename World => wq; have HK := Zab (hkk.later (Zaa wq (.cells #[Vi (s.k 0), Vi (s.k 1), Vi (s.p 0), Vi (s.p 1), Vi (s.z 0), Vi (s.z 1), Vi s.v, .bool s.g] 78))); have HX : Hid (Blk 78 (wq.alloc (.cells #[Vi (s.k 0), Vi (s.k 1), Vi (s.p 0), Vi (s.p 1), Vi (s.z 0), Vi (s.z 1), Vi s.v, .bool s.g] 78)) wq.heap.size [Vi (s.k 0), Vi (s.k 1), Vi (s.p 0), Vi (s.p 1), Vi (s.z 0), Vi (s.z 1), Vi s.v, .bool s.g]) := Zab (Blk.new wq _ _); have HBV := Zab (Zac hbw (Zaa wq (.cells #[Vi (s.k 0), Vi (s.k 1), Vi (s.p 0), Vi (s.p 1), Vi (s.z 0), Vi (s.z 1), Vi s.v, .bool s.g] 78))); clear hr hkk hbw
       go_upto_region 16 with fail; generalize wq.alloc (.cells #[Vi (s.k 0), Vi (s.k 1), Vi (s.p 0), Vi (s.p 1), Vi (s.z 0), Vi (s.z 1), Vi s.v, .bool s.g] 78) = v2 at *; clear c0 c1 c2 c3 c4 c5 c6 c7; generalize wq.heap.size = QX at HX ⊢; have c0 := (HX.out.cell (j := 0) rfl).1; have c1 := (HX.out.cell (j := 1) rfl).1; have c2 := (HX.out.cell (j := 2) rfl).1; have c3 := (HX.out.cell (j := 3) rfl).1; have c4 := (HX.out.cell (j := 4) rfl).1; have c5 := (HX.out.cell (j := 5) rfl).1; have c6 := (HX.out.cell (j := 6) rfl).1; have c7 := (HX.out.cell (j := 7) rfl).1; have hcf' : ∀ u, Calls prog 29 #[.agg (crL C).toArray, .agg #[Vi (s.k 0), Vi (s.k 1), Vi (s.p 0), Vi (s.p 1), Vi (s.z 0), Vi (s.z 1), Vi s.v, .bool s.g]] u fun e w' => e = .returned .nilIface ∧ Below u.heap.size u w' := hcf; clear hcf
       go_wp2_with (first
        | (refine Lq 29 _ rfl ?_; refine wpList_load_mid rfl 29 (.tmp 3) rfl QK 0 rfl (crL C) _ HK.out.range underlying29 rfl Zam ?_)
        | (go_at_call 29; refine Sb (hcf' _) fun v3 hb => ?_; replace HK := Zab (HK.out.later hb); replace HBV := Zab (Zac HBV.out hb); clear hb c0 c1 c2 c3 c4 c5 c6 c7))
       go_roundw
       case rel => exact ⟨k + 1, by omega, by go_num, HK.out, HBV.out⟩
       case measure => simp [intOf]; omega
     · obtain rfl : k = ss.length := by omega
       have HB0 := Zab hbw; clear hkk hbw; go_wp2_with fail; go_ret; exact ⟨rfl, HB0.out⟩
end Go.Proofs.YtnfdfiholcelaaaGreatDoor
