
import Derived.Test.YtnfdfiholcelaaaGreatDoorJe00
import Derived.Test.YtnfdfiholcelaaaGreatDoorJe32
import Derived.Test.YtnfdfiholcelaaaGreatDoorJe33
import Derived.Test.YtnfdfiholcelaaaGreatDoorJe34
set_option maxRecDepth 100000
set_option maxHeartbeats 20000000
namespace Go.Proofs.YtnfdfiholcelaaaGreatDoor
open Go.RowKit Plain Tryz
theorem craftMay_f (C : CR) (w : World) (hl : CrL w C) : Calls prog 41 #[.agg (crL C).toArray] w fun e w' => e = .returned (Vi (crE C)) ∧ Below w.heap.size w w' :=
 craftMay_any (C.a 0 0) (C.a 0 1) (C.a 0 2) (C.a 0 3) (C.a 0 4) (C.a 0 5) (C.a 0 6) (C.a 0 7) (C.a 0 8) (C.a 0 9) (C.a 0 10) (C.a 0 11) (C.a 0 14) (C.p 0) (C.q 0) (C.al 0) (C.zl 0) (C.cn 0) (C.cm 0) (C.a 1 0) (C.a 1 1) (C.a 1 2) (C.a 1 3) (C.a 1 4) (C.a 1 5) (C.a 1 6) (C.a 1 7) (C.a 1 8) (C.a 1 9) (C.a 1 10) (C.a 1 11) (C.a 1 14) (C.p 1) (C.q 1) (C.al 1) (C.zl 1) (C.cn 1) (C.cm 1) C.c0 C.c1 w (hl 0 (by omega)) (hl 1 (by omega))
theorem ffirst2 (X : Nat) (x y : Int) (w : World) (h : w.heap[X]? = some (.cells [Vi x, Vi y].toArray 44 (0, 0))) : Calls prog 13 #[.slice (some (Ad X 0)) 2 2] w fun e w' => e = .returned (Vi (Zan [x, y])) ∧ Below w.heap.size w w' :=
 have k : Blk 44 w X [Vi x, Vi y] := h
 (first_two X 2 x y w (k.cell (j := 0) rfl).1 (k.cell (j := 1) rfl).1).mono (by rintro e w' ⟨rfl, rfl⟩; exact ⟨rfl, Below.refl _ _⟩)
def fl0 (C : CR) (l : List Ft) (ss : List Stp) : Int := Zan [crE C, if 20 < l.length ∨ 300 < ss.length then 2 else 0]
def fl1 (C : CR) (l : List Ft) (ss : List Stp) : Nat → Int
 | 0 => fl0 C l ss
 | k + 1 => if fl1 C l ss k = 0 then ftE C (ftAt l k) else fl1 C l ss k
def fl2 (C : CR) (l : List Ft) (ss : List Stp) : Nat → Int
 | 0 => fl1 C l ss l.length
 | k + 1 => if fl2 C l ss k = 0 then stpE C (stAt ss k) else fl2 C l ss k
def fmE' (C : CR) (l : List Ft) (ss : List Stp) : Int := fl2 C l ss ss.length
theorem Zhp {C : CR} {l : List Ft} {ss : List Stp} {k : Nat} (h : fl1 C l ss k ≠ 0) : ∀ m, k ≤ m → fl1 C l ss m = fl1 C l ss k
 | 0, hm => by
  obtain rfl : k = 0 := by omega
  rfl
 | m + 1, hm => by
  by_cases e : k = m + 1
  · rw [e]
  · rw [fl1, Zhp h m (by omega), if_neg h]
theorem Zho {C : CR} {l : List Ft} {ss : List Stp} {k : Nat} (h : fl2 C l ss k ≠ 0) : ∀ m, k ≤ m → fl2 C l ss m = fl2 C l ss k
 | 0, hm => by
  obtain rfl : k = 0 := by omega
  rfl
 | m + 1, hm => by
  by_cases e : k = m + 1
  · rw [e]
  · rw [fl2, Zho h m (by omega), if_neg h]
theorem fl0_zero {C : CR} {l : List Ft} {ss : List Stp} (h : fl0 C l ss = 0) : crE C = 0 ∧ l.length ≤ 20 ∧ ss.length ≤ 300 := by
 unfold fl0 at h
 by_cases h1 : crE C = 0
 · rw [h1] at h
   by_cases h2 : 20 < l.length ∨ 300 < ss.length
   · rw [if_pos h2] at h; simp [Zan] at h
   · omega
 · simp [Zan, h1] at h
theorem fl1_zero {C : CR} {l : List Ft} {ss : List Stp} {k : Nat} (h : fl1 C l ss k = 0) : ∀ m, m ≤ k → fl1 C l ss m = 0 := fun m hm => by
 by_cases e : fl1 C l ss m = 0
 · exact e
 · rw [← h, Zhp e k hm]
theorem fl2_zero {C : CR} {l : List Ft} {ss : List Stp} {k : Nat} (h : fl2 C l ss k = 0) : ∀ m, m ≤ k → fl2 C l ss m = 0 := fun m hm => by
 by_cases e : fl2 C l ss m = 0
 · exact e
 · rw [← h, Zho e k hm]
structure FlOK (C : CR) (l : List Ft) (ss : List Stp) : Prop where
 cr : crE C = 0
 nl : l.length ≤ 20
 ns : ss.length ≤ 300
 ft : ∀ k, k < l.length → FtOK C (ftAt l k)
 st : ∀ k, k < ss.length → SA C (stAt ss k)
theorem fmE_ok {C : CR} {l : List Ft} {ss : List Stp} (h : fmE' C l ss = 0) : FlOK C l ss := by
 have h1 : fl1 C l ss l.length = 0 := fl2_zero h 0 (by omega); have h0 := fl0_zero (show fl0 C l ss = 0 from fl1_zero h1 0 (by omega)); refine ⟨h0.1, h0.2.1, h0.2.2, fun k hk => ?_, fun k hk => ?_⟩
 · have a := fl1_zero h1 (k + 1) (by omega); rw [fl1, if_pos (fl1_zero h1 k (by omega))] at a
   unfold ftE at a
   split at a
   · rename_i e; exact ftB_ok e
   · cases a
 · have a := fl2_zero h (k + 1) (by omega); rw [fl2, if_pos (fl2_zero h k (by omega))] at a
   unfold stpE at a
   split at a
   · rename_i e; exact stpU_ok e
   · cases a
theorem fmE_mk {C : CR} {l : List Ft} {ss : List Stp} (h : FlOK C l ss) : fmE' C l ss = 0 := by
 have h0 : fl0 C l ss = 0 := by unfold fl0; rw [h.cr, if_neg (by have := h.nl; have := h.ns; omega)]; rfl
 have h1 : ∀ k, k ≤ l.length → fl1 C l ss k = 0 := fun k => by
  induction k with
  | zero => intro _; exact h0
  | succ k ih => intro hk; rw [fl1, if_pos (ih (by omega))]; unfold ftE; rw [if_pos (ftB_mk (h.ft k (by omega)))]
 have h2 : ∀ k, k ≤ ss.length → fl2 C l ss k = 0 := fun k => by
  induction k with
  | zero => intro _; exact h1 _ (Nat.le_refl _)
  | succ k ih => intro hk; rw [fl2, if_pos (ih (by omega))]; unfold stpE; rw [if_pos (stpU_mk (h.st k (by omega)))]
 exact h2 _ (Nat.le_refl _)
theorem Zhn (C : CR) (pf : Option Addr) (cf : Nat) (l : List Ft) (ps : Option Addr) (cs : Nat) (ss : List Stp) (hml : l.length ≤ 9223372036854775807) (hms : ss.length ≤ 9223372036854775807) (w : World) (hcr : CrL w C) (hF : Fts w pf l) (hS : Sts w ps ss) :
 Calls prog 25 #[.agg (crL C).toArray, .agg #[.slice pf l.length cf, .slice ps ss.length cs]] w fun e w' => e = .returned (Vi (fmE' C l ss)) ∧ Below w.heap.size w w' := by
 have HCM := Zab (fun u (h : Below w.heap.size w u) => craftMay_f C u (hcr.later h)); have HFT := Zab (fun u (h : Below w.heap.size w u) => hF.later h); have HST := Zab (fun u (h : Below w.heap.size w u) => hS.later h); have HK := Zab ((Blk.new w 29 (crL C)).later (Zaa (w.alloc (.cells (crL C).toArray 29)) (.cells #[.slice pf l.length cf, .slice ps ss.length cs] 67))); have HF : Hid (Blk 67 ((w.alloc (.cells (crL C).toArray 29)).alloc (.cells #[.slice pf l.length cf, .slice ps ss.length cs] 67)) (w.heap.size + 1) [.slice pf l.length cf, .slice ps ss.length cs]) := Zab (by have h := Blk.new (w.alloc (.cells (crL C).toArray 29)) 67 [.slice pf l.length cf, .slice ps ss.length cs]; rw [World.size_alloc] at h; exact h); have HB0 := Zab (Zac (Zaa w (.cells (crL C).toArray 29)) (Zaa (w.alloc (.cells (crL C).toArray 29)) (.cells #[.slice pf l.length cf, .slice ps ss.length cs] 67))); clear hcr hF hS
 go_enter func25, ntmps25
 go_upto_region 1 with fail; generalize (w.alloc (.cells (crL C).toArray 29)).alloc (.cells #[.slice pf l.length cf, .slice ps ss.length cs] 67) = v0 at *; generalize w.heap.size + 1 = QF at HF ⊢; generalize hQK : w.heap.size = QK at HK ⊢; clear hQK; have xf := (HF.out.cell (j := 0) rfl).1; have xs := (HF.out.cell (j := 1) rfl).1; have HKR := Zab HK.out.range; have hcm := fun u (h : Below v0.heap.size v0 u) => HCM.out u (Zac HB0.out h)
 by_cases h1 : (20 : Int) < (l.length : Int)
 · have hwh := Zaz 2; have HE : Hid (fl0 C l ss = Zan [crE C, 2]) := Zab (by unfold fl0; rw [if_pos (by omega)])
   have HFM : Hid (fl0 C l ss ≠ 0 ∧ fmE' C l ss = fl0 C l ss) := Zab (by
    have hne : fl0 C l ss ≠ 0 := fun e => by have := fl0_zero e; omega
    have h1 : fl1 C l ss l.length = fl0 C l ss := Zhp (k := 0) hne l.length (by omega); have h2 : fl2 C l ss ss.length = fl2 C l ss 0 := Zho (k := 0) (by show fl1 C l ss l.length ≠ 0; rw [h1]; exact hne) ss.length (by omega)
    exact ⟨hne, h2.trans h1⟩)
   refine Cs [8, 9, 10, 11, 12, 13, 14, 15, 16, 17, 18, 19, 20, 21, 22, 5] ?_; refine Cl (x := .tmp 2) 0 8 [] (fun y w _ u hSw => ⟨Zae HKR.out hSw, rfl⟩) underlying29 Zam ?_; refine Cc 1 9 [0] (fun y w h _ => hcm _ h) ?_; refine Cp 2 10 [] ?_; refine Cq (fun _ h => cell_later h xf) 3 11 [2] ?_; refine Cp 4 12 [3] ?_; refine Cp 5 13 [4] ?_; refine Cp 6 14 [5] ?_; refine Cz 7 15 [6] ?_ (hw := fun y w hF => Zbb (congrArg some hF.1)); refine Cz 8 16 [6] ?_ (hw := fun y w hF => Zbb (congrArg some hF.1)); refine Cz 9 17 [6] ?_ (hw := fun y w hF => Zbb (congrArg some hF.1)); refine Cz 10 18 [6] ?_ (hw := fun y w hF => Zbb (congrArg some hF.1)); refine Cp 11 19 [6, 10] ?_; refine Cc 12 20 [11] (fun y w h _ => Zez (hwh _)) ?_; refine Cbs (z := [Vi (crE C), Vi 2]) (t := 44) (n := 2) 13 21 [1, 12] ?_; refine Cg 14 22 13 21 (fun X w _ hX => ffirst2 X (crE C) 2 w hX) ?_; refine Cp 15 5 [14] ?_; refine Ce (fun y u1 hB hf => ?_); have HS1 := Zab hB; clear hB hf; go_simp; have hB := HS1.out; clear HS1; generalize u1 = v2 at hB ⊢; rw [← HE.out]; have HX : Hid (fmE' C l ss = fl0 C l ss) := Zab HFM.out.2; have hne := HFM.out.1; clear HE hwh HFM; generalize fl0 C l ss = x at *; generalize y 21 = y21 at *; refine Zbd (by assumption) ?_; have HBW := Zab (Zac HB0.out hB); replace HF := Zab (HF.out.later hB); clear hB xf xs; have xf := (HF.out.cell (j := 0) rfl).1; have xs := (HF.out.cell (j := 1) rfl).1
   go_upto_region 3 with fail; refine wp_loop_rounds 1 ?_; rw [rounds_succ]
   go_upto_region 7 with fail
   all_goals (refine wp_loop_rounds 1 ?_; rw [rounds_succ]; go_wp2_with fail)
   all_goals (go_ret; exact ⟨by rw [HX.out]; rfl, HBW.out⟩)
 by_cases h2 : (300 : Int) < (ss.length : Int)
 · have hwh := Zaz 2; have HE : Hid (fl0 C l ss = Zan [crE C, 2]) := Zab (by unfold fl0; rw [if_pos (by omega)])
   have HFM : Hid (fl0 C l ss ≠ 0 ∧ fmE' C l ss = fl0 C l ss) := Zab (by
    have hne : fl0 C l ss ≠ 0 := fun e => by have := fl0_zero e; omega
    have h1 : fl1 C l ss l.length = fl0 C l ss := Zhp (k := 0) hne l.length (by omega); have h2 : fl2 C l ss ss.length = fl2 C l ss 0 := Zho (k := 0) (by show fl1 C l ss l.length ≠ 0; rw [h1]; exact hne) ss.length (by omega)
    exact ⟨hne, h2.trans h1⟩)
   refine Cs [8, 9, 10, 11, 12, 13, 14, 15, 16, 17, 18, 19, 20, 21, 22, 5] ?_; refine Cl (x := .tmp 2) 0 8 [] (fun y w _ u hSw => ⟨Zae HKR.out hSw, rfl⟩) underlying29 Zam ?_; refine Cc 1 9 [0] (fun y w h _ => hcm _ h) ?_; refine Cp 2 10 [] ?_; refine Cq (fun _ h => cell_later h xf) 3 11 [2] ?_; refine Cp 4 12 [3] ?_; refine Cp 5 13 [4] ?_; refine Cp 6 14 [5] ?_; refine Cp 7 15 [6] ?_ (hw := fun y w hF => Zak (congrArg some hF.1)); refine Cq (fun _ h => cell_later h xs) 8 16 [7, 6] ?_ (hw := fun y w hF => Zak (congrArg some hF.2.1)); refine Cp 9 17 [8, 6] ?_ (hw := fun y w hF => Zak (congrArg some hF.2.1)); refine Cp 10 18 [9, 6] ?_ (hw := fun y w hF => Zak (congrArg some hF.2.1)); refine Cp 11 19 [6, 10] ?_; refine Cc 12 20 [11] (fun y w h _ => Zez (hwh _)) ?_; refine Cbs (z := [Vi (crE C), Vi 2]) (t := 44) (n := 2) 13 21 [1, 12] ?_; refine Cg 14 22 13 21 (fun X w _ hX => ffirst2 X (crE C) 2 w hX) ?_; refine Cp 15 5 [14] ?_; refine Ce (fun y u1 hB hf => ?_); have HS1 := Zab hB; clear hB hf; go_simp; have hB := HS1.out; clear HS1; generalize u1 = v2 at hB ⊢; rw [← HE.out]; have HX : Hid (fmE' C l ss = fl0 C l ss) := Zab HFM.out.2; have hne := HFM.out.1; clear HE hwh HFM; generalize fl0 C l ss = x at *; generalize y 21 = y21 at *; refine Zbd (by assumption) ?_; have HBW := Zab (Zac HB0.out hB); replace HF := Zab (HF.out.later hB); clear hB xf xs; have xf := (HF.out.cell (j := 0) rfl).1; have xs := (HF.out.cell (j := 1) rfl).1
   go_upto_region 3 with fail; refine wp_loop_rounds 1 ?_; rw [rounds_succ]
   go_upto_region 7 with fail
   all_goals (refine wp_loop_rounds 1 ?_; rw [rounds_succ]; go_wp2_with fail)
   all_goals (go_ret; exact ⟨by rw [HX.out]; rfl, HBW.out⟩)
 have hwh := Zbo 2; have HE : Hid (fl0 C l ss = Zan [crE C, 0]) := Zab (by unfold fl0; rw [if_neg (by omega)]); refine Cs [8, 9, 10, 11, 12, 13, 14, 15, 16, 17, 18, 19, 20, 21, 22, 5] ?_; refine Cl (x := .tmp 2) 0 8 [] (fun y w _ u hSw => ⟨Zae HKR.out hSw, rfl⟩) underlying29 Zam ?_; refine Cc 1 9 [0] (fun y w h _ => hcm _ h) ?_; refine Cp 2 10 [] ?_; refine Cq (fun _ h => cell_later h xf) 3 11 [2] ?_; refine Cp 4 12 [3] ?_; refine Cp 5 13 [4] ?_; refine Cp 6 14 [5] ?_; refine Cp 7 15 [6] ?_ (hw := fun y w hF => Zak (congrArg some hF.1)); refine Cq (fun _ h => cell_later h xs) 8 16 [7, 6] ?_ (hw := fun y w hF => Zak (congrArg some hF.2.1)); refine Cp 9 17 [8, 6] ?_ (hw := fun y w hF => Zak (congrArg some hF.2.1)); refine Cp 10 18 [9, 6] ?_ (hw := fun y w hF => Zak (congrArg some hF.2.1)); refine Cp 11 19 [6, 10] ?_; refine Cc 12 20 [11] (fun y w h _ => Zez (hwh _)) ?_; refine Cbs (z := [Vi (crE C), Vi 0]) (t := 44) (n := 2) 13 21 [1, 12] ?_; refine Cg 14 22 13 21 (fun X w _ hX => ffirst2 X (crE C) 0 w hX) ?_; refine Cp 15 5 [14] ?_; refine Ce (fun y u1 hB hf => ?_); have HS1 := Zab hB; clear hB hf; go_simp; have hB := HS1.out; clear HS1; generalize u1 = v2 at hB ⊢; rw [← HE.out]; have HE0 : Hid (fl0 C l ss = fl1 C l ss 0) := Zab rfl; rw [HE0.out]; clear HE hwh HE0 h1 h2 hcm HKR xf xs; generalize y 21 = y21 at *; refine Zbd (by assumption) ?_; replace HB0 := Zab (Zac HB0.out hB); replace HF := Zab (HF.out.later hB); replace HK := Zab (HK.out.later hB); clear hB
 go_upto_region 3 with fail
 go_loopw [5, 6] (fun fe ix wr => ∃ k : Nat, k ≤ l.length ∧ ix = Vi k ∧ fe = Vi (fl1 C l ss k) ∧ Blk 67 wr QF [.slice pf l.length cf, .slice ps ss.length cs] ∧ Blk 29 wr QK (crL C) ∧ Below w.heap.size w wr) (fun _ ix _ => l.length - (intOf ix).toNat)
 case atStart => exact ⟨0, by omega, rfl, rfl, HF.out, HK.out, HB0.out⟩
 case round =>
  clear HF HK HB0; obtain ⟨k, hk, rfl, rfl, hff, hkk, hbw⟩ := hrel; have xf := (hff.cell (j := 0) rfl).1; have xs := (hff.cell (j := 1) rfl).1
  have k0 : (0 : Int) ≤ (k : Int) := by omega
  by_cases hgo : k < l.length ∧ fl1 C l ss k = 0
  · obtain ⟨hlt, he⟩ := hgo
    have k1 : (k : Int) < (l.length : Int) := by omega
    have HN : Hid (fl1 C l ss (k + 1) = ftE C (ftAt l k)) := Zab (by rw [fl1, if_pos he]); obtain ⟨b, off, rfl, hr⟩ := (HFT.out wr hbw).at hlt; have hfm := faultMay_any C (ftAt l k); rw [he]; clear he
    go_upto_region 5 with fail; refine Cs [34, 35, 36, 37, 38, 39, 40, 5] ?_; refine Cl (x := .tmp 2) 0 34 [] (fun y w _ u hSw => ⟨Zae hkk.range hSw, rfl⟩) underlying29 Zam ?_; refine Cp 1 35 [] ?_; refine Cq (fun _ h => cell_later h xf) 2 36 [1] ?_; refine Cp 3 37 [] ?_; refine Cp 4 38 [2, 3] ?_; refine Cl (x := .tmp 38) 5 39 [4] (fun y w hF u hSw => ⟨Zae hr hSw, hF.1⟩) underlying73 infoF5 ?_; refine Cc 6 40 [0, 5] (fun y w h _ => hfm _) ?_; refine Cp 7 5 [6] ?_; refine Ce (fun y u1 hB hf => ?_); have HS1 := Zab hB; clear hB hf; go_simp; have hB := HS1.out; clear HS1; generalize u1 = v2 at hB ⊢; refine Zbd (by assumption) ?_; have HFF := Zab (hff.later hB); have HKK := Zab (hkk.later hB); have HBW := Zab (Zac hbw hB); clear hff hkk hbw hB xf xs hr hfm; go_wp2_with fail; go_roundw
    case rel => exact ⟨k + 1, by omega, by go_num, by rw [HN.out], HFF.out, HKK.out, HBW.out⟩
    case measure => simp [intOf]; omega
  · have HX1 : Hid (fl1 C l ss k = fl2 C l ss 0) := Zab (by
     show fl1 C l ss k = fl1 C l ss l.length
     by_cases e : fl1 C l ss k = 0
     · obtain rfl : k = l.length := by omega
       rfl
     · exact (Zhp e l.length hk).symm)
    have HFF := Zab hff; have HKK := Zab hkk; have HBW := Zab hbw; have hne : k < l.length → ¬ fl1 C l ss k = 0 := fun h e => hgo ⟨h, e⟩; clear hff hkk hbw hgo; generalize fl1 C l ss k = e1 at *
    by_cases hlt : (k : Int) < (l.length : Int)
    all_goals (
     (try have hnz := hne (by omega)); clear hne
     go_upto_region 7 with fail; rw [HX1.out]
     go_loopw [5, 7] (fun fe ix wr => ∃ k : Nat, k ≤ ss.length ∧ ix = Vi k ∧ fe = Vi (fl2 C l ss k) ∧ Blk 67 wr QF [.slice pf l.length cf, .slice ps ss.length cs] ∧ Blk 29 wr QK (crL C) ∧ Below w.heap.size w wr) (fun _ ix _ => ss.length - (intOf ix).toNat)
     case atStart => exact ⟨0, by omega, rfl, rfl, HFF.out, HKK.out, HBW.out⟩
     case round =>
      clear HFF HKK HBW; obtain ⟨m, hm, rfl, rfl, hff, hkk, hbw⟩ := hrel; rename World => wq; have xs := (hff.cell (j := 1) rfl).1
      have m0 : (0 : Int) ≤ (m : Int) := by omega
      by_cases hgo : m < ss.length ∧ fl2 C l ss m = 0
      · obtain ⟨hl2, he⟩ := hgo
        have m1 : (m : Int) < (ss.length : Int) := by omega
        have HN : Hid (fl2 C l ss (m + 1) = stpE C (stAt ss m)) := Zab (by rw [fl2, if_pos he]); have hc := (fl0_zero (show fl0 C l ss = 0 from fl1_zero (show fl1 C l ss l.length = 0 from fl2_zero he 0 (by omega)) 0 (by omega))).1; have hfm := stepMay_any C (stAt ss m) (fun i hi => (Zdi hc hi).2); obtain ⟨b, off, rfl, hr⟩ := (HST.out wq hbw).at hl2; rw [he]; clear he hc
        go_upto_region 9 with fail; refine Cs [52, 53, 54, 55, 56, 57, 58, 5] ?_; refine Cl (x := .tmp 2) 0 52 [] (fun y w _ u hSw => ⟨Zae hkk.range hSw, rfl⟩) underlying29 Zam ?_; refine Cp 1 53 [] ?_; refine Cq (fun _ h => cell_later h xs) 2 54 [1] ?_; refine Cp 3 55 [] ?_; refine Cp 4 56 [2, 3] ?_; refine Cl (x := .tmp 56) 5 57 [4] (fun y w hF u hSw => ⟨Zae hr hSw, hF.1⟩) underlying78 infoStp ?_; refine Cc 6 58 [0, 5] (fun y w h _ => hfm _) ?_; refine Cp 7 5 [6] ?_; refine Ce (fun y u1 hB hf => ?_); have HS1 := Zab hB; clear hB hf; go_simp; have hB := HS1.out; clear HS1; generalize u1 = v2 at hB ⊢; refine Zbd (by assumption) ?_; have HFF := Zab (hff.later hB); have HKK := Zab (hkk.later hB); have HBW := Zab (Zac hbw hB); clear hff hkk hbw hB xs hr hfm; go_wp2_with fail; go_roundw
        case rel => exact ⟨m + 1, by omega, by go_num, by rw [HN.out], HFF.out, HKK.out, HBW.out⟩
        case measure => simp [intOf]; omega
      · have HX2 : Hid (fmE' C l ss = fl2 C l ss m) := Zab (by
         show fl2 C l ss ss.length = fl2 C l ss m
         by_cases e : fl2 C l ss m = 0
         · obtain rfl : m = ss.length := by omega
           rfl
         · exact Zho e ss.length hm)
        have HBW := Zab hbw; have hne : m < ss.length → ¬ fl2 C l ss m = 0 := fun h e => hgo ⟨h, e⟩; clear hkk hbw hgo; generalize fl2 C l ss m = e2 at *
        by_cases hl2 : (m : Int) < (ss.length : Int)
        all_goals (
         (try have hnz2 := hne (by omega)); clear hne; go_wp2_with fail; go_ret
         exact ⟨by rw [HX2.out]; rfl, HBW.out⟩))
theorem fold_rp (R : Rp) : List.foldl (fun (cs : Array Value) (x : Value × Nat) => cs.setIfInBounds x.snd x.fst) #[Vi 0, Vi 0, Vi 0, Vi 0, Vi 0, Vi 0, Vi 0, Vi 0, Vi 0, Vi 0, Vi 0, Vi 0, Vi 0, Vi 0, Vi 0] (rpL R).zipIdx = (rpL R).toArray := by kernel_rfl
theorem buildFl (C : CR) (p : Option Addr) (n c : Nat) (T : FS) (w : World) : (Instr.build 173 #[(0, .agg (crL C).toArray), (1, .slice p n c), (2, .agg (stL T).toArray)]).run prog w = .ok (.agg (flL C p n c T 0 (fun _ => 0) (fun _ _ => 0)).toArray) w := by kernel_rfl
theorem wpList_buildFl {ops : Array Oper} {rest : List Oper} {op : Oper} {a : Act} {w : World} {Q : Exit → Act → World → Prop} (C : CR) (p : Option Addr) (n c : Nat) (T : FS) (x y z : Operand) (hgd : op.guard = none) (ho : op.op = .build 173 #[(0, x), (1, y), (2, z)])
 (hx : a.eval x = .agg (crL C).toArray) (hy : a.eval y = .slice p n c) (hz : a.eval z = .agg (stL T).toArray) (h : wpList prog ops Q rest (a.put op.dst (.agg (flL C p n c T 0 (fun _ => 0) (fun _ _ => 0)).toArray)) w) : wpList prog ops Q (op :: rest) a w := by
 refine wpList_plain hgd fun _ hK => ?_
 unfold Oper.wp execOp
 simp only [ho, List.map_toArray, List.map_cons, List.map_nil, hx, hy, hz, Sem.run_bind, buildFl, Result.andThen_ok]; exact hK _ _ h
theorem fly_ok (C : CR) (pf : Option Addr) (cf : Nat) (l : List Ft) (ps : Option Addr) (cs : Nat) (ss : List Stp) (hc : crE C = 0) (hf : ∀ k, k < l.length → FtOK C (ftAt l k)) (hs : ∀ k, k < ss.length → SA C (stAt ss k)) (hl : l.length ≤ 20) (hn : ss.length ≤ 300) (w : World) (hg : GV w) (hcr : CrL w C) (hF : Fts w pf l) (hS : Sts w ps ss) :
 Calls prog 31 #[.agg (crL C).toArray, .slice pf l.length cf, .slice ps ss.length cs] w fun e w' => (∃ s, e = .returned (.tuple #[s, .nilIface]) ∧ RpO w.heap.size w' s (rpU C l ss ss.length)) ∧ Below w.heap.size w w' := by
 have HCH := Zab (fun u (h : Below w.heap.size w u) => fcheck_ok C pf cf l ps cs ss hc hf hs hl hn u (hg.later h) (hcr.later h) (hF.later h) (hS.later h)); have HNW := Zab (fun u (h : Below w.heap.size w u) => new_c C hc u (hg.later h) (hcr.later h)); have HGI := Zab (flU_gi (l := l) hc hs); have HSS := Zab hs; have HGV := Zab hg; have HCL := Zab hcr; have HFT := Zab hF; have HST := Zab hS; have HK := Zab (Blk.new w 29 (crL C)); have HB0 := Zab (Zaa w (.cells (crL C).toArray 29)); clear hg hcr hF hS hf hs hc
 go_enter func31, ntmps31
 go_upto_region 1 with fail; generalize w.alloc (.cells (crL C).toArray 29) = v0 at *; generalize hQK : w.heap.size = QK at HK ⊢
 go_upto_region 4 with (first
  | (refine Lq 29 _ rfl ?_; refine wpList_load_mid rfl 29 (.tmp 3) rfl QK 0 rfl (crL C) _ HK.out.range underlying29 rfl Zam ?_)
  | (go_at_call 79; refine Sb (HCH.out _ HB0.out) fun v1 hb => ?_; replace HK := Zab (HK.out.later hb); replace HB0 := Zab (Zac HB0.out hb); clear hb))
 go_upto_region 7 with (first
  | (refine Lq 29 _ rfl ?_; refine wpList_load_mid rfl 29 (.tmp 3) rfl QK 0 rfl (crL C) _ HK.out.range underlying29 rfl Zam ?_)
  | (go_at_call 80; refine (HNW.out _ HB0.out).mono ?_; rintro e v2 ⟨⟨T, rfl, hT, hSV⟩, hb⟩; replace HK := Zab (HK.out.later hb); replace HB0 := Zab (Zac HB0.out hb); have HT := Zab hT; have HSV := Zab hSV; clear hb hT hSV)
  | (refine Sq 41 _ _ rfl ?_; refine wpList_newS (c' := (stL T).toArray) (.tmp 9) (.tmp 26) rfl rfl rfl rfl rfl rfl (stL_one T) ?_))
 have HSB : Hid (Blk 41 (v2.alloc (.cells (stL T).toArray 41)) v2.heap.size (stL T)) := Zab (Blk.new v2 _ _); replace HK := Zab (HK.out.later (Zaa v2 (.cells (stL T).toArray 41))); replace HSV := Zab (HSV.out.later (Zaa v2 (.cells (stL T).toArray 41))); replace HB0 := Zab (Zac HB0.out (Zaa v2 (.cells (stL T).toArray 41))); generalize v2.alloc (.cells (stL T).toArray 41) = v3 at *; generalize v2.heap.size = QT at HSB ⊢
 go_upto_region 9 with (first
  | (refine Lq 29 _ rfl ?_; refine wpList_load_mid rfl 29 (.tmp 3) rfl QK 0 rfl (crL C) _ HK.out.range underlying29 rfl Zam ?_)
  | (refine Lq 41 _ rfl ?_; refine wpList_load_mid rfl 41 (.tmp 9) rfl QT 0 rfl (stL T) _ HSB.out.range underlying41 rfl (stL_infoL T) ?_)
  | (refine wpList_buildFl C pf l.length cf T (.tmp 31) (.tmp 32) (.tmp 33) rfl rfl rfl rfl rfl ?_))
 have HFB : Hid (Blk 173 (v3.alloc (.cells (flL C pf l.length cf T 0 (fun _ => 0) (fun _ _ => 0)).toArray 173)) v3.heap.size (flL C pf l.length cf T ((0 : Nat) : Int) (flU C l ss 0).x (flU C l ss 0).at')) := Zab (Blk.new v3 _ _); have HA := Zaa v3 (.cells (flL C pf l.length cf T 0 (fun _ => 0) (fun _ _ => 0)).toArray 173); have HLN : Hid (∀ i, i < 2 → 1 ≤ ((q0 C).sv i).length) := Zab (fun i hi => by have a := (HGI.out 0 (by omega)).len hi; have b := (Zdi (HGI.out 0 (by omega)).cr hi).1; show 1 ≤ ((flU C l ss 0).sv i).length; omega); have HSN : Hid (SvN T v3.heap.size) := Zab (fun i hi g o e => Nat.ne_of_lt (vls_lt (HSV.out i hi).2.2 (HLN.out i hi) g o e)); have HNF := Zab (fun z g o e => Nat.ne_of_lt (fts_lt (HFT.out.later HB0.out) z g o e)); have HNS := Zab (fun z g o e => Nat.ne_of_lt (sts_lt (HST.out.later HB0.out) z g o e)); have HCN := Zab (crl_n (HCL.out.later HB0.out)); have HGN : Hid (v3.heap.size ≠ 0) := Zab (Nat.ne_of_gt (HGV.out.later HB0.out).lt); have HWB := Zab HB0.out.size; replace HSV := Zab (HSV.out.later HA); replace HB0 := Zab (Zac HB0.out HA); replace HGV := Zab (HGV.out.later HB0.out); replace HCL := Zab (HCL.out.later HB0.out); replace HFT := Zab (HFT.out.later HB0.out); replace HST := Zab (HST.out.later HB0.out); have HSZ : Hid ((v3.alloc (.cells (flL C pf l.length cf T 0 (fun _ => 0) (fun _ _ => 0)).toArray 173)).heap.size = v3.heap.size + 1) := Zab (World.size_alloc _ _); clear HA HK HSB HCH HNW; generalize v3.alloc (.cells (flL C pf l.length cf T 0 (fun _ => 0) (fun _ _ => 0)).toArray 173) = v4 at *; generalize v3.heap.size = B at *
 go_upto_region 10 with fail
 go_loopw [12, 38] (fun rep ix wr => ∃ (k : Nat) (T : FS), k ≤ ss.length ∧ ix = Vi k ∧ SaS T (flU C l ss k).S ∧ Blk 173 wr B (flL C pf l.length cf T k (flU C l ss k).x (flU C l ss k).at') ∧ SvL wr T (flU C l ss k).sv ∧ SvN T B ∧ RpO (B + 1) wr rep (rpU C l ss k) ∧ Oth v4 wr B) (fun _ ix _ => ss.length - (intOf ix).toNat)
 case atStart => exact ⟨0, T, by omega, rfl, HT.out, HFB.out, HSV.out, HSN.out, RpO.nil _ _, Oth.refl _ _⟩
 case round =>
  clear HT HFB HSV HSN HLN; obtain ⟨k, T, hk, rfl, hT, hB, hv, hsn, hrp, ho⟩ := hrel
  by_cases hlt : k < ss.length
  · obtain ⟨b, off, rfl, hr⟩ := (ho.sts HNS.out HST.out).at hlt; have HRB : Hid (∀ g, Value.ownBlock u12 = some g → B + 1 ≤ g ∧ g < wr.heap.size) := Zab (fun g hg => World.ownsRow.lt hrp g hg); have hfr := fun u (h : Below wr.heap.size wr u) => fly_frame C pf cf l ss hl hn HGI.out HSS.out B k hlt T hT u (hB.later h) ((ho.fts HNF.out HFT.out).later h) ((ho.gv HGN.out HGV.out).later h) ((ho.crl HCN.out HCL.out).later h) (hv.later h) HNF.out; have HE : Hid (rpU C l ss (k + 1) = rpU C l ss k ++ [rpF (flU C l ss (k + 1))]) := Zab rfl; have HRL : Hid ((rpU C l ss k).length ≤ 1000) := Zab (by rw [Zcz]; omega)
    have k0 : (0 : Int) ≤ (k : Int) := by omega
    have k1 : (k : Int) < (ss.length : Int) := by omega
    generalize stAt ss k = s at *; have c0 := hr 0 _ rfl; have c1 := hr 1 _ rfl; have c2 := hr 2 _ rfl; have c3 := hr 3 _ rfl; have c4 := hr 4 _ rfl; have c5 := hr 5 _ rfl; have c6 := hr 6 _ rfl; have c7 := hr 7 _ rfl; simp only [Nat.add_zero] at c0; have HA := Zaa wr (.cells #[Vi (s.k 0), Vi (s.k 1), Vi (s.p 0), Vi (s.p 1), Vi (s.z 0), Vi (s.z 1), Vi s.v, .bool s.g] 78); have HX : Hid (Blk 78 (wr.alloc (.cells #[Vi (s.k 0), Vi (s.k 1), Vi (s.p 0), Vi (s.p 1), Vi (s.z 0), Vi (s.z 1), Vi s.v, .bool s.g] 78)) wr.heap.size [Vi (s.k 0), Vi (s.k 1), Vi (s.p 0), Vi (s.p 1), Vi (s.z 0), Vi (s.z 1), Vi s.v, .bool s.g]) := Zab (Blk.new wr _ _); have hf5 := hfr _ HA; have HV5 := Zab (Nat.lt_of_lt_of_le hB.lt HA.size); have HRP := Zab (hrp.later HA); have HO := Zab (ho.later HA); replace HRB := Zab (fun g hg => (show B + 1 ≤ g ∧ g < (wr.alloc (.cells #[Vi (s.k 0), Vi (s.k 1), Vi (s.p 0), Vi (s.p 1), Vi (s.z 0), Vi (s.z 1), Vi s.v, .bool s.g] 78)).heap.size from ⟨(HRB.out g hg).1, Nat.lt_of_lt_of_le (HRB.out g hg).2 HA.size⟩)); clear hr hB hv hsn hrp ho hT hfr HA
    go_upto_region 12 with fail; generalize wr.alloc (.cells #[Vi (s.k 0), Vi (s.k 1), Vi (s.p 0), Vi (s.p 1), Vi (s.z 0), Vi (s.z 1), Vi s.v, .bool s.g] 78) = v5 at *; clear c0 c1 c2 c3 c4 c5 c6 c7; generalize wr.heap.size = QX at HX ⊢; have c0 := (HX.out.cell (j := 0) rfl).1; have c1 := (HX.out.cell (j := 1) rfl).1; have c2 := (HX.out.cell (j := 2) rfl).1; have c3 := (HX.out.cell (j := 3) rfl).1; have c4 := (HX.out.cell (j := 4) rfl).1; have c5 := (HX.out.cell (j := 5) rfl).1; have c6 := (HX.out.cell (j := 6) rfl).1; have c7 := (HX.out.cell (j := 7) rfl).1; have HF5 : Hid (Calls prog 81 #[.pointer (some (Ad B 0)), .agg #[Vi (s.k 0), Vi (s.k 1), Vi (s.p 0), Vi (s.p 1), Vi (s.z 0), Vi (s.z 1), Vi s.v, .bool s.g]] v5 fun e w' => e = .returned .nilIface ∧ ∃ T', SaS T' (flU C l ss (k + 1)).S ∧ Blk 173 w' B (flL C pf l.length cf T' ((k + 1 : Nat) : Int) (flU C l ss (k + 1)).x (flU C l ss (k + 1)).at') ∧ SvL w' T' (flU C l ss (k + 1)).sv ∧ SpN T' v5.heap.size ∧ Oth v5 w' B) := Zab hf5; clear hf5
    go_upto_region 15 with (go_at_call 81; refine HF5.out.mono ?_; rintro e v6 ⟨rfl, T', hT', hB', hv', hsp, ho'⟩; replace HRP := Zab (HRP.out.oth (Nat.lt_succ_self B) ho'); replace HO := Zab (HO.out.trans ho'); have HT := Zab hT'; have HB6 := Zab hB'; have HV6 := Zab hv'; have HSP := Zab hsp; have HK6 := Zab ho'.1; clear hT' hB' hv' hsp ho' c0 c1 c2 c3 c4 c5 c6 c7); have hrep := fun u (h : Below v6.heap.size v6 u) => report_any B C pf l.length cf T' ((k + 1 : Nat) : Int) (flU C l ss (k + 1)).x (flU C l ss (k + 1)).at' (flU C l ss (k + 1)).sv u (HB6.out.later h) (HV6.out.later h); rw [rpF_same HT.out] at hrep; have HKB : Hid (B + 1 ≤ v6.heap.size) := Zab (HB6.out.lt); clear HF5 HX; generalize rpF (flU C l ss (k + 1)) = R at *; have hrl := Zfa R
    go_wp2_with (first
     | (go_at_call 82; refine Sb (hrep _ (Below.refl _ _)) fun v7 hb => ?_; replace hb := Zac hb (Zaa v7 (.cells (rpL R).toArray 95)); replace HRP := Zab (HRP.out.later hb); replace HO := Zab (HO.out.later hb); replace HB6 := Zab (HB6.out.later hb); replace HV6 := Zab (HV6.out.later hb); have HLY := Zab (lay_rp v7 R); have HKC := Zab (Nat.le_trans HKB.out hb.size); clear hb)
     | (at_builtin; rw [fold_rp]; refine wpList_apP (.tmp 48) (.tmp 51) rfl rfl HRP.out HKC.out HLY.out HRL.out (fun s' v9 h1 h2 => ?_); replace HRP := Zab h1; replace HO := Zab (HO.out.grew h2 (fun g e => by rw [HSZ.out]; exact (HRB.out g e).1)); replace HB6 := Zab (HB6.out.grew' h2 (fun e => by have := (HRB.out B e.symm).1; omega)); replace HV6 := Zab (svl_grew HV6.out h2 (fun i hi g o e e2 => by obtain ⟨G, e3, h3⟩ := HSP.out i hi; rw [e3] at e; cases e; have := (HRB.out _ e2.symm).2; omega)); clear h1 h2))
    exact ⟨⟨k + 1, T', by omega, by go_num, HT.out, HB6.out, HV6.out, HSP.out.svn HV5.out, by rw [HE.out]; exact HRP.out, HO.out⟩, by simp [intOf]; omega⟩
  · obtain rfl : k = ss.length := by omega
    have HRP := Zab hrp; have HO := Zab ho; clear hT hB hv hsn hrp ho; go_wp2_with fail; go_ret2; exact ⟨⟨_, rfl, HRP.out.weak (Nat.le_trans HWB.out (Nat.le_succ B))⟩, HB0.out.grown HO.out.grown HB0.out.size (fun g e => by cases e; exact HWB.out)⟩
theorem Zbx {P : Program} {ops : Array Oper} {rest : List Oper} {op : Oper} {a : Act} {w : World} {Q : Exit → Act → World → Prop} (hw : Region.wanted op (yielded ops a.tmps) = true) (ty : TypeId) (x : Operand) (ho : op.op = .load ty x)
 (b o : Nat) (hx : a.eval x = .pointer (some (Ad b o))) (cs : List Value) (d : TypeDesc) (hc : w.rangeAt b o cs) (hu : P.underlying ty = some d) (hd : d.isRow = true) (hi : (P.info? ty).map (·.size) = some cs.length)
 (h : wpList P ops Q rest (a.put op.dst (.agg cs.toArray)) w) : wpList P ops Q (op :: rest) a w :=
 wpList_step fun K hK => by rw [if_pos hw]; exact wp_load_mid ty x ho b o hx cs d hc hu hd hi (hK _ _ h)
theorem RpO.slice {K : Nat} {u : World} {s : Value} {rs : List Rp} (h : RpO K u s rs) : ∃ a c, s = .slice a rs.length c := by
 rcases h.2 with ⟨rfl, e⟩ | ⟨g, cap, cur, rfl, _⟩
 · exact ⟨none, 0, by rw [e]⟩
 · exact ⟨_, cap, rfl⟩
def FwP (C : CR) (l : List Ft) (ss : List Stp) (K : Nat) (e : Ending) (w' : World) : Prop := ∃ s b, e = .returned (.tuple #[s, .bool b]) ∧ (b = true → FlOK C l ss ∧ RpO K w' s (rpU C l ss ss.length)) ∧ (b = false → s = .slice none 0 0)
theorem FwP.no (C : CR) (l : List Ft) (ss : List Stp) (K : Nat) (w' : World) : FwP C l ss K (.returned (.tuple #[.slice none 0 0, .bool false])) w' := ⟨_, _, rfl, (fun h => by cases h), fun _ => rfl⟩
theorem cr_p0 (C : CR) : (crL C)[12]? = some (.slice (C.p 0) (C.al 0).length (C.cn 0)) := rfl
theorem cr_p1 (C : CR) : (crL C)[27]? = some (.slice (C.p 1) (C.al 1).length (C.cn 1)) := rfl
theorem flown_any (C : CR) (pf : Option Addr) (cf : Nat) (l : List Ft) (ps : Option Addr) (cs : Nat) (ss : List Stp) (hml : l.length ≤ 9223372036854775807) (hms : ss.length ≤ 9223372036854775807) (w : World) (hg : GV w) (hcr : CrL w C) (hF : Fts w pf l) (hS : Sts w ps ss) :
 Calls prog 37 #[.agg (crL C).toArray, .agg #[.slice pf l.length cf, .slice ps ss.length cs]] w fun e w' => FwP C l ss w.heap.size e w' ∧ Below w.heap.size w w' := by
 have HFM := Zab (fun u (h : Below w.heap.size w u) => Zhn C pf cf l ps cs ss hml hms u (hcr.later h) (hF.later h) (hS.later h)); have HFY := Zab (fun (ok : FlOK C l ss) u (h : Below w.heap.size w u) => fly_ok C pf cf l ps cs ss ok.cr ok.ft ok.st ok.nl ok.ns u (hg.later h) (hcr.later h) (hF.later h) (hS.later h)); have HK := Zab ((Blk.new w 29 (crL C)).later (Zaa (w.alloc (.cells (crL C).toArray 29)) (.cells #[.slice pf l.length cf, .slice ps ss.length cs] 67))); have HF : Hid (Blk 67 ((w.alloc (.cells (crL C).toArray 29)).alloc (.cells #[.slice pf l.length cf, .slice ps ss.length cs] 67)) (w.heap.size + 1) [.slice pf l.length cf, .slice ps ss.length cs]) := Zab (by have h := Blk.new (w.alloc (.cells (crL C).toArray 29)) 67 [.slice pf l.length cf, .slice ps ss.length cs]; rw [World.size_alloc] at h; exact h); have HB0 := Zab (Zac (Zaa w (.cells (crL C).toArray 29)) (Zaa (w.alloc (.cells (crL C).toArray 29)) (.cells #[.slice pf l.length cf, .slice ps ss.length cs] 67))); obtain ⟨ml0, mz0, mc0, _⟩ := hcr 0 (by omega); obtain ⟨ml1, mz1, mc1, _⟩ := hcr 1 (by omega); clear hcr hF hS hg
 go_enter func37, ntmps37
 go_upto_region 1 with fail; generalize (w.alloc (.cells (crL C).toArray 29)).alloc (.cells #[.slice pf l.length cf, .slice ps ss.length cs] 67) = v0 at *; generalize w.heap.size + 1 = QF at HF ⊢; generalize hQK : w.heap.size = QK at HK ⊢; have HQK := Zab hQK; clear hQK; have xf := (HF.out.cell (j := 0) rfl).1; have xs := (HF.out.cell (j := 1) rfl).1; have x0 := (HK.out.cell (cr_p0 C)).1; have x1 := (HK.out.cell (cr_p1 C)).1
 by_cases h1 : (20 : Int) < (l.length : Int)
 · go_wp2_with fail; go_ret2; exact ⟨FwP.no C l ss _ _, HB0.out⟩
 by_cases h2 : (300 : Int) < (ss.length : Int)
 · go_wp2_with fail; go_ret2; exact ⟨FwP.no C l ss _ _, HB0.out⟩
 by_cases h3 : (20 : Int) < ((C.al 0).length : Int)
 · go_wp2_with fail; go_ret2; exact ⟨FwP.no C l ss _ _, HB0.out⟩
 by_cases h4 : (20 : Int) < ((C.al 1).length : Int)
 · go_wp2_with fail; go_ret2; exact ⟨FwP.no C l ss _ _, HB0.out⟩
 have HOK := Zab (fun h => fmE_ok (C := C) (l := l) (ss := ss) h); have hfm := HFM.out v0 HB0.out; generalize fmE' C l ss = fe at *
 by_cases he : fe = 0
 · subst he; have HOK0 := Zab (HOK.out rfl); clear HOK; have hfy := HFY.out HOK0.out; have HRL := Zab (Zcz C l ss ss.length)
   go_upto_region 3 with (first
    | (refine Lq 29 _ rfl ?_; refine Zbx (by rfl) 29 (.tmp 2) rfl QK 0 rfl (crL C) _ HK.out.range underlying29 rfl Zam ?_)
    | (go_at_call 25; refine hfm.mono ?_; rintro e v1 ⟨rfl, hb⟩; replace HK := Zab (HK.out.later hb); replace HF := Zab (HF.out.later hb); replace HB0 := Zab (Zac HB0.out hb); clear hb))
   clear xf xs x0 x1; have xf := (HF.out.cell (j := 0) rfl).1; have xs := (HF.out.cell (j := 1) rfl).1
   go_upto_region 4 with (first
    | (refine Lq 29 _ rfl ?_; refine Zbx (by rfl) 29 (.tmp 2) rfl QK 0 rfl (crL C) _ HK.out.range underlying29 rfl Zam ?_)
    | (go_at_call 31; refine (hfy _ HB0.out).mono ?_; rintro e v2 ⟨⟨sr, rfl, hrp⟩, hb⟩; replace HF := Zab (HF.out.later hb); have HB1 := Zab (Zac HB0.out hb); have HRP := Zab hrp; clear hb hrp))
   obtain ⟨ra, rc, rfl⟩ := HRP.out.slice; rw [Zcz]; clear xf xs; have xs := (HF.out.cell (j := 1) rfl).1; rw [Zcz] at HRP; go_wp2_with fail; go_ret2; exact ⟨⟨.slice ra ss.length rc, true, rfl, fun _ => ⟨HOK0.out, HRP.out.weak (by have := HB0.out.size; omega)⟩, (fun h => by cases h)⟩, HB1.out⟩
 · go_wp2_with (first
    | (refine Lq 29 _ rfl ?_; refine Zbx (by rfl) 29 (.tmp 2) rfl QK 0 rfl (crL C) _ HK.out.range underlying29 rfl Zam ?_)
    | (go_at_call 25; refine hfm.mono ?_; rintro e v1 ⟨rfl, hb⟩; replace HB0 := Zab (Zac HB0.out hb); clear hb))
   go_ret2; exact ⟨FwP.no C l ss _ _, HB0.out⟩
def rpD : Rp := ⟨fun _ => 0, fun _ => 0, fun _ => 0, 0, fun _ _ => 0⟩
def rpAt (rs : List Rp) (k : Nat) : Rp := rs.getD k rpD
theorem encP_get : ∀ (rs : List Rp) (j i : Nat), j < rs.length → i < 15 → (encP rs)[j * 15 + i]? = (rpL (rpAt rs j))[i]?
 | [], j, _, hj, _ => by simp at hj
 | r :: t, 0, i, _, hi => by
  have e : encP (r :: t) = rpL r ++ encP t := by simp [encP]
  rw [e, Nat.zero_mul, Nat.zero_add, List.getElem?_append_left (by rw [Zfa]; exact hi)]
  rfl
 | r :: t, j + 1, i, hj, hi => by
  have e : encP (r :: t) = rpL r ++ encP t := by simp [encP]
  rw [e, List.getElem?_append_right (by rw [Zfa]; omega), Zfa, show (j + 1) * 15 + i - 15 = j * 15 + i by omega, encP_get t j i (by simpa using hj) hi]
  rfl
theorem RpO.at {K : Nat} {u : World} {a : Option Addr} {n c : Nat} {rs : List Rp} (h : RpO K u (.slice a n c) rs) {j : Nat} (hj : j < rs.length) : ∃ g, a = some (Ad g 0) ∧ u.rangeAt g (j * 15) (rpL (rpAt rs j)) := by
 rcases h.2 with ⟨_, e⟩ | ⟨g, cap, cur, e, _, hb, h1, h2, h3, h4⟩
 · omega
 · simp only [Value.slice.injEq] at e; refine ⟨g, e.1, fun i v hv => ?_⟩
   have hi : i < 15 := by
    have := (List.getElem?_eq_some_iff.1 hv).1; rw [Zfa] at this; exact this
   have hlt : j * 15 + i < rs.length * 15 := by omega
   have hg := encP_get rs j i hj hi; rw [← h4, List.getElem?_take_of_lt hlt, Array.getElem?_toList, hv] at hg; simp only [World.cell?, hb]; simp only [Option.isSome_none, Bool.false_eq_true, if_false]; exact hg
theorem rpU_at (C : CR) (l : List Ft) (ss : List Stp) : ∀ n j, j < n → rpAt (rpU C l ss n) j = rpF (flU C l ss (j + 1))
 | 0, j, h => by omega
 | n + 1, j, h => by
  unfold rpAt
  rw [rpU, List.getD_eq_getElem?_getD]
  by_cases e : j = n
  · subst e; rw [List.getElem?_append_right (by rw [Zcz]; omega), Zcz]
    simp
  · rw [List.getElem?_append_left (by rw [Zcz]; omega), ← List.getD_eq_getElem?_getD]; exact rpU_at C l ss n j (by omega)
theorem rp_cell_n (r : Rp) : (rpL r)[6]? = some (Vi r.n) := rfl
theorem rp_cell_x (r : Rp) {i : Nat} (hi : i < 2) : (rpL r)[i]? = some (Vi (r.x i)) := by
 rcases (show i = 0 ∨ i = 1 by omega) with rfl | rfl <;> rfl
end Go.Proofs.YtnfdfiholcelaaaGreatDoor
