
import Derived.Test.YtnfdfiholcelaaaGreatDoorJe00
import Derived.Test.YtnfdfiholcelaaaGreatDoorJe07
import Derived.Test.YtnfdfiholcelaaaGreatDoorJe30
import Derived.Test.YtnfdfiholcelaaaGreatDoorJe37
set_option maxRecDepth 100000
set_option maxHeartbeats 20000000
namespace Go.Proofs.YtnfdfiholcelaaaGreatDoor
open Go.RowKit Plain Tryz
def LC (l : List Ft) (p q : Nat) : Prop := (ftAt l p).2.1 ≠ 4 → (ftAt l q).2.1 ≠ 4 → (ftAt l p).2.2.1 = (ftAt l q).2.2.1 → (ftAt l p).2.2.2.1 = (ftAt l q).2.2.2.1
def LiP (l : List Ft) (e : Ending) : Prop := ∃ b, e = .returned (.bool b) ∧ (b = true → ∀ p, p < l.length → ∀ q, q < p → LC l p q)
theorem lies_any (pf : Option Addr) (cf : Nat) (l : List Ft) (ps : Option Addr) (ns cs : Nat) (hml : l.length ≤ 9223372036854775807) (w : World) (hF : Fts w pf l) :
 Calls prog 36 #[.agg #[.slice pf l.length cf, .slice ps ns cs]] w fun e w' => LiP l e ∧ Below w.heap.size w w' := by
 have HFT := Zab (fun u (h : Below w.heap.size w u) => hF.later h); have HF := Zab (Blk.new w 67 [.slice pf l.length cf, .slice ps ns cs]); have HB0 := Zab (Zaa w (.cells #[.slice pf l.length cf, .slice ps ns cs] 67)); clear hF
 go_enter func36, ntmps36
 go_upto_region 1 with fail; generalize w.alloc (.cells #[.slice pf l.length cf, .slice ps ns cs] 67) = v0 at *; generalize hQF : w.heap.size = QF at HF ⊢; have HQF := Zab hQF; clear hQF
 go_upto_region 2 with fail
 go_loopw [3] (fun ix wr => ∃ i : Nat, i ≤ l.length ∧ ix = Vi i ∧ (∀ p, p < i → ∀ q, q < p → LC l p q) ∧ Blk 67 wr QF [.slice pf l.length cf, .slice ps ns cs] ∧ Below w.heap.size w wr) (fun ix _ => l.length - (intOf ix).toNat)
 case atStart => exact ⟨0, by omega, rfl, (fun p hp => by omega), HF.out, HB0.out⟩
 case round =>
  clear HF HB0; obtain ⟨i, hi, rfl, hlc, hff, hbw⟩ := hrel; have xf := (hff.cell (j := 0) rfl).1
  by_cases hlt : i < l.length
  · have i0 : (0 : Int) ≤ (i : Int) := by omega
    have i1 : (i : Int) < (l.length : Int) := by omega
    have HFF := Zab hff; have HBW := Zab hbw; have HPC := Zab hlc; clear hff hbw hlc
    go_upto_region 5 with fail; clear xf
    go_loopw [4] (fun ix wz => ∃ k : Nat, k ≤ i ∧ ix = Vi k ∧ (∀ q, q < k → LC l i q) ∧ Blk 67 wz QF [.slice pf l.length cf, .slice ps ns cs] ∧ Below w.heap.size w wz) (fun ix _ => i - (intOf ix).toNat)
    case atStart => exact ⟨0, by omega, rfl, (fun q hq => by omega), HFF.out, HBW.out⟩
    case round =>
     clear HFF HBW; obtain ⟨k, hk, rfl, hlc, hff, hbw⟩ := hrel; rename World => wq
     by_cases hki : k < i
     · have k0 : (0 : Int) ≤ (k : Int) := by omega
       have k1 : (k : Int) < (i : Int) := by omega
       have k2 : (k : Int) < (l.length : Int) := by omega
       have kn : k < l.length := by omega
       have xf := (hff.cell (j := 0) rfl).1; obtain ⟨b, off, rfl, hri⟩ := (HFT.out wq hbw).at hlt; obtain ⟨b', off', e', hrk⟩ := (HFT.out wq hbw).at kn
       cases e'
       have HNX : Hid (LC l i k → ∀ q, q < k + 1 → LC l i q) := Zab (fun h q hq => by
        by_cases e : q = k
        · rw [e]; exact h
        · exact hlc q (by omega))
       have HLD : Hid (LC l i k = ((ftAt l i).2.1 ≠ 4 → (ftAt l k).2.1 ≠ 4 → (ftAt l i).2.2.1 = (ftAt l k).2.2.1 → (ftAt l i).2.2.2.1 = (ftAt l k).2.2.2.1)) := Zab rfl; generalize ftAt l i = f at *; generalize ftAt l k = g at *; obtain ⟨fa, fk, fx, fu, fi⟩ := f; obtain ⟨ga, gk, gx, gu, gi⟩ := g; replace hri : wq.rangeAt b (off + i * 5) [Vi fa, Vi fk, Vi fx, Vi fu, Vi fi] := hri; replace hrk : wq.rangeAt b (off + k * 5) [Vi ga, Vi gk, Vi gx, Vi gu, Vi gi] := hrk
       dsimp only at HLD
       go_upto_region 7 with fail; refine wp_region_held_drew (S := fun u => Below wq.heap.size wq u) (by kernel_rfl) ((Below.refl _ _).drew) (fun _ => ?_); have HS0 : Hid (Below wq.heap.size wq wq.drew) := Zab ((Below.refl _ _).drew); generalize wq.drew = u0 at HS0 ⊢; apply etwice
       · intro hk2; refine Tq 0 HS0.out ?_; simp only [Act.put, Ly]; refine Th 1 rfl (by intro w hSw; (try dsimp only at hSw); have y := cell_later hSw xf; clear hSw; go_simp; (try with_reducible rfl)) HS0.out ?_; simp only [Act.put, Ly]; refine Tq 2 HS0.out ?_; simp only [Act.put, Ly]; refine Tq 3 HS0.out ?_; simp only [Act.put, Ly]; refine Tk 4 rfl (yieldsIf_load_mid (by rfl) 73 (.tmp 22) rfl b (off + i * 5) rfl [Vi fa, Vi fk, Vi fx, Vi fu, Vi fi] _ (fun w hSw => Zae hri hSw) underlying73 rfl infoF5) HS0.out ?_; simp only [Act.put, Ly]; refine Tq 5 HS0.out ?_; simp only [Act.put, Ly]; refine Th 6 rfl (by intro w hSw; (try dsimp only at hSw); have y := cell_later hSw xf; clear hSw; go_simp; (try with_reducible rfl)) HS0.out ?_; simp only [Act.put, Ly]; refine Tq 7 HS0.out ?_; simp only [Act.put, Ly]; refine Tq 8 HS0.out ?_; simp only [Act.put, Ly]; refine Tk 9 rfl (yieldsIf_load_mid (by rfl) 73 (.tmp 27) rfl b (off + k * 5) rfl [Vi ga, Vi gk, Vi gx, Vi gu, Vi gi] _ (fun w hSw => Zae hrk hSw) underlying73 rfl infoF5) HS0.out ?_; simp only [Act.put, Ly]; refine Rb 10 11 (fun K hK => ?_) (fun K hK => ?_)
         · go_simp; have HS1 := Zab (Zac HS0.out (Zaa u0 (.cells #[Vi 0, Vi 0, Vi 0, Vi 0, Vi 0] 73))); have HAA1 := Zab (NB.new (t := 73) (K := wq.heap.size) [Vi 0, Vi 0, Vi 0, Vi 0, Vi 0] (X := u0) HS0.out.size); generalize u0.alloc (.cells #[Vi 0, Vi 0, Vi 0, Vi 0, Vi 0] 73) = u1 at HS1 HAA1 ⊢; generalize u0.heap.size = XA at HAA1  ⊢; refine hK.out _ _ HS1.out (fun _ => ?_); clear hK K; (try simp only [Act.put]); refine Ra 11 (fun K hK => ?_); go_simp; have HS2 := Zab (Zac HS1.out (Zaa u1 (.cells #[Vi 0, Vi 0, Vi 0, Vi 0, Vi 0] 73))); have HAA2 := Zab (HAA1.out.later (Zaa u1 (.cells #[Vi 0, Vi 0, Vi 0, Vi 0, Vi 0] 73))); have HAD2 := Zab (NB.new (t := 73) (K := wq.heap.size) [Vi 0, Vi 0, Vi 0, Vi 0, Vi 0] (X := u1) HS1.out.size); have HNAD : Hid (XA ≠ u1.heap.size) := Zab (Nat.ne_of_lt HAA1.out.1.lt); generalize u1.alloc (.cells #[Vi 0, Vi 0, Vi 0, Vi 0, Vi 0] 73) = u2 at HS2 HAA2 HAD2 ⊢; generalize u1.heap.size = XD at HAD2 HNAD ⊢; refine hK.out _ _ HS2.out (fun _ => ?_); clear hK K; (try simp only [Act.put]); clear HS1 HAA1; have hB := HS2.out; have hA := HAA2.out; have hD := HAD2.out; clear HS2 HAA2 HAD2; generalize u2 = v at hB hA hD ⊢; revert hB; revert HNAD; revert hA; revert hD; revert v; revert XA; revert XD; exact hk2.out
         · go_simp; have HS3 := Zab (Zac HS0.out (Zaa u0 (.cells #[Vi 0, Vi 0, Vi 0, Vi 0, Vi 0] 73))); have HAD3 := Zab (NB.new (t := 73) (K := wq.heap.size) [Vi 0, Vi 0, Vi 0, Vi 0, Vi 0] (X := u0) HS0.out.size); generalize u0.alloc (.cells #[Vi 0, Vi 0, Vi 0, Vi 0, Vi 0] 73) = u3 at HS3 HAD3 ⊢; generalize u0.heap.size = XD at HAD3  ⊢; refine hK.out _ _ HS3.out (fun _ => ?_); clear hK K; (try simp only [Act.put]); refine Ra 10 (fun K hK => ?_); go_simp; have HS4 := Zab (Zac HS3.out (Zaa u3 (.cells #[Vi 0, Vi 0, Vi 0, Vi 0, Vi 0] 73))); have HAD4 := Zab (HAD3.out.later (Zaa u3 (.cells #[Vi 0, Vi 0, Vi 0, Vi 0, Vi 0] 73))); have HAA4 := Zab (NB.new (t := 73) (K := wq.heap.size) [Vi 0, Vi 0, Vi 0, Vi 0, Vi 0] (X := u3) HS3.out.size); have HNAD : Hid (u3.heap.size ≠ XD) := Zab (Nat.ne_of_gt HAD3.out.1.lt); generalize u3.alloc (.cells #[Vi 0, Vi 0, Vi 0, Vi 0, Vi 0] 73) = u4 at HS4 HAD4 HAA4 ⊢; generalize u3.heap.size = XA at HAA4 HNAD ⊢; refine hK.out _ _ HS4.out (fun _ => ?_); clear hK K; (try simp only [Act.put]); clear HS3 HAD3; have hB := HS4.out; have hA := HAA4.out; have hD := HAD4.out; clear HS4 HAA4 HAD4; generalize u4 = v at hB hA hD ⊢; revert hB; revert HNAD; revert hA; revert hD; revert v; revert XA; revert XD; exact hk2.out
       intro XD XA u5 hD hA HNAD hB; have HS5 := Zab hB; have HAA5 := Zab hA; have HAD5 := Zab hD; clear hB hA hD; refine Ra 12 (fun K hK => ?_); rw [if_pos (by rfl)]; refine Zao 73 (.tmp 5) (.tmp 23) rfl XA 0 #[Vi fa, Vi fk, Vi fx, Vi fu, Vi fi] rfl rfl (HAA5.out.1.there (Nat.le_of_ble_eq_true rfl)) infoF5 (Zau _ rfl) rfl ?_; have HS6 := Zab (Zah [Vi fa, Vi fk, Vi fx, Vi fu, Vi fi] 0 u5 HS5.out (NB.le HAA5.out)); have HAA6 : Hid (NB 73 wq.heap.size (u5.setCells XA 0 [Vi fa, Vi fk, Vi fx, Vi fu, Vi fi]) XA [Vi fa, Vi fk, Vi fx, Vi fu, Vi fi]) := Zab ⟨Blk.setCells [Vi fa, Vi fk, Vi fx, Vi fu, Vi fi] 0 u5 [Vi 0, Vi 0, Vi 0, Vi 0, Vi 0] HAA5.out.1, NB.le HAA5.out⟩; have HAD6 := Zab (NB.farCells (Ne.symm HNAD.out) [Vi fa, Vi fk, Vi fx, Vi fu, Vi fi] 0 HAD5.out); generalize hU : World.setCells _ XA 0 _ = u6 at *; clear hU; refine hK.out _ _ HS6.out (fun _ => ?_); clear hK K; clear HS5 HAA5 HAD5; refine Ra 13 (fun K hK => ?_); rw [if_pos (by rfl)]; refine Zao 73 (.tmp 6) (.tmp 28) rfl XD 0 #[Vi ga, Vi gk, Vi gx, Vi gu, Vi gi] rfl rfl (HAD6.out.1.there (Nat.le_of_ble_eq_true rfl)) infoF5 (Zau _ rfl) rfl ?_; have HS7 := Zab (Zah [Vi ga, Vi gk, Vi gx, Vi gu, Vi gi] 0 u6 HS6.out (NB.le HAD6.out)); have HAD7 : Hid (NB 73 wq.heap.size (u6.setCells XD 0 [Vi ga, Vi gk, Vi gx, Vi gu, Vi gi]) XD [Vi ga, Vi gk, Vi gx, Vi gu, Vi gi]) := Zab ⟨Blk.setCells [Vi ga, Vi gk, Vi gx, Vi gu, Vi gi] 0 u6 [Vi 0, Vi 0, Vi 0, Vi 0, Vi 0] HAD6.out.1, NB.le HAD6.out⟩; have HAA7 := Zab (NB.farCells HNAD.out [Vi ga, Vi gk, Vi gx, Vi gu, Vi gi] 0 HAA6.out); generalize hU : World.setCells _ XD 0 _ = u7 at *; clear hU; refine hK.out _ _ HS7.out (fun _ => ?_); clear hK K; clear HS6 HAA6 HAD6; refine wpAnyH_done (by kernel_rfl) ?_ _; go_simp; have hA := HAA7.out; have hD := HAD7.out; clear HAA7 HAD7; have hB := HS7.out; clear HS7; generalize u7 = v4 at hB hA hD ⊢; refine Zbd (by assumption) ?_; have HA : Hid (Blk 73 v4 XA [Vi fa, Vi fk, Vi fx, Vi fu, Vi fi]) := Zab hA.1; have HD : Hid (Blk 73 v4 XD [Vi ga, Vi gk, Vi gx, Vi gu, Vi gi]) := Zab hD.1; have HFF := Zab (hff.later hB); have HBW := Zab (Zac hbw hB); clear xf hA hD hri hrk hff hbw hB hlc; have a1 := (HA.out.cell (j := 1) rfl).1; have a2 := (HA.out.cell (j := 2) rfl).1; have a3 := (HA.out.cell (j := 3) rfl).1; have d1 := (HD.out.cell (j := 1) rfl).1; have d2 := (HD.out.cell (j := 2) rfl).1; have d3 := (HD.out.cell (j := 3) rfl).1
       by_cases q1 : fk = 4
       · have HLC : Hid (LC l i k) := Zab (by rw [HLD.out]; intro h; exact absurd q1 h); subst q1; clear HLD; go_wp2_with fail; exact ⟨⟨k + 1, by omega, by go_num, HNX.out HLC.out, HFF.out, HBW.out⟩, by simp [intOf]; omega⟩
       by_cases q2 : gk = 4
       · have HLC : Hid (LC l i k) := Zab (by rw [HLD.out]; intro _ h; exact absurd q2 h); subst q2; clear HLD; go_wp2_with fail; exact ⟨⟨k + 1, by omega, by go_num, HNX.out HLC.out, HFF.out, HBW.out⟩, by simp [intOf]; omega⟩
       by_cases q3 : fx = gx
       · by_cases q4 : fu = gu
         · have HLC : Hid (LC l i k) := Zab (by rw [HLD.out]; intro _ _ _; exact q4); subst q3 q4; clear HLD; go_wp2_with fail; exact ⟨⟨k + 1, by omega, by go_num, HNX.out HLC.out, HFF.out, HBW.out⟩, by simp [intOf]; omega⟩
         · subst q3; clear HLD HNX
           have hbn : (fu != gu) = true := by simpa using q4
           have hb1 : (fk != 4) = true := by simpa using q1
           have hb2 : (gk != 4) = true := by simpa using q2
           go_wp2_with fail; go_ret; exact ⟨⟨false, rfl, fun h => by cases h⟩, HBW.out⟩
       · have HLC : Hid (LC l i k) := Zab (by rw [HLD.out]; intro _ _ h; exact absurd h q3); clear HLD; go_wp2_with fail; exact ⟨⟨k + 1, by omega, by go_num, HNX.out HLC.out, HFF.out, HBW.out⟩, by simp [intOf]; omega⟩
     · obtain rfl : k = i := by omega
       have HFF := Zab hff; have HBW := Zab hbw; have HLC := Zab hlc; clear hff hbw hlc; go_wp2_with fail
       exact ⟨⟨k + 1, by omega, by go_num, (fun p hp q hq => by
        by_cases e : p = k
        · rw [e]; exact HLC.out q (by omega)
        · exact HPC.out p (by omega) q hq), HFF.out, HBW.out⟩, by simp [intOf]; omega⟩
  · obtain rfl : i = l.length := by omega
    have HBW := Zab hbw; have HPC := Zab hlc; clear hff hbw hlc; go_wp2_with fail; go_ret; exact ⟨⟨true, rfl, fun _ => HPC.out⟩, HBW.out⟩
def FA (l : List Ft) (lq lu : Nat → Nat) : Prop := ∀ j, j < l.length → ((ftAt l j).2.1 ≠ 4 → ∀ i : Nat, i < 2 → (ftAt l j).2.2.1 = i → (ftAt l j).2.2.2.1 = (lq i : Int)) ∧ ((ftAt l j).2.1 = 4 → ∀ i : Nat, i < 2 → (ftAt l j).2.2.1 = i → (ftAt l j).2.2.2.1 = (lu i : Int))
theorem ailU_none {l : List Ft} {now ax un : Int} {sf : Bool} : ∀ n, (∀ j, j < n → hits now ax un sf (ftAt l j) = false) → ailU l now ax un sf n = none
 | 0, _ => rfl
 | n + 1, h => by
  rw [ailU, h n (by omega)]; exact ailU_none n fun j hj => h j (by omega)
theorem FA.hon {l : List Ft} {lq lu : Nat → Nat} (h : FA l lq lu) {i k : Nat} (hi : i < 2) (hk : k ≠ lq i) (now : Int) : ail l now i k false = none := by
 refine ailU_none _ fun j hj => ?_
 cases e : hits now i k false (ftAt l j)
 · rfl
 · simp only [hits, Bool.and_eq_true, decide_eq_true_eq, beq_iff_eq, decide_eq_false_iff_not] at e; have := (h j hj).1 e.2.2.2 i hi e.2.1
   omega
theorem FA.fast {l : List Ft} {lq lu : Nat → Nat} (h : FA l lq lu) {i k : Nat} (hi : i < 2) (hk : k ≠ lu i) (now : Int) : ail l now i k true = none := by
 refine ailU_none _ fun j hj => ?_
 cases e : hits now i k true (ftAt l j)
 · rfl
 · simp only [hits, Bool.and_eq_true, decide_eq_true_eq, beq_iff_eq] at e; have := (h j hj).2 e.2.2.2 i hi e.2.1
   omega
structure FI (C : CR) (lq lu : Nat → Nat) (q : FT) : Prop where
 law : betw q.S.n 0 1 = true
 nor : (∀ i, i < 2 → C.a i 4 ≤ lu i) → q.S.n = 0
 bank : ∀ i, i < 2 → ∃ far, TInv (lq i) (C.a i 9) far (q.S.bk i).b (q.S.bk i).o (q.S.bk i).l
 ax : ∀ i, i < 2 → ∃ E, AI C i (lu i) (q.sv i) (q.at' i) (q.x i) E
theorem tS_at (ws : List Rd) (x : Int) {k : Nat} (hk : k < 3) : tS ws x k = (smp ws x k).1 ∧ sS ws x k = (smp ws x k).2 := by
 rcases (show k = 0 ∨ k = 1 ∨ k = 2 by omega) with rfl | rfl | rfl <;> exact ⟨rfl, rfl⟩
theorem sndU_inN (l : List Sv) : ∀ n, sndU l n = (inN l n : Int)
 | 0 => rfl
 | n + 1 => by
  have := sndU_inN l n; simp only [sndU, inN]
  split <;> omega
theorem left_two {o : Nat → Bool} {q : Nat} (h : ∀ k, k < 3 → k ≠ q → o k = false) : 2 ≤ Zcd o 3 := by
 have a := h 0 (by omega); have b := h 1 (by omega); have c := h 2 (by omega); simp only [Zcd]
 by_cases e0 : 0 = q
 · rw [b (by omega), c (by omega)]; cases o 0 <;> decide
 · by_cases e1 : 1 = q
   · rw [a e0, c (by omega)]; cases o 1 <;> decide
   · rw [a e0, b e1]; cases o 2 <;> decide
theorem AW.law {C : CR} {i u : Nat} {L : List Sv} {x E c : Int} (w : AW C i u L x E) (hn : 2 ≤ C.a i 4) (hc : 2 ≤ c) : 0 ≤ lawI c (sndU L L.length) (C.a i 4) ∧ lawI c (sndU L L.length) (C.a i 4) ≤ 1 ∧ (C.a i 4 ≤ u → lawI c (sndU L L.length) (C.a i 4) = 0 ∧ sndU L L.length = C.a i 4) := by
 have g := inN_ge (l := L) (u := u) L.length fun k hk hu => (w.rest k hk hu).1; have hl := w.len; have hle := inN_le L L.length; rw [sndU_inN]
 unfold lawI
 rw [if_neg (by omega), if_neg (by omega), if_neg (by omega)]
 split
 · refine ⟨by omega, by omega, fun e => ?_⟩; have := g.1 (by omega)
   omega
 · refine ⟨by omega, by omega, fun e => ⟨rfl, ?_⟩⟩
   omega
section
variable {C : CR} {l : List Ft} {lq lu : Nat → Nat} {now n : Int} {q : FT} {s : Stp}
theorem FI.new (h : crE C = 0) : FI C lq lu (q0 C) := by
 refine ⟨rfl, fun _ => rfl, fun i hi => ⟨0, ?_⟩, fun i hi => ⟨0, ?_⟩⟩
 · have hr : Zcc (C.a i 8) (C.a i 9) = 0 := Zcl h hi (k := 1) (by omega)
   have hb : ruleB (C.a i 8) (C.a i 9) = true := by
    unfold Zcc at hr
    split at hr
    · assumption
    · cases hr
   exact TInv.new (lq i) (Zfr hb).2.1
 · have r := Zdi h hi; have ar := Zas (cr_ar h hi); have hl : (List.replicate (C.a i 4).toNat svD).length = (C.a i 4).toNat := List.length_replicate
   have hz : smU (List.replicate (C.a i 4).toNat svD) (List.replicate (C.a i 4).toNat svD).length = 0 := by
    generalize (List.replicate (C.a i 4).toNat svD).length = m
    induction m with
    | zero => rfl
    | succ m ih => rw [smU, ih, Zbf]; rfl
   have hp : pnd (C.a i 7) svD 0 = 0 := pnd_self (by omega) svD; have f := cr_fm h hi; refine ⟨⟨cr_ar h hi, fun k _ => ?_⟩, by show ((List.replicate (C.a i 4).toNat svD).length : Int) = _; rw [hl]; omega, fun j k _ _ _ _ => ?_, fun k _ _ => ?_, fun _ _ => rfl, ⟨Int.le_refl _, fun _ _ => ?_, fun _ e => ?_, fun _ => rfl⟩, ?_⟩
   · show svB _ _ (svAt (List.replicate _ svD) k).1 (svAt (List.replicate _ svD) k).2.1 (svAt (List.replicate _ svD) k).2.2 = true
     rw [Zbf]; exact sv_mk (show -C.a i 5 ≤ (0 : Int) ∧ (0 : Int) ≤ C.a i 5 by omega) (show (0 : Int) ≤ 0 ∧ (0 : Int) ≤ C.a i 10 by omega) (fun h => by cases h) (fun _ => show (0 : Int) < C.a i 10 by omega)
   · show (svAt (List.replicate _ svD) j).1 - (svAt (List.replicate _ svD) k).1 ≤ 1
     rw [Zbf, Zbf]
     omega
   · show ((svAt (List.replicate _ svD) k).2.2 = false ∧ (svAt (List.replicate _ svD) k).2.1 = 0) ∧ (0 : Int) = (svAt (List.replicate _ svD) k).1
     rw [Zbf]; exact ⟨⟨rfl, rfl⟩, rfl⟩
   · show (0 : Int) ≤ 2 * C.a i 5 * ((svAt (List.replicate _ svD) (lu i)).2.1 + pnd (C.a i 7) (svAt (List.replicate _ svD) (lu i)) 0)
     rw [Zbf, hp]
     show (0 : Int) ≤ 2 * C.a i 5 * (0 + 0)
     omega
   · have e' : (svAt (List.replicate (C.a i 4).toNat svD) (lu i)).2.2 = true := e; rw [Zbf] at e'
     cases e'
   · show Kept (C.a i 0 - 0) (C.a i 1 + 0) _ _ _ (0 : Int) (smU (List.replicate (C.a i 4).toNat svD) (List.replicate (C.a i 4).toNat svD).length)
     rw [hz, Int.sub_zero, Int.add_zero]; exact Kept.start (cr_gok h hi) f.2.1 f.2.2
theorem FI.step (g : GI C n q) (h : FI C lq lu q) (hf : FA l lq lu) (hs : SA C s) : FI C lq lu (stpF C l now q s) := by
 have hm := g.may (l := l) (now := now) hs; have hcr := g.cr; have h4 : ∀ i, i < 2 → C.a i 4 ≤ 4 := fun i hi => (Zdi hcr hi).1.2
 have hv : ∀ i, i < 2 → ((q.x i - C.a i 2 ≤ ((sS3 C q.S (wsF C l now q s) q.sv).bk i).l ∧ ((sS3 C q.S (wsF C l now q s) q.sv).bk i).l ≤ q.x i + C.a i 2)) ∧ ∃ far, TInv (lq i) (C.a i 9) far ((sS3 C q.S (wsF C l now q s) q.sv).bk i).b ((sS3 C q.S (wsF C l now q s) q.sv).bk i).o ((sS3 C q.S (wsF C l now q s) q.sv).bk i).l := fun i hi => by
  obtain ⟨far, ti⟩ := h.bank i hi; obtain ⟨E, ai⟩ := h.ax i hi; have bd := ai.bd hcr hi; have gok := cr_gok hcr hi; have n0 := gok.n0; have n1 := gok.n1
  have tin : TIn (lq i) (C.a i 2) (q.x i) (tS (wsF C l now q s) (1 + (i : Int)) (lq i)) (if lq i < 3 then sS (wsF C l now q s) (1 + (i : Int)) (lq i) else 0) (tS (wsF C l now q s) (1 + (i : Int))) (sS (wsF C l now q s) (1 + (i : Int))) := by
   refine ⟨fun k hk hq => ?_, fun hq => ⟨rfl, by rw [if_pos hq]⟩, ?_, by omega, by omega⟩
   · have e := smp_hon hm hi hk h4 (hf.hon hi hq now); rw [(tS_at _ _ hk).1, (tS_at _ _ hk).2, e]; have nb := noi_bd (z := s.z i) n0 k; have : cW (q.x i + noi (C.a i 2) (s.z i) k) = q.x i + noi (C.a i 2) (s.z i) k := clip_id (by omega) (by omega); rw [this]
     refine ⟨rfl, ?_, ?_⟩ <;> dsimp only <;> omega
   · split
     · rename_i hq
       rw [(tS_at _ _ hq).2]; have := smp_bd ((saR C l now q.x q.at' s).map pk1) (1 + (i : Int)) (lq i)
       unfold wsF
       omega
     · omega
  rw [bk_at _ _ _ hi]; have st := tinv_step (show Zcc (C.a i 8) (C.a i 9) = 0 from Zcl hcr hi (k := 1) (by omega)) (cr_fm hcr hi).1 ti tin; exact ⟨st.1, _, st.2⟩
 have hw : ∀ i, i < 2 → ∃ E', AW C i (lu i) (vS1 C (wsF C l now q s) q.sv i) (q.x i) E' := fun i hi => by
  obtain ⟨E, ai⟩ := h.ax i hi; have e := vS1_at C (wsF C l now q s) q.sv hi; have ok := vS1_ok (ws := (saR C l now q.x q.at' s).map pk1) g.st hi; have := ai.watch (ws := wsF C l now q s) hcr hi (fun k hk => smp_pl hm hi (by have := ai.len; omega) h4) (by rw [← e]; exact ok); rw [e]; exact this
 have hleft : ∀ i, i < 2 → 2 ≤ Zcd ((sS1 C q.S (wsF C l now q s)).bk i).o 3 := fun i hi => by
  obtain ⟨_, far, ti⟩ := hv i hi; exact left_two fun k hk hq => (ti.good k hk hq).1
 have hlaw : ∀ i, i < 2 → 0 ≤ lawI (heM C (sS1 C q.S (wsF C l now q s)) (vS1 C (wsF C l now q s) q.sv) i).1 (heM C (sS1 C q.S (wsF C l now q s)) (vS1 C (wsF C l now q s) q.sv) i).2.1 (heM C (sS1 C q.S (wsF C l now q s)) (vS1 C (wsF C l now q s) q.sv) i).2.2 ∧ lawI (heM C (sS1 C q.S (wsF C l now q s)) (vS1 C (wsF C l now q s) q.sv) i).1 (heM C (sS1 C q.S (wsF C l now q s)) (vS1 C (wsF C l now q s) q.sv) i).2.1 (heM C (sS1 C q.S (wsF C l now q s)) (vS1 C (wsF C l now q s) q.sv) i).2.2 ≤ 1 ∧ (C.a i 4 ≤ lu i → lawI (heM C (sS1 C q.S (wsF C l now q s)) (vS1 C (wsF C l now q s) q.sv) i).1 (heM C (sS1 C q.S (wsF C l now q s)) (vS1 C (wsF C l now q s) q.sv) i).2.1 (heM C (sS1 C q.S (wsF C l now q s)) (vS1 C (wsF C l now q s) q.sv) i).2.2 = 0) := fun i hi => by
  obtain ⟨E', aw⟩ := hw i hi; have := aw.law (Zdi hcr hi).1.1 (hleft i hi); exact ⟨this.1, this.2.1, fun e => (this.2.2 e).1⟩
 have hwa : ∀ X Y, X = heM C (sS1 C q.S (wsF C l now q s)) (vS1 C (wsF C l now q s) q.sv) 0 → Y = heM C (sS1 C q.S (wsF C l now q s)) (vS1 C (wsF C l now q s) q.sv) 1 → waI [X, Y] = mxL (mxL 0 (lawI X.1 X.2.1 X.2.2)) (lawI Y.1 Y.2.1 Y.2.2) := by
  rintro X Y rfl rfl; exact waI_two (he_ok (ws := (saR C l now q.x q.at' s).map pk1) g.st (i := 0) (by omega) (sS1 C q.S (wsF C l now q s))) (he_ok (ws := (saR C l now q.x q.at' s).map pk1) g.st (i := 1) (by omega) (sS1 C q.S (wsF C l now q s)))
 have hn0 := Zal h.law
 have hlw : (0 ≤ (stpF C l now q s).S.n ∧ (stpF C l now q s).S.n ≤ 1) ∧ ((∀ i, i < 2 → C.a i 4 ≤ lu i) → (stpF C l now q s).S.n = 0) := by
  show (0 ≤ lwM C (sS1 C q.S (wsF C l now q s)) (wsF C l now q s) (vS1 C (wsF C l now q s) q.sv) ∧ lwM C (sS1 C q.S (wsF C l now q s)) (wsF C l now q s) (vS1 C (wsF C l now q s) q.sv) ≤ 1) ∧ (_ → lwM C (sS1 C q.S (wsF C l now q s)) (wsF C l now q s) (vS1 C (wsF C l now q s) q.sv) = 0)
  have a := hlaw 0 (by omega); have b := hlaw 1 (by omega); have hnn := h.nor
  unfold lwM
  rw [hwa _ _ rfl rfl]; generalize lawI (heM C (sS1 C q.S (wsF C l now q s)) (vS1 C (wsF C l now q s) q.sv) 0).1 _ _ = A at *; generalize lawI (heM C (sS1 C q.S (wsF C l now q s)) (vS1 C (wsF C l now q s) q.sv) 1).1 _ _ = B at *
  show (0 ≤ neI q.S.n (mxL (mxL 0 A) B) _ ∧ neI q.S.n (mxL (mxL 0 A) B) _ ≤ 1) ∧ (_ → neI q.S.n (mxL (mxL 0 A) B) _ = 0)
  have m : 0 ≤ mxL (mxL 0 A) B ∧ mxL (mxL 0 A) B ≤ 1 ∧ (A = 0 → B = 0 → mxL (mxL 0 A) B = 0) := by unfold mxL; split <;> split <;> omega
  generalize mxL (mxL 0 A) B = W at *
  unfold neI
  rw [if_pos (by rw [Bool.and_eq_true]; exact ⟨Zay (by omega), Zay (by omega)⟩)]
  split
  · exact ⟨by omega, fun e => m.2.2 (a.2.2 (e 0 (by omega))) (b.2.2 (e 1 (by omega)))⟩
  · have m2 : 0 ≤ mxL q.S.n W ∧ mxL q.S.n W ≤ 1 ∧ (q.S.n = 0 → W = 0 → mxL q.S.n W = 0) := by unfold mxL; split <;> omega
    exact ⟨by omega, fun e => m2.2.2 (hnn e) (m.2.2 (a.2.2 (e 0 (by omega))) (b.2.2 (e 1 (by omega))))⟩
 refine ⟨Zay hlw.1, hlw.2, fun i hi => (hv i hi).2, fun i hi => ?_⟩; obtain ⟨E', aw⟩ := hw i hi; obtain ⟨hy, far, ti⟩ := hv i hi
 have hlen : (C.a i 4).toNat = (vS1 C (wsF C l now q s) q.sv i).length := by have := aw.len; omega
 have mv := aw.move (h := (sS2 C q.S (wsF C l now q s) q.sv).hd i) (k := skI (wsF C l now q s) i) (v := ((sS2 C q.S (wsF C l now q s) q.sv).bk 2).l) (n := (stpF C l now q s).S.n) (l := l) (now := now) (p := s.p i) hcr hi hy.1 hy.2 ti.last.1 ti.last.2 (Zay hlw.1) (fun k _ hk => hf.fast hi hk now) (hs.p i hi).1 (hs.p i hi).2 hlen (q.at' i)
 have e3 : svM C i ((sS2 C q.S (wsF C l now q s) q.sv).hd i) (skI (wsF C l now q s) i) ((sS3 C q.S (wsF C l now q s) q.sv).bk i).l ((sS2 C q.S (wsF C l now q s) q.sv).bk 2).l (stpF C l now q s).S.n (vS1 C (wsF C l now q s) q.sv i) = vS3 C q.S (wsF C l now q s) q.sv i := by
  rw [fv3_at _ hi]; rfl
 rw [e3] at mv; exact mv
end
theorem flU_fi {C : CR} {l : List Ft} {ss : List Stp} {lq lu : Nat → Nat} (h : crE C = 0) (hs : ∀ k, k < ss.length → SA C (stAt ss k)) (hf : FA l lq lu) : ∀ n : Nat, n ≤ ss.length → FI C lq lu (flU C l ss n)
 | 0, _ => FI.new h
 | n + 1, hn => by
  rw [flU]; exact (flU_fi h hs hf n (by omega)).step (flU_gi h hs n (by omega)) hf (hs n (by omega))
theorem FI.flight {C : CR} {lq lu : Nat → Nat} {n : Int} {q : FT} (g : GI C n q) (h : FI C lq lu q) (hn : ∀ i, i < 2 → C.a i 4 ≤ lu i) :
 q.S.n = 0 ∧ ∀ i, i < 2 → 2 ≤ Zcd (q.S.bk i).o 3 ∧ sndU (q.sv i) (q.sv i).length = C.a i 4 ∧ C.a i 0 ≤ q.x i ∧ q.x i ≤ C.a i 1 := by
 refine ⟨h.nor hn, fun i hi => ?_⟩; obtain ⟨far, ti⟩ := h.bank i hi; obtain ⟨E, ai⟩ := h.ax i hi; have hl := g.len hi; have hu := hn i hi; have hE := ai.eb.enone (by omega); have k0 := ai.kept.lo; have k1 := ai.kept.hi; refine ⟨left_two fun k hk hq => (ti.good k hk hq).1, ?_, by omega, by omega⟩; rw [sndU_inN, inN_all _ fun k hk => (ai.rest k hk (by omega)).1.1]; exact hl
theorem FI.loose {C : CR} {lq lu : Nat → Nat} {n : Int} {q : FT} (g : GI C n q) (h : FI C lq lu q) :
 (0 ≤ q.S.n ∧ q.S.n ≤ 1) ∧ ∀ i, i < 2 → (C.a i 4 ≤ lu i → C.a i 0 ≤ q.x i ∧ q.x i ≤ C.a i 1) ∧ C.a i 0 - (2 * C.a i 5 * C.a i 10 + bk (raI C i) (moI C i + puI C i)) ≤ q.x i ∧ q.x i ≤ C.a i 1 + (2 * C.a i 5 * C.a i 10 + bk (raI C i) (moI C i + puI C i)) := by
 refine ⟨Zal h.law, fun i hi => ?_⟩; obtain ⟨E, ai⟩ := h.ax i hi; refine ⟨fun hu => ?_, ai.most⟩; have hl := g.len hi; have hE := ai.eb.enone (by omega); have k0 := ai.kept.lo; have k1 := ai.kept.hi
 omega
theorem lq_is {C : CR} {l : List Ft} (hok : ∀ k, k < l.length → FtOK C (ftAt l k)) (h : ∀ p, p < l.length → ∀ q, q < p → LC l p q) (i : Nat) : ∃ q : Nat, ∀ j, j < l.length → (ftAt l j).2.1 ≠ 4 → (ftAt l j).2.2.1 = (i : Int) → (ftAt l j).2.2.2.1 = (q : Int) := by
 by_cases e : ∃ j, j < l.length ∧ (ftAt l j).2.1 ≠ 4 ∧ (ftAt l j).2.2.1 = (i : Int)
 · obtain ⟨j, hj, hk, hx⟩ := e; refine ⟨(ftAt l j).2.2.2.1.toNat, fun m hm hmk hmx => ?_⟩; have hu := (hok j hj).u
   have : (ftAt l m).2.2.2.1 = (ftAt l j).2.2.2.1 := by
    rcases Nat.lt_trichotomy m j with c | c | c
    · exact (h j hj m c hk hmk (by rw [hx, hmx])).symm
    · rw [c]
    · exact h m hm j c hmk hk (by rw [hx, hmx])
   omega
 · exact ⟨0, fun j hj hk hx => absurd ⟨j, hj, hk, hx⟩ e⟩
theorem lq_fun {C : CR} {l : List Ft} (hok : ∀ k, k < l.length → FtOK C (ftAt l k)) (h : ∀ p, p < l.length → ∀ q, q < p → LC l p q) : ∃ lq : Nat → Nat, ∀ (i j : Nat), j < l.length → (ftAt l j).2.1 ≠ 4 → (ftAt l j).2.2.1 = (i : Int) → (ftAt l j).2.2.2.1 = (lq i : Int) :=
 ⟨fun i => Classical.choose (lq_is hok h i), fun i => Classical.choose_spec (lq_is hok h i)⟩
theorem lo_valid {C : CR} {l : List Ft} (hok : ∀ k, k < l.length → FtOK C (ftAt l k)) : ∀ j, j < l.length → (ftAt l j).2.1 = 4 → 0 ≤ (ftAt l j).2.2.1 := fun j hj _ => (hok j hj).x.1
theorem fa_none {C : CR} {l : List Ft} {a u : Int} (hok : ∀ k, k < l.length → FtOK C (ftAt l k)) (h : ∀ p, p < l.length → ∀ q, q < p → LC l p q) (ho : LO l l.length a u) (ha : a < 0) : ∃ lq : Nat → Nat, FA l lq (fun _ => 4) := by
 obtain ⟨lq, hq⟩ := lq_fun hok h; refine ⟨lq, fun j hj => ⟨fun hk i _ hx => hq i j hj hk hx, fun hk i _ hx => ?_⟩⟩; have := ho (lo_valid hok) j hj hk; have := (hok j hj).x.1
 omega
theorem fa_one {C : CR} {l : List Ft} {a u : Int} (hok : ∀ k, k < l.length → FtOK C (ftAt l k)) (h : ∀ p, p < l.length → ∀ q, q < p → LC l p q) (ho : LO l l.length a u) : ∃ lq lu : Nat → Nat, FA l lq lu ∧ ∀ i : Nat, (i : Int) ≠ a → lu i = 4 := by
 obtain ⟨lq, hq⟩ := lq_fun hok h; refine ⟨lq, fun i => if (i : Int) = a then u.toNat else 4, fun j hj => ⟨fun hk i _ hx => hq i j hj hk hx, fun hk i _ hx => ?_⟩, fun i hi => if_neg hi⟩; have e := ho (lo_valid hok) j hj hk; have hu := (hok j hj).u
 show (ftAt l j).2.2.2.1 = ((if (i : Int) = a then u.toNat else 4 : Nat) : Int)
 rw [if_pos (by omega)]
 omega
theorem rp_flight {C : CR} {l : List Ft} {ss : List Stp} {lq : Nat → Nat} (ok : FlOK C l ss) (hf : FA l lq (fun _ => 4)) {k : Nat} (hk : k < ss.length) :
 (rpF (flU C l ss (k + 1))).n = 0 ∧ ∀ i, i < 2 → 2 ≤ (rpF (flU C l ss (k + 1))).l i ∧ (rpF (flU C l ss (k + 1))).s i = C.a i 4 ∧ C.a i 0 ≤ (rpF (flU C l ss (k + 1))).x i ∧ (rpF (flU C l ss (k + 1))).x i ≤ C.a i 1 :=
 FI.flight (flU_gi ok.cr ok.st (k + 1) (by omega)) (flU_fi ok.cr ok.st hf (k + 1) (by omega)) (fun i hi => (Zdi ok.cr hi).1.2)
theorem rp_loose {C : CR} {l : List Ft} {ss : List Stp} {lq lu : Nat → Nat} {a : Int} (ok : FlOK C l ss) (hf : FA l lq lu) (hu : ∀ i : Nat, (i : Int) ≠ a → lu i = 4) {k : Nat} (hk : k < ss.length) :
 (0 ≤ (rpF (flU C l ss (k + 1))).n ∧ (rpF (flU C l ss (k + 1))).n ≤ 1) ∧ ∀ i : Nat, i < 2 → ((i : Int) ≠ a → C.a i 0 ≤ (rpF (flU C l ss (k + 1))).x i ∧ (rpF (flU C l ss (k + 1))).x i ≤ C.a i 1) ∧ C.a i 0 - (2 * C.a i 5 * C.a i 10 + bk (raI C i) (moI C i + puI C i)) ≤ (rpF (flU C l ss (k + 1))).x i ∧ (rpF (flU C l ss (k + 1))).x i ≤ C.a i 1 + (2 * C.a i 5 * C.a i 10 + bk (raI C i) (moI C i + puI C i)) := by
 obtain ⟨h1, h2⟩ := FI.loose (flU_gi ok.cr ok.st (k + 1) (by omega)) (flU_fi ok.cr ok.st hf (k + 1) (by omega)); exact ⟨h1, fun i hi => ⟨fun hne => (h2 i hi).1 (by rw [hu i hne]; exact (Zdi ok.cr hi).1.2), (h2 i hi).2⟩⟩
theorem wpList_newR {ops : Array Oper} {rest : List Oper} {op : Oper} {a : Act} {w : World} {Q : Exit → Act → World → Prop} {c : Array Value} (r : Rp) (x y : Operand) (hgd : op.guard = none) (ho : op.op = .store 95 x y)
 (hx : a.eval x = .pointer (some (Ad w.heap.size 0))) (hy : a.eval y = .agg (rpL r).toArray) (hc : c.size = 15) (hd : op.dst = none)
 (h : ∀ u, Below w.heap.size w u → Blk 95 u w.heap.size (rpL r) → wpList prog ops Q rest a u) : wpList prog ops Q (op :: rest) a (w.alloc (.cells c 95)) :=
 wpList_plain hgd fun K hK => by
  have hb := Blk.new w 95 c.toList; refine Zao 95 x y ho w.heap.size 0 (rpL r).toArray hx hy (hb.there (by simp [hc, Zfa])) (by rw [infoRp]; rfl) (Zau _ rfl) hd ?_; refine hK _ _ (h _ (Zah _ 0 _ (Zaa w _) (Nat.le_refl _)) ?_); have k := Blk.setCells (rpL r) 0 _ _ hb
  rwa [putL_all (rpL r) c.toList (by simp [hc, Zfa])] at k
theorem ax_su (C : CR) (i : Nat) : (axL C i)[4]? = some (Vi (C.a i 4)) := rfl
theorem topFlight_walk (C : CR) (pf : Option Addr) (cf : Nat) (l : List Ft) (ps : Option Addr) (cs : Nat) (ss : List Stp) (hml : l.length ≤ 9223372036854775807) (hms : ss.length ≤ 9223372036854775807) (w : World) (hg : GV w) (hcr : CrL w C) (hF : Fts w pf l) (hS : Sts w ps ss) :
 Calls prog 7 #[.agg (crL C).toArray, .agg #[.slice pf l.length cf, .slice ps ss.length cs]] w fun e w' => e = .returned (.bool true) ∧ Below w.heap.size w w' := by
 have HFW := Zab (fun u (h : Below w.heap.size w u) => flown_any C pf cf l ps cs ss hml hms u (hg.later h) (hcr.later h) (hF.later h) (hS.later h)); have HLO := Zab (fun u (h : Below w.heap.size w u) => looseOf_any pf cf l ps ss.length cs hml u (hF.later h)); have HLI := Zab (fun u (h : Below w.heap.size w u) => lies_any pf cf l ps ss.length cs hml u (hF.later h)); have HK := Zab ((Blk.new w 29 (crL C)).later (Zaa (w.alloc (.cells (crL C).toArray 29)) (.cells #[.slice pf l.length cf, .slice ps ss.length cs] 67))); have HF : Hid (Blk 67 ((w.alloc (.cells (crL C).toArray 29)).alloc (.cells #[.slice pf l.length cf, .slice ps ss.length cs] 67)) (w.heap.size + 1) [.slice pf l.length cf, .slice ps ss.length cs]) := Zab (by have h := Blk.new (w.alloc (.cells (crL C).toArray 29)) 67 [.slice pf l.length cf, .slice ps ss.length cs]; rw [World.size_alloc] at h; exact h); have HB0 := Zab (Zac (Zaa w (.cells (crL C).toArray 29)) (Zaa (w.alloc (.cells (crL C).toArray 29)) (.cells #[.slice pf l.length cf, .slice ps ss.length cs] 67))); clear hcr hF hS hg
 go_enter func7, ntmps7
 go_upto_region 1 with fail; generalize (w.alloc (.cells (crL C).toArray 29)).alloc (.cells #[.slice pf l.length cf, .slice ps ss.length cs] 67) = v0 at *; generalize w.heap.size + 1 = QF at HF ⊢; generalize hQK : w.heap.size = QK at HK ⊢; clear hQK; have xf := (HF.out.cell (j := 0) rfl).1; have xs := (HF.out.cell (j := 1) rfl).1
 go_upto_region 2 with (go_at_call 34; refine (HLO.out _ HB0.out).mono ?_; rintro e v1 ⟨⟨a, u, o, rfl, hlo, hz⟩, hb⟩; have HLO2 := Zab hlo; have HZ := Zab hz; replace HK := Zab (HK.out.later hb); replace HF := Zab (HF.out.later hb); replace HB0 := Zab (Zac HB0.out hb); clear hb hlo hz); clear xf xs; have xf := (HF.out.cell (j := 0) rfl).1; have xs := (HF.out.cell (j := 1) rfl).1; have haw := awake_any
 go_upto_region 4 with (first
  | (go_at_call 35; refine Sb (haw _) fun v2 hb => ?_; replace HK := Zab (HK.out.later hb); replace HF := Zab (HF.out.later hb); replace HB0 := Zab (Zac HB0.out hb); have xf := cell_later hb xf; have xs := cell_later hb xs; clear hb)
  | (go_at_call 36; refine (HLI.out _ HB0.out).mono ?_; rintro e v3 ⟨⟨b, rfl, hli⟩, hb⟩; have HLC := Zab hli; replace HK := Zab (HK.out.later hb); replace HF := Zab (HF.out.later hb); replace HB0 := Zab (Zac HB0.out hb); have xf := cell_later hb xf; have xs := cell_later hb xs; clear hb hli; cases b))
 · go_ret; exact ⟨rfl, HB0.out⟩
 · go_ret; exact ⟨rfl, HB0.out⟩
 have HO : Hid (a < 0 ∧ LO l l.length a u) := Zab (by
  have ha : a < 0 := by assumption
  cases o
  · have := HZ.out rfl; omega
  · exact ⟨ha, HLO2.out rfl⟩)
 have HLC2 := Zab (HLC.out trivial); clear HLO2 HZ HLC
 go_upto_region 6 with (first
  | (refine Lq 29 _ rfl ?_; refine wpList_load_mid rfl 29 (.tmp 2) rfl QK 0 rfl (crL C) _ HK.out.range underlying29 rfl Zam ?_)
  | (go_at_call 37; refine (HFW.out _ HB0.out).mono ?_; rintro e v4 ⟨⟨sr, ok, rfl, hy, hn⟩, hb⟩; replace HK := Zab (HK.out.later hb); replace HF := Zab (HF.out.later hb); replace HB0 := Zab (Zac HB0.out hb); clear hb))
 clear xf xs
 cases ok
 · obtain rfl := hn rfl; clear hy hn; refine wp_loop_rounds 1 ?_; rw [rounds_succ]; go_wp2_with fail; go_ret; exact ⟨rfl, HB0.out⟩
 obtain ⟨OK, hrp⟩ := hy rfl; obtain ⟨lq, hfa⟩ := fa_none OK.ft HLC2.out HO.out.2 HO.out.1; have HFA := Zab (fun k (hk : k < ss.length) => rp_flight OK hfa hk); obtain ⟨ra, rc, rfl⟩ := hrp.slice; rw [Zcz] at hrp ⊢; have HRP := Zab hrp; have HRL := Zab (Zcz C l ss ss.length); have hn3 := OK.ns; generalize hK1 : World.heap _ = K1 at HRP; clear hy hn OK hrp hfa HO HLC2 hK1 HF
 go_loopw [10] (fun ix wr => ∃ j : Nat, j ≤ ss.length ∧ ix = Vi j ∧ RpO K1.size wr (.slice ra ss.length rc) (rpU C l ss ss.length) ∧ Blk 29 wr QK (crL C) ∧ Below w.heap.size w wr) (fun ix _ => ss.length - (intOf ix).toNat)
 case atStart => exact ⟨0, by omega, rfl, HRP.out, HK.out, HB0.out⟩
 case round =>
  clear HRP HK HB0; obtain ⟨j, hj, rfl, hrp, hkk, hbw⟩ := hrel
  by_cases hlt : j < ss.length
  · have j0 : (0 : Int) ≤ (j : Int) := by omega
    have j1 : (j : Int) < (ss.length : Int) := by omega
    obtain ⟨g, rfl, hra⟩ := hrp.at (j := j) (by rw [HRL.out]; omega); rw [rpU_at C l ss ss.length j (by omega)] at hra; have hfl := HFA.out j hlt; generalize rpF (flU C l ss (j + 1)) = R at *; have HRA := Zab hra; have HFL := Zab hfl; have HKK := Zab hkk; have HBW := Zab hbw; have HRP := Zab hrp; clear hra hfl hkk hbw hrp
    go_upto_region 10 with (first
     | (refine Lq 95 _ rfl ?_; refine wpList_load_mid rfl 95 (.tmp 49) rfl g (j * 15) rfl (rpL R) _ HRA.out underlying95 rfl infoRp ?_)
     | (refine Sq 95 _ _ rfl ?_; refine wpList_newR R (.tmp 11) (.tmp 50) rfl rfl rfl rfl rfl rfl (fun v4 hb hblk => ?_); have HX := Zab hblk; replace HKK := Zab (HKK.out.later hb); replace HBW := Zab (Zac HBW.out hb); replace HRP := Zab (HRP.out.later hb); clear hb hblk))
    clear HRA; generalize wr.heap.size = QX at HX ⊢
    go_loopw [12] (fun ix wz => ∃ i : Nat, i ≤ 2 ∧ ix = Vi i ∧ Below v4.heap.size v4 wz) (fun ix _ => 2 - (intOf ix).toNat)
    case atStart => exact ⟨0, by omega, rfl, Below.refl _ _⟩
    case round =>
     obtain ⟨i, hi2, rfl, hbz⟩ := hrel; rename World => wq
     by_cases hi : i < 2
     · have i0 : (0 : Int) ≤ (i : Int) := by omega
       have i1 : (i : Int) < 2 := by omega
       have HRX := Zab ((HKK.out.later hbz).sub (i * 15) 15); rw [cr_axi C hi] at HRX; have HBZ := Zab (Zac hbz (Zaa wq (.cells (axL C i).toArray 26))); have HAX : Hid (Blk 26 (wq.alloc (.cells (axL C i).toArray 26)) wq.heap.size (axL C i)) := Zab (Blk.new wq _ _); clear hbz
       go_upto_region 13 with (first
        | (refine Lq 26 _ rfl ?_; refine wpList_load_mid rfl 26 (.tmp 57) rfl QK (i * 15) rfl (axL C i) _ HRX.out underlying26 rfl Zaw ?_)
        | (refine Sq 26 _ _ rfl ?_; refine Zbh (c' := (axL C i).toArray) (.tmp 13) (.tmp 58) rfl rfl rfl rfl rfl rfl (Zau _ rfl) ?_))
       clear HRX; generalize wq.alloc (.cells (axL C i).toArray 26) = v5 at *; generalize wq.heap.size = QA at HAX ⊢; obtain ⟨hn0, hfi⟩ := HFL.out; obtain ⟨f1, f2, f3, f4⟩ := hfi i hi; have rn := ((HX.out.later HBZ.out).cell (rp_cell_n R)).1; rw [hn0] at rn; have rl := ((HX.out.later HBZ.out).cell (rp_l R hi)).1; have rs := ((HX.out.later HBZ.out).cell (rp_s R hi)).1; rw [f2] at rs; have rx := ((HX.out.later HBZ.out).cell (rp_cell_x R hi)).1; have xc := (HAX.out.cell (ax_su C i)).1; have xl := (HAX.out.cell (j := 0) rfl).1; have xh := (HAX.out.cell (j := 1) rfl).1
       have hl2 : ¬ R.l i < 2 := by omega
       have hbt := Zai (R.x i) (C.a i 0) (C.a i 1); rw [Zay ⟨f3, f4⟩] at hbt; clear hn0 hfi f1 f2 f3 f4; refine Cs [59, 60, 61, 62, 63, 64, 65, 66, 67, 68, 69, 70, 71, 72, 73, 74, 75, 76, 77, 78, 79, 80, 81, 82, 83, 84, 85, 86, 87, 88, 89] ?_; refine Cp 0 59 [] ?_; refine Cq (fun _ h => cell_later h rn) 1 60 [0] ?_; refine Cp 2 61 [1] ?_; refine Cp 3 62 [2] ?_; refine Cp 4 63 [3] ?_ (hw := fun y w hF => Zak (congrArg some hF.1)); refine Cp 5 64 [3] ?_ (hw := fun y w hF => Zak (congrArg some hF.1)); refine Cp 6 65 [5, 4, 3] ?_ (hw := fun y w hF => Zak (congrArg some hF.2.2.1)); refine Cq (fun _ h => cell_later h rl) 7 66 [6, 3] ?_ (hw := fun y w hF => Zak (congrArg some hF.2.1)); refine Cp 8 67 [7, 3] ?_ (hw := fun y w hF => Zak (congrArg some hF.2.1)); refine Cp 9 68 [3, 8] ?_; refine Cp 10 69 [9] ?_; refine Cp 11 70 [10] ?_ (hw := fun y w hF => Zak (congrArg some hF.1)); refine Cp 12 71 [10] ?_ (hw := fun y w hF => Zak (congrArg some hF.1)); refine Cp 13 72 [12, 11, 10] ?_ (hw := fun y w hF => Zak (congrArg some hF.2.2.1)); refine Cq (fun _ h => cell_later h rs) 14 73 [13, 10] ?_ (hw := fun y w hF => Zak (congrArg some hF.2.1)); refine Cp 15 74 [10] ?_ (hw := fun y w hF => Zak (congrArg some hF.1)); refine Cq (fun _ h => cell_later h xc) 16 75 [15, 10] ?_ (hw := fun y w hF => Zak (congrArg some hF.2.1)); refine Cp 17 76 [14, 16, 10] ?_ (hw := fun y w hF => Zak (congrArg some hF.2.2.1)); refine Cp 18 77 [10, 17] ?_; refine Cp 19 78 [18] ?_; refine Cp 20 79 [19] ?_ (hw := fun y w hF => Zak (congrArg some hF.1)); refine Cp 21 80 [19] ?_ (hw := fun y w hF => Zak (congrArg some hF.1)); refine Cp 22 81 [21, 20, 19] ?_ (hw := fun y w hF => Zak (congrArg some hF.2.2.1)); refine Cq (fun _ h => cell_later h rx) 23 82 [22, 19] ?_ (hw := fun y w hF => Zak (congrArg some hF.2.1)); refine Cp 24 83 [19] ?_ (hw := fun y w hF => Zak (congrArg some hF.1)); refine Cq (fun _ h => cell_later h xl) 25 84 [24, 19] ?_ (hw := fun y w hF => Zak (congrArg some hF.2.1)); refine Cp 26 85 [19] ?_ (hw := fun y w hF => Zak (congrArg some hF.1)); refine Cq (fun _ h => cell_later h xh) 27 86 [26, 19] ?_ (hw := fun y w hF => Zak (congrArg some hF.2.1)); refine Cc 28 87 [23, 25, 27, 19] (fun y w h _ => Zez (hbt _)) ?_ (hw := fun y w hF => Zak (congrArg some hF.2.2.2.1)); refine Cp 29 88 [28, 19] ?_ (hw := fun y w hF => Zak (congrArg some hF.2.1)); refine Cp 30 89 [19, 29] ?_; refine Ce (fun y u1 hB hf => ?_); have HS1 := Zab hB
       clear hB hf; go_simp; have hB2 := HS1.out; clear HS1; generalize u1 = v6 at hB2 ⊢; refine Zbd (by assumption) ?_; go_wp2_with fail; go_roundw
       case rel => exact ⟨i + 1, by omega, by go_num, Zac HBZ.out hB2⟩
       case measure => simp [intOf]; omega
     · obtain rfl : i = 2 := by omega
       have HRZ := Zab (HRP.out.later hbz); have HKZ := Zab (HKK.out.later hbz); have HBZ := Zab (Zac HBW.out hbz); clear hbz; go_wp2_with fail; exact ⟨⟨j + 1, by omega, by go_num, HRZ.out, HKZ.out, HBZ.out⟩, by simp [intOf]; omega⟩
  · have hn4 : ¬ (j : Int) < (ss.length : Int) := by omega
    have HBZ := Zab hbw; clear hrp hkk hbw; go_wp2_with fail; go_ret; exact ⟨rfl, HBZ.out⟩
end Go.Proofs.YtnfdfiholcelaaaGreatDoor
