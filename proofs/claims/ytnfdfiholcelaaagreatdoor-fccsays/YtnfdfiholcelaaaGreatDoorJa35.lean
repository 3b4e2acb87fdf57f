import Derived.Deep.QuietTactic
import Derived.BigQuiet
import Derived.ChangeKeysEq
import Derived.Test.YtnfdfiholcelaaaGreatDoorJa00
import Derived.Test.YtnfdfiholcelaaaGreatDoorJa05
import Derived.Test.YtnfdfiholcelaaaGreatDoorJa25
import Derived.Test.YtnfdfiholcelaaaGreatDoorJa26
import Derived.Test.YtnfdfiholcelaaaGreatDoorJa28
import Derived.Test.YtnfdfiholcelaaaGreatDoorJa34
set_option maxRecDepth 100000
set_option maxHeartbeats 20000000
namespace Go.Proofs.YtnfdfiholcelaaaGreatDoor
open Go.RowKit Plain
def fU (S : FS) : Nat → Bool
 | 0 => betw S.n 0 3
 | k + 1 => fU S k && decide (Zdl (S.bk k).b (S.bk k).l = 0)
def fX (C : CR) (S : FS) (sv : Nat → List Sv) : Nat → Bool
 | 0 => fU S 3
 | i + 1 => fX C S sv i && decide (((sv i).length : Int) = C.a i 4) && decide (chE C i (S.hd i) = 0) && decide (seU C i (sv i) (sv i).length = 0)
theorem stE_fX (C : CR) (S : FS) (sv : Nat → List Sv) (h : crE C = 0) : stE C S sv = if fX C S sv 2 then 0 else 3 := by
 unfold stE
 rw [if_pos h]
 have e : (fstN (eSt C S sv) 8 = 0) ↔ fX C S sv 2 = true := by
  constructor
  · intro h; have a := Zji h; have a0 : clE S.n = 0 := a 0 (by omega); have a1 : Zdl (S.bk 0).b (S.bk 0).l = 0 := a 1 (by omega); have a2 : Zdl (S.bk 1).b (S.bk 1).l = 0 := a 2 (by omega); have a3 : Zdl (S.bk 2).b (S.bk 2).l = 0 := a 3 (by omega); have a4 : csE C 0 (sv 0) = 0 := a 4 (by omega); have a5 : chE C 0 (S.hd 0) = 0 := a 5 (by omega); have a6 : csE C 1 (sv 1) = 0 := a 6 (by omega); have a7 : chE C 1 (S.hd 1) = 0 := a 7 (by omega)
    have cs : ∀ i, csE C i (sv i) = 0 → ((sv i).length : Int) = C.a i 4 ∧ seU C i (sv i) (sv i).length = 0 := fun i h => by
     unfold csE at h
     split at h
     · rename_i e; exact ⟨e, h⟩
     · cases h
    have b0 := cs 0 a4; have b1 := cs 1 a6; simp only [fX, fU, clE_zero a0, a1, a2, a3, b0.1, b0.2, b1.1, b1.2, a5, a7, decide_true, Bool.and_self]
  · intro h; simp only [fX, fU, Bool.and_eq_true, decide_eq_true_eq] at h; obtain ⟨⟨⟨⟨⟨⟨⟨⟨⟨h0, h1⟩, h2⟩, h3⟩, h4⟩, h5⟩, h6⟩, h7⟩, h8⟩, h9⟩ := h; refine Zjh (fun j hj => ?_)
    rcases (show j = 0 ∨ j = 1 ∨ j = 2 ∨ j = 3 ∨ j = 4 ∨ j = 5 ∨ j = 6 ∨ j = 7 by omega) with rfl | rfl | rfl | rfl | rfl | rfl | rfl | rfl
    · show clE S.n = 0; unfold clE; rw [if_pos h0]
    · exact h1
    · exact h2
    · exact h3
    · show csE C 0 (sv 0) = 0; unfold csE; rw [if_pos h4]; exact h6
    · exact h5
    · show csE C 1 (sv 1) = 0; unfold csE; rw [if_pos h7]; exact h9
    · exact h8
 by_cases hf : fX C S sv 2 = true
 · rw [if_pos (e.2 hf), if_pos hf]
 · rw [if_neg (fun h => hf (e.1 h)), if_neg hf]
theorem Zfq (S : FS) {k : Nat} (hk : k < 3) (j : Nat) (hj : j < 7) : (stL S)[k * 7 + j]? = some ((bkL (S.bk k)).getD j undef) := by
 have h := st_bank S hk
 have e : (((stL S).drop (k * 7)).take 7)[j]? = (bkL (S.bk k))[j]? := by rw [h]
 rw [List.getElem?_take, if_pos hj, List.getElem?_drop] at e; rw [e, List.getD_eq_getElem?_getD]; have hl : j < (bkL (S.bk k)).length := hj; rw [List.getElem?_eq_getElem hl]; rfl
theorem range3 {u : World} {b o : Nat} {x y z : Value} (h0 : u.cell? (Ad b o) = some x) (h1 : u.cell? (Ad b (o + 1)) = some y) (h2 : u.cell? (Ad b (o + 2)) = some z) : u.rangeAt b o [x, y, z] := fun j v hj => by
 match j with
 | 0 => simp at hj; subst hj; exact h0
 | 1 => simp at hj; subst hj; exact h1
 | 2 => simp at hj; subst hj; exact h2
 | j + 3 => simp at hj
theorem craftMay_c (C : CR) (w : World) (hl : CrL w C) : Calls Tryz.prog 41 #[.agg (crL C).toArray] w fun e w' => e = .returned (Vi (crE C)) ∧ Below w.heap.size w w' :=
 craftMay_any (C.a 0 0) (C.a 0 1) (C.a 0 2) (C.a 0 3) (C.a 0 4) (C.a 0 5) (C.a 0 6) (C.a 0 7) (C.a 0 8) (C.a 0 9) (C.a 0 10) (C.a 0 11) (C.a 0 14) (C.p 0) (C.q 0) (C.al 0) (C.zl 0) (C.cn 0) (C.cm 0) (C.a 1 0) (C.a 1 1) (C.a 1 2) (C.a 1 3) (C.a 1 4) (C.a 1 5) (C.a 1 6) (C.a 1 7) (C.a 1 8) (C.a 1 9) (C.a 1 10) (C.a 1 11) (C.a 1 14) (C.p 1) (C.q 1) (C.al 1) (C.zl 1) (C.cn 1) (C.cm 1) C.c0 C.c1 w (hl 0 (by omega)) (hl 1 (by omega))
theorem Zha (C : CR) (S : FS) (sv : Nat → List Sv) (w : World) (hl : CrL w C) (hv : SvL w S sv) :
 Calls Tryz.prog 12 #[.agg (crL C).toArray, .agg (stL S).toArray] w fun e w' => e = .returned (Vi (stE C S sv)) ∧ Below w.heap.size w w' := by
 have hck := fun u (h : Below w.heap.size w u) => craftMay_c C u (hl.later h); have HS : Hid (Blk 41 ((w.alloc (.cells (crL C).toArray 29)).alloc (.cells (stL S).toArray 41)) (w.heap.size + 1) (stL S)) := Zab (by have := Blk.new (w.alloc (.cells (crL C).toArray 29)) 41 (stL S); rw [World.size_alloc] at this; exact this); have HC : Hid (Blk 29 ((w.alloc (.cells (crL C).toArray 29)).alloc (.cells (stL S).toArray 41)) w.heap.size (crL C)) := Zab ((Blk.new w 29 (crL C)).later (Zaa _ (.cells (stL S).toArray 41))); have HB := Zab (Zac (Zaa w (.cells (crL C).toArray 29)) (Zaa _ (.cells (stL S).toArray 41))); have HCr := Zab HC.out.range
 by_cases h0 : crE C = 0
 · have HE := Zab (stE_fX C S sv h0); rw [HE.out]; simp only [h0] at hck; have HAC := Zab (fun u (h : Below w.heap.size w u) i (hi : i < 2) => axC_of h0 (hl.later h) hi); have HV := Zab hv; have hbt := Zaj S.n 0 3; obtain ⟨fz, HFZ⟩ : ∃ fz, Hid (fX C S sv 2 = fz) := ⟨_, Zab rfl⟩; rw [HFZ.out]; clear hl hv HE h0
   go_enter Tryz.func12, Tryz.ntmps12
   go_upto_region 4 with (first
    | (refine Zbq _ rfl ?_; refine wpList_load_mid rfl 29 (.tmp 2) rfl w.heap.size 0 rfl (crL C) _ HCr.out Tryz.underlying29 rfl Zbr ?_)
    | (go_at_call 41; refine Sb (hck _ HB.out) fun w1 hb => ?_; have HB := Zab (Zac HB.out hb); have HC := Zab (HC.out.later hb); have HS := Zab (HS.out.later hb); clear hb))
   generalize w.heap.size + 1 = QS at *; have hn := (HS.out.cell (show (stL S)[29]? = some (Vi S.n) from rfl)).1
   go_upto_region 6 with (go_at_call 38; refine (hbt _).mono ?_; rintro e w' ⟨rfl, rfl⟩); clear hn hck HCr hbt
   go_loopw [6, 7] (fun f ix wr => ∃ k : Nat, k ≤ 3 ∧ ix = Vi k ∧ f = .bool (fU S k) ∧ Blk 41 wr QS (stL S) ∧ Blk 29 wr w.heap.size (crL C) ∧ Below w.heap.size w wr) (fun _ ix _ => 3 - (intOf ix).toNat)
   case atStart => exact ⟨0, by omega, rfl, rfl, HS.out, HC.out, HB.out⟩
   case round =>
    obtain ⟨k, hk, rfl, rfl, hs, hc, hbw⟩ := hrel; clear HS HC HB
    by_cases hlt : k < 3
    · have hbm := bankMay_any (S.bk k).b (S.bk k).o (S.bk k).l; have HFN : Hid (fU S (k + 1) = (fU S k && decide (Zdl (S.bk k).b (S.bk k).l = 0))) := Zab rfl; have c0 := (hs.cell (Zfq S hlt 0 (by omega))).1; have c1 := (hs.cell (Zfq S hlt 1 (by omega))).1; have c2 := (hs.cell (Zfq S hlt 2 (by omega))).1; have c3 := (hs.cell (Zfq S hlt 3 (by omega))).1; have c4 := (hs.cell (Zfq S hlt 4 (by omega))).1; have c5 := (hs.cell (Zfq S hlt 5 (by omega))).1; have c6 := (hs.cell (Zfq S hlt 6 (by omega))).1;
      have k0 : (0 : Int) ≤ (k : Int) := by omega
      have k1 : (k : Int) < 3 := by omega
      simp only [bkL, List.getD_cons_zero, List.getD_cons_succ, Nat.add_zero] at c0 c1 c2 c3 c4 c5 c6; have HS := Zab hs; have HC := Zab hc; have HB := Zab hbw; generalize Zdl (S.bk k).b (S.bk k).l = be at *; generalize fU S k = fb at *; clear hs hc hbw
      cases fb
      · go_wp2_with fail; go_roundw
        case rel => exact ⟨k + 1, by omega, by go_num, by rw [HFN.out]; rfl, HS.out, HC.out, HB.out⟩
        case measure => simp [intOf]; omega
      · go_wp2_with (go_at_call 42; refine Sb (hbm _) fun w2 hb => ?_; have HS := Zab (HS.out.later hb); have HC := Zab (HC.out.later hb); have HB := Zab (Zac HB.out hb); clear hb); go_roundw
        case rel => exact ⟨k + 1, by omega, by go_num, by rw [HFN.out]; rfl, HS.out, HC.out, HB.out⟩
        case measure => simp [intOf]; omega
    · obtain rfl : k = 3 := by omega
      go_upto_region 10 with fail
      go_loopw [6, 8] (fun f ix wr => ∃ i : Nat, i ≤ 2 ∧ ix = Vi i ∧ f = .bool (fX C S sv i) ∧ Blk 41 wr QS (stL S) ∧ Blk 29 wr w.heap.size (crL C) ∧ Below w.heap.size w wr) (fun _ ix _ => 2 - (intOf ix).toNat)
      case atStart => exact ⟨0, by omega, rfl, rfl, hs, hc, hbw⟩
      case round =>
       clear hs hc hbw; obtain ⟨i, hi2, rfl, rfl, hs, hc, hbw⟩ := hrel
       by_cases hi : i < 2
       · have i0 : (0 : Int) ≤ (i : Int) := by omega
         have i1 : (i : Int) < 2 := by omega
         have HX := Zab (hc.sub (i * 15) 15); rw [cr_axis C hi] at HX; have HAC1 := Zab (HAC.out _ hbw i hi); have HA0 : Hid (Blk 26 (wr.alloc (.cells (axL C i).toArray 26)) wr.heap.size (axL C i)) := Zab (Blk.new wr _ _); have HS := Zab (hs.later (Zaa wr (.cells (axL C i).toArray 26))); have HC := Zab (hc.later (Zaa wr (.cells (axL C i).toArray 26))); have HB := Zab (Zac hbw (Zaa wr (.cells (axL C i).toArray 26))); have HAC1 := Zab (HAC1.out.later (Zaa wr (.cells (axL C i).toArray 26))); clear hs hc hbw
         go_upto_region 13 with (first
          | (refine Zip _ rfl ?_; refine wpList_load_mid rfl 26 (.tmp 38) rfl w.heap.size (i * 15) rfl (axL C i) _ HX.out Tryz.underlying26 rfl Zbh ?_)
          | (refine Zgf _ _ rfl ?_; refine Zdb (c' := (axL C i).toArray) (.tmp 9) (.tmp 39) rfl rfl rfl rfl rfl rfl (Zaq _ rfl) ?_))
         generalize wr.alloc (.cells (axL C i).toArray 26) = y0 at *; generalize wr.heap.size = QA at HA0 ⊢; clear HX; have hsv := (HS.out.cell (Zca S hi)).1; rw [(HV.out i hi).1] at hsv; have hax4 := (HA0.out.cell (show (axL C i)[4]? = some (Vi (C.a i 4)) from rfl)).1; have HAXr := Zab HA0.out.range; have HHDr := Zab (HS.out.sub (23 + i * 3) 3); rw [st_hold S hi] at HHDr
         unfold hdL at HHDr
         have hhm0 := fun u (h : Below y0.heap.size y0 u) => holdMay_any (C.a i 0) (C.a i 1) (C.a i 11) (C.a i 14) (moI C i) (C.p i) (C.q i) (C.cn i) (C.cm i) (C.al i) (C.zl i) (S.hd i).1 (S.hd i).2.1 (S.hd i).2.2 0 0 0 0 0 HAC1.out.m0 HAC1.out.m1 u (HAC1.out.la.later h) (HAC1.out.lz.later h); have HCE : Hid (chE C i (S.hd i) = hoE (C.a i 0) (C.a i 1) (C.a i 11) (C.a i 14) (moI C i) (C.al i) (C.zl i) (S.hd i).1 (S.hd i).2.1 (S.hd i).2.2 0 0 0) := Zab rfl; have hhr0 := Zcx (C.a i 0) (C.a i 1) (C.a i 2) (C.a i 3) (C.a i 4) (C.a i 5) (C.a i 6) (C.a i 7) (C.a i 8) (C.a i 9) (C.a i 10) (C.a i 11) (C.a i 14) (C.p i) (C.q i) (C.al i).length (C.zl i).length (C.cn i) (C.cm i) HAC1.out.h4 HAC1.out.h5; have hhr : ∀ u, Calls Tryz.prog 44 #[.agg #[Vi (C.a i 0), Vi (C.a i 1), Vi (C.a i 2), Vi (C.a i 3), Vi (C.a i 4), Vi (C.a i 5), Vi (C.a i 6), Vi (C.a i 7), Vi (C.a i 8), Vi (C.a i 9), Vi (C.a i 10), Vi (C.a i 11), .slice (C.p i) (C.al i).length (C.cn i), .slice (C.q i) (C.zl i).length (C.cm i), Vi (C.a i 14)]] u fun e w' => e = .returned (.agg #[Vi (C.a i 0), Vi (C.a i 1), Vi (C.a i 11), Vi (C.a i 14), Vi (moI C i), .slice (C.p i) (C.al i).length (C.cn i), .slice (C.q i) (C.zl i).length (C.cm i)]) ∧ Below u.heap.size u w' := hhr0; have HFN : Hid (fX C S sv (i + 1) = (fX C S sv i && decide (((sv i).length : Int) = C.a i 4) && decide (chE C i (S.hd i) = 0) && decide (seU C i (sv i) (sv i).length = 0))) := Zab rfl; clear hhr0 HAC1; rw [← HCE.out] at hhm0; have hhm := hhm0; clear hhm0 HCE; generalize chE C i (S.hd i) = ce at *; generalize (S.hd i).1 = h0 at *; generalize (S.hd i).2.1 = h1 at *; generalize (S.hd i).2.2 = h2 at *; generalize moI C i = mo at *; generalize fX C S sv i = fb at *; generalize hm : (sv i).length = m at *; (try simp only [Act.put])
         go_cut [6] (fun f u => f = .bool (fb && decide ((m : Int) = C.a i 4) && decide (ce = 0)) ∧ Below y0.heap.size y0 u)
         case first =>
          cases fb
          · skip
            refine wp_region_held_drew (S := fun u => Below y0.heap.size y0 u) (by kernel_rfl) ((Below.refl _ _).drew) (fun _ => ?_); have HS0 : Hid (Below y0.heap.size y0 y0.drew) := Zab ((Below.refl _ _).drew); generalize y0.drew = u0 at HS0 ⊢; refine Tq 0 HS0.out ?_; simp only [Act.put, Ly]; refine Tq 1 HS0.out ?_; simp only [Act.put, Ly]; refine Ts 2 HS0.out ?_; simp only [Act.put, Ly]; refine Ts 3 HS0.out ?_; simp only [Act.put, Ly]; refine Ts 4 HS0.out ?_; simp only [Act.put, Ly]; refine Ts 5 HS0.out ?_; simp only [Act.put, Ly]; refine Ts 6 HS0.out ?_; simp only [Act.put, Ly]; refine Ts 7 HS0.out ?_; simp only [Act.put, Ly]; refine Ts 8 HS0.out ?_; simp only [Act.put, Ly]; refine Ts 9 HS0.out ?_; simp only [Act.put, Ly]; refine Tq 10 HS0.out ?_; simp only [Act.put, Ly]; refine Tq 11 HS0.out ?_; simp only [Act.put, Ly]; refine Ts 12 HS0.out ?_; simp only [Act.put, Ly]; refine Ts 13 HS0.out ?_; simp only [Act.put, Ly]; refine Ts 14 HS0.out ?_; simp only [Act.put, Ly]; refine Ts 15 HS0.out ?_; simp only [Act.put, Ly]; refine Ts 16 HS0.out ?_; simp only [Act.put, Ly]; refine Ts 17 HS0.out ?_; simp only [Act.put, Ly]; refine Ts 18 HS0.out ?_; simp only [Act.put, Ly]; refine Ts 19 HS0.out ?_; simp only [Act.put, Ly]; refine Ts 20 HS0.out ?_; simp only [Act.put, Ly]; refine Tq 21 HS0.out ?_; simp only [Act.put, Ly]; refine Tq 22 HS0.out ?_; simp only [Act.put, Ly]; refine wpAnyH_done (by kernel_rfl) ?_ _; go_simp; have hB := HS0.out; clear HS0; generalize u0 = z1 at hB  ⊢; go_wp2_with fail
            go_meet
            case rel => exact ⟨rfl, hB⟩
          · by_cases hle : (m : Int) = C.a i 4
            · have hd1 : decide ((m : Int) = C.a i 4) = true := by simpa using hle
              refine wp_region_held_drew (S := fun u => Below y0.heap.size y0 u) (by kernel_rfl) ((Below.refl _ _).drew) (fun _ => ?_); have HS0 : Hid (Below y0.heap.size y0 y0.drew) := Zab ((Below.refl _ _).drew); generalize y0.drew = u0 at HS0 ⊢; refine Tq 0 HS0.out ?_; simp only [Act.put, Ly]; refine Tq 1 HS0.out ?_; simp only [Act.put, Ly]; refine Tq 2 HS0.out ?_; simp only [Act.put, Ly]; refine Tq 3 HS0.out ?_; simp only [Act.put, Ly]; refine Tq 4 HS0.out ?_; simp only [Act.put, Ly]; refine Th 5 rfl (by intro w hSw; (try dsimp only at hSw); have y := cell_later hSw hsv; clear hSw; go_simp; (try with_reducible rfl)) HS0.out ?_; simp only [Act.put, Ly]; refine Tq 6 HS0.out ?_; simp only [Act.put, Ly]; refine Tq 7 HS0.out ?_; simp only [Act.put, Ly]; refine Th 8 rfl (by intro w hSw; (try dsimp only at hSw); have y := cell_later hSw hax4; clear hSw; go_simp; (try with_reducible rfl)) HS0.out ?_; simp only [Act.put, Ly]; refine Tq 9 HS0.out ?_; simp only [Act.put, Ly]; refine Tq 10 HS0.out ?_; simp only [Act.put, Ly]; refine Tq 11 HS0.out ?_; simp only [Act.put, Ly]; refine Tk 12 rfl (yieldsIf_load_mid (by rfl) 26 (.tmp 9) rfl QA (0) rfl (axL C i) _ (fun w hSw => Zag HAXr.out hSw) Tryz.underlying26 rfl Zbh) HS0.out ?_; simp only [Act.put, Ly]; refine Tq 14 HS0.out ?_; simp only [Act.put, Ly]; refine Tq 15 HS0.out ?_; simp only [Act.put, Ly]; refine Tq 16 HS0.out ?_; simp only [Act.put, Ly]; refine Tk 17 rfl (yieldsIf_load_mid (by rfl) 38 (.tmp 56) rfl QS (23 + i * 3) rfl [Vi h0, Vi h1, Vi h2] _ (fun w hSw => Zag HHDr.out hSw) Tryz.underlying38 rfl Zcp) HS0.out ?_; simp only [Act.put, Ly]; refine Tq 18 HS0.out ?_; simp only [Act.put, Ly]; refine Ra 13 (fun K hK => ?_); go_simp; refine Sb (hhr _) fun u1 hb => ?_; have HS1 := Zab (Zac HS0.out hb); clear hb; go_wp2_with fail; refine hK.out _ _ HS1.out (fun _ => ?_); clear hK K; (try simp only [Act.put]); refine Ra 19 (fun K hK => ?_); go_simp; refine Sb (hhm _ HS1.out) fun u2 hb => ?_; have HS2 := Zab (Zac HS1.out hb); clear hb; go_wp2_with fail; refine hK.out _ _ HS2.out (fun _ => ?_); clear hK K; (try simp only [Act.put]); clear HS1; refine Tq 20 HS2.out ?_; simp only [Act.put, Ly]; refine Tq 21 HS2.out ?_; simp only [Act.put, Ly]; refine Tq 22 HS2.out ?_; simp only [Act.put, Ly]; refine wpAnyH_done (by kernel_rfl) ?_ _; go_simp; have hB := HS2.out; clear HS2; generalize u2 = z1 at hB  ⊢; go_wp2_with fail
              go_meet
              case rel => exact ⟨by rw [hd1]; rfl, hB⟩
            · have hd1 : decide ((m : Int) = C.a i 4) = false := by simpa using hle
              have hd2 : ((m : Int) == C.a i 4) = false := by simpa using hle
              have hd3 : ((m : Int) = C.a i 4) = False := eq_false hle; refine wp_region_held_drew (S := fun u => Below y0.heap.size y0 u) (by kernel_rfl) ((Below.refl _ _).drew) (fun _ => ?_); have HS0 : Hid (Below y0.heap.size y0 y0.drew) := Zab ((Below.refl _ _).drew); generalize y0.drew = u0 at HS0 ⊢; refine Tq 0 HS0.out ?_; simp only [Act.put, Ly]; refine Tq 1 HS0.out ?_; simp only [Act.put, Ly]; refine Tq 2 HS0.out ?_; simp only [Act.put, Ly]; refine Tq 3 HS0.out ?_; simp only [Act.put, Ly]; refine Tq 4 HS0.out ?_; simp only [Act.put, Ly]; refine Th 5 rfl (by intro w hSw; (try dsimp only at hSw); have y := cell_later hSw hsv; clear hSw; go_simp; (try with_reducible rfl)) HS0.out ?_; simp only [Act.put, Ly]; refine Tq 6 HS0.out ?_; simp only [Act.put, Ly]; refine Tq 7 HS0.out ?_; simp only [Act.put, Ly]; refine Th 8 rfl (by intro w hSw; (try dsimp only at hSw); have y := cell_later hSw hax4; clear hSw; go_simp; (try with_reducible rfl)) HS0.out ?_; simp only [Act.put, Ly]; refine Tq 9 HS0.out ?_; simp only [Act.put, Ly]; refine Tq 10 HS0.out ?_; simp only [Act.put, Ly]; refine Tq 11 HS0.out ?_; simp only [Act.put, Ly]; refine Ts 12 HS0.out ?_; simp only [Act.put, Ly]; refine Ts 13 HS0.out ?_; simp only [Act.put, Ly]; refine Ts 14 HS0.out ?_; simp only [Act.put, Ly]; refine Ts 15 HS0.out ?_; simp only [Act.put, Ly]; refine Ts 16 HS0.out ?_; simp only [Act.put, Ly]; refine Ts 17 HS0.out ?_; simp only [Act.put, Ly]; refine Ts 18 HS0.out ?_; simp only [Act.put, Ly]; refine Ts 19 HS0.out ?_; simp only [Act.put, Ly]; refine Ts 20 HS0.out ?_; simp only [Act.put, Ly]; refine Tq 21 HS0.out ?_; simp only [Act.put, Ly]; refine Tq 22 HS0.out ?_; simp only [Act.put, Ly]; refine wpAnyH_done (by kernel_rfl) ?_ _; go_simp; have hB := HS0.out; clear HS0; generalize u0 = z1 at hB  ⊢; go_wp2_with fail
              go_meet
              case rel => exact ⟨by rw [hd1]; rfl, hB⟩
         case rest =>
          obtain ⟨rfl, hB⟩ := hcut; rename World => y1; have HS := Zab (HS.out.later hB); have HC := Zab (HC.out.later hB); have HA0 := Zab (HA0.out.later hB); have HB := Zab (Zac HB.out hB); have hsv := cell_later hB hsv; have har := Zci (C.a i 0) (C.a i 1) (C.a i 2) (C.a i 3) (C.a i 4) (C.a i 5) (C.a i 6) (C.a i 7) (C.a i 8) (C.a i 9) (C.a i 10) (C.a i 11) (C.a i 14) (C.p i) (C.q i) (C.al i).length (C.zl i).length (C.cn i) (C.cm i); clear hB hax4 HAXr HHDr hhm hhr; generalize hr1 : (fb && decide ((m : Int) = C.a i 4) && decide (ce = 0)) = r1 at HFN ⊢; clear hr1
          go_upto_region 15 with fail
          go_loopw [6, 10] (fun f kx wr => ∃ k : Nat, k ≤ m ∧ kx = Vi k ∧ f = .bool (r1 && decide (seU C i (sv i) k = 0)) ∧ Blk 41 wr QS (stL S) ∧ Blk 29 wr w.heap.size (crL C) ∧ Blk 26 wr QA (axL C i) ∧ Below w.heap.size w wr) (fun _ kx _ => m - (intOf kx).toNat)
          case atStart => exact ⟨0, by omega, rfl, by rw [show decide (seU C i (sv i) 0 = 0) = true from rfl, Bool.and_true], HS.out, HC.out, HA0.out, HB.out⟩
          case round =>
           clear HS HC HA0 HB hsv; obtain ⟨k, hk, rfl, rfl, hs, hc, ha, hbw⟩ := hrel; have hsv := (hs.cell (Zca S hi)).1; rw [(HV.out i hi).1, hm] at hsv
           have k0 : (0 : Int) ≤ (k : Int) := by omega
           have hm9 : m ≤ 9 := by rw [← hm]; exact (HV.out i hi).2.1
           by_cases hlt : k < m
           · have k1 : (k : Int) < (m : Int) := by omega
             have kd : decide ((k : Int) < (m : Int)) = true := by simpa using k1
             by_cases hg : (r1 && decide (seU C i (sv i) k = 0)) = true
             · obtain ⟨b, off, hpo, c0, c1, c2⟩ := ((HV.out i hi).2.2.later hbw).at (k := k) (by omega); rw [hpo] at hsv; rw [hg]
               have hg1 : r1 = true ∧ seU C i (sv i) k = 0 := by simpa using hg
               have HSE : Hid (seU C i (sv i) (k + 1) = svE (C.a i 5) (C.a i 6) (C.a i 7) (C.a i 10) (svAt (sv i) k).1 (svAt (sv i) k).2.1 (svAt (sv i) k).2.2) := Zab (by rw [seU, if_pos hg1.2]); have hsm := servoMay_any (C.a i 5) (C.a i 6) (C.a i 7) (C.a i 10) (svAt (sv i) k).1 (svAt (sv i) k).2.1 (svAt (sv i) k).2.2; have HR1 := Zab hg1.1; generalize svE (C.a i 5) (C.a i 6) (C.a i 7) (C.a i 10) (svAt (sv i) k).1 (svAt (sv i) k).2.1 (svAt (sv i) k).2.2 = se at *; generalize (svAt (sv i) k).1 = si at *; generalize (svAt (sv i) k).2.1 = sb at *; generalize (svAt (sv i) k).2.2 = so at *; have HS := Zab hs; have HC := Zab hc; have HA := Zab ha; have HBW := Zab hbw; have HAXr := Zab ha.range; have HSVr := Zab (range3 c0 c1 c2); clear hs hc ha hbw c0 c1 c2 hg hg1 hpo
               go_upto_region 17 with fail; refine wp_region_held_drew (S := fun u => Below wr.heap.size wr u) (by kernel_rfl) ((Below.refl _ _).drew) (fun _ => ?_); have HS0 : Hid (Below wr.heap.size wr wr.drew) := Zab ((Below.refl _ _).drew); generalize wr.drew = u0 at HS0 ⊢; refine Tk 0 rfl (yieldsIf_load_mid (by rfl) 26 (.tmp 9) rfl QA (0) rfl (axL C i) _ (fun w hSw => Zag HAXr.out hSw) Tryz.underlying26 rfl Zbh) HS0.out ?_; simp only [Act.put, Ly]; refine Tq 2 HS0.out ?_; simp only [Act.put, Ly]; refine Tq 3 HS0.out ?_; simp only [Act.put, Ly]; refine Tq 4 HS0.out ?_; simp only [Act.put, Ly]; refine Th 5 rfl (by intro w hSw; (try dsimp only at hSw); have y := cell_later hSw hsv; clear hSw; go_simp; (try with_reducible rfl)) HS0.out ?_; simp only [Act.put, Ly]; refine Tq 6 HS0.out ?_; simp only [Act.put, Ly]; refine Tq 7 HS0.out ?_; simp only [Act.put, Ly]; refine Tk 8 rfl (yieldsIf_load_mid (by rfl) 116 (.tmp 81) rfl b (off + k * 3) rfl [Vi si, Vi sb, .bool so] _ (fun w hSw => Zag HSVr.out hSw) Tryz.underlying116 rfl Zgu) HS0.out ?_; simp only [Act.put, Ly]; refine Ra 1 (fun K hK => ?_); go_simp; refine Sb (har _) fun u1 hb => ?_; have HS1 := Zab (Zac HS0.out hb); clear hb; go_wp2_with fail; refine hK.out _ _ HS1.out (fun _ => ?_); clear hK K; (try simp only [Act.put]); refine Ra 9 (fun K hK => ?_); go_simp; refine Sb (hsm _) fun u2 hb => ?_; have HS2 := Zab (Zac HS1.out hb); clear hb; go_wp2_with fail; refine hK.out _ _ HS2.out (fun _ => ?_); clear hK K; (try simp only [Act.put]); clear HS1; refine Tq 10 HS2.out ?_; simp only [Act.put, Ly]; refine Tq 11 HS2.out ?_; simp only [Act.put, Ly]; refine wpAnyH_done (by kernel_rfl) ?_ _; go_simp; have hB := HS2.out; clear HS2; generalize u2 = z2 at hB  ⊢; refine Zcs (by assumption) ?_; have HS := Zab (HS.out.later hB); have HC := Zab (HC.out.later hB); have HA := Zab (HA.out.later hB); have HBW := Zab (Zac HBW.out hB); clear hB HAXr HSVr hsv; go_wp2_with fail; go_roundw
               case rel => exact ⟨k + 1, by omega, by go_num, by rw [HSE.out, HR1.out]; rfl, HS.out, HC.out, HA.out, HBW.out⟩
               case measure => simp [intOf]; omega
             · have hgf : (r1 && decide (seU C i (sv i) k = 0)) = false := by simpa using hg
               rw [hgf]
               have HEN : Hid (fX C S sv (i + 1) = false) := Zab (by
                rw [HFN.out]
                by_cases h1 : r1 = true
                · have h2 : seU C i (sv i) k ≠ 0 := fun e => hg (by rw [h1, e]; rfl); rw [seU_stay h2 m (by omega)]
                  simp [h2]
                · have : r1 = false := by simpa using h1
                  rw [this]; rfl)
               go_wp2_with fail; go_roundw
               case rel =>
                (repeat apply Exists.intro)
                exact ⟨⟨i + 1, by omega, by go_num, by rw [HEN.out], hs, hc, hbw⟩, rfl⟩
               case measure => simp [intOf]; omega
           · obtain rfl : k = m := by omega
             have kd : decide ((k : Int) < (k : Int)) = false := by simp
             go_wp2_with fail; go_roundw
             case rel =>
              (repeat apply Exists.intro)
              exact ⟨⟨i + 1, by omega, by go_num, by rw [HFN.out], hs, hc, hbw⟩, rfl⟩
             case measure => simp [intOf]; omega
       · obtain rfl : i = 2 := by omega
         have hwh := Zcu (!fz) 3; rw [HFZ.out]; clear HFZ
         cases fz
         · go_wp2_with (go_at_call 14; refine (hwh _).mono ?_; rintro e w' ⟨rfl, rfl⟩); go_ret; exact ⟨rfl, hbw⟩
         · go_wp2_with (go_at_call 14; refine (hwh _).mono ?_; rintro e w' ⟨rfl, rfl⟩); go_ret; exact ⟨rfl, hbw⟩
 · have HE : Hid (stE C S sv = crE C) := Zab (by unfold stE; rw [if_neg h0]); rw [HE.out]; clear hl hv HE; generalize crE C = ce at *
   have hd : decide (ce = 0) = false := by simpa using h0
   go_enter Tryz.func12, Tryz.ntmps12
   go_wp2_with (first
    | (refine Zbq _ rfl ?_; refine wpList_load_mid rfl 29 (.tmp 2) rfl w.heap.size 0 rfl (crL C) _ HCr.out Tryz.underlying29 rfl Zbr ?_)
    | (go_at_call 41; refine Sb (hck _ HB.out) fun w1 hb => ?_; have HB := Zab (Zac HB.out hb); clear hb))
   go_ret; exact ⟨rfl, HB.out⟩
theorem U32s.at {w : World} {a : Option Addr} {zs : List Int} (h : U32s w a zs) {k : Nat} (hk : k < zs.length) : ∃ g, a = some (Ad g 0) ∧ w.cell? (Ad g k) = some (.int .u32 (zs.getD k 0)) := by
 rcases h with h | ⟨g, h, hc⟩
 · subst h; simp at hk
 · exact ⟨g, h, hc k hk⟩
theorem sameWords_l (l : List Int) (a a' : Option Addr) (cap cap' : Nat) (hl : l.length ≤ 1000) (w : World) (hv : U32s w a l) (hv' : U32s w a' l) :
 Calls Tryz.prog 20 #[.slice a l.length cap, .slice a' l.length cap'] w fun e w' => e = .returned (.bool true) ∧ Below w.heap.size w w' := by
 have HV := Zab hv; have HW := Zab hv'; clear hv hv'
 go_enter Tryz.func20, Tryz.ntmps20
 go_wp2
 go_loopw [5] (fun i wr => ∃ k : Nat, k ≤ l.length ∧ i = Vi k ∧ Below w.heap.size w wr) (fun i _ => l.length - (intOf i).toNat)
 case atStart => exact ⟨0, Nat.zero_le _, rfl, Below.refl _ _⟩
 case round =>
  obtain ⟨k, hk, rfl, hb⟩ := hrel
  by_cases hlt : k < l.length
  · obtain ⟨bl, rfl, d0⟩ := (HV.out.later hb).at hlt; obtain ⟨bm, rfl, e0⟩ := (HW.out.later hb).at hlt; have HB := Zab hb
    have j0 : (0 : Int) ≤ (k : Int) := by omega
    have j1 : (k : Int) < (l.length : Int) := by omega
    clear hb; generalize l.getD k 0 = x at *
    have hxx : (x != x) = false := by simp
    go_wp2; go_quiet (fail); go_wp2; go_roundw
    case rel => exact ⟨k + 1, by omega, by go_num, Zac HB.out (below_drewN (Below.refl _ _) _)⟩
    case measure => simp [intOf]; omega
  · have e : k = l.length := by omega
    subst e; go_wp2; go_ret; exact ⟨rfl, hb⟩
theorem infoI : ∃ i, Tryz.prog.info? 3 = some i ∧ i.size = 1 := by
 have h : (Tryz.prog.info? 3).map (·.size) = some 1 := by kernel_rfl
 cases hq : Tryz.prog.info? 3 with
 | none => rw [hq] at h; cases h
 | some i => rw [hq] at h; exact ⟨i, rfl, by simpa using h⟩
theorem infoB : ∃ i, Tryz.prog.info? 4 = some i ∧ i.size = 1 := by
 have h : (Tryz.prog.info? 4).map (·.size) = some 1 := by kernel_rfl
 cases hq : Tryz.prog.info? 4 with
 | none => rw [hq] at h; cases h
 | some i => rw [hq] at h; exact ⟨i, rfl, by simpa using h⟩
theorem cellsI : Tryz.prog.cellsOf 3 = 1 := by kernel_rfl
theorem cellsB : Tryz.prog.cellsOf 4 = 1 := by kernel_rfl
theorem eqI3 (d : Nat) (a b c : Int) (w : World) : (Op.equalIn (d + 1 + 1) 30 (.agg #[Vi a, Vi b, Vi c]) (.agg #[Vi a, Vi b, Vi c])).run Tryz.prog w = .ok true w := by
 obtain ⟨i, hi, _⟩ := infoI; rw [run_equalIn_array w _ _ _ Tryz.underlying30 hi, cellsI, show List.range 3 = [0, 1, 2] from rfl]
 simp [Op.eqItems, go_sem]
theorem eqB3 (d : Nat) (a b c : Bool) (w : World) : (Op.equalIn (d + 1 + 1) 31 (.agg #[.bool a, .bool b, .bool c]) (.agg #[.bool a, .bool b, .bool c])).run Tryz.prog w = .ok true w := by
 obtain ⟨i, hi, _⟩ := infoB; rw [run_equalIn_array w _ _ _ Tryz.underlying31 hi, cellsB, show List.range 3 = [0, 1, 2] from rfl]
 simp [Op.eqItems, go_sem]
theorem eqBk (d : Nat) (k : Bk) (w : World) : (Op.equalIn (d + 1 + 1 + 1) 33 (.agg #[Vi (k.b 0), Vi (k.b 1), Vi (k.b 2), .bool (k.o 0), .bool (k.o 1), .bool (k.o 2), Vi k.l]) (.agg #[Vi (k.b 0), Vi (k.b 1), Vi (k.b 2), .bool (k.o 0), .bool (k.o 1), .bool (k.o 2), Vi k.l])).run Tryz.prog w = .ok true w := by
 have h1 := fun d => eqI3 d (k.b 0) (k.b 1) (k.b 2); have h2 := fun d => eqB3 d (k.o 0) (k.o 1) (k.o 2)
 simp [go_sem, h1, h2]
theorem eqHd (d : Nat) (h : Int × Int × Int) (w : World) : (Op.equalIn (d + 1 + 1) 38 (.agg #[Vi h.1, Vi h.2.1, Vi h.2.2]) (.agg #[Vi h.1, Vi h.2.1, Vi h.2.2])).run Tryz.prog w = .ok true w := by
 simp [go_sem]
theorem infoOf (t : TypeId) (n : Nat) (h : (Tryz.prog.info? t).map (·.size) = some n) : ∃ i, Tryz.prog.info? t = some i := by
 cases hq : Tryz.prog.info? t with
 | none => rw [hq] at h; cases h
 | some i => exact ⟨i, rfl⟩
theorem cellsBk : Tryz.prog.cellsOf 33 = 7 := by kernel_rfl
theorem cellsHd : Tryz.prog.cellsOf 38 = 3 := by kernel_rfl
theorem infoBk7 : (Tryz.prog.info? 33).map (·.size) = some 7 := by kernel_rfl
theorem infoHd3 : (Tryz.prog.info? 38).map (·.size) = some 3 := by kernel_rfl
theorem infoBk21 : (Tryz.prog.info? 34).map (·.size) = some 21 := by kernel_rfl
theorem eqBk3 (d : Nat) (p q r : Bk) (w : World) : (Op.equalIn (d + 1 + 1 + 1 + 1) 34 (.agg #[Vi (p.b 0), Vi (p.b 1), Vi (p.b 2), .bool (p.o 0), .bool (p.o 1), .bool (p.o 2), Vi p.l, Vi (q.b 0), Vi (q.b 1), Vi (q.b 2), .bool (q.o 0), .bool (q.o 1), .bool (q.o 2), Vi q.l, Vi (r.b 0), Vi (r.b 1), Vi (r.b 2), .bool (r.o 0), .bool (r.o 1), .bool (r.o 2), Vi r.l]) (.agg #[Vi (p.b 0), Vi (p.b 1), Vi (p.b 2), .bool (p.o 0), .bool (p.o 1), .bool (p.o 2), Vi p.l, Vi (q.b 0), Vi (q.b 1), Vi (q.b 2), .bool (q.o 0), .bool (q.o 1), .bool (q.o 2), Vi q.l, Vi (r.b 0), Vi (r.b 1), Vi (r.b 2), .bool (r.o 0), .bool (r.o 1), .bool (r.o 2), Vi r.l])).run Tryz.prog w = .ok true w := by
 obtain ⟨i, hi⟩ := infoOf _ _ infoBk7; have h1 := fun d => eqBk d p; have h2 := fun d => eqBk d q; have h3 := fun d => eqBk d r; rw [run_equalIn_array w _ _ _ Tryz.underlying34 hi, cellsBk, show List.range 3 = [0, 1, 2] from rfl]
 simp [Op.eqItems, go_sem, h1, h2, h3]
theorem eqHd2 (d : Nat) (h k : Int × Int × Int) (w : World) : (Op.equalIn (d + 1 + 1 + 1) 39 (.agg #[Vi h.1, Vi h.2.1, Vi h.2.2, Vi k.1, Vi k.2.1, Vi k.2.2]) (.agg #[Vi h.1, Vi h.2.1, Vi h.2.2, Vi k.1, Vi k.2.1, Vi k.2.2])).run Tryz.prog w = .ok true w := by
 obtain ⟨i, hi⟩ := infoOf _ _ infoHd3; have h1 := fun d => eqHd d h; have h2 := fun d => eqHd d k; rw [run_equalIn_array w _ _ _ Tryz.underlying39 hi, cellsHd, show List.range 2 = [0, 1] from rfl]
 simp [Op.eqItems, go_sem, h1, h2]
theorem isLoadB21 {P : Program} {ops : Array Oper} {rest : List Oper} {op : Oper} {a : Act} {w : World} {Q : Exit → Act → World → Prop} (x : Operand) (_ho : op.op = .load 34 x) (h : wpList P ops Q (op :: rest) a w) : wpList P ops Q (op :: rest) a w := h
theorem sameServos_s (L : List Sv) (a a' : Option Addr) (cap cap' : Nat) (hl : L.length ≤ 1000) (w : World) (hv : VLs w a L) (hv' : VLs w a' L) :
 Calls Tryz.prog 66 #[.slice a L.length cap, .slice a' L.length cap'] w fun e w' => e = .returned (.bool true) ∧ Below w.heap.size w w' := by
 have HV := Zab hv; have HW := Zab hv'; clear hv hv'
 go_enter Tryz.func66, Tryz.ntmps66
 go_wp2
 go_loopw [5] (fun i wr => ∃ k : Nat, k ≤ L.length ∧ i = Vi k ∧ Below w.heap.size w wr) (fun i _ => L.length - (intOf i).toNat)
 case atStart => exact ⟨0, Nat.zero_le _, rfl, Below.refl _ _⟩
 case round =>
  obtain ⟨k, hk, rfl, hb⟩ := hrel
  by_cases hlt : k < L.length
  · obtain ⟨bl, ol, rfl, d0, d1, d2⟩ := (HV.out.later hb).at hlt; obtain ⟨bm, om, rfl, e0, e1, e2⟩ := (HW.out.later hb).at hlt; have HB := Zab hb
    have j0 : (0 : Int) ≤ (k : Int) := by omega
    have j1 : (k : Int) < (L.length : Int) := by omega
    clear hb; generalize (svAt L k).1 = x at *; generalize (svAt L k).2.1 = y at *; generalize (svAt L k).2.2 = z at *; go_wp2; go_quiet (fail); go_wp2; go_roundw
    case rel => exact ⟨k + 1, by omega, by go_num, Zac HB.out (below_drewN (Below.refl _ _) _)⟩
    case measure => simp [intOf]; omega
  · have e : k = L.length := by omega
    subst e; go_wp2; go_ret; exact ⟨rfl, hb⟩
theorem sameState_l (p q r : Bk) (h k : Int × Int × Int) (n : Int) (x0 x1 y0 y1 : Option Addr) (m0 m1 c0 c1 d0 d1 : Nat) (w : World)
 (s0 : ∀ u, Below w.heap.size w u → Calls Tryz.prog 66 #[.slice x0 m0 c0, .slice y0 m0 d0] u fun e w' => e = .returned (.bool true) ∧ Below u.heap.size u w')
 (s1 : ∀ u, Below w.heap.size w u → Calls Tryz.prog 66 #[.slice x1 m1 c1, .slice y1 m1 d1] u fun e w' => e = .returned (.bool true) ∧ Below u.heap.size u w') :
 Calls Tryz.prog 19 #[.agg #[Vi (p.b 0), Vi (p.b 1), Vi (p.b 2), .bool (p.o 0), .bool (p.o 1), .bool (p.o 2), Vi p.l, Vi (q.b 0), Vi (q.b 1), Vi (q.b 2), .bool (q.o 0), .bool (q.o 1), .bool (q.o 2), Vi q.l, Vi (r.b 0), Vi (r.b 1), Vi (r.b 2), .bool (r.o 0), .bool (r.o 1), .bool (r.o 2), Vi r.l, .slice x0 m0 c0, .slice x1 m1 c1, Vi h.1, Vi h.2.1, Vi h.2.2, Vi k.1, Vi k.2.1, Vi k.2.2, Vi n], .agg #[Vi (p.b 0), Vi (p.b 1), Vi (p.b 2), .bool (p.o 0), .bool (p.o 1), .bool (p.o 2), Vi p.l, Vi (q.b 0), Vi (q.b 1), Vi (q.b 2), .bool (q.o 0), .bool (q.o 1), .bool (q.o 2), Vi q.l, Vi (r.b 0), Vi (r.b 1), Vi (r.b 2), .bool (r.o 0), .bool (r.o 1), .bool (r.o 2), Vi r.l, .slice y0 m0 d0, .slice y1 m1 d1, Vi h.1, Vi h.2.1, Vi h.2.2, Vi k.1, Vi k.2.1, Vi k.2.2, Vi n]] w fun e w' => e = .returned (.bool true) ∧ Below w.heap.size w w' := by
 have HA : Hid (Blk 41 ((w.alloc (.cells #[Vi (p.b 0), Vi (p.b 1), Vi (p.b 2), .bool (p.o 0), .bool (p.o 1), .bool (p.o 2), Vi p.l, Vi (q.b 0), Vi (q.b 1), Vi (q.b 2), .bool (q.o 0), .bool (q.o 1), .bool (q.o 2), Vi q.l, Vi (r.b 0), Vi (r.b 1), Vi (r.b 2), .bool (r.o 0), .bool (r.o 1), .bool (r.o 2), Vi r.l, .slice x0 m0 c0, .slice x1 m1 c1, Vi h.1, Vi h.2.1, Vi h.2.2, Vi k.1, Vi k.2.1, Vi k.2.2, Vi n] 41)).alloc (.cells #[Vi (p.b 0), Vi (p.b 1), Vi (p.b 2), .bool (p.o 0), .bool (p.o 1), .bool (p.o 2), Vi p.l, Vi (q.b 0), Vi (q.b 1), Vi (q.b 2), .bool (q.o 0), .bool (q.o 1), .bool (q.o 2), Vi q.l, Vi (r.b 0), Vi (r.b 1), Vi (r.b 2), .bool (r.o 0), .bool (r.o 1), .bool (r.o 2), Vi r.l, .slice y0 m0 d0, .slice y1 m1 d1, Vi h.1, Vi h.2.1, Vi h.2.2, Vi k.1, Vi k.2.1, Vi k.2.2, Vi n] 41)) w.heap.size [Vi (p.b 0), Vi (p.b 1), Vi (p.b 2), .bool (p.o 0), .bool (p.o 1), .bool (p.o 2), Vi p.l, Vi (q.b 0), Vi (q.b 1), Vi (q.b 2), .bool (q.o 0), .bool (q.o 1), .bool (q.o 2), Vi q.l, Vi (r.b 0), Vi (r.b 1), Vi (r.b 2), .bool (r.o 0), .bool (r.o 1), .bool (r.o 2), Vi r.l, .slice x0 m0 c0, .slice x1 m1 c1, Vi h.1, Vi h.2.1, Vi h.2.2, Vi k.1, Vi k.2.1, Vi k.2.2, Vi n]) := Zab ((Blk.new w 41 [Vi (p.b 0), Vi (p.b 1), Vi (p.b 2), .bool (p.o 0), .bool (p.o 1), .bool (p.o 2), Vi p.l, Vi (q.b 0), Vi (q.b 1), Vi (q.b 2), .bool (q.o 0), .bool (q.o 1), .bool (q.o 2), Vi q.l, Vi (r.b 0), Vi (r.b 1), Vi (r.b 2), .bool (r.o 0), .bool (r.o 1), .bool (r.o 2), Vi r.l, .slice x0 m0 c0, .slice x1 m1 c1, Vi h.1, Vi h.2.1, Vi h.2.2, Vi k.1, Vi k.2.1, Vi k.2.2, Vi n]).later (Zaa _ (.cells #[Vi (p.b 0), Vi (p.b 1), Vi (p.b 2), .bool (p.o 0), .bool (p.o 1), .bool (p.o 2), Vi p.l, Vi (q.b 0), Vi (q.b 1), Vi (q.b 2), .bool (q.o 0), .bool (q.o 1), .bool (q.o 2), Vi q.l, Vi (r.b 0), Vi (r.b 1), Vi (r.b 2), .bool (r.o 0), .bool (r.o 1), .bool (r.o 2), Vi r.l, .slice y0 m0 d0, .slice y1 m1 d1, Vi h.1, Vi h.2.1, Vi h.2.2, Vi k.1, Vi k.2.1, Vi k.2.2, Vi n] 41)))
 have HD : Hid (Blk 41 ((w.alloc (.cells #[Vi (p.b 0), Vi (p.b 1), Vi (p.b 2), .bool (p.o 0), .bool (p.o 1), .bool (p.o 2), Vi p.l, Vi (q.b 0), Vi (q.b 1), Vi (q.b 2), .bool (q.o 0), .bool (q.o 1), .bool (q.o 2), Vi q.l, Vi (r.b 0), Vi (r.b 1), Vi (r.b 2), .bool (r.o 0), .bool (r.o 1), .bool (r.o 2), Vi r.l, .slice x0 m0 c0, .slice x1 m1 c1, Vi h.1, Vi h.2.1, Vi h.2.2, Vi k.1, Vi k.2.1, Vi k.2.2, Vi n] 41)).alloc (.cells #[Vi (p.b 0), Vi (p.b 1), Vi (p.b 2), .bool (p.o 0), .bool (p.o 1), .bool (p.o 2), Vi p.l, Vi (q.b 0), Vi (q.b 1), Vi (q.b 2), .bool (q.o 0), .bool (q.o 1), .bool (q.o 2), Vi q.l, Vi (r.b 0), Vi (r.b 1), Vi (r.b 2), .bool (r.o 0), .bool (r.o 1), .bool (r.o 2), Vi r.l, .slice y0 m0 d0, .slice y1 m1 d1, Vi h.1, Vi h.2.1, Vi h.2.2, Vi k.1, Vi k.2.1, Vi k.2.2, Vi n] 41)) (w.heap.size + 1) [Vi (p.b 0), Vi (p.b 1), Vi (p.b 2), .bool (p.o 0), .bool (p.o 1), .bool (p.o 2), Vi p.l, Vi (q.b 0), Vi (q.b 1), Vi (q.b 2), .bool (q.o 0), .bool (q.o 1), .bool (q.o 2), Vi q.l, Vi (r.b 0), Vi (r.b 1), Vi (r.b 2), .bool (r.o 0), .bool (r.o 1), .bool (r.o 2), Vi r.l, .slice y0 m0 d0, .slice y1 m1 d1, Vi h.1, Vi h.2.1, Vi h.2.2, Vi k.1, Vi k.2.1, Vi k.2.2, Vi n]) := Zab (by have := Blk.new (w.alloc (.cells #[Vi (p.b 0), Vi (p.b 1), Vi (p.b 2), .bool (p.o 0), .bool (p.o 1), .bool (p.o 2), Vi p.l, Vi (q.b 0), Vi (q.b 1), Vi (q.b 2), .bool (q.o 0), .bool (q.o 1), .bool (q.o 2), Vi q.l, Vi (r.b 0), Vi (r.b 1), Vi (r.b 2), .bool (r.o 0), .bool (r.o 1), .bool (r.o 2), Vi r.l, .slice x0 m0 c0, .slice x1 m1 c1, Vi h.1, Vi h.2.1, Vi h.2.2, Vi k.1, Vi k.2.1, Vi k.2.2, Vi n] 41)) 41 [Vi (p.b 0), Vi (p.b 1), Vi (p.b 2), .bool (p.o 0), .bool (p.o 1), .bool (p.o 2), Vi p.l, Vi (q.b 0), Vi (q.b 1), Vi (q.b 2), .bool (q.o 0), .bool (q.o 1), .bool (q.o 2), Vi q.l, Vi (r.b 0), Vi (r.b 1), Vi (r.b 2), .bool (r.o 0), .bool (r.o 1), .bool (r.o 2), Vi r.l, .slice y0 m0 d0, .slice y1 m1 d1, Vi h.1, Vi h.2.1, Vi h.2.2, Vi k.1, Vi k.2.1, Vi k.2.2, Vi n]; rw [World.size_alloc] at this; exact this)
 have HB : Hid (Below w.heap.size w ((w.alloc (.cells #[Vi (p.b 0), Vi (p.b 1), Vi (p.b 2), .bool (p.o 0), .bool (p.o 1), .bool (p.o 2), Vi p.l, Vi (q.b 0), Vi (q.b 1), Vi (q.b 2), .bool (q.o 0), .bool (q.o 1), .bool (q.o 2), Vi q.l, Vi (r.b 0), Vi (r.b 1), Vi (r.b 2), .bool (r.o 0), .bool (r.o 1), .bool (r.o 2), Vi r.l, .slice x0 m0 c0, .slice x1 m1 c1, Vi h.1, Vi h.2.1, Vi h.2.2, Vi k.1, Vi k.2.1, Vi k.2.2, Vi n] 41)).alloc (.cells #[Vi (p.b 0), Vi (p.b 1), Vi (p.b 2), .bool (p.o 0), .bool (p.o 1), .bool (p.o 2), Vi p.l, Vi (q.b 0), Vi (q.b 1), Vi (q.b 2), .bool (q.o 0), .bool (q.o 1), .bool (q.o 2), Vi q.l, Vi (r.b 0), Vi (r.b 1), Vi (r.b 2), .bool (r.o 0), .bool (r.o 1), .bool (r.o 2), Vi r.l, .slice y0 m0 d0, .slice y1 m1 d1, Vi h.1, Vi h.2.1, Vi h.2.2, Vi k.1, Vi k.2.1, Vi k.2.2, Vi n] 41))) := Zab (Zac (Zaa _ _) (Zaa _ _)); have he2 := fun d => eqBk3 d p q r; have he4 := fun d => eqHd2 d h k; have he5 : ∀ w, (Op.equal 34 (.agg #[Vi (p.b 0), Vi (p.b 1), Vi (p.b 2), .bool (p.o 0), .bool (p.o 1), .bool (p.o 2), Vi p.l, Vi (q.b 0), Vi (q.b 1), Vi (q.b 2), .bool (q.o 0), .bool (q.o 1), .bool (q.o 2), Vi q.l, Vi (r.b 0), Vi (r.b 1), Vi (r.b 2), .bool (r.o 0), .bool (r.o 1), .bool (r.o 2), Vi r.l]) (.agg #[Vi (p.b 0), Vi (p.b 1), Vi (p.b 2), .bool (p.o 0), .bool (p.o 1), .bool (p.o 2), Vi p.l, Vi (q.b 0), Vi (q.b 1), Vi (q.b 2), .bool (q.o 0), .bool (q.o 1), .bool (q.o 2), Vi q.l, Vi (r.b 0), Vi (r.b 1), Vi (r.b 2), .bool (r.o 0), .bool (r.o 1), .bool (r.o 2), Vi r.l])).run Tryz.prog w = .ok true w := fun w => he2 _ w; have he6 : ∀ w, (Op.equal 39 (.agg #[Vi h.1, Vi h.2.1, Vi h.2.2, Vi k.1, Vi k.2.1, Vi k.2.2]) (.agg #[Vi h.1, Vi h.2.1, Vi h.2.2, Vi k.1, Vi k.2.1, Vi k.2.2])).run Tryz.prog w = .ok true w := fun w => he4 _ w
 go_enter Tryz.func19, Tryz.ntmps19
 go_upto_region 1 with fail; generalize (w.alloc (.cells #[Vi (p.b 0), Vi (p.b 1), Vi (p.b 2), .bool (p.o 0), .bool (p.o 1), .bool (p.o 2), Vi p.l, Vi (q.b 0), Vi (q.b 1), Vi (q.b 2), .bool (q.o 0), .bool (q.o 1), .bool (q.o 2), Vi q.l, Vi (r.b 0), Vi (r.b 1), Vi (r.b 2), .bool (r.o 0), .bool (r.o 1), .bool (r.o 2), Vi r.l, .slice x0 m0 c0, .slice x1 m1 c1, Vi h.1, Vi h.2.1, Vi h.2.2, Vi k.1, Vi k.2.1, Vi k.2.2, Vi n] 41)).alloc (.cells #[Vi (p.b 0), Vi (p.b 1), Vi (p.b 2), .bool (p.o 0), .bool (p.o 1), .bool (p.o 2), Vi p.l, Vi (q.b 0), Vi (q.b 1), Vi (q.b 2), .bool (q.o 0), .bool (q.o 1), .bool (q.o 2), Vi q.l, Vi (r.b 0), Vi (r.b 1), Vi (r.b 2), .bool (r.o 0), .bool (r.o 1), .bool (r.o 2), Vi r.l, .slice y0 m0 d0, .slice y1 m1 d1, Vi h.1, Vi h.2.1, Vi h.2.2, Vi k.1, Vi k.2.1, Vi k.2.2, Vi n] 41) = w0 at *; have HX : Hid (w0.rangeAt w.heap.size 0 [Vi (p.b 0), Vi (p.b 1), Vi (p.b 2), .bool (p.o 0), .bool (p.o 1), .bool (p.o 2), Vi p.l, Vi (q.b 0), Vi (q.b 1), Vi (q.b 2), .bool (q.o 0), .bool (q.o 1), .bool (q.o 2), Vi q.l, Vi (r.b 0), Vi (r.b 1), Vi (r.b 2), .bool (r.o 0), .bool (r.o 1), .bool (r.o 2), Vi r.l]) := Zab (HA.out.sub 0 21); have HY : Hid (w0.rangeAt (w.heap.size + 1) 0 [Vi (p.b 0), Vi (p.b 1), Vi (p.b 2), .bool (p.o 0), .bool (p.o 1), .bool (p.o 2), Vi p.l, Vi (q.b 0), Vi (q.b 1), Vi (q.b 2), .bool (q.o 0), .bool (q.o 1), .bool (q.o 2), Vi q.l, Vi (r.b 0), Vi (r.b 1), Vi (r.b 2), .bool (r.o 0), .bool (r.o 1), .bool (r.o 2), Vi r.l]) := Zab (HD.out.sub 0 21); have ka21 := (HA.out.cell (j := 21) rfl).1; have kb21 := (HD.out.cell (j := 21) rfl).1; have ka22 := (HA.out.cell (j := 22) rfl).1; have kb22 := (HD.out.cell (j := 22) rfl).1; have ka23 := (HA.out.cell (j := 23) rfl).1; have kb23 := (HD.out.cell (j := 23) rfl).1; have ka24 := (HA.out.cell (j := 24) rfl).1; have kb24 := (HD.out.cell (j := 24) rfl).1; have ka25 := (HA.out.cell (j := 25) rfl).1; have kb25 := (HD.out.cell (j := 25) rfl).1; have ka26 := (HA.out.cell (j := 26) rfl).1; have kb26 := (HD.out.cell (j := 26) rfl).1; have ka27 := (HA.out.cell (j := 27) rfl).1; have kb27 := (HD.out.cell (j := 27) rfl).1; have ka28 := (HA.out.cell (j := 28) rfl).1; have kb28 := (HD.out.cell (j := 28) rfl).1; have ka29 := (HA.out.cell (j := 29) rfl).1; have kb29 := (HD.out.cell (j := 29) rfl).1
 go_wp2_with (first
  | (refine isLoadB21 _ rfl ?_; refine wpList_load_mid rfl 34 (.tmp 5) rfl w.heap.size 0 rfl [Vi (p.b 0), Vi (p.b 1), Vi (p.b 2), .bool (p.o 0), .bool (p.o 1), .bool (p.o 2), Vi p.l, Vi (q.b 0), Vi (q.b 1), Vi (q.b 2), .bool (q.o 0), .bool (q.o 1), .bool (q.o 2), Vi q.l, Vi (r.b 0), Vi (r.b 1), Vi (r.b 2), .bool (r.o 0), .bool (r.o 1), .bool (r.o 2), Vi r.l] _ HX.out Tryz.underlying34 rfl infoBk21 ?_)
  | (refine isLoadB21 _ rfl ?_; refine wpList_load_mid rfl 34 (.tmp 7) rfl (w.heap.size + 1) 0 rfl [Vi (p.b 0), Vi (p.b 1), Vi (p.b 2), .bool (p.o 0), .bool (p.o 1), .bool (p.o 2), Vi p.l, Vi (q.b 0), Vi (q.b 1), Vi (q.b 2), .bool (q.o 0), .bool (q.o 1), .bool (q.o 2), Vi q.l, Vi (r.b 0), Vi (r.b 1), Vi (r.b 2), .bool (r.o 0), .bool (r.o 1), .bool (r.o 2), Vi r.l] _ HY.out Tryz.underlying34 rfl infoBk21 ?_)
  | (go_at_call_of 66 (Value.slice x0 m0 c0); refine Sb (s0 _ HB.out) fun w1 hb1 => ?_; have HB1 := Zab (Zac HB.out hb1); have HA1 := Zab (HA.out.later hb1); have HD1 := Zab (HD.out.later hb1); have la := (HA1.out.cell (j := 22) rfl).1; have lb := (HD1.out.cell (j := 22) rfl).1; clear hb1 HA HD)
  | (go_at_call_of 66 (Value.slice x1 m1 c1); refine Sb (s1 _ HB1.out) fun w2 hb2 => ?_; have HB2 := Zab (Zac HB1.out hb2); clear hb2))
 go_ret; exact ⟨rfl, HB2.out⟩
theorem sameState_s (S T : FS) (sv : Nat → List Sv) (hb : T.bk 0 = S.bk 0 ∧ T.bk 1 = S.bk 1 ∧ T.bk 2 = S.bk 2) (hh : T.hd 0 = S.hd 0 ∧ T.hd 1 = S.hd 1) (hn : T.n = S.n) (w : World) (hv : SvL w S sv) (hv' : SvL w T sv) :
 Calls Tryz.prog 19 #[.agg (stL S).toArray, .agg (stL T).toArray] w fun e w' => e = .returned (.bool true) ∧ Below w.heap.size w w' := by
 have g := fun i (hi : i < 2) u (h : Below w.heap.size w u) => sameServos_s (sv i) (S.sp i) (T.sp i) (S.sc i) (T.sc i) (by have := (hv i hi).2.1; omega) u ((hv i hi).2.2.later h) ((hv' i hi).2.2.later h); have e0 := (hv 0 (by omega)).1; have e1 := (hv 1 (by omega)).1; have f0 := (hv' 0 (by omega)).1; have f1 := (hv' 1 (by omega)).1; have key := sameState_l (S.bk 0) (S.bk 1) (S.bk 2) (S.hd 0) (S.hd 1) S.n (S.sp 0) (S.sp 1) (T.sp 0) (T.sp 1) (sv 0).length (sv 1).length (S.sc 0) (S.sc 1) (T.sc 0) (T.sc 1) w (g 0 (by omega)) (g 1 (by omega))
 unfold stL
 rw [e0, e1, f0, f1, hb.1, hb.2.1, hb.2.2, hh.1, hh.2, hn]; exact key
end Go.Proofs.YtnfdfiholcelaaaGreatDoor
