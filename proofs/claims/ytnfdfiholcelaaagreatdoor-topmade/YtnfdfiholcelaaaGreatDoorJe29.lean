import Derived.OwnWalk
import Derived.Test.YtnfdfiholcelaaaGreatDoorJe00
import Derived.Test.YtnfdfiholcelaaaGreatDoorJe01
import Derived.Test.YtnfdfiholcelaaaGreatDoorJe10
import Derived.Test.YtnfdfiholcelaaaGreatDoorJe15
import Derived.Test.YtnfdfiholcelaaaGreatDoorJe23
import Derived.Test.YtnfdfiholcelaaaGreatDoorJe27
import Derived.Test.YtnfdfiholcelaaaGreatDoorJe28
set_option maxRecDepth 100000
set_option maxHeartbeats 20000000
namespace Go.Proofs.YtnfdfiholcelaaaGreatDoor
open Go.RowKit Plain Tryz
theorem said_any (B : Nat) (C : CR) (pf : Option Addr) (cf : Nat) (l : List Ft) (S : FS) (now : Int) (x : Nat → Int) (at' : Nat → Nat → Int) (s : Stp) (w : World) (hk : Blk 173 w B (flL C pf l.length cf S now x at')) (hf : Fts w pf l) (hl : l.length ≤ 1000)
 (hN : ∀ i, i < 2 → 0 ≤ C.a i 2 ∧ C.a i 2 ≤ 1000) (h4 : ∀ i, i < 2 → 2 ≤ C.a i 4 ∧ C.a i 4 ≤ 4) (hz : ∀ i, i < 2 → 0 ≤ s.z i ∧ s.z i ≤ 8589934591) (hx : ∀ i, i < 2 → -10000000 ≤ x i ∧ x i ≤ 10000000) :
 Calls prog 129 #[.pointer (some (Ad B 0)), .agg (stpL s).toArray] w fun e w' => (∃ g c, e = .returned (.slice (some (Ad g 0)) (saR C l now x at' s).length c) ∧ Rds w' (some (Ad g 0)) (saR C l now x at' s)) ∧ Below w.heap.size w w' := by
 have HB0 := Zab (Zaa w (.cells (stpL s).toArray 78)); have HK := Zab (fun u (h : Below (w.alloc (.cells (stpL s).toArray 78)).heap.size (w.alloc (.cells (stpL s).toArray 78)) u) => (hk.later (Zaa w (.cells (stpL s).toArray 78))).later h); have HF := Zab (fun u (h : Below (w.alloc (.cells (stpL s).toArray 78)).heap.size (w.alloc (.cells (stpL s).toArray 78)) u) => (hf.later (Zaa w (.cells (stpL s).toArray 78))).later h); have HP := Zab (fun u (h : Below (w.alloc (.cells (stpL s).toArray 78)).heap.size (w.alloc (.cells (stpL s).toArray 78)) u) => (Blk.new w 78 (stpL s)).later h); have HN := Zab hN; have H4 := Zab h4; have HZ := Zab hz; have HX := Zab hx; have HLA := Zab (axU_len C l now x at' s (fun i hi => (h4 i hi).2)); have HLS := Zab (spR_len l now s.v); have HSA : Hid (saR C l now x at' s = axU C l now x at' s 2 ++ spR l now s.v 3 ++ (if s.g then [(40, 3, 3, 1)] else [])) := Zab rfl; clear hk hf hN h4 hz hx; have hstp : (stpL s).toArray = #[Vi (s.k 0), Vi (s.k 1), Vi (s.p 0), Vi (s.p 1), Vi (s.z 0), Vi (s.z 1), Vi s.v, .bool s.g] := rfl; rw [hstp] at HB0 HK HF HP ⊢; clear hstp; generalize saR C l now x at' s = sa at *
 go_enter func129, ntmps129
 go_upto_region 2 with fail; generalize w.alloc (.cells #[Vi (s.k 0), Vi (s.k 1), Vi (s.p 0), Vi (s.p 1), Vi (s.z 0), Vi (s.z 1), Vi s.v, .bool s.g] 78) = v0 at *; generalize w.heap.size = QS at HP ⊢; have HX30 := Zab ((HK.out v0 (Below.refl _ _)).sub 0 30); rw [fl_axes] at HX30
 go_upto_region 3 with (refine Lq 27 _ rfl ?_; refine wpList_load_mid rfl 27 (.tmp 16) rfl B 0 rfl (axL C 0 ++ axL C 1) _ HX30.out underlying27 rfl Zgq ?_); clear HX30
 go_loopw [5, 18] (fun s0 ix wr => ∃ i : Nat, i ≤ 2 ∧ ix = Vi i ∧ ROw v0 wr s0 (axU C l now x at' s i)) (fun _ ix _ => 2 - (intOf ix).toNat)
 case atStart => exact ⟨0, by omega, rfl, ROw.nil v0⟩
 case round =>
  obtain ⟨i, hi2, rfl, hr⟩ := hrel
  by_cases hi : i < 2
  · have hidx := axidx_i C hi
    have i0 : (0 : Int) ≤ (i : Int) := by omega
    have i1 : (i : Int) < 2 := by omega
    have HR := Zab (hr.later (Zaa wr (.cells (axL C i).toArray 26))); have HAX : Hid (Blk 26 (wr.alloc (.cells (axL C i).toArray 26)) wr.heap.size (axL C i)) := Zab (Blk.new wr _ _); have HLI := Zab (HLA.out i (by omega)); have HXI := Zab (HX.out i hi); clear hr
    go_upto_region 5 with (refine Sq 26 _ _ rfl ?_; refine Zbh (c' := (axL C i).toArray) (.tmp 7) (.tmp 21) rfl rfl rfl rfl rfl rfl (Zau _ rfl) ?_); clear hidx; generalize wr.alloc (.cells (axL C i).toArray 26) = v1 at *; generalize wr.heap.size = QA at HAX ⊢; have xz := ((HP.out v1 HR.out.2).cell (stp_z s hi)).1; refine Cs [22, 23, 24, 25, 26, 27, 28] ?_; refine Cl (x := .tmp 7) 0 22 [] (fun y w _ u hSw => ⟨Zae HAX.out.range hSw, rfl⟩) underlying26 Zaw ?_; refine Cp 1 23 [] ?_; refine Cp 2 24 [] ?_; refine Cp 3 25 [2, 1] ?_; refine Cq (fun _ h => cell_later h xz) 4 26 [3] ?_; refine Cc 5 27 [0, 4] (fun y w h _ => noises_c C i (s.z i) (HN.out i hi) (HZ.out i hi) _) ?_; refine Cp 6 28 [] ?_; refine Ce (fun y u1 hB hf => ?_); have HS1 := Zab hB; clear hB hf; go_simp; have hB := HS1.out; clear HS1; generalize u1 = v2 at hB ⊢; refine Zbd (by assumption) ?_; clear xz; replace HR := Zab (HR.out.later hB); replace HAX := Zab (HAX.out.later hB); clear hB
    go_upto_region 6 with fail
    go_loopw [5, 28] (fun s1 ix wr => ∃ k : Nat, k ≤ 3 ∧ ix = Vi k ∧ ROw v0 wr s1 (axU C l now x at' s i ++ chU l now i (C.a i 2) (x i) (s.z i) k) ∧ Blk 26 wr QA (axL C i)) (fun _ ix _ => 3 - (intOf ix).toNat)
    case atStart => exact ⟨0, Nat.zero_le _, rfl, by rw [chU, List.append_nil]; exact HR.out, HAX.out⟩
    case round =>
     clear HR HAX; obtain ⟨k, hk, rfl, hr, hax⟩ := hrel
     by_cases hlt : k < 3
     · have hix := nz_idx (noi (C.a i 2) (s.z i)) hlt; have hnb := noi_bd (z := s.z i) (HN.out i hi).1 k; have hN1 := (HN.out i hi).2; have hxb := HXI.out
       have k0 : (0 : Int) ≤ (k : Int) := by omega
       have k1 : (k : Int) < 3 := by omega
       have HCK : Hid (chU l now i (C.a i 2) (x i) (s.z i) (k + 1) = chU l now i (C.a i 2) (x i) (s.z i) k ++ chR l now i k (1 + i) (x i + noi (C.a i 2) (s.z i) k)) := Zab rfl; have hch := fun u (h : Below v0.heap.size v0 u) => channel_any B pf cf l now i k (1 + i) (x i + noi (C.a i 2) (s.z i) k) hl u ((HK.out u h).cell (j := 32) rfl).1 ((HK.out u h).cell (j := 63) rfl).1 (HF.out u h); have hc1 := chR_len l now i k (1 + i) (x i + noi (C.a i 2) (s.z i) k); have hc2 := chU_len l now i (C.a i 2) (x i) (s.z i) k; have HR := Zab hr; have HAX := Zab hax; have xi := ((HK.out wr hr.2).cell (fl_x C pf l.length cf S now x at' hi)).1; generalize chR l now i k (1 + i) (x i + noi (C.a i 2) (s.z i) k) = cr at *; generalize noi (C.a i 2) (s.z i) k = nk at *; generalize x i = xx at *; clear hr hax
       go_wp2_with (first
        | (go_at_call 189; refine (hch _ HR.out.2).mono ?_; rintro e v ⟨⟨p, cap, rfl, hrd⟩, hb⟩; have HRD := Zab hrd; replace HR := Zab (HR.out.later hb); replace HAX := Zab (HAX.out.later hb); clear hb hrd hch xi)
        | (at_builtin; refine Zdu (.tmp 32) (.tmp 46) rfl rfl HR.out HRD.out (by rw [List.length_append]; have := HLI.out; omega) (fun s9 u9 hR hT => ?_); replace HR := Zab hR; (try replace HAX := Zab (hT _ _ _ (by decide) HAX.out)); clear hR hT))
       go_roundw
       case rel => exact ⟨k + 1, by omega, by go_num, by rw [HCK.out, ← List.append_assoc]; exact HR.out, HAX.out⟩
       case measure => simp [intOf]; omega
     · obtain rfl : k = 3 := by omega
       obtain ⟨m, hm⟩ : ∃ m : Nat, C.a i 4 = (m : Int) := ⟨(C.a i 4).toNat, by have := (H4.out i hi).1; omega⟩
       have hm2 : 2 ≤ m ∧ m ≤ 4 := by have := H4.out i hi; omega
       have hmt : (C.a i 4).toNat = m := by omega
       have HAE : Hid (axR C l now i (x i) (at' i) s = chU l now i (C.a i 2) (x i) (s.z i) 3 ++ suU i (at' i) m ++ [(32 + (i : Int), 3, 3, s.k i)]) := Zab (by rw [← hmt]; rfl); have x4 := (hax.cell (show (axL C i)[4]? = some (Vi (m : Int)) by rw [← hm]; rfl)).1; have hc2 := chU_len l now i (C.a i 2) (x i) (s.z i) 3
       have m0 : (0 : Int) ≤ (m : Int) := by omega
       have m4 : (m : Int) ≤ 4 := by omega
       have HR := Zab hr; clear hr hax hm hmt
       go_upto_region 10 with fail; refine Cs [49, 50, 51, 52, 53, 54, 55, 56, 57, 58] ?_; refine Cp 0 49 [] ?_; refine Cp 1 50 [] ?_; refine Cp 2 51 [0] ?_; refine Cp 3 52 [2] ?_; refine Cp 4 53 [3, 1] ?_; refine Cp 5 54 [] ?_; refine Cq (fun _ h => cell_later h x4) 6 55 [5] ?_; refine Cp 7 56 [4, 6] ?_; refine Cp 8 57 [7] ?_; refine Cp 9 58 [] ?_; refine Ce (fun y u1 hB hf => ?_); have HS1 := Zab hB; clear hB hf; go_simp; have hB := HS1.out; clear HS1; generalize u1 = v3 at hB ⊢; refine Zbd (by assumption) ?_; clear x4; replace HR := Zab (HR.out.later hB); clear hB
       go_upto_region 11 with fail
       go_loopw [5, 58] (fun s1 ix wr => ∃ k : Nat, k ≤ m ∧ ix = Vi k ∧ ROw v0 wr s1 (axU C l now x at' s i ++ chU l now i (C.a i 2) (x i) (s.z i) 3 ++ suU i (at' i) k)) (fun _ ix _ => m - (intOf ix).toNat)
       case atStart => exact ⟨0, Nat.zero_le _, rfl, by rw [suU, List.append_nil]; exact HR.out⟩
       case round =>
        clear HR; obtain ⟨k, hk, rfl, hr⟩ := hrel
        by_cases hlt : k < m
        · have xk := ((HK.out wr hr.2).cell (fl_at C pf l.length cf S now x at' hi (show k < 4 by omega))).1; have HCK : Hid (suU i (at' i) (k + 1) = suU i (at' i) k ++ [(16 + 4 * (i : Int) + k, 3, 3, at' i k)]) := Zab rfl; have hsl := suU_len i (at' i) k; have hul := Zdc 16 (i : Int) (k : Int) (by omega) (by omega) (by omega); have hco := common_any (16 + 4 * (i : Int) + (k : Int)) (at' i k)
          have k0 : (0 : Int) ≤ (k : Int) := by omega
          have k1 : (k : Int) < (m : Int) := by omega
          have HR := Zab hr; have HHL := Zab hsl; generalize at' i k = ak at *
          unfold rdL at hco
          dsimp only at hco
          clear hr hsl; generalize 16 + 4 * (i : Int) + (k : Int) = lb at *
          go_wp2_with (first
           | (go_at_call 108; refine Sm (hul _) ?_)
           | (go_at_call 190; refine Sb (hco _) fun v hb => ?_; replace HR := Zab ((HR.out.later hb).later (Zaa v (.cells (rdL (lb, 3, 3, ak)).toArray 161))); have HRD := Zab (rds_new v (lb, 3, 3, ak)); clear hb xk)
           | (at_builtin; refine Zdu (.tmp 63) (.tmp 69) rfl rfl HR.out HRD.out (by rw [List.length_append, List.length_append, HHL.out]; have := HLI.out; simp only [List.length_cons, List.length_nil]; omega) (fun s9 u9 hR hT => ?_); replace HR := Zab hR; (try replace HAX := Zab (hT _ _ _ (by decide) HAX.out)); clear hR hT))
          go_roundw
          case rel => exact ⟨k + 1, by omega, by go_num, by rw [HCK.out, ← List.append_assoc]; exact HR.out⟩
          case measure => simp [intOf]; omega
        · obtain rfl : k = m := by omega
          have xk := ((HP.out wr hr.2).cell (stp_k s hi)).1; have hco := common_any (32 + (i : Int)) (s.k i); have hsl := suU_len i (at' i) k; have HHL := Zab hsl; have HR := Zab hr; have HAX1 : Hid (axU C l now x at' s (i + 1) = axU C l now x at' s i ++ axR C l now i (x i) (at' i) s) := Zab rfl; generalize s.k i = sk at *
          unfold rdL at hco
          dsimp only at hco
          clear hr hsl
          go_wp2_with (first
           | (go_at_call 190; refine Sb (hco _) fun v hb => ?_; replace HR := Zab ((HR.out.later hb).later (Zaa v (.cells (rdL (32 + (i : Int), 3, 3, sk)).toArray 161))); have HRD := Zab (rds_new v (32 + (i : Int), 3, 3, sk)); clear hb xk)
           | (at_builtin; refine Zdu (.tmp 72) (.tmp 80) rfl rfl HR.out HRD.out (by rw [List.length_append, List.length_append, HHL.out]; have := HLI.out; simp only [List.length_cons, List.length_nil]; omega) (fun s9 u9 hR hT => ?_); replace HR := Zab hR; (try replace HAX := Zab (hT _ _ _ (by decide) HAX.out)); clear hR hT))
          go_roundw
          case rel => exact ⟨i + 1, by omega, by go_num, by rw [HAX1.out, HAE.out, ← List.append_assoc, ← List.append_assoc]; exact HR.out⟩
          case measure => simp [intOf]; omega
  · obtain rfl : i = 2 := by omega
    have HLI := Zab (HLA.out 2 (by omega)); have HR := Zab hr; clear hr
    go_upto_region 18 with fail
    go_loopw [5, 83] (fun s1 ix wr => ∃ k : Nat, k ≤ 3 ∧ ix = Vi k ∧ ROw v0 wr s1 (axU C l now x at' s 2 ++ spR l now s.v k)) (fun _ ix _ => 3 - (intOf ix).toNat)
    case atStart => exact ⟨0, Nat.zero_le _, rfl, by rw [spR, List.append_nil]; exact HR.out⟩
    case round =>
     clear HR; obtain ⟨k, hk, rfl, hr⟩ := hrel; have hsl := HLS.out k
     by_cases hlt : k < 3
     · have HCK : Hid (spR l now s.v (k + 1) = spR l now s.v k ++ chR l now 2 k 8 s.v) := Zab rfl; have hch := fun u (h : Below v0.heap.size v0 u) => channel_any B pf cf l now 2 k 8 s.v hl u ((HK.out u h).cell (j := 32) rfl).1 ((HK.out u h).cell (j := 63) rfl).1 (HF.out u h); have hc1 := chR_len l now 2 k 8 s.v; have xv := ((HP.out wr hr.2).cell (j := 6) rfl).1; have HR := Zab hr; generalize chR l now 2 k 8 s.v = cr at *; generalize s.v = sv at *; clear hr
       go_wp2_with (first
        | (go_at_call 189; refine (hch _ HR.out.2).mono ?_; rintro e v ⟨⟨p, cap, rfl, hrd⟩, hb⟩; have HRD := Zab hrd; replace HR := Zab (HR.out.later hb); clear hb hrd hch xv)
        | (at_builtin; refine Zdu (.tmp 86) (.tmp 91) rfl rfl HR.out HRD.out (by rw [List.length_append]; have := HLI.out; omega) (fun s9 u9 hR hT => ?_); replace HR := Zab hR; (try replace HAX := Zab (hT _ _ _ (by decide) HAX.out)); clear hR hT))
       go_roundw
       case rel => (repeat apply Exists.intro); exact ⟨⟨k + 1, by omega, by go_num, by rw [HCK.out, ← List.append_assoc]; exact HR.out⟩, rfl⟩
       case measure => simp [intOf]; omega
     · obtain rfl : k = 3 := by omega
       have xg := ((HP.out wr hr.2).cell (j := 7) rfl).1; have HR := Zab hr; have hco := common_any 40 1
       unfold rdL at hco
       dsimp only at hco
       have HNE : Hid (0 < (axU C l now x at' s 2).length) := Zab (by show 0 < (axU C l now x at' s 1 ++ axR C l now 1 (x 1) (at' 1) s).length; unfold axR; simp only [List.length_append, List.length_cons]; omega); clear hr
       cases hg : s.g
       · rw [hg] at xg; rw [hg, if_neg (by simp), List.append_nil] at HSA; obtain ⟨g, cap, rfl, _⟩ := HR.out.1.form (by rw [List.length_append]; have := HNE.out; omega); have HRD := Zab (rds_of_row rfl HR.out.1); have HBW := Zab (Zac HB0.out HR.out.2); rw [← HSA.out] at HRD; clear HR; go_wp2_with fail; go_ret; exact ⟨⟨g, cap, by rw [HSA.out]; rfl, HRD.out⟩, HBW.out⟩
       · rw [hg] at xg; rw [hg, if_pos rfl] at HSA; have hsl := HLS.out 3
         go_wp2_with (first
          | (go_at_call 190; refine Sb (hco _) fun v hb => ?_; replace HR := Zab ((HR.out.later hb).later (Zaa v (.cells (rdL (40, 3, 3, 1)).toArray 161))); have HRD := Zab (rds_new v (40, 3, 3, 1)); clear hb xg)
          | (at_builtin; refine Zdu (.tmp 96) (.tmp 98) rfl rfl HR.out HRD.out (by rw [List.length_append]; have := HLI.out; simp only [List.length_cons, List.length_nil]; omega) (fun s9 u9 hR hT => ?_); replace HR := Zab hR; (try replace HAX := Zab (hT _ _ _ (by decide) HAX.out)); clear hR hT))
         obtain ⟨g, cap, rfl, _⟩ := HR.out.1.form (by rw [List.length_append]; simp); replace HRD := Zab (rds_of_row rfl HR.out.1); have HBW := Zab (Zac HB0.out HR.out.2); rw [← HSA.out] at HRD; clear HR; go_ret; exact ⟨⟨g, cap, by rw [HSA.out]; rfl, HRD.out⟩, HBW.out⟩
theorem infoStp : (prog.info? 78).map (·.size) = some 8 := by kernel_rfl
theorem stL_info (T : FS) : (prog.info? 41).map (·.size) = some (stL T).toArray.size := by rw [Zce]; rfl
theorem stL_infoL (T : FS) : (prog.info? 41).map (·.size) = some (stL T).length := by rw [Zce]; rfl
theorem stL_one (T : FS) : (stL T).toArray.all (·.oneCell') = true := Zau _ rfl
section
variable (C : CR) (pf : Option Addr) (nf cf : Nat) (S T : FS) (now : Int) (x : Nat → Int) (at' : Nat → Nat → Int)
theorem fl_cr : ((flL C pf nf cf S now x at').drop 0).take 32 = crL C := rfl
theorem fl_st : ((flL C pf nf cf S now x at').drop 33).take 30 = stL S := rfl
theorem fl_putSt : putL (flL C pf nf cf S now x at') 33 (stL T) = flL C pf nf cf T now x at' := by kernel_rfl
theorem fl_now : (flL C pf nf cf S now x at')[63]? = some (Vi now) := rfl
theorem fl_setNow (v : Int) : (flL C pf nf cf S now x at').set 63 (Vi v) = flL C pf nf cf S v x at' := rfl
end
theorem fl_congr {C : CR} {pf : Option Addr} {nf cf : Nat} {S : FS} {now : Int} {x x' : Nat → Int} {a a' : Nat → Nat → Int} (hx : ∀ i, i < 2 → x i = x' i) (ha : ∀ i, i < 2 → ∀ k, k < 4 → a i k = a' i k) : flL C pf nf cf S now x a = flL C pf nf cf S now x' a' := by
 unfold flL
 rw [hx 0 (by omega), hx 1 (by omega), ha 0 (by omega) 0 (by omega), ha 0 (by omega) 1 (by omega), ha 0 (by omega) 2 (by omega), ha 0 (by omega) 3 (by omega), ha 1 (by omega) 0 (by omega), ha 1 (by omega) 1 (by omega), ha 1 (by omega) 2 (by omega), ha 1 (by omega) 3 (by omega)]
theorem Oth.setCells {w0 : World} {B : Nat} : ∀ (vs : List Value) (o : Nat) (u : World), Oth w0 u B → Oth w0 (u.setCells B o vs) B
 | [], _, _, h => h
 | v :: r, o, u, h => Oth.setCells r (o + 1) (u.setCell ⟨B, o, none⟩ v) h.set
theorem Oth.below {w u : World} {B : Nat} (h : Below w.heap.size w u) : Oth w u B := (Oth.refl w B).later h
theorem Oth.trans {w0 u v : World} {B : Nat} (h : Oth w0 u B) (k : Oth u v B) : Oth w0 v B :=
 ⟨Nat.le_trans h.1 k.1, k.2.1.trans h.2.1, k.2.2.1.trans h.2.2.1, k.2.2.2.1.trans h.2.2.2.1, fun b h1 h2 => (k.2.2.2.2 b (Nat.lt_of_lt_of_le h1 h.1) h2).trans (h.2.2.2.2 b h1 h2)⟩
theorem Oth.blk {w u : World} {B b : Nat} {t : TypeId} {cs : List Value} (h : Oth w u B) (hb : b ≠ B) (k : Blk t w b cs) : Blk t u b cs := (h.2.2.2.2 b k.lt hb).trans k
theorem Oth.lst {w u : World} {B : Nat} {a : Option Addr} {l : List Int} (h : Oth w u B) (hn : l ≠ [] → ∀ g o, a = some (Ad g o) → g ≠ B) (k : Lst w a l) : Lst u a l := by
 rcases k with k | ⟨g, o, e, hc⟩
 · exact .inl k
 · exact .inr ⟨g, o, e, fun j hj => h.cell (hn (fun z => by rw [z] at hj; simp at hj) g o e) (hc j hj)⟩
theorem Oth.vls {w u : World} {B : Nat} {a : Option Addr} {l : List Sv} (h : Oth w u B) (hn : ∀ g o, a = some (Ad g o) → g ≠ B) (k : VLs w a l) : VLs u a l := by
 rcases k with k | ⟨g, o, e, hc⟩
 · exact .inl k
 · exact .inr ⟨g, o, e, fun j hj => ⟨h.cell (hn g o e) (hc j hj).1, h.cell (hn g o e) (hc j hj).2.1, h.cell (hn g o e) (hc j hj).2.2⟩⟩
theorem Oth.u32 {w u : World} {B : Nat} {a : Option Addr} {l : List Int} (h : Oth w u B) (hn : ∀ g o, a = some (Ad g o) → g ≠ B) (k : U32s w a l) : U32s u a l := by
 rcases k with k | ⟨g, e, hc⟩
 · exact .inl k
 · exact .inr ⟨g, e, fun j hj => h.cell (hn g 0 e) (hc j hj)⟩
theorem Oth.gv {w u : World} {B : Nat} (h : Oth w u B) (hn : B ≠ 0) (k : GV w) : GV u := h.cell (Ne.symm hn) k
def CrN (C : CR) (B : Nat) : Prop := ∀ i, i < 2 → (C.al i ≠ [] → ∀ g o, C.p i = some (Ad g o) → g ≠ B) ∧ (C.zl i ≠ [] → ∀ g o, C.q i = some (Ad g o) → g ≠ B)
theorem Oth.crl {w u : World} {B : Nat} {C : CR} (h : Oth w u B) (hn : CrN C B) (k : CrL w C) : CrL u C := fun i hi =>
 ⟨(k i hi).1, (k i hi).2.1, (k i hi).2.2.1, h.lst (hn i hi).1 (k i hi).2.2.2.1, h.lst (hn i hi).2 (k i hi).2.2.2.2⟩
def SvN (T : FS) (B : Nat) : Prop := ∀ i, i < 2 → ∀ g o, T.sp i = some (Ad g o) → g ≠ B
theorem Oth.svl {w u : World} {B : Nat} {S : FS} {sv : Nat → List Sv} (h : Oth w u B) (hn : SvN S B) (k : SvL w S sv) : SvL u S sv := fun i hi => ⟨(k i hi).1, (k i hi).2.1, h.vls (hn i hi) (k i hi).2.2⟩
def SpN (T : FS) (K : Nat) : Prop := ∀ i, i < 2 → ∃ G, T.sp i = some (Ad G 0) ∧ K ≤ G
theorem SpN.svn {T : FS} {K B : Nat} (h : SpN T K) (hB : B < K) : SvN T B := fun i hi g o e => by
 obtain ⟨G, e2, h2⟩ := h i hi; rw [e2] at e
 cases e
 omega
theorem Oth.grown {w u : World} {B : Nat} (h : Oth w u B) : w.grownBy u (some B) := ⟨h.2.1, h.2.2.1, h.2.2.2.1, h.1, fun k h1 h2 => h.2.2.2.2 k h1 (fun e => h2 (by rw [e]))⟩
theorem lst_lt {w : World} {a : Option Addr} {l : List Int} (k : Lst w a l) : l ≠ [] → ∀ g o, a = some (Ad g o) → g < w.heap.size := by
 intro hl g o e
 rcases k with k | ⟨g', o', e', hc⟩
 · exact absurd k hl
 · rw [e'] at e; cases e; exact World.block_lt_of_cell? w _ (hc 0 (List.length_pos_iff.2 hl))
theorem fts_lt {w : World} {a : Option Addr} {l : List Ft} (k : Fts w a l) : l ≠ [] → ∀ g o, a = some (Ad g o) → g < w.heap.size := by
 intro hl g o e
 rcases k with k | ⟨g', o', e', hc⟩
 · exact absurd k hl
 · rw [e'] at e; cases e; exact World.block_lt_of_cell? w _ (hc 0 (List.length_pos_iff.2 hl) 0 _ rfl)
theorem vls_lt {w : World} {a : Option Addr} {l : List Sv} (k : VLs w a l) (hl : 1 ≤ l.length) : ∀ g o, a = some (Ad g o) → g < w.heap.size := by
 intro g o e
 rcases k with k | ⟨g', o', e', hc⟩
 · rw [k] at hl; simp at hl
 · rw [e'] at e; cases e; exact World.block_lt_of_cell? w _ (hc 0 (by omega)).1
theorem crl_n {w : World} {C : CR} (h : CrL w C) : CrN C w.heap.size := fun i hi => ⟨fun z g o e => Nat.ne_of_lt (lst_lt (h i hi).2.2.2.1 z g o e), fun z g o e => Nat.ne_of_lt (lst_lt (h i hi).2.2.2.2 z g o e)⟩
def zSt : List Value := stL ⟨fun _ => ⟨fun _ => 0, fun _ => false, 0⟩, fun _ => none, fun _ => 0, fun _ => 0, fun _ => (0, 0, 0), 0⟩
theorem Blk.setSt {u : World} {X : Nat} (h : Blk 41 u X zSt) (T : FS) : Blk 41 (u.setCells X 0 (stL T)) X (stL T) := by
 have k := Blk.setCells (stL T) 0 u _ h
 rwa [putL_all (stL T) zSt rfl] at k
theorem Blk.there0 {u : World} {X : Nat} (h : Blk 41 u X zSt) (T : FS) : u.there X 0 (stL T).toArray.size := h.there (Nat.le_of_ble_eq_true rfl)
theorem fcell_two {w : World} {p : Addr} {x y : Value} (h : w.cell? p = some x) (k : w.cell? p = some y) : x = y := Option.some.inj (h.symm.trans k)
theorem zst_u32 {w : World} {X g : Nat} {zs : List Int} (h : Blk 41 w X zSt) (k : U32s w (some (Ad g 0)) zs) (h1 : 1 ≤ zs.length) : g ≠ X := by
 rintro rfl
 rcases k with k | ⟨g', e, hc⟩
 · rw [k] at h1; simp at h1
 · obtain rfl : g = g' := by simpa using e
   have := fcell_two (hc 0 (by omega)) (h.cell (j := 0) rfl).1
   cases this
theorem zst_vls {w : World} {X g : Nat} {l : List Sv} (h : Blk 41 w X zSt) (k : VLs w (some (Ad g 0)) l) (h1 : 1 ≤ l.length) : g ≠ X := by
 rintro rfl
 rcases k with k | ⟨g', o', e, hc⟩
 · rw [k] at h1; simp at h1
 · obtain ⟨rfl, rfl⟩ : g = g' ∧ 0 = o' := by simpa using e
   have := fcell_two (hc 0 (by omega)).2.2 (h.cell (j := 2) rfl).1
   cases this
theorem saR_pos (C : CR) (l : List Ft) (now : Int) (x : Nat → Int) (at' : Nat → Nat → Int) (s : Stp) : 1 ≤ (saR C l now x at' s).length := by
 unfold saR
 simp only [List.length_append]
 have : 1 ≤ (axU C l now x at' s 2).length := by
  rw [axU, axU]
  unfold axR
  simp only [List.length_append, List.length_singleton]
  omega
 omega
theorem fnd_dat {a b : Int} {ws : List Int} {r : Rd} (h : fnd a b (gat rdOf ws) = some r) : -262144 ≤ r.2.2.2 ∧ r.2.2.2 ≤ 262143 := by
 obtain ⟨x, _, hx⟩ := gat_mem rdOf ws r (fnd_mem h)
 unfold rdOf at hx
 split at hx
 · cases hx; exact dat_bd x
 · cases hx
theorem plR_bd {T : Int} {a b : Int} {ws : List Int} {f : Option Ft} (h : 0 ≤ T ∧ T ≤ 1000) : -300000 ≤ plR T (fnd a b (gat rdOf ws)) f ∧ plR T (fnd a b (gat rdOf ws)) f ≤ 300000 := by
 unfold plR
 split
 · omega
 · rename_i r e
   have := fnd_dat e
   split
   · split
     · rename_i f
       have := Zbr (v := f.2.2.2.2) (show -T ≤ T by omega)
       omega
     · omega
   · omega
theorem rdA_len (v : Nat → List Sv) (n : Int) : (rdA v n).length = (v 0).length + (v 1).length + 1 := by
 have h : ∀ i L m, (rdU i L m).length = m := fun i L m => by
  induction m with
  | zero => rfl
  | succ m ih => rw [rdU, List.length_append, ih]; rfl
 simp only [rdA, rdX, List.length_append, h, List.length_nil, List.length_singleton]
 omega
theorem rdA_mem {v : Nat → List Sv} {n : Int} (h : ∀ k, k < (rdA v n).length → Zcw (rat (rdA v n) k) = true) : ∀ r ∈ rdA v n, Zcw r = true := fun r hr => by
 obtain ⟨k, hk, rfl⟩ := List.getElem_of_mem hr; rw [← rat_eq hk]; exact h k hk
def SaS (T S : FS) : Prop := T.bk = S.bk ∧ T.hd = S.hd ∧ T.n = S.n
theorem stpF_same {C : CR} {l : List Ft} {now : Int} {q : FT} {T : FS} {s : Stp} (h : SaS T q.S) : SaS (stpF C l now ⟨T, q.sv, q.x, q.at'⟩ s).S (stpF C l now q s).S ∧ (stpF C l now ⟨T, q.sv, q.x, q.at'⟩ s).sv = (stpF C l now q s).sv ∧ (stpF C l now ⟨T, q.sv, q.x, q.at'⟩ s).x = (stpF C l now q s).x ∧ (stpF C l now ⟨T, q.sv, q.x, q.at'⟩ s).at' = (stpF C l now q s).at' := by
 obtain ⟨e1, e2, e3, e4⟩ := fS3_eq (C := C) (l := wsF C l now q s) (sv := q.sv) h; have e1' : vS3 C T (wsF C l now ⟨T, q.sv, q.x, q.at'⟩ s) q.sv = vS3 C q.S (wsF C l now q s) q.sv := e1; refine ⟨⟨e2, e3, e4⟩, e1', ?_, ?_⟩
 · show (fun i => q.x i + plU C l now i (vS3 C T (wsF C l now ⟨T, q.sv, q.x, q.at'⟩ s) q.sv i) (C.a i 4).toNat + s.p i) = _
   rw [e1']; rfl
 · show (fun i k => if k < (C.a i 4).toNat then plc C l now i k (svAt (vS3 C T (wsF C l now ⟨T, q.sv, q.x, q.at'⟩ s) q.sv i) k) else q.at' i k) = _
   rw [e1']; rfl
def sgU (f : Nat → Int) : Nat → Int
 | 0 => 0
 | k + 1 => sgU f k + f k
theorem Zhf {f g : Nat → Int} : ∀ n, (∀ k, k < n → f k ≤ g k) → sgU f n ≤ sgU g n
 | 0, _ => Int.le_refl _
 | n + 1, h => by have a := Zhf n (fun k hk => h k (by omega)); have c := h n (by omega); simp only [sgU]; omega
theorem sgU_eq {f g : Nat → Int} : ∀ n, (∀ k, k < n → f k = g k) → sgU f n = sgU g n
 | 0, _ => rfl
 | n + 1, h => by have a := sgU_eq n (fun k hk => h k (by omega)); have c := h n (by omega); simp only [sgU]; omega
theorem Zgn (T R : Int) (l : List Sv) (v : Int) : ∀ n, totU T R l v n = sgU (fun k => tk T R (svAt l k) v) n
 | 0 => rfl
 | n + 1 => by simp only [totU, sgU, Zgn T R l v n]
theorem Zex (l : List Sv) : ∀ n, smU l n = sgU (fun k => (svAt l k).1) n
 | 0 => rfl
 | n + 1 => by simp only [smU, sgU, Zex l n]
theorem tk_in {T R S C : Int} {s : Sv} (hr : arB T R S C = true) (hs : svB T C s.1 s.2.1 s.2.2 = true) (ho : s.2.2 = false) (v : Int) :
 (-T ≤ tk T R s v ∧ tk T R s v ≤ T) ∧ (s.1 - R ≤ tk T R s v ∧ tk T R s v ≤ s.1 + R) ∧ (tk T R s v = v ∨ (tk T R s v < v ∧ (tk T R s v = s.1 + R ∨ tk T R s v = T)) ∨ (v < tk T R s v ∧ (tk T R s v = s.1 - R ∨ tk T R s v = -T))) := by
 have a := Zas hr; have c := Zbg hs
 unfold tk Zar loR hiR mxA mnA
 rw [ho]; simp only [Bool.false_eq_true, if_false]
 split
 · omega
 · split
   · omega
   · split <;> omega
theorem Zge {T R : Int} {s : Sv} (ho : s.2.2 = true) (v : Int) : tk T R s v = 0 := by
 unfold tk Zar loR hiR
 rw [ho]; simp only [if_true]
 split
 · rfl
 · split
   · rfl
   · split <;> omega
theorem tk_next {T R S C : Int} {s : Sv} (hr : arB T R S C = true) (hs : svB T C s.1 s.2.1 s.2.2 = true) (v : Int) : tk T R s v ≤ tk T R s (v + 1) ∧ tk T R s (v + 1) ≤ tk T R s v + 1 := by
 cases ho : s.2.2
 · have a := tk_in hr hs ho v; have c := tk_in hr hs ho (v + 1)
   omega
 · rw [Zge ho, Zge ho]; omega
theorem lf_is {T R S C : Int} {l : List Sv} (hok : AllOk T R S C l) (v s : Int) (hs : 0 ≤ s) : ∀ n, n ≤ l.length → lfU T R l v s n = max 0 (s - (totU T R l (v + 1) n - totU T R l v n)) ∧ sgU (dlI T R l v s) n = totU T R l v n + s - lfU T R l v s n
 | 0, _ => by simp only [lfU, totU, sgU]; omega
 | n + 1, hn => by
  have i := lf_is hok v s hs n (by omega); have a := tk_next hok.1 (hok.2 n (by omega)) v; simp only [lfU, totU, sgU, dlI]
  split <;> omega
theorem dl_in {T R S C : Int} {l : List Sv} (hok : AllOk T R S C l) (v s : Int) {k : Nat} (hk : k < l.length) : tk T R (svAt l k) v ≤ dlI T R l v s k ∧ dlI T R l v s k ≤ tk T R (svAt l k) (v + 1) := by
 have a := tk_next hok.1 (hok.2 k hk) v
 unfold dlI
 split <;> omega
theorem dl_sum {T R S C : Int} {l : List Sv} (hok : AllOk T R S C l) {v c : Int} (hv : IsLev T R l c v) (hc : c ≤ tot T R l T) : sgU (dlI T R l v (c - tot T R l v)) l.length = c := by
 obtain ⟨h1, h2, h3, h4⟩ := hv; have i := lf_is hok v (c - tot T R l v) (by omega) l.length (Nat.le_refl _)
 by_cases h : v < T
 · have := h4 h
   unfold tot at *
   omega
 · have e : v = T := by omega
   subst e; have := Zeb v R l (show v ≤ v + 1 by omega)
   unfold tot at *
   omega
def inT (T : Int) (l : List Sv) (n : Nat) : Int := sgU (fun k => if (svAt l k).2.2 then 0 else T) n
def inN (l : List Sv) : Nat → Nat
 | 0 => 0
 | k + 1 => if (svAt l k).2.2 then inN l k else inN l k + 1
theorem inN_le (l : List Sv) : ∀ n, inN l n ≤ n
 | 0 => Nat.le_refl _
 | n + 1 => by have := inN_le l n; simp only [inN]; split <;> omega
theorem inT_is (T : Int) (l : List Sv) : ∀ n, inT T l n = (inN l n : Int) * T
 | 0 => by simp [inT, inN, sgU]
 | n + 1 => by
  have i := inT_is T l n
  unfold inT at *
  simp only [sgU, inN]
  split
  · omega
  · rw [i, show ((inN l n + 1 : Nat) : Int) = (inN l n : Int) + 1 by omega, Int.add_mul]; omega
def clS (s lo hi : Int) : Int := min (max s lo) hi
def nxL (T R : Int) (l : List Sv) (v c : Int) : List Sv := (List.range l.length).map fun k => (dlI T R l v (c - tot T R l v) k, (svAt l k).2.1, (svAt l k).2.2)
theorem nx_len (T R : Int) (l : List Sv) (v c : Int) : (nxL T R l v c).length = l.length := by simp [nxL]
theorem nx_at (T R : Int) (l : List Sv) (v c : Int) {k : Nat} (hk : k < l.length) : svAt (nxL T R l v c) k = (dlI T R l v (c - tot T R l v) k, (svAt l k).2.1, (svAt l k).2.2) := by
 simp [svAt, nxL, hk, List.getD]
structure Fr (T R S C sum : Int) (l l' : List Sv) : Prop where
 ok : AllOk T R S C l
 ok' : AllOk T R S C l'
 len : l'.length = l.length
 out : ∀ k, k < l.length → (svAt l' k).2.2 = (svAt l k).2.2
 near : ∀ k, k < l.length → (svAt l k).2.2 = false → (svAt l k).1 - R ≤ (svAt l' k).1 ∧ (svAt l' k).1 ≤ (svAt l k).1 + R
 sum' : smU l' l'.length = clS sum (tot T R l (-T)) (tot T R l T)
 lev : ∃ v, IsLev T R l (clS sum (tot T R l (-T)) (tot T R l T)) v ∧ ∀ k, k < l.length → tk T R (svAt l k) v ≤ (svAt l' k).1 ∧ (svAt l' k).1 ≤ tk T R (svAt l k) (v + 1)
theorem clS_clip {s lo hi : Int} (h : lo ≤ hi) : Zar s lo hi = clS s lo hi := by
 unfold Zar clS; split
 · omega
 · split
   · omega
   · split <;> omega
theorem fr_mk {T R S C sum v : Int} {l : List Sv} (hok : AllOk T R S C l) (hv : IsLev T R l (Zar sum (tot T R l (-T)) (tot T R l T)) v) :
 Fr T R S C sum l (nxL T R l v (Zar sum (tot T R l (-T)) (tot T R l T))) := by
 have a := Zas hok.1; have hm := Zeb T R l (show -T ≤ T by omega); rw [clS_clip hm] at hv ⊢; generalize hc : clS sum (tot T R l (-T)) (tot T R l T) = c at *
 have hb : tot T R l (-T) ≤ c ∧ c ≤ tot T R l T := by unfold clS at hc; omega
 have hsv : ∀ k, k < l.length → svB T C (dlI T R l v (c - tot T R l v) k) (svAt l k).2.1 (svAt l k).2.2 = true ∧ ((svAt l k).2.2 = false → (svAt l k).1 - R ≤ dlI T R l v (c - tot T R l v) k ∧ dlI T R l v (c - tot T R l v) k ≤ (svAt l k).1 + R) := fun k hk => by
  have d := dl_in hok v (c - tot T R l v) hk; have s := Zbg (hok.2 k hk)
  cases ho : (svAt l k).2.2
  · have x := tk_in hok.1 (hok.2 k hk) ho v; have y := tk_in hok.1 (hok.2 k hk) ho (v + 1); rw [ho] at s; exact ⟨sv_mk (by omega) s.2.1 (fun h => by cases h) s.2.2.2, fun _ => by omega⟩
  · rw [Zge ho, Zge ho] at d; rw [ho] at s; exact ⟨sv_mk (by omega) s.2.1 (fun _ => by omega) (fun h => by cases h), fun h => by cases h⟩
 refine ⟨hok, ⟨hok.1, fun k hk => ?_⟩, nx_len _ _ _ _ _, fun k hk => by rw [nx_at _ _ _ _ _ hk], fun k hk ho => ?_, ?_, v, hc ▸ hv, fun k hk => ?_⟩
 · rw [nx_len] at hk; rw [nx_at _ _ _ _ _ hk]; exact (hsv k hk).1
 · rw [nx_at _ _ _ _ _ hk]; exact (hsv k hk).2 ho
 · rw [Zex, nx_len, sgU_eq (g := dlI T R l v (c - tot T R l v)) l.length (fun k hk => by rw [nx_at _ _ _ _ _ hk]), dl_sum hok hv hb.2, hc]
 · rw [nx_at _ _ _ _ _ hk]; exact dl_in hok v _ hk
theorem tot_ends {T R S C : Int} {l : List Sv} (hok : AllOk T R S C l) :
 (-inT T l l.length ≤ tot T R l (-T) ∧ tot T R l (-T) ≤ smU l l.length) ∧ (smU l l.length ≤ tot T R l T ∧ tot T R l T ≤ inT T l l.length) := by
 have neg : ∀ n, -inT T l n = sgU (fun k => if (svAt l k).2.2 then 0 else -T) n := fun n => by
  induction n with
  | zero => simp [inT, sgU]
  | succ n i => unfold inT at *; simp only [sgU]; split <;> omega
 have pt : ∀ k, k < l.length → ((if (svAt l k).2.2 then 0 else -T) ≤ tk T R (svAt l k) (-T) ∧ tk T R (svAt l k) (-T) ≤ (svAt l k).1) ∧ ((svAt l k).1 ≤ tk T R (svAt l k) T ∧ tk T R (svAt l k) T ≤ if (svAt l k).2.2 then 0 else T) := fun k hk => by
  have a := Zas hok.1; have s := Zbg (hok.2 k hk)
  cases ho : (svAt l k).2.2
  · have x := tk_in hok.1 (hok.2 k hk) ho (-T); have y := tk_in hok.1 (hok.2 k hk) ho T; simp only [Bool.false_eq_true, if_false]
    omega
  · rw [ho] at s; have := s.2.2.1 rfl; rw [Zge ho, Zge ho]; simp only [if_true]
    omega
 rw [neg, Zex]
 unfold tot
 rw [Zgn, Zgn]
 unfold inT
 exact ⟨⟨Zhf _ fun k hk => (pt k hk).1.1, Zhf _ fun k hk => (pt k hk).1.2⟩, Zhf _ fun k hk => (pt k hk).2.1, Zhf _ fun k hk => (pt k hk).2.2⟩
def Apart (l : List Sv) (d : Int) : Prop := ∀ j k, j < l.length → k < l.length → (svAt l j).2.2 = false → (svAt l k).2.2 = false → (svAt l j).1 - (svAt l k).1 ≤ d
theorem mid_in (x y z lo hi : Int) (_h0 : -1000000 ≤ lo) (_h1 : hi ≤ 1000000) (hx : -1000000 ≤ x ∧ x ≤ 1000000) (_hy : -1000000 ≤ y ∧ y ≤ 1000000) (_hz : -1000000 ≤ z ∧ z ≤ 1000000)
 (h : ((lo ≤ x ∧ x ≤ hi) ∧ (lo ≤ y ∧ y ≤ hi)) ∨ ((lo ≤ x ∧ x ≤ hi) ∧ (lo ≤ z ∧ z ≤ hi)) ∨ ((lo ≤ y ∧ y ≤ hi) ∧ (lo ≤ z ∧ z ≤ hi))) :
 lo ≤ x + y + z - mnI (mnI (mnI 2147483647 x) y) z - mxI (mxI (mxI (-2147483647) x) y) z ∧ x + y + z - mnI (mnI (mnI 2147483647 x) y) z - mxI (mxI (mxI (-2147483647) x) y) z ≤ hi := by
 have e1 := mnI_of 2147483647 x; have e2 := mnI_of (mnI 2147483647 x) y; have e3 := mnI_of (mnI (mnI 2147483647 x) y) z; have f1 := mxI_of (-2147483647) x; have f2 := mxI_of (mxI (-2147483647) x) y; have f3 := mxI_of (mxI (mxI (-2147483647) x) y) z; generalize mnI (mnI (mnI 2147483647 x) y) z = p3 at *; generalize mnI (mnI 2147483647 x) y = p2 at *; generalize mnI 2147483647 x = p1 at *; generalize mxI (mxI (mxI (-2147483647) x) y) z = q3 at *; generalize mxI (mxI (-2147483647) x) y = q2 at *; generalize mxI (-2147483647) x = q1 at *
 omega
theorem vot_in {t o : Nat → Bool} {s : Nat → Int} {l lo hi : Int} (q : Nat) (h0 : -1000000 ≤ lo) (h1 : hi ≤ 1000000) (hh : ∀ k, k < 3 → k ≠ q → cntB t o k = true ∧ lo ≤ s k ∧ s k ≤ hi) (hf : Fit t o s) :
 lo ≤ votI t o s l ∧ votI t o s l ≤ hi := by
 have a0 := hf 0 (by omega); have a1 := hf 1 (by omega); have a2 := hf 2 (by omega)
 rcases (show q = 0 ∨ q = 1 ∨ q = 2 ∨ 3 ≤ q by omega) with rfl | rfl | rfl | hq
 · obtain ⟨c1, l1, u1⟩ := hh 1 (by omega) (by omega); obtain ⟨c2, l2, u2⟩ := hh 2 (by omega) (by omega)
   cases c0 : cntB t o 0
   · simp [votI, Zcq, sumU, c0, c1, c2]; omega
   · have := mid_in (s 0) (s 1) (s 2) lo hi h0 h1 (a0 c0) (a1 c1) (a2 c2) (by omega)
     simpa [votI, Zcq, sumU, Zhk, mostU, c0, c1, c2] using this
 · obtain ⟨c0, l0, u0⟩ := hh 0 (by omega) (by omega); obtain ⟨c2, l2, u2⟩ := hh 2 (by omega) (by omega)
   cases c1 : cntB t o 1
   · simp [votI, Zcq, sumU, c0, c1, c2]; omega
   · have := mid_in (s 0) (s 1) (s 2) lo hi h0 h1 (a0 c0) (a1 c1) (a2 c2) (by omega)
     simpa [votI, Zcq, sumU, Zhk, mostU, c0, c1, c2] using this
 · obtain ⟨c0, l0, u0⟩ := hh 0 (by omega) (by omega); obtain ⟨c1, l1, u1⟩ := hh 1 (by omega) (by omega)
   cases c2 : cntB t o 2
   · simp [votI, Zcq, sumU, c0, c1, c2]; omega
   · have := mid_in (s 0) (s 1) (s 2) lo hi h0 h1 (a0 c0) (a1 c1) (a2 c2) (by omega)
     simpa [votI, Zcq, sumU, Zhk, mostU, c0, c1, c2] using this
 · obtain ⟨c0, l0, u0⟩ := hh 0 (by omega) (by omega); obtain ⟨c1, l1, u1⟩ := hh 1 (by omega) (by omega); obtain ⟨c2, l2, u2⟩ := hh 2 (by omega) (by omega); have := mid_in (s 0) (s 1) (s 2) lo hi h0 h1 (a0 c0) (a1 c1) (a2 c2) (by omega)
   simpa [votI, Zcq, sumU, Zhk, mostU, c0, c1, c2] using this
structure TInv (q : Nat) (c far : Int) (b : Nat → Int) (o : Nat → Bool) (l : Int) : Prop where
 bad : ∀ k, k < 3 → 0 ≤ b k ∧ b k ≤ 10
 last : -1000000 ≤ l ∧ l ≤ 1000000
 good : ∀ k, k < 3 → k ≠ q → o k = false ∧ b k = 0
 liar : q < 3 → o q = true ∨ (far ≤ b q ∧ b q < c)
 far0 : 0 ≤ far
theorem TInv.new (q : Nat) {c : Int} (hc : 1 ≤ c) : TInv q c 0 zI zB 0 :=
 ⟨fun _ _ => by simp [zI], by omega, fun _ _ _ => ⟨rfl, rfl⟩, fun _ => .inr ⟨by simp [zI], by simp [zI]; omega⟩, by omega⟩
structure TIn (q : Nat) (n tr : Int) (ly : Bool) (lz : Int) (t : Nat → Bool) (s : Nat → Int) : Prop where
 hon : ∀ k, k < 3 → k ≠ q → t k = true ∧ tr - n ≤ s k ∧ s k ≤ tr + n
 lie : q < 3 → t q = ly ∧ s q = lz
 lz0 : -1000000 ≤ lz ∧ lz ≤ 1000000
 tr0 : -900000 ≤ tr ∧ tr ≤ 900000
 n0 : 0 ≤ n ∧ n ≤ 1000
def nearB (m n tr : Int) (ly : Bool) (lz : Int) : Bool := ly && (decide (tr - m - n ≤ lz) && decide (lz ≤ tr + m + n))
def farI (m n tr far : Int) (ly : Bool) (lz : Int) : Int := if nearB m n tr ly lz then 0 else far + 1
theorem TIn.fit {q : Nat} {n tr : Int} {ly : Bool} {lz : Int} {t : Nat → Bool} {s : Nat → Int} (h : TIn q n tr ly lz t s) (k : Nat) (hk : k < 3) : -1000000 ≤ s k ∧ s k ≤ 1000000 := by
 have := h.tr0; have := h.n0; have := h.lz0
 by_cases e : k = q
 · subst e; rw [(h.lie hk).2]; omega
 · have := h.hon k hk e; omega
theorem tinv_step {q : Nat} {c far m n tr : Int} {b : Nat → Int} {o : Nat → Bool} {l : Int} {ly : Bool} {lz : Int} {t : Nat → Bool} {s : Nat → Int} (hr : Zcc m c = 0) (hm : 2 * n ≤ m) (hi : TInv q c far b o l) (h : TIn q n tr ly lz t s) :
 (tr - n ≤ votI t o s l ∧ votI t o s l ≤ tr + n) ∧ TInv q c (farI m n tr far ly lz) (nbI t o s b (votI t o s l) m) (noB t o s b (votI t o s l) m c) (votI t o s l) := by
 have hrb : ruleB m c = true := by
  unfold Zcc at hr; split at hr
  · assumption
  · omega
 obtain ⟨⟨m0, m1⟩, c0, c1⟩ := Zfr hrb; have htr := h.tr0; have hn := h.n0
 have hv : tr - n ≤ votI t o s l ∧ votI t o s l ≤ tr + n := by
  refine vot_in q (by omega) (by omega) (fun k hk hkq => ?_) (fun k hk _ => h.fit k hk); have g := h.hon k hk hkq; exact ⟨by simp [cntB, g.1, (hi.good k hk hkq).1], g.2⟩
 refine ⟨hv, ?_⟩; generalize votI t o s l = v at *
 have hon : ∀ k, k < 3 → k ≠ q → nbI t o s b v m k = 0 ∧ noB t o s b v m c k = false := by
  intro k hk hkq; have g := h.hon k hk hkq; have ho := (hi.good k hk hkq).1
  have hf : Zhr (t k) (s k) v m = true := by simp [Zhr, g.1]; omega
  unfold nbI noB; rw [ho, hf]; simp [badI, outB]
 have hlq : q < 3 → (0 ≤ nbI t o s b v m q ∧ nbI t o s b v m q ≤ 10) ∧ (noB t o s b v m c q = true ∨ (farI m n tr far ly lz ≤ nbI t o s b v m q ∧ nbI t o s b v m q < c)) := by
  intro hq; have hb := hi.bad q hq; have hg := h.lie hq; have hl := h.lz0
  cases ho : o q
  · have hfb : far ≤ b q ∧ b q < c := by
     rcases hi.liar hq with h | h
     · rw [ho] at h; cases h
     · exact h
    have hfar : Zhr (t q) (s q) v m = true → nearB m n tr ly lz = true := by
     rw [hg.1, hg.2]; cases ly
     · simp [Zhr]
     · simp [Zhr, nearB]; omega
    unfold nbI noB; rw [ho]
    simp only [Bool.false_eq_true, if_false]; have f0 := hi.far0
    cases hf : Zhr (t q) (s q) v m
    · have e : badI (b q) false = b q + 1 := by unfold badI; rw [if_neg (by simp), if_pos (by omega)]
      rw [e]; refine ⟨by omega, ?_⟩
      by_cases hc : c ≤ b q + 1
      · left; unfold outB; rw [e]; simp [hc]
      · right; refine ⟨?_, by omega⟩
        unfold farI; split <;> omega
    · have e : badI (b q) true = 0 := by unfold badI; rw [if_pos rfl]
      rw [e]; refine ⟨by omega, .inr ⟨?_, by omega⟩⟩
      unfold farI; rw [if_pos (hfar hf)]; omega
  · unfold nbI noB; rw [ho]; simp only [if_true]
    exact ⟨hb, .inl trivial⟩
 refine ⟨fun k hk => ?_, by omega, fun k hk hkq => ⟨(hon k hk hkq).2, (hon k hk hkq).1⟩, fun hq => (hlq hq).2, ?_⟩
 · by_cases e : k = q
   · subst e; exact (hlq hk).1
   · rw [(hon k hk e).1]; omega
 · have := hi.far0; unfold farI; split <;> omega
end Go.Proofs.YtnfdfiholcelaaaGreatDoor
