
import Derived.Test.YtnfdfiholcelaaaGreatDoorJa00
import Derived.Test.YtnfdfiholcelaaaGreatDoorJa14
import Derived.Test.YtnfdfiholcelaaaGreatDoorJa15
import Derived.Test.YtnfdfiholcelaaaGreatDoorJa18
import Derived.Test.YtnfdfiholcelaaaGreatDoorJa23
set_option maxRecDepth 100000
set_option maxHeartbeats 20000000
namespace Go.Proofs.YtnfdfiholcelaaaGreatDoor
open Go.RowKit Plain
theorem fst6 (e : Nat → Int) : fstN e 6 = if e 0 = 0 then (if Zar [e 1, e 2] = 0 then Zar [e 3, e 4, e 5] else Zar [e 1, e 2]) else e 0 := by
 simp only [fstN, Zar]
 by_cases h0 : e 0 = 0 <;> by_cases h1 : e 1 = 0 <;> by_cases h2 : e 2 = 0 <;> by_cases h3 : e 3 = 0 <;> by_cases h4 : e 4 = 0 <;> by_cases h5 : e 5 = 0 <;> simp [*]
theorem fm_wrap {l n lo hi m2 e3 e4 : Int} (hm : e3 = 0 → m2 = 2 * n) : Zar [e3, e4, fmE l n lo hi] = Zar [e3, e4, if l < m2 ∨ 0 < lo ∨ hi < 0 then 3 else 0] := by
 by_cases h : e3 = 0
 · rw [hm h]; rfl
 · simp [Zar, h]
theorem axisMay_any (a0 a1 a2 a3 a4 a5 a6 a7 a8 a9 a10 a11 a14 : Int) (p q : Option Addr) (al zl : List Int) (cn cm : Nat) (hm : al.length ≤ 9223372036854775807) (hn : zl.length ≤ 9223372036854775807) (w : World) (ha : Lst w p al) (hz : Lst w q zl) :
 Calls Tryz.prog 86 #[.agg #[Vi a0, Vi a1, Vi a2, Vi a3, Vi a4, Vi a5, Vi a6, Vi a7, Vi a8, Vi a9, Vi a10, Vi a11, .slice p al.length cn, .slice q zl.length cm, Vi a14]] w fun e w' => e = .returned (Vi (fstN (eAx a0 a1 a2 a3 a4 a5 a6 a7 a8 a9 a10 a11 a14 al zl) 6)) ∧ Below w.heap.size w w' := by
 have HA := Zab (Blk.new w 26 [Vi a0, Vi a1, Vi a2, Vi a3, Vi a4, Vi a5, Vi a6, Vi a7, Vi a8, Vi a9, Vi a10, Vi a11, .slice p al.length cn, .slice q zl.length cm, Vi a14]); have HB := Zab (Zaa w (.cells #[Vi a0, Vi a1, Vi a2, Vi a3, Vi a4, Vi a5, Vi a6, Vi a7, Vi a8, Vi a9, Vi a10, Vi a11, .slice p al.length cn, .slice q zl.length cm, Vi a14] 26)); have HF : Hid (fstN (eAx a0 a1 a2 a3 a4 a5 a6 a7 a8 a9 a10 a11 a14 al zl) 6 = if rgE a4 a3 = 0 then (if Zar [Zee a8 a9, arE a5 a6 a7 a10] = 0 then Zar [grE a0 a1 a2 (a3 + a7) ((a4 - 1) * a5) ((a4 - 1) * a6), ruE a0 a1 a11 a14 ((a4 - 1) * a5) al zl, fmE a8 a2 a0 a1] else Zar [Zee a8 a9, arE a5 a6 a7 a10]) else rgE a4 a3) := Zab (fst6 (eAx a0 a1 a2 a3 a4 a5 a6 a7 a8 a9 a10 a11 a14 al zl)); have f1 := Zaj a4 2 4; have f2 := Zaj a3 0 1000; have HZ := Zab (@Zfs a4 a3); have HR : Hid (rgE a4 a3 = if betw a4 2 4 && betw a3 0 1000 then 0 else 1) := Zab rfl; have g9 := fun u (h : Below w.heap.size w u) => Zhi a0 a1 a11 a14 ((a4 - 1) * a5) p q cn cm al zl hm hn u (ha.later h) (hz.later h); generalize fstN (eAx a0 a1 a2 a3 a4 a5 a6 a7 a8 a9 a10 a11 a14 al zl) 6 = res at *; generalize rgE a4 a3 = e0 at *; generalize betw a4 2 4 = x1 at *; generalize betw a3 0 1000 = x2 at *; clear ha hz hm hn; have k0 := (HA.out.cell (j := 0) rfl).1; have k1 := (HA.out.cell (j := 1) rfl).1; have k2 := (HA.out.cell (j := 2) rfl).1; have k3 := (HA.out.cell (j := 3) rfl).1; have k4 := (HA.out.cell (j := 4) rfl).1; have k8 := (HA.out.cell (j := 8) rfl).1
 rcases (show (x1 = false ∨ x1 = true ∧ x2 = false) ∨ (x1 = true ∧ x2 = true) by cases x1 <;> cases x2 <;> simp) with hx | ⟨rfl, rfl⟩
 · rcases hx with rfl | ⟨rfl, rfl⟩
   all_goals
    have HE : Hid (res = 1) := Zab (by rw [HF.out, HR.out]; rfl); clear HF HR HZ g9
    go_enter Tryz.func86, Tryz.ntmps86
    go_wp2_with (first
     | ((first | go_at_call_of 38 (Vi a4) | go_at_call_of 38 (Value.int .i64 a4)); refine Sm (f1 _) ?_)
     | ((first | go_at_call_of 38 (Vi a3) | go_at_call_of 38 (Value.int .i64 a3)); refine Sm (f2 _) ?_)
     | (go_at_call_of 14 (Value.bool true); refine Sm (Zbt _ _) ?_)
     | (go_at_call_of 14 (Value.bool false); refine Sm (Zcc _ _) ?_))
    go_ret; exact ⟨by rw [HE.out]; rfl, Zaa _ _⟩
 have he0 : e0 = 0 := HR.out; obtain ⟨h4, h3⟩ := HZ.out he0; have HF : Hid (res = (if Zar [Zee a8 a9, arE a5 a6 a7 a10] = 0 then Zar [grE a0 a1 a2 (a3 + a7) ((a4 - 1) * a5) ((a4 - 1) * a6), ruE a0 a1 a11 a14 ((a4 - 1) * a5) al zl, fmE a8 a2 a0 a1] else Zar [Zee a8 a9, arE a5 a6 a7 a10])) := Zab (by rw [HF.out, if_pos he0]); clear he0 HR HZ; have g1 := Zef a0 a1 a2 a3 a4 a5 a6 a7 a8 a9 a10 a11 a14 p q al.length zl.length cn cm; have g2 := ruleMay_any a8 a9; have g3 := Zci a0 a1 a2 a3 a4 a5 a6 a7 a8 a9 a10 a11 a14 p q al.length zl.length cn cm; have g4 := Zig a5 a6 a7 a10; have HA2 := Zab (fun h : arE a5 a6 a7 a10 = 0 => Zbu (Zez h))
 have HFZ : ∀ x y : Int, Zar [x, y] = 0 → y = 0 := fun x y h => by
  simp only [Zar] at h
  by_cases hx : x = 0 <;> by_cases hy : y = 0 <;> simp_all
 generalize Zee a8 a9 = e1 at *; generalize arE a5 a6 a7 a10 = e2 at *; obtain ⟨v, HV⟩ : ∃ v, Hid (Zar [e1, e2] = v) := ⟨_, Zab rfl⟩
 have g5 : ∀ (X : Nat) (u : World), Blk 44 u X [Vi e1, Vi e2] → Calls Tryz.prog 13 #[.slice (some (Ad X 0)) 2 2] u fun r w' => r = .returned (Vi v) ∧ w' = u := fun X u h => by rw [← HV.out]; exact first_two X 2 e1 e2 u (h.cell rfl).1 (h.cell rfl).1
 have HF : Hid (res = (if v = 0 then Zar [grE a0 a1 a2 (a3 + a7) ((a4 - 1) * a5) ((a4 - 1) * a6), ruE a0 a1 a11 a14 ((a4 - 1) * a5) al zl, fmE a8 a2 a0 a1] else v)) := Zab (by rw [HF.out, HV.out]); have HA2 : Hid (v = 0 → _) := Zab (fun h : v = 0 => HA2.out (HFZ e1 e2 (HV.out.trans h))); clear HFZ HV
 go_enter Tryz.func86, Tryz.ntmps86
 go_upto_region 4 with (first
  | ((first | go_at_call_of 38 (Vi a4) | go_at_call_of 38 (Value.int .i64 a4)); refine Sm (f1 _) ?_)
  | ((first | go_at_call_of 38 (Vi a3) | go_at_call_of 38 (Value.int .i64 a3)); refine Sm (f2 _) ?_)
  | (go_at_call_of 14 (Value.bool true); refine Sm (Zbt _ _) ?_)
  | (go_at_call_of 14 (Value.bool false); refine Sm (Zcc _ _) ?_))
 clear f1 f2 k0 k1 k2 k3 k4 k8; generalize w.alloc (.cells #[Vi a0, Vi a1, Vi a2, Vi a3, Vi a4, Vi a5, Vi a6, Vi a7, Vi a8, Vi a9, Vi a10, Vi a11, .slice p al.length cn, .slice q zl.length cm, Vi a14] 26) = w0 at *; refine wp_region_held_drew (S := fun u => Below w0.heap.size w0 u) (by kernel_rfl) ((Below.refl _ _).drew) (fun _ => ?_); have HS0 : Hid (Below w0.heap.size w0 w0.drew) := Zab ((Below.refl _ _).drew); generalize w0.drew = u0 at HS0 ⊢; refine Tk 0 rfl (yieldsIf_load_mid (by rfl) 26 (.tmp 1) rfl w.heap.size 0 rfl [Vi a0, Vi a1, Vi a2, Vi a3, Vi a4, Vi a5, Vi a6, Vi a7, Vi a8, Vi a9, Vi a10, Vi a11, .slice p al.length cn, .slice q zl.length cm, Vi a14] _ (fun w hSw => Zag HA.out.range hSw) Tryz.underlying26 rfl Zbh) HS0.out ?_; simp only [Act.put, Ly]; refine Tk 3 rfl (yieldsIf_load_mid (by rfl) 26 (.tmp 1) rfl w.heap.size 0 rfl [Vi a0, Vi a1, Vi a2, Vi a3, Vi a4, Vi a5, Vi a6, Vi a7, Vi a8, Vi a9, Vi a10, Vi a11, .slice p al.length cn, .slice q zl.length cm, Vi a14] _ (fun w hSw => Zag HA.out.range hSw) Tryz.underlying26 rfl Zbh) HS0.out ?_; simp only [Act.put, Ly]; refine Ra 1 (fun K hK => ?_); go_simp; refine Sb (g1 _) fun u1 hb => ?_; have HS1 := Zab (Zac HS0.out hb); clear hb; go_wp2_with fail; refine hK.out _ _ HS1.out (fun _ => ?_); clear hK K; (try simp only [Act.put]); refine Ra 2 (fun K hK => ?_); go_simp; refine Sb (g2 _) fun u2 hb => ?_; have HS2 := Zab (Zac HS1.out hb); clear hb; go_wp2_with fail; refine hK.out _ _ HS2.out (fun _ => ?_); clear hK K; (try simp only [Act.put]); clear HS1; refine Ra 4 (fun K hK => ?_); go_simp; refine Sb (g3 _) fun u3 hb => ?_; have HS3 := Zab (Zac HS2.out hb); clear hb; go_wp2_with fail; refine hK.out _ _ HS3.out (fun _ => ?_); clear hK K; (try simp only [Act.put]); clear HS2; refine Ra 5 (fun K hK => ?_); go_simp; refine Sb (g4 _) fun u4 hb => ?_; have HS4 := Zab (Zac HS3.out hb); clear hb; go_wp2_with fail; refine hK.out _ _ HS4.out (fun _ => ?_); clear hK K; (try simp only [Act.put]); clear HS3; refine Ra 6 (fun K hK => ?_); go_simp; have HS5 := Zab (Zac HS4.out (Zaa u4 (.cells #[Vi e1, Vi e2] 44))); have HN := Zab (Blk.new u4 44 [Vi e1, Vi e2]); generalize u4.alloc (.cells #[Vi e1, Vi e2] 44) = u5 at HS5 HN ⊢; generalize u4.heap.size = XN at HN ⊢; refine hK.out _ _ HS5.out (fun _ => ?_); clear hK K; (try simp only [Act.put]); clear HS4; refine Ra 7 (fun K hK => ?_); go_simp
 refine Sb (g5 XN _ HN.out) fun u6 hq => ?_
 have hb : Below u5.heap.size u5 u6 := by rw [hq]; exact Below.refl _ _
 clear hq; have HS6 := Zab (Zac HS5.out hb); clear hb; go_wp2_with fail; refine hK.out _ _ HS6.out (fun _ => ?_); clear hK K; (try simp only [Act.put]); clear HS5; refine Tq 8 HS6.out ?_; simp only [Act.put, Ly]; refine wpAnyH_done (by kernel_rfl) ?_ _; have HB1 := Zab (Zac HB.out HS6.out); have HA1 := Zab (HA.out.later HS6.out); clear HS6 HN HA HB; clear g1 g2 g3 g4 g5; rename World => w1
 rcases (show ¬ v = 0 ∨ v = 0 by omega) with hv | hv
 · have hw : (v != 0) = true := by simp [hv]
   go_wp2_with fail; go_ret; exact ⟨by rw [HF.out, if_neg hv]; rfl, HB1.out⟩
 subst hv; have z2 := HA2.out rfl; have h5 := z2.1; have h7 : 0 ≤ a7 ∧ a7 ≤ 1000 := ⟨z2.2.2.1.1, by omega⟩; have h6 : 1 ≤ a6 ∧ a6 ≤ 1000 := ⟨z2.2.1.1, by omega⟩; have HF : Hid (res = Zar [grE a0 a1 a2 (a3 + a7) ((a4 - 1) * a5) ((a4 - 1) * a6), ruE a0 a1 a11 a14 ((a4 - 1) * a5) al zl, fmE a8 a2 a0 a1]) := HF; have g6 := Zec a0 a1 a2 a3 a4 a5 a6 a7 a8 a9 a10 a11 a14 p q al.length zl.length cn cm h4 h5 h3 h7 h6; have g7 := guardMay_any a0 a1 a2 (a3 + a7) ((a4 - 1) * a5) ((a4 - 1) * a6); have g8 := Zcx a0 a1 a2 a3 a4 a5 a6 a7 a8 a9 a10 a11 a14 p q al.length zl.length cn cm h4 h5; have HM := Zab (fun h => (by have := @grE_noise a0 a1 a2 (a3 + a7) ((a4 - 1) * a5) ((a4 - 1) * a6) h; exact Zau (by omega) (by omega) : IntKind.i64.wrap (2 * a2) = 2 * a2)); obtain ⟨m2, v2⟩ : ∃ m2, IntKind.i64.wrap (2 * a2) = m2 := ⟨_, rfl⟩; rw [v2] at HM; have HF : Hid (res = Zar [grE a0 a1 a2 (a3 + a7) ((a4 - 1) * a5) ((a4 - 1) * a6), ruE a0 a1 a11 a14 ((a4 - 1) * a5) al zl, if a8 < m2 ∨ 0 < a0 ∨ a1 < 0 then 3 else 0]) := Zab (by rw [HF.out]; exact fm_wrap HM.out); clear HM z2 HA2 h3 h4 h5 h6 h7; generalize grE a0 a1 a2 (a3 + a7) ((a4 - 1) * a5) ((a4 - 1) * a6) = e3 at *; generalize ruE a0 a1 a11 a14 ((a4 - 1) * a5) al zl = e4 at *; obtain ⟨x1, d1⟩ : ∃ x, decide (a8 < m2) = x := ⟨_, rfl⟩; obtain ⟨x2, d2⟩ : ∃ x, decide (0 < a0) = x := ⟨_, rfl⟩; obtain ⟨x3, d3⟩ : ∃ x, decide (a1 < 0) = x := ⟨_, rfl⟩; have HL : Hid (res = Zar [e3, e4, if x1 || x2 || x3 then 3 else 0]) := Zab (by rw [HF.out, ← d1, ← d2, ← d3]; simp [or_assoc]); clear HF
 have HD : x1 = true ∨ (x1 = false ∧ x2 = true) ∨ (x1 = false ∧ x2 = false ∧ x3 = true) ∨ (x1 = false ∧ x2 = false ∧ x3 = false) := by cases x1 <;> cases x2 <;> cases x3 <;> simp
 go_upto_region 7 with fail; have k0 := (HA1.out.cell (j := 0) rfl).1; have k1 := (HA1.out.cell (j := 1) rfl).1; have k2 := (HA1.out.cell (j := 2) rfl).1; have k8 := (HA1.out.cell (j := 8) rfl).1; refine wp_region_held_drew (S := fun u => Below w1.heap.size w1 u) (by kernel_rfl) ((Below.refl _ _).drew) (fun _ => ?_); have HS0 : Hid (Below w1.heap.size w1 w1.drew) := Zab ((Below.refl _ _).drew); generalize w1.drew = u0 at HS0 ⊢; refine Tk 0 rfl (yieldsIf_load_mid (by rfl) 26 (.tmp 1) rfl w.heap.size 0 rfl [Vi a0, Vi a1, Vi a2, Vi a3, Vi a4, Vi a5, Vi a6, Vi a7, Vi a8, Vi a9, Vi a10, Vi a11, .slice p al.length cn, .slice q zl.length cm, Vi a14] _ (fun w hSw => Zag HA1.out.range hSw) Tryz.underlying26 rfl Zbh) HS0.out ?_; simp only [Act.put, Ly]; refine Tk 3 rfl (yieldsIf_load_mid (by rfl) 26 (.tmp 1) rfl w.heap.size 0 rfl [Vi a0, Vi a1, Vi a2, Vi a3, Vi a4, Vi a5, Vi a6, Vi a7, Vi a8, Vi a9, Vi a10, Vi a11, .slice p al.length cn, .slice q zl.length cm, Vi a14] _ (fun w hSw => Zag HA1.out.range hSw) Tryz.underlying26 rfl Zbh) HS0.out ?_; simp only [Act.put, Ly]; refine Tq 6 HS0.out ?_; simp only [Act.put, Ly]; refine Th 7 rfl (by intro w hSw; (try dsimp only at hSw); have k8 := cell_later hSw k8; clear hSw; go_simp; (try with_reducible rfl)) HS0.out ?_; simp only [Act.put, Ly]; refine Tq 8 HS0.out ?_; simp only [Act.put, Ly]; refine Th 9 rfl (by intro w hSw; (try dsimp only at hSw); have k2 := cell_later hSw k2; clear hSw; go_simp; (try with_reducible rfl)) HS0.out ?_; simp only [Act.put, Ly]; refine Tq 10 HS0.out ?_; simp only [Act.put, Ly]; refine Tq 11 HS0.out ?_; simp only [Act.put, Ly]; refine Ra 1 (fun K hK => ?_); go_simp; refine Sb (g6 _) fun u1 hb => ?_; have HS1 := Zab (Zac HS0.out hb); clear hb; go_wp2_with fail; refine hK.out _ _ HS1.out (fun _ => ?_); clear hK K; (try simp only [Act.put]); refine Ra 2 (fun K hK => ?_); go_simp; refine Sb (g7 _) fun u2 hb => ?_; have HS2 := Zab (Zac HS1.out hb); clear hb; go_wp2_with fail; refine hK.out _ _ HS2.out (fun _ => ?_); clear hK K; (try simp only [Act.put]); clear HS1; refine Ra 4 (fun K hK => ?_); go_simp; refine Sb (g8 _) fun u3 hb => ?_; have HS3 := Zab (Zac HS2.out hb); clear hb; go_wp2_with fail; refine hK.out _ _ HS3.out (fun _ => ?_); clear hK K; (try simp only [Act.put]); clear HS2; refine Ra 5 (fun K hK => ?_); go_simp; refine Sb (g9 _ (Zac HB1.out HS3.out)) fun u4 hb => ?_
 have HS4 := Zab (Zac HS3.out hb); clear hb; go_wp2_with fail; refine hK.out _ _ HS4.out (fun _ => ?_); clear hK K; (try simp only [Act.put]); clear HS3; refine Tq 12 HS4.out ?_; simp only [Act.put, Ly]
 rcases HD with rfl | ⟨rfl, rfl⟩ | ⟨rfl, rfl, rfl⟩ | ⟨rfl, rfl, rfl⟩
 · refine Ts 13 HS4.out ?_; simp only [Act.put, Ly]; refine Ts 14 HS4.out ?_; simp only [Act.put, Ly]; refine Ts 15 HS4.out ?_; simp only [Act.put, Ly]; refine Tq 16 HS4.out ?_; simp only [Act.put, Ly]; refine Tq 17 HS4.out ?_; simp only [Act.put, Ly]; refine Ts 18 HS4.out ?_; simp only [Act.put, Ly]; refine Ts 19 HS4.out ?_; simp only [Act.put, Ly]; refine Ts 20 HS4.out ?_; simp only [Act.put, Ly]; refine Tq 21 HS4.out ?_; simp only [Act.put, Ly]; refine Ra 22 (fun K hK => ?_); go_simp; refine Sb (Zbt _ _) fun u5 hq => ?_
   have hb : Below u4.heap.size u4 u5 := by rw [hq]; exact Below.refl _ _
   clear hq; have HS5 := Zab (Zac HS4.out hb); clear hb; go_wp2_with fail; refine hK.out _ _ HS5.out (fun _ => ?_); clear hK K; (try simp only [Act.put]); clear HS4; refine Ra 23 (fun K hK => ?_); go_simp; have HS6 := Zab (Zac HS5.out (Zaa u5 (.cells #[Vi e3, Vi e4, Vi 3] 44))); have HN := Zab (Blk.new u5 44 [Vi e3, Vi e4, Vi 3]); generalize u5.alloc (.cells #[Vi e3, Vi e4, Vi 3] 44) = u6 at HS6 HN ⊢; generalize u5.heap.size = XN at HN ⊢; refine hK.out _ _ HS6.out (fun _ => ?_); clear hK K; (try simp only [Act.put]); clear HS5; refine Ra 24 (fun K hK => ?_); go_simp; refine Sb (Zes XN 3 e3 e4 3 _ (HN.out.cell rfl).1 (HN.out.cell rfl).1 (HN.out.cell rfl).1) fun u7 hq => ?_
   have hb : Below u6.heap.size u6 u7 := by rw [hq]; exact Below.refl _ _
   clear hq; have HS7 := Zab (Zac HS6.out hb); clear hb; go_wp2_with fail; refine hK.out _ _ HS7.out (fun _ => ?_); clear hK K; (try simp only [Act.put]); clear HS6; refine Tq 25 HS7.out ?_; simp only [Act.put, Ly]; refine wpAnyH_done (by kernel_rfl) ?_ _; go_wp2_with fail; go_ret; exact ⟨by rw [HL.out]; rfl, Zac HB1.out HS7.out⟩
 · refine Tq 13 HS4.out ?_; simp only [Act.put, Ly]; refine Th 14 rfl (by intro w hSw; (try dsimp only at hSw); have k0 := cell_later hSw k0; clear hSw; go_simp; (try with_reducible rfl)) HS4.out ?_; simp only [Act.put, Ly]; refine Tq 15 HS4.out ?_; simp only [Act.put, Ly]; refine Tq 16 HS4.out ?_; simp only [Act.put, Ly]; refine Tq 17 HS4.out ?_; simp only [Act.put, Ly]; refine Ts 18 HS4.out ?_; simp only [Act.put, Ly]; refine Ts 19 HS4.out ?_; simp only [Act.put, Ly]; refine Ts 20 HS4.out ?_; simp only [Act.put, Ly]; refine Tq 21 HS4.out ?_; simp only [Act.put, Ly]; refine Ra 22 (fun K hK => ?_); go_simp; refine Sb (Zbt _ _) fun u8 hq => ?_
   have hb : Below u4.heap.size u4 u8 := by rw [hq]; exact Below.refl _ _
   clear hq; have HS8 := Zab (Zac HS4.out hb); clear hb; go_wp2_with fail; refine hK.out _ _ HS8.out (fun _ => ?_); clear hK K; (try simp only [Act.put]); clear HS4; refine Ra 23 (fun K hK => ?_); go_simp; have HS9 := Zab (Zac HS8.out (Zaa u8 (.cells #[Vi e3, Vi e4, Vi 3] 44))); have HN := Zab (Blk.new u8 44 [Vi e3, Vi e4, Vi 3]); generalize u8.alloc (.cells #[Vi e3, Vi e4, Vi 3] 44) = u9 at HS9 HN ⊢; generalize u8.heap.size = XN at HN ⊢; refine hK.out _ _ HS9.out (fun _ => ?_); clear hK K; (try simp only [Act.put]); clear HS8; refine Ra 24 (fun K hK => ?_); go_simp; refine Sb (Zes XN 3 e3 e4 3 _ (HN.out.cell rfl).1 (HN.out.cell rfl).1 (HN.out.cell rfl).1) fun u10 hq => ?_
   have hb : Below u9.heap.size u9 u10 := by rw [hq]; exact Below.refl _ _
   clear hq; have HS10 := Zab (Zac HS9.out hb); clear hb; go_wp2_with fail; refine hK.out _ _ HS10.out (fun _ => ?_); clear hK K; (try simp only [Act.put]); clear HS9; refine Tq 25 HS10.out ?_; simp only [Act.put, Ly]; refine wpAnyH_done (by kernel_rfl) ?_ _; go_wp2_with fail; go_ret; exact ⟨by rw [HL.out]; rfl, Zac HB1.out HS10.out⟩
 · refine Tq 13 HS4.out ?_; simp only [Act.put, Ly]; refine Th 14 rfl (by intro w hSw; (try dsimp only at hSw); have k0 := cell_later hSw k0; clear hSw; go_simp; (try with_reducible rfl)) HS4.out ?_; simp only [Act.put, Ly]; refine Tq 15 HS4.out ?_; simp only [Act.put, Ly]; refine Tq 16 HS4.out ?_; simp only [Act.put, Ly]; refine Tq 17 HS4.out ?_; simp only [Act.put, Ly]; refine Tq 18 HS4.out ?_; simp only [Act.put, Ly]; refine Th 19 rfl (by intro w hSw; (try dsimp only at hSw); have k1 := cell_later hSw k1; clear hSw; go_simp; (try with_reducible rfl)) HS4.out ?_; simp only [Act.put, Ly]; refine Tq 20 HS4.out ?_; simp only [Act.put, Ly]; refine Tq 21 HS4.out ?_; simp only [Act.put, Ly]; refine Ra 22 (fun K hK => ?_); go_simp; refine Sb (Zbt _ _) fun u11 hq => ?_
   have hb : Below u4.heap.size u4 u11 := by rw [hq]; exact Below.refl _ _
   clear hq; have HS11 := Zab (Zac HS4.out hb); clear hb; go_wp2_with fail; refine hK.out _ _ HS11.out (fun _ => ?_); clear hK K; (try simp only [Act.put]); clear HS4; refine Ra 23 (fun K hK => ?_); go_simp; have HS12 := Zab (Zac HS11.out (Zaa u11 (.cells #[Vi e3, Vi e4, Vi 3] 44))); have HN := Zab (Blk.new u11 44 [Vi e3, Vi e4, Vi 3]); generalize u11.alloc (.cells #[Vi e3, Vi e4, Vi 3] 44) = u12 at HS12 HN ⊢; generalize u11.heap.size = XN at HN ⊢; refine hK.out _ _ HS12.out (fun _ => ?_); clear hK K; (try simp only [Act.put]); clear HS11; refine Ra 24 (fun K hK => ?_); go_simp; refine Sb (Zes XN 3 e3 e4 3 _ (HN.out.cell rfl).1 (HN.out.cell rfl).1 (HN.out.cell rfl).1) fun u13 hq => ?_
   have hb : Below u12.heap.size u12 u13 := by rw [hq]; exact Below.refl _ _
   clear hq; have HS13 := Zab (Zac HS12.out hb); clear hb; go_wp2_with fail; refine hK.out _ _ HS13.out (fun _ => ?_); clear hK K; (try simp only [Act.put]); clear HS12; refine Tq 25 HS13.out ?_; simp only [Act.put, Ly]; refine wpAnyH_done (by kernel_rfl) ?_ _; go_wp2_with fail; go_ret; exact ⟨by rw [HL.out]; rfl, Zac HB1.out HS13.out⟩
 · refine Tq 13 HS4.out ?_; simp only [Act.put, Ly]; refine Th 14 rfl (by intro w hSw; (try dsimp only at hSw); have k0 := cell_later hSw k0; clear hSw; go_simp; (try with_reducible rfl)) HS4.out ?_; simp only [Act.put, Ly]; refine Tq 15 HS4.out ?_; simp only [Act.put, Ly]; refine Tq 16 HS4.out ?_; simp only [Act.put, Ly]; refine Tq 17 HS4.out ?_; simp only [Act.put, Ly]; refine Tq 18 HS4.out ?_; simp only [Act.put, Ly]; refine Th 19 rfl (by intro w hSw; (try dsimp only at hSw); have k1 := cell_later hSw k1; clear hSw; go_simp; (try with_reducible rfl)) HS4.out ?_; simp only [Act.put, Ly]; refine Tq 20 HS4.out ?_; simp only [Act.put, Ly]; refine Tq 21 HS4.out ?_; simp only [Act.put, Ly]; refine Ra 22 (fun K hK => ?_); go_simp; refine Sb (Zcc _ _) fun u14 hq => ?_
   have hb : Below u4.heap.size u4 u14 := by rw [hq]; exact Below.refl _ _
   clear hq; have HS14 := Zab (Zac HS4.out hb); clear hb; go_wp2_with fail; refine hK.out _ _ HS14.out (fun _ => ?_); clear hK K; (try simp only [Act.put]); clear HS4; refine Ra 23 (fun K hK => ?_); go_simp; have HS15 := Zab (Zac HS14.out (Zaa u14 (.cells #[Vi e3, Vi e4, Vi 0] 44))); have HN := Zab (Blk.new u14 44 [Vi e3, Vi e4, Vi 0]); generalize u14.alloc (.cells #[Vi e3, Vi e4, Vi 0] 44) = u15 at HS15 HN ⊢; generalize u14.heap.size = XN at HN ⊢; refine hK.out _ _ HS15.out (fun _ => ?_); clear hK K; (try simp only [Act.put]); clear HS14; refine Ra 24 (fun K hK => ?_); go_simp; refine Sb (Zes XN 3 e3 e4 0 _ (HN.out.cell rfl).1 (HN.out.cell rfl).1 (HN.out.cell rfl).1) fun u16 hq => ?_
   have hb : Below u15.heap.size u15 u16 := by rw [hq]; exact Below.refl _ _
   clear hq; have HS16 := Zab (Zac HS15.out hb); clear hb; go_wp2_with fail; refine hK.out _ _ HS16.out (fun _ => ?_); clear hK K; (try simp only [Act.put]); clear HS15; refine Tq 25 HS16.out ?_; simp only [Act.put, Ly]; refine wpAnyH_done (by kernel_rfl) ?_ _; go_wp2_with fail; go_ret; exact ⟨by rw [HL.out]; rfl, Zac HB1.out HS16.out⟩
theorem fstN_add (e : Nat → Int) (n : Nat) : ∀ m, fstN e (n + m) = if fstN e n = 0 then fstN (fun k => e (n + k)) m else fstN e n
 | 0 => by
  by_cases h : fstN e n = 0
  · rw [if_pos h]; exact h
  · rw [if_neg h]; rfl
 | m + 1 => by
  have ih := fstN_add e n m
  show (if fstN e (n + m) = 0 then e (n + m) else fstN e (n + m)) = _
  rw [ih]
  by_cases h : fstN e n = 0
  · rw [if_pos h, if_pos h]; rfl
  · rw [if_neg h, if_neg h, if_neg h]
theorem fstN_congr {e f : Nat → Int} : ∀ {n : Nat}, (∀ k, k < n → e k = f k) → fstN e n = fstN f n
 | 0, _ => rfl
 | n + 1, h => by
  show (if fstN e n = 0 then e n else fstN e n) = (if fstN f n = 0 then f n else fstN f n)
  rw [fstN_congr (fun k hk => h k (by omega)), h n (by omega)]
theorem first_13 (e f g : Nat → Int) (z : Int) (h1 : ∀ k, k < 6 → g k = e k) (h2 : ∀ k, k < 6 → g (6 + k) = f k) (h3 : g 12 = z) : fstN g 13 = Zar [Zar [Zar [0, fstN e 6], fstN f 6], z] := by
 have a1 : fstN g 6 = fstN e 6 := fstN_congr h1
 have a2 : fstN g 12 = if fstN e 6 = 0 then fstN f 6 else fstN e 6 := by
  rw [show (12 : Nat) = 6 + 6 from rfl, fstN_add g 6 6, a1, fstN_congr (f := f) h2]
 show (if fstN g 12 = 0 then g 12 else fstN g 12) = _
 rw [a2, h3]; generalize fstN e 6 = x; generalize fstN f 6 = y; simp only [Zar]
 by_cases hx : x = 0 <;> by_cases hy : y = 0 <;> by_cases hz : z = 0 <;> simp [*]
theorem infoA : (Tryz.prog.info? 26).map (·.size) = some 15 := by kernel_rfl
theorem first_b (T : TypeId) (x y : Int) (u : World) : Calls Tryz.prog 13 #[.slice (some (Ad u.heap.size 0)) 2 2] (u.alloc (.cells #[Vi x, Vi y] T)) fun r w' => r = .returned (Vi (Zar [x, y])) ∧ Below u.heap.size u w' :=
 (Zcw T x y u).mono fun _ _ h => ⟨h.1, by rw [h.2]; exact Zaa _ _⟩
theorem craftMay_any (a0 a1 a2 a3 a4 a5 a6 a7 a8 a9 a10 a11 a14 : Int) (p q : Option Addr) (al zl : List Int) (cn cm : Nat) (b0 b1 b2 b3 b4 b5 b6 b7 b8 b9 b10 b11 b14 : Int) (r s : Option Addr) (bl yl : List Int) (dn dm : Nat) (c0 c1 : Int) (w : World)
 (hla : al.length ≤ 9223372036854775807 ∧ zl.length ≤ 9223372036854775807 ∧ al.length ≤ cn ∧ Lst w p al ∧ Lst w q zl) (hlb : bl.length ≤ 9223372036854775807 ∧ yl.length ≤ 9223372036854775807 ∧ bl.length ≤ dn ∧ Lst w r bl ∧ Lst w s yl) :
 Calls Tryz.prog 41 #[.agg #[Vi a0, Vi a1, Vi a2, Vi a3, Vi a4, Vi a5, Vi a6, Vi a7, Vi a8, Vi a9, Vi a10, Vi a11, .slice p al.length cn, .slice q zl.length cm, Vi a14, Vi b0, Vi b1, Vi b2, Vi b3, Vi b4, Vi b5, Vi b6, Vi b7, Vi b8, Vi b9, Vi b10, Vi b11, .slice r bl.length dn, .slice s yl.length dm, Vi b14, Vi c0, Vi c1]] w fun e w' => e = .returned (Vi (fstN (eCr a0 a1 a2 a3 a4 a5 a6 a7 a8 a9 a10 a11 a14 al zl b0 b1 b2 b3 b4 b5 b6 b7 b8 b9 b10 b11 b14 bl yl c0 c1) 13)) ∧ Below w.heap.size w w' := by
 have HF : Hid (fstN (eCr a0 a1 a2 a3 a4 a5 a6 a7 a8 a9 a10 a11 a14 al zl b0 b1 b2 b3 b4 b5 b6 b7 b8 b9 b10 b11 b14 bl yl c0 c1) 13 = Zar [Zar [Zar [0, fstN (eAx a0 a1 a2 a3 a4 a5 a6 a7 a8 a9 a10 a11 a14 al zl) 6], fstN (eAx b0 b1 b2 b3 b4 b5 b6 b7 b8 b9 b10 b11 b14 bl yl) 6], Zee c0 c1]) := Zab (first_13 _ _ _ _ (fun k hk => by unfold eCr; rw [if_pos hk]) (fun k hk => by unfold eCr; rw [if_neg (by omega), if_pos (by omega)]; congr 1; omega) rfl); have ga := fun u h1 h2 => axisMay_any a0 a1 a2 a3 a4 a5 a6 a7 a8 a9 a10 a11 a14 p q al zl cn cm hla.1 hla.2.1 u h1 h2; have gb := fun u h1 h2 => axisMay_any b0 b1 b2 b3 b4 b5 b6 b7 b8 b9 b10 b11 b14 r s bl yl dn dm hlb.1 hlb.2.1 u h1 h2; have HLA := Zab hla.2.2.2; have HLB := Zab hlb.2.2.2; have HC0 : Hid (CrH (w.alloc (.cells #[Vi a0, Vi a1, Vi a2, Vi a3, Vi a4, Vi a5, Vi a6, Vi a7, Vi a8, Vi a9, Vi a10, Vi a11, .slice p al.length cn, .slice q zl.length cm, Vi a14, Vi b0, Vi b1, Vi b2, Vi b3, Vi b4, Vi b5, Vi b6, Vi b7, Vi b8, Vi b9, Vi b10, Vi b11, .slice r bl.length dn, .slice s yl.length dm, Vi b14, Vi c0, Vi c1] 29)) w.heap.size [Vi a0, Vi a1, Vi a2, Vi a3, Vi a4, Vi a5, Vi a6, Vi a7, Vi a8, Vi a9, Vi a10, Vi a11, .slice p al.length cn, .slice q zl.length cm, Vi a14, Vi b0, Vi b1, Vi b2, Vi b3, Vi b4, Vi b5, Vi b6, Vi b7, Vi b8, Vi b9, Vi b10, Vi b11, .slice r bl.length dn, .slice s yl.length dm, Vi b14, Vi c0, Vi c1]) := Zab (World.alloc_heap_new w _); have HB0 : Hid (Below w.heap.size w (w.alloc (.cells #[Vi a0, Vi a1, Vi a2, Vi a3, Vi a4, Vi a5, Vi a6, Vi a7, Vi a8, Vi a9, Vi a10, Vi a11, .slice p al.length cn, .slice q zl.length cm, Vi a14, Vi b0, Vi b1, Vi b2, Vi b3, Vi b4, Vi b5, Vi b6, Vi b7, Vi b8, Vi b9, Vi b10, Vi b11, .slice r bl.length dn, .slice s yl.length dm, Vi b14, Vi c0, Vi c1] 29))) := Zab (Zaa _ _); have g16 := ruleMay_any c0 c1; generalize fstN (eCr a0 a1 a2 a3 a4 a5 a6 a7 a8 a9 a10 a11 a14 al zl b0 b1 b2 b3 b4 b5 b6 b7 b8 b9 b10 b11 b14 bl yl c0 c1) 13 = res at *; generalize fstN (eAx a0 a1 a2 a3 a4 a5 a6 a7 a8 a9 a10 a11 a14 al zl) 6 = xa at *; generalize fstN (eAx b0 b1 b2 b3 b4 b5 b6 b7 b8 b9 b10 b11 b14 bl yl) 6 = xb at *; generalize Zee c0 c1 = xc at *; clear hla hlb
 go_enter Tryz.func41, Tryz.ntmps41
 go_wp2_with fail; obtain ⟨w0, hw0⟩ : ∃ w0, w.alloc (.cells #[Vi a0, Vi a1, Vi a2, Vi a3, Vi a4, Vi a5, Vi a6, Vi a7, Vi a8, Vi a9, Vi a10, Vi a11, .slice p al.length cn, .slice q zl.length cm, Vi a14, Vi b0, Vi b1, Vi b2, Vi b3, Vi b4, Vi b5, Vi b6, Vi b7, Vi b8, Vi b9, Vi b10, Vi b11, .slice r bl.length dn, .slice s yl.length dm, Vi b14, Vi c0, Vi c1] 29) = w0 := ⟨_, rfl⟩; rw [hw0] at HC0 HB0 ⊢; clear hw0; refine wp_loop_rounds 3 ?_; rw [rounds_succ]
 go_wp2_with (first
  | (refine Zip _ rfl ?_; refine wpList_load_mid rfl 26 (.tmp 12) rfl w.heap.size 0 rfl [Vi a0, Vi a1, Vi a2, Vi a3, Vi a4, Vi a5, Vi a6, Vi a7, Vi a8, Vi a9, Vi a10, Vi a11, .slice p al.length cn, .slice q zl.length cm, Vi a14] _ (range_sub (n := 15) HC0.out.range 0) Tryz.underlying26 rfl infoA ?_)
  | (go_at_call 86; refine Sb (ga _ (HLA.out.1.later HB0.out) (HLA.out.2.later HB0.out)) fun w1 hb1 => ?_; have HC1 := Zab (HC0.out.later hb1); have HB1 := Zab (Zac HB0.out hb1); clear hb1)
  | (go_at_call 13; refine Sb (first_b _ _ _ _) fun w2 hq => ?_; have HC2 := Zab (HC1.out.later hq); have HB2 := Zab (Zac HB1.out hq); clear hq))
 rw [rounds_succ]
 go_wp2_with (first
  | (refine Zip _ rfl ?_; refine wpList_load_mid rfl 26 (.tmp 12) rfl w.heap.size 15 rfl [Vi b0, Vi b1, Vi b2, Vi b3, Vi b4, Vi b5, Vi b6, Vi b7, Vi b8, Vi b9, Vi b10, Vi b11, .slice r bl.length dn, .slice s yl.length dm, Vi b14] _ (range_sub (n := 15) HC2.out.range 15) Tryz.underlying26 rfl infoA ?_)
  | (go_at_call 86; refine Sb (gb _ (HLB.out.1.later HB2.out) (HLB.out.2.later HB2.out)) fun w3 hb3 => ?_; have HC3 := Zab (HC2.out.later hb3); have HB3 := Zab (Zac HB2.out hb3); clear hb3)
  | (go_at_call 13; refine Sb (first_b _ _ _ _) fun w4 hq => ?_; have HC4 := Zab (HC3.out.later hq); have HB4 := Zab (Zac HB3.out hq); clear hq))
 have k30 : w4.cell? (Ad w.heap.size 30) = some (Vi c0) := by have := HC4.out.range 30 _ rfl; rwa [Nat.zero_add] at this
 have k31 : w4.cell? (Ad w.heap.size 31) = some (Vi c1) := by have := HC4.out.range 31 _ rfl; rwa [Nat.zero_add] at this
 rw [rounds_succ]
 go_wp2_with (first
  | (go_at_call 87; refine Sb (g16 _) fun w5 hb5 => ?_; have HB5 := Zab (Zac HB4.out hb5); clear hb5)
  | (go_at_call 13; refine Sb (first_b _ _ _ _) fun w6 hq => ?_; have HB6 := Zab (Zac HB5.out hq); clear hq))
 go_ret; exact ⟨by rw [HF.out]; rfl, HB6.out⟩
theorem firstI_ne {x y z : Int} (h : x ≠ 0) : Zar [x, y, z] = x := by simp only [Zar]; rw [if_neg h]
theorem holdMay_any (L H U B M : Int) (a z : Option Addr) (ca cz : Nat) (al zl : List Int) (A D W k p v n q : Int) (hm : al.length ≤ 9223372036854775807) (hn : zl.length ≤ 9223372036854775807) (w : World) (ha : Lst w a al) (hz : Lst w z zl) :
 Calls Tryz.prog 43 #[.agg #[Vi L, Vi H, Vi U, Vi B, Vi M, .slice a al.length ca, .slice z zl.length cz], .agg #[Vi A, Vi D, Vi W], .agg #[Vi k, Vi p, Vi v, Vi n, Vi q]] w fun e w' => e = .returned (Vi (hoE L H U B M al zl A D W k n q)) ∧ Below w.heap.size w w' := by
 have hrm := fun u (h1 : Lst u a al) (h2 : Lst u z zl) => Zhi L H U B M a z ca cz al zl hm hn u h1 h2; have HX := Zab (newHS L H U B M a z ca cz al zl A D W k p v n q w ha hz)
 dsimp only at HX
 clear ha hz
 by_cases h0 : ruE L H U B M al zl = 0
 · obtain ⟨_, _, _, _, m0, m1⟩ := Zdw (Zdv h0).1
   have HE := Zab (show hoE L H U B M al zl A D W k n q = Zar [0, if betw A L H && betw D (-M) M && betw W 0 3 then 0 else 3, if betw k (-100) 100 && betw n 0 3 && betw q (-M) M then 0 else 1] by
    unfold hoE; rw [if_pos h0]; unfold stB asB
    cases betw A L H && betw D (-M) M && betw W 0 3 <;> cases betw k (-100) 100 && betw n 0 3 && betw q (-M) M <;> rfl)
   simp only [h0] at hrm; generalize hoE L H U B M al zl A D W k n q = E at *; clear h0; have f1 := Zaj A L H; have f2 := Zaj D (-M) M; have f3 := Zaj W 0 3; have f4 := Zaj k (-100) 100; have f5 := Zaj n 0 3; have f6 := Zaj q (-M) M; generalize betw A L H = x1 at *; generalize betw D (-M) M = x2 at *; generalize betw W 0 3 = x3 at *; generalize betw k (-100) 100 = y1 at *; generalize betw n 0 3 = y2 at *; generalize betw q (-M) M = y3 at *
   rcases (show x1 = false ∨ (x1 = true ∧ x2 = false) ∨ (x1 = true ∧ x2 = true ∧ x3 = false) ∨ (x1 = true ∧ x2 = true ∧ x3 = true) by cases x1 <;> cases x2 <;> cases x3 <;> simp) with rfl | ⟨rfl, rfl⟩ | ⟨rfl, rfl, rfl⟩ | ⟨rfl, rfl, rfl⟩
   all_goals
    go_enter Tryz.func43, Tryz.ntmps43
    go_upto_region 2 with (first
     | ((first | go_at_call_of 38 (Vi A) | go_at_call_of 38 (Value.int .i64 A)); refine Sm (f1 _) ?_)
     | ((first | go_at_call_of 38 (Vi D) | go_at_call_of 38 (Value.int .i64 D)); refine Sm (f2 _) ?_)
     | ((first | go_at_call_of 38 (Vi W) | go_at_call_of 38 (Value.int .i64 W)); refine Sm (f3 _) ?_))
    rcases (show y1 = false ∨ (y1 = true ∧ y2 = false) ∨ (y1 = true ∧ y2 = true ∧ y3 = false) ∨ (y1 = true ∧ y2 = true ∧ y3 = true) by cases y1 <;> cases y2 <;> cases y3 <;> simp) with rfl | ⟨rfl, rfl⟩ | ⟨rfl, rfl, rfl⟩ | ⟨rfl, rfl, rfl⟩
    all_goals
     go_wp2_with (first
      | ((first | go_at_call_of 38 (Vi k) | go_at_call_of 38 (Value.int .i64 k)); refine Sm (f4 _) ?_)
      | ((first | go_at_call_of 38 (Vi n) | go_at_call_of 38 (Value.int .i64 n)); refine Sm (f5 _) ?_)
      | ((first | go_at_call_of 38 (Vi q) | go_at_call_of 38 (Value.int .i64 q)); refine Sm (f6 _) ?_)
      | (go_at_call 88; refine Sb (hrm _ HX.out.2.2.2.1 HX.out.2.2.2.2.1) fun w1 hb => ?_; have HX := Zab (Zii hb HX.out); clear hb)
      | (go_at_call_of 14 (Value.bool true); refine Sm (Zbt _ _) ?_)
      | (go_at_call_of 14 (Value.bool false); refine Sm (Zcc _ _) ?_)
      | (go_at_call 13; refine Sm (Zia _ _ _ _ _) ?_))
     go_ret; exact ⟨by rw [HE.out]; rfl, (Zac HX.out.2.2.2.2.2 (Zaa _ _))⟩
 · have HE := Zab (show ∀ s t, hoE L H U B M al zl A D W k n q = Zar [ruE L H U B M al zl, s, t] from fun s t => by
    rw [firstI_ne h0]; unfold hoE; rw [if_neg h0])
   generalize hoE L H U B M al zl A D W k n q = E at *; generalize ruE L H U B M al zl = F at *; clear h0; have f1 := Zaj A L H; have f2 := Zaj D (wrap64 (-M)) M; have f3 := Zaj W 0 3; have f4 := Zaj k (-100) 100; have f5 := Zaj n 0 3; have f6 := Zaj q (wrap64 (-M)) M; generalize betw A L H = x1 at *; generalize betw D (wrap64 (-M)) M = x2 at *; generalize betw W 0 3 = x3 at *; generalize betw k (-100) 100 = y1 at *; generalize betw n 0 3 = y2 at *; generalize betw q (wrap64 (-M)) M = y3 at *
   rcases (show x1 = false ∨ (x1 = true ∧ x2 = false) ∨ (x1 = true ∧ x2 = true ∧ x3 = false) ∨ (x1 = true ∧ x2 = true ∧ x3 = true) by cases x1 <;> cases x2 <;> cases x3 <;> simp) with rfl | ⟨rfl, rfl⟩ | ⟨rfl, rfl, rfl⟩ | ⟨rfl, rfl, rfl⟩
   all_goals
    go_enter Tryz.func43, Tryz.ntmps43
    go_upto_region 2 with (first
     | ((first | go_at_call_of 38 (Vi A) | go_at_call_of 38 (Value.int .i64 A)); refine Sm (f1 _) ?_)
     | ((first | go_at_call_of 38 (Vi D) | go_at_call_of 38 (Value.int .i64 D)); refine Sm (f2 _) ?_)
     | ((first | go_at_call_of 38 (Vi W) | go_at_call_of 38 (Value.int .i64 W)); refine Sm (f3 _) ?_))
    rcases (show y1 = false ∨ (y1 = true ∧ y2 = false) ∨ (y1 = true ∧ y2 = true ∧ y3 = false) ∨ (y1 = true ∧ y2 = true ∧ y3 = true) by cases y1 <;> cases y2 <;> cases y3 <;> simp) with rfl | ⟨rfl, rfl⟩ | ⟨rfl, rfl, rfl⟩ | ⟨rfl, rfl, rfl⟩
    all_goals
     go_wp2_with (first
      | ((first | go_at_call_of 38 (Vi k) | go_at_call_of 38 (Value.int .i64 k)); refine Sm (f4 _) ?_)
      | ((first | go_at_call_of 38 (Vi n) | go_at_call_of 38 (Value.int .i64 n)); refine Sm (f5 _) ?_)
      | ((first | go_at_call_of 38 (Vi q) | go_at_call_of 38 (Value.int .i64 q)); refine Sm (f6 _) ?_)
      | (go_at_call 88; refine Sb (hrm _ HX.out.2.2.2.1 HX.out.2.2.2.2.1) fun w1 hb => ?_; have HX := Zab (Zii hb HX.out); clear hb)
      | (go_at_call_of 14 (Value.bool true); refine Sm (Zbt _ _) ?_)
      | (go_at_call_of 14 (Value.bool false); refine Sm (Zcc _ _) ?_)
      | (go_at_call 13; refine Sm (Zia _ _ _ _ _) ?_))
     go_ret; exact ⟨by rw [HE.out _ _]; rfl, (Zac HX.out.2.2.2.2.2 (Zaa _ _))⟩
end Go.Proofs.YtnfdfiholcelaaaGreatDoor
