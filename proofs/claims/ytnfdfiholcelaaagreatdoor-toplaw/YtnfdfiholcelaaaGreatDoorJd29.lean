
import Derived.Test.YtnfdfiholcelaaaGreatDoorJd00
import Derived.Test.YtnfdfiholcelaaaGreatDoorJd12
import Derived.Test.YtnfdfiholcelaaaGreatDoorJd18
import Derived.Test.YtnfdfiholcelaaaGreatDoorJd20
import Derived.Test.YtnfdfiholcelaaaGreatDoorJd28
set_option maxRecDepth 100000
set_option maxHeartbeats 20000000
namespace Go.Proofs.YtnfdfiholcelaaaGreatDoor
open Go.RowKit Plain
theorem fst6 (e : Nat → Int) : fstN e 6 = if e 0 = 0 then (if Zao [e 1, e 2] = 0 then Zao [e 3, e 4, e 5] else Zao [e 1, e 2]) else e 0 := by
 simp only [fstN, Zao]
 by_cases h0 : e 0 = 0 <;> by_cases h1 : e 1 = 0 <;> by_cases h2 : e 2 = 0 <;> by_cases h3 : e 3 = 0 <;> by_cases h4 : e 4 = 0 <;> by_cases h5 : e 5 = 0 <;> simp [*]
theorem fm_wrap {l n lo hi m2 e3 e4 : Int} (hm : e3 = 0 → m2 = 2 * n) : Zao [e3, e4, fmE l n lo hi] = Zao [e3, e4, if l < m2 ∨ 0 < lo ∨ hi < 0 then 3 else 0] := by
 by_cases h : e3 = 0
 · rw [hm h]; rfl
 · simp [Zao, h]
theorem axisMay_any (a0 a1 a2 a3 a4 a5 a6 a7 a8 a9 a10 a11 a14 : Int) (p q : Option Addr) (al zl : List Int) (cn cm : Nat) (hm : al.length ≤ 9223372036854775807) (hn : zl.length ≤ 9223372036854775807) (w : World) (ha : Lst w p al) (hz : Lst w q zl) :
 Calls Tryz.prog 86 #[.agg #[Vi a0, Vi a1, Vi a2, Vi a3, Vi a4, Vi a5, Vi a6, Vi a7, Vi a8, Vi a9, Vi a10, Vi a11, .slice p al.length cn, .slice q zl.length cm, Vi a14]] w fun e w' => e = .returned (Vi (fstN (eAx a0 a1 a2 a3 a4 a5 a6 a7 a8 a9 a10 a11 a14 al zl) 6)) ∧ Below w.heap.size w w' := by
 have HA := Zab (Blk.new w 26 [Vi a0, Vi a1, Vi a2, Vi a3, Vi a4, Vi a5, Vi a6, Vi a7, Vi a8, Vi a9, Vi a10, Vi a11, .slice p al.length cn, .slice q zl.length cm, Vi a14]); have HB := Zab (Zaa w (.cells #[Vi a0, Vi a1, Vi a2, Vi a3, Vi a4, Vi a5, Vi a6, Vi a7, Vi a8, Vi a9, Vi a10, Vi a11, .slice p al.length cn, .slice q zl.length cm, Vi a14] 26)); have HF : Hid (fstN (eAx a0 a1 a2 a3 a4 a5 a6 a7 a8 a9 a10 a11 a14 al zl) 6 = if rgE a4 a3 = 0 then (if Zao [Zcj a8 a9, arE a5 a6 a7 a10] = 0 then Zao [grE a0 a1 a2 (a3 + a7) ((a4 - 1) * a5) ((a4 - 1) * a6), ruE a0 a1 a11 a14 ((a4 - 1) * a5) al zl, fmE a8 a2 a0 a1] else Zao [Zcj a8 a9, arE a5 a6 a7 a10]) else rgE a4 a3) := Zab (fst6 (eAx a0 a1 a2 a3 a4 a5 a6 a7 a8 a9 a10 a11 a14 al zl)); have f1 := Zap a4 2 4; have f2 := Zap a3 0 1000; have HZ := Zab (@Zdi a4 a3); have HR : Hid (rgE a4 a3 = if betw a4 2 4 && betw a3 0 1000 then 0 else 1) := Zab rfl; have g9 := fun u (h : Below w.heap.size w u) => holdRuleMay_any a0 a1 a11 a14 ((a4 - 1) * a5) p q cn cm al zl hm hn u (ha.later h) (hz.later h); generalize fstN (eAx a0 a1 a2 a3 a4 a5 a6 a7 a8 a9 a10 a11 a14 al zl) 6 = res at *; generalize rgE a4 a3 = e0 at *; generalize betw a4 2 4 = x1 at *; generalize betw a3 0 1000 = x2 at *; clear ha hz hm hn; have k0 := (HA.out.cell (j := 0) rfl).1; have k1 := (HA.out.cell (j := 1) rfl).1; have k2 := (HA.out.cell (j := 2) rfl).1; have k3 := (HA.out.cell (j := 3) rfl).1; have k4 := (HA.out.cell (j := 4) rfl).1; have k8 := (HA.out.cell (j := 8) rfl).1
 rcases (show (x1 = false ∨ x1 = true ∧ x2 = false) ∨ (x1 = true ∧ x2 = true) by cases x1 <;> cases x2 <;> simp) with hx | ⟨rfl, rfl⟩
 · rcases hx with rfl | ⟨rfl, rfl⟩
   all_goals
    have HE : Hid (res = 1) := Zab (by rw [HF.out, HR.out]; rfl); clear HF HR HZ g9
    go_enter Tryz.func86, Tryz.ntmps86
    go_wp2_with (first
     | ((first | go_at_call_of 38 (Vi a4) | go_at_call_of 38 (Value.int .i64 a4)); refine Sm (f1 _) ?_)
     | ((first | go_at_call_of 38 (Vi a3) | go_at_call_of 38 (Value.int .i64 a3)); refine Sm (f2 _) ?_)
     | (go_at_call_of 14 (Value.bool true); refine Sm (Zba _ _) ?_)
     | (go_at_call_of 14 (Value.bool false); refine Sm (Zbp _ _) ?_))
    go_ret; exact ⟨by rw [HE.out]; rfl, Zaa _ _⟩
 have he0 : e0 = 0 := HR.out; obtain ⟨h4, h3⟩ := HZ.out he0; have HF : Hid (res = (if Zao [Zcj a8 a9, arE a5 a6 a7 a10] = 0 then Zao [grE a0 a1 a2 (a3 + a7) ((a4 - 1) * a5) ((a4 - 1) * a6), ruE a0 a1 a11 a14 ((a4 - 1) * a5) al zl, fmE a8 a2 a0 a1] else Zao [Zcj a8 a9, arE a5 a6 a7 a10])) := Zab (by rw [HF.out, if_pos he0]); clear he0 HR HZ; have g1 := Zgq a0 a1 a2 a3 a4 a5 a6 a7 a8 a9 a10 a11 a14 p q al.length zl.length cn cm; have g2 := ruleMay_any a8 a9; have g3 := Zhe a0 a1 a2 a3 a4 a5 a6 a7 a8 a9 a10 a11 a14 p q al.length zl.length cn cm; have g4 := refActRule_any a5 a6 a7 a10; have HA2 := Zab (fun h : arE a5 a6 a7 a10 = 0 => Zau (Zfe h))
 have HFZ : ∀ x y : Int, Zao [x, y] = 0 → y = 0 := fun x y h => by
  simp only [Zao] at h
  by_cases hx : x = 0 <;> by_cases hy : y = 0 <;> simp_all
 generalize Zcj a8 a9 = e1 at *; generalize arE a5 a6 a7 a10 = e2 at *; obtain ⟨v, HV⟩ : ∃ v, Hid (Zao [e1, e2] = v) := ⟨_, Zab rfl⟩
 have g5 : ∀ (X : Nat) (u : World), Blk 44 u X [Vi e1, Vi e2] → Calls Tryz.prog 13 #[.slice (some (Ad X 0)) 2 2] u fun r w' => r = .returned (Vi v) ∧ w' = u := fun X u h => by rw [← HV.out]; exact first_two X 2 e1 e2 u (h.cell rfl).1 (h.cell rfl).1
 have HF : Hid (res = (if v = 0 then Zao [grE a0 a1 a2 (a3 + a7) ((a4 - 1) * a5) ((a4 - 1) * a6), ruE a0 a1 a11 a14 ((a4 - 1) * a5) al zl, fmE a8 a2 a0 a1] else v)) := Zab (by rw [HF.out, HV.out]); have HA2 : Hid (v = 0 → _) := Zab (fun h : v = 0 => HA2.out (HFZ e1 e2 (HV.out.trans h))); clear HFZ HV
 go_enter Tryz.func86, Tryz.ntmps86
 go_upto_region 4 with (first
  | ((first | go_at_call_of 38 (Vi a4) | go_at_call_of 38 (Value.int .i64 a4)); refine Sm (f1 _) ?_)
  | ((first | go_at_call_of 38 (Vi a3) | go_at_call_of 38 (Value.int .i64 a3)); refine Sm (f2 _) ?_)
  | (go_at_call_of 14 (Value.bool true); refine Sm (Zba _ _) ?_)
  | (go_at_call_of 14 (Value.bool false); refine Sm (Zbp _ _) ?_))
 clear f1 f2 k0 k1 k2 k3 k4 k8; generalize w.alloc (.cells #[Vi a0, Vi a1, Vi a2, Vi a3, Vi a4, Vi a5, Vi a6, Vi a7, Vi a8, Vi a9, Vi a10, Vi a11, .slice p al.length cn, .slice q zl.length cm, Vi a14] 26) = w0 at *; refine wp_region_held_drew (S := fun u => Below w0.heap.size w0 u) (by kernel_rfl) ((Below.refl _ _).drew) (fun _ => ?_); have HS0 : Hid (Below w0.heap.size w0 w0.drew) := Zab ((Below.refl _ _).drew); generalize w0.drew = u0 at HS0 ⊢; refine Tk 0 rfl (yieldsIf_load_mid (by rfl) 26 (.tmp 1) rfl w.heap.size 0 rfl [Vi a0, Vi a1, Vi a2, Vi a3, Vi a4, Vi a5, Vi a6, Vi a7, Vi a8, Vi a9, Vi a10, Vi a11, .slice p al.length cn, .slice q zl.length cm, Vi a14] _ (fun w hSw => Zae HA.out.range hSw) Tryz.underlying26 rfl Zbg) HS0.out ?_; simp only [Act.put, Ly]; refine Tk 3 rfl (yieldsIf_load_mid (by rfl) 26 (.tmp 1) rfl w.heap.size 0 rfl [Vi a0, Vi a1, Vi a2, Vi a3, Vi a4, Vi a5, Vi a6, Vi a7, Vi a8, Vi a9, Vi a10, Vi a11, .slice p al.length cn, .slice q zl.length cm, Vi a14] _ (fun w hSw => Zae HA.out.range hSw) Tryz.underlying26 rfl Zbg) HS0.out ?_; simp only [Act.put, Ly]; refine Ra 1 (fun K hK => ?_); go_simp; refine Sb (g1 _) fun u1 hb => ?_; have HS1 := Zab (Zac HS0.out hb); clear hb; go_wp2_with fail; refine hK.out _ _ HS1.out (fun _ => ?_); clear hK K; (try simp only [Act.put]); refine Ra 2 (fun K hK => ?_); go_simp; refine Sb (g2 _) fun u2 hb => ?_; have HS2 := Zab (Zac HS1.out hb); clear hb; go_wp2_with fail; refine hK.out _ _ HS2.out (fun _ => ?_); clear hK K; (try simp only [Act.put]); clear HS1; refine Ra 4 (fun K hK => ?_); go_simp; refine Sb (g3 _) fun u3 hb => ?_; have HS3 := Zab (Zac HS2.out hb); clear hb; go_wp2_with fail; refine hK.out _ _ HS3.out (fun _ => ?_); clear hK K; (try simp only [Act.put]); clear HS2; refine Ra 5 (fun K hK => ?_); go_simp; refine Sb (g4 _) fun u4 hb => ?_; have HS4 := Zab (Zac HS3.out hb); clear hb; go_wp2_with fail; refine hK.out _ _ HS4.out (fun _ => ?_); clear hK K; (try simp only [Act.put]); clear HS3; refine Ra 6 (fun K hK => ?_); go_simp; have HS5 := Zab (Zac HS4.out (Zaa u4 (.cells #[Vi e1, Vi e2] 44))); have HN := Zab (Blk.new u4 44 [Vi e1, Vi e2]); generalize u4.alloc (.cells #[Vi e1, Vi e2] 44) = u5 at HS5 HN ⊢; generalize u4.heap.size = XN at HN ⊢; refine hK.out _ _ HS5.out (fun _ => ?_); clear hK K; (try simp only [Act.put]); clear HS4; refine Ra 7 (fun K hK => ?_); go_simp
 refine Sb (g5 XN _ HN.out) fun u6 hq => ?_
 have hb : Below u5.heap.size u5 u6 := by rw [hq]; exact Below.refl _ _
 clear hq; have HS6 := Zab (Zac HS5.out hb); clear hb; go_wp2_with fail; refine hK.out _ _ HS6.out (fun _ => ?_); clear hK K; (try simp only [Act.put]); clear HS5; refine Tq 8 HS6.out ?_; simp only [Act.put, Ly]; refine wpAnyH_done (by kernel_rfl) ?_ _; have HB1 := Zab (Zac HB.out HS6.out); have HA1 := Zab (HA.out.later HS6.out); clear HS6 HN HA HB; clear g1 g2 g3 g4 g5; rename World => w1
 rcases (show ¬ v = 0 ∨ v = 0 by omega) with hv | hv
 · have hw : (v != 0) = true := by simp [hv]
   go_wp2_with fail; go_ret; exact ⟨by rw [HF.out, if_neg hv]; rfl, HB1.out⟩
 subst hv; have z2 := HA2.out rfl; have h5 := z2.1; have h7 : 0 ≤ a7 ∧ a7 ≤ 1000 := ⟨z2.2.2.1.1, by omega⟩; have h6 : 1 ≤ a6 ∧ a6 ≤ 1000 := ⟨z2.2.1.1, by omega⟩; have HF : Hid (res = Zao [grE a0 a1 a2 (a3 + a7) ((a4 - 1) * a5) ((a4 - 1) * a6), ruE a0 a1 a11 a14 ((a4 - 1) * a5) al zl, fmE a8 a2 a0 a1]) := HF; have g6 := Zdd a0 a1 a2 a3 a4 a5 a6 a7 a8 a9 a10 a11 a14 p q al.length zl.length cn cm h4 h5 h3 h7 h6; have g7 := guardMay_any a0 a1 a2 (a3 + a7) ((a4 - 1) * a5) ((a4 - 1) * a6); have g8 := Zgr a0 a1 a2 a3 a4 a5 a6 a7 a8 a9 a10 a11 a14 p q al.length zl.length cn cm h4 h5; have HM := Zab (fun h => (by have := @grE_noise a0 a1 a2 (a3 + a7) ((a4 - 1) * a5) ((a4 - 1) * a6) h; exact Zas (by omega) (by omega) : IntKind.i64.wrap (2 * a2) = 2 * a2)); obtain ⟨m2, v2⟩ : ∃ m2, IntKind.i64.wrap (2 * a2) = m2 := ⟨_, rfl⟩; rw [v2] at HM; have HF : Hid (res = Zao [grE a0 a1 a2 (a3 + a7) ((a4 - 1) * a5) ((a4 - 1) * a6), ruE a0 a1 a11 a14 ((a4 - 1) * a5) al zl, if a8 < m2 ∨ 0 < a0 ∨ a1 < 0 then 3 else 0]) := Zab (by rw [HF.out]; exact fm_wrap HM.out); clear HM z2 HA2 h3 h4 h5 h6 h7; generalize grE a0 a1 a2 (a3 + a7) ((a4 - 1) * a5) ((a4 - 1) * a6) = e3 at *; generalize ruE a0 a1 a11 a14 ((a4 - 1) * a5) al zl = e4 at *; obtain ⟨x1, d1⟩ : ∃ x, decide (a8 < m2) = x := ⟨_, rfl⟩; obtain ⟨x2, d2⟩ : ∃ x, decide (0 < a0) = x := ⟨_, rfl⟩; obtain ⟨x3, d3⟩ : ∃ x, decide (a1 < 0) = x := ⟨_, rfl⟩; have HL : Hid (res = Zao [e3, e4, if x1 || x2 || x3 then 3 else 0]) := Zab (by rw [HF.out, ← d1, ← d2, ← d3]; simp [or_assoc]); clear HF
 have HD : x1 = true ∨ (x1 = false ∧ x2 = true) ∨ (x1 = false ∧ x2 = false ∧ x3 = true) ∨ (x1 = false ∧ x2 = false ∧ x3 = false) := by cases x1 <;> cases x2 <;> cases x3 <;> simp
 go_upto_region 7 with fail; have k0 := (HA1.out.cell (j := 0) rfl).1; have k1 := (HA1.out.cell (j := 1) rfl).1; have k2 := (HA1.out.cell (j := 2) rfl).1; have k8 := (HA1.out.cell (j := 8) rfl).1; refine wp_region_held_drew (S := fun u => Below w1.heap.size w1 u) (by kernel_rfl) ((Below.refl _ _).drew) (fun _ => ?_); have HS0 : Hid (Below w1.heap.size w1 w1.drew) := Zab ((Below.refl _ _).drew); generalize w1.drew = u0 at HS0 ⊢; refine Tk 0 rfl (yieldsIf_load_mid (by rfl) 26 (.tmp 1) rfl w.heap.size 0 rfl [Vi a0, Vi a1, Vi a2, Vi a3, Vi a4, Vi a5, Vi a6, Vi a7, Vi a8, Vi a9, Vi a10, Vi a11, .slice p al.length cn, .slice q zl.length cm, Vi a14] _ (fun w hSw => Zae HA1.out.range hSw) Tryz.underlying26 rfl Zbg) HS0.out ?_; simp only [Act.put, Ly]; refine Tk 3 rfl (yieldsIf_load_mid (by rfl) 26 (.tmp 1) rfl w.heap.size 0 rfl [Vi a0, Vi a1, Vi a2, Vi a3, Vi a4, Vi a5, Vi a6, Vi a7, Vi a8, Vi a9, Vi a10, Vi a11, .slice p al.length cn, .slice q zl.length cm, Vi a14] _ (fun w hSw => Zae HA1.out.range hSw) Tryz.underlying26 rfl Zbg) HS0.out ?_; simp only [Act.put, Ly]; refine Tq 6 HS0.out ?_; simp only [Act.put, Ly]; refine Th 7 rfl (by intro w hSw; (try dsimp only at hSw); have k8 := cell_later hSw k8; clear hSw; go_simp; (try with_reducible rfl)) HS0.out ?_; simp only [Act.put, Ly]; refine Tq 8 HS0.out ?_; simp only [Act.put, Ly]; refine Th 9 rfl (by intro w hSw; (try dsimp only at hSw); have k2 := cell_later hSw k2; clear hSw; go_simp; (try with_reducible rfl)) HS0.out ?_; simp only [Act.put, Ly]; refine Tq 10 HS0.out ?_; simp only [Act.put, Ly]; refine Tq 11 HS0.out ?_; simp only [Act.put, Ly]; refine Ra 1 (fun K hK => ?_); go_simp; refine Sb (g6 _) fun u1 hb => ?_; have HS1 := Zab (Zac HS0.out hb); clear hb; go_wp2_with fail; refine hK.out _ _ HS1.out (fun _ => ?_); clear hK K; (try simp only [Act.put]); refine Ra 2 (fun K hK => ?_); go_simp; refine Sb (g7 _) fun u2 hb => ?_; have HS2 := Zab (Zac HS1.out hb); clear hb; go_wp2_with fail; refine hK.out _ _ HS2.out (fun _ => ?_); clear hK K; (try simp only [Act.put]); clear HS1; refine Ra 4 (fun K hK => ?_); go_simp; refine Sb (g8 _) fun u3 hb => ?_; have HS3 := Zab (Zac HS2.out hb); clear hb; go_wp2_with fail; refine hK.out _ _ HS3.out (fun _ => ?_); clear hK K; (try simp only [Act.put]); clear HS2; refine Ra 5 (fun K hK => ?_); go_simp; refine Sb (g9 _ (Zac HB1.out HS3.out)) fun u4 hb => ?_
 have HS4 := Zab (Zac HS3.out hb); clear hb; go_wp2_with fail; refine hK.out _ _ HS4.out (fun _ => ?_); clear hK K; (try simp only [Act.put]); clear HS3; refine Tq 12 HS4.out ?_; simp only [Act.put, Ly]
 rcases HD with rfl | ⟨rfl, rfl⟩ | ⟨rfl, rfl, rfl⟩ | ⟨rfl, rfl, rfl⟩
 · refine Ts 13 HS4.out ?_; simp only [Act.put, Ly]; refine Ts 14 HS4.out ?_; simp only [Act.put, Ly]; refine Ts 15 HS4.out ?_; simp only [Act.put, Ly]; refine Tq 16 HS4.out ?_; simp only [Act.put, Ly]; refine Tq 17 HS4.out ?_; simp only [Act.put, Ly]; refine Ts 18 HS4.out ?_; simp only [Act.put, Ly]; refine Ts 19 HS4.out ?_; simp only [Act.put, Ly]; refine Ts 20 HS4.out ?_; simp only [Act.put, Ly]; refine Tq 21 HS4.out ?_; simp only [Act.put, Ly]; refine Ra 22 (fun K hK => ?_); go_simp; refine Sb (Zba _ _) fun u5 hq => ?_
   have hb : Below u4.heap.size u4 u5 := by rw [hq]; exact Below.refl _ _
   clear hq; have HS5 := Zab (Zac HS4.out hb); clear hb; go_wp2_with fail; refine hK.out _ _ HS5.out (fun _ => ?_); clear hK K; (try simp only [Act.put]); clear HS4; refine Ra 23 (fun K hK => ?_); go_simp; have HS6 := Zab (Zac HS5.out (Zaa u5 (.cells #[Vi e3, Vi e4, Vi 3] 44))); have HN := Zab (Blk.new u5 44 [Vi e3, Vi e4, Vi 3]); generalize u5.alloc (.cells #[Vi e3, Vi e4, Vi 3] 44) = u6 at HS6 HN ⊢; generalize u5.heap.size = XN at HN ⊢; refine hK.out _ _ HS6.out (fun _ => ?_); clear hK K; (try simp only [Act.put]); clear HS5; refine Ra 24 (fun K hK => ?_); go_simp; refine Sb (Zdr XN 3 e3 e4 3 _ (HN.out.cell rfl).1 (HN.out.cell rfl).1 (HN.out.cell rfl).1) fun u7 hq => ?_
   have hb : Below u6.heap.size u6 u7 := by rw [hq]; exact Below.refl _ _
   clear hq; have HS7 := Zab (Zac HS6.out hb); clear hb; go_wp2_with fail; refine hK.out _ _ HS7.out (fun _ => ?_); clear hK K; (try simp only [Act.put]); clear HS6; refine Tq 25 HS7.out ?_; simp only [Act.put, Ly]; refine wpAnyH_done (by kernel_rfl) ?_ _; go_wp2_with fail; go_ret; exact ⟨by rw [HL.out]; rfl, Zac HB1.out HS7.out⟩
 · refine Tq 13 HS4.out ?_; simp only [Act.put, Ly]; refine Th 14 rfl (by intro w hSw; (try dsimp only at hSw); have k0 := cell_later hSw k0; clear hSw; go_simp; (try with_reducible rfl)) HS4.out ?_; simp only [Act.put, Ly]; refine Tq 15 HS4.out ?_; simp only [Act.put, Ly]; refine Tq 16 HS4.out ?_; simp only [Act.put, Ly]; refine Tq 17 HS4.out ?_; simp only [Act.put, Ly]; refine Ts 18 HS4.out ?_; simp only [Act.put, Ly]; refine Ts 19 HS4.out ?_; simp only [Act.put, Ly]; refine Ts 20 HS4.out ?_; simp only [Act.put, Ly]; refine Tq 21 HS4.out ?_; simp only [Act.put, Ly]; refine Ra 22 (fun K hK => ?_); go_simp; refine Sb (Zba _ _) fun u8 hq => ?_
   have hb : Below u4.heap.size u4 u8 := by rw [hq]; exact Below.refl _ _
   clear hq; have HS8 := Zab (Zac HS4.out hb); clear hb; go_wp2_with fail; refine hK.out _ _ HS8.out (fun _ => ?_); clear hK K; (try simp only [Act.put]); clear HS4; refine Ra 23 (fun K hK => ?_); go_simp; have HS9 := Zab (Zac HS8.out (Zaa u8 (.cells #[Vi e3, Vi e4, Vi 3] 44))); have HN := Zab (Blk.new u8 44 [Vi e3, Vi e4, Vi 3]); generalize u8.alloc (.cells #[Vi e3, Vi e4, Vi 3] 44) = u9 at HS9 HN ⊢; generalize u8.heap.size = XN at HN ⊢; refine hK.out _ _ HS9.out (fun _ => ?_); clear hK K; (try simp only [Act.put]); clear HS8; refine Ra 24 (fun K hK => ?_); go_simp; refine Sb (Zdr XN 3 e3 e4 3 _ (HN.out.cell rfl).1 (HN.out.cell rfl).1 (HN.out.cell rfl).1) fun u10 hq => ?_
   have hb : Below u9.heap.size u9 u10 := by rw [hq]; exact Below.refl _ _
   clear hq; have HS10 := Zab (Zac HS9.out hb); clear hb; go_wp2_with fail; refine hK.out _ _ HS10.out (fun _ => ?_); clear hK K; (try simp only [Act.put]); clear HS9; refine Tq 25 HS10.out ?_; simp only [Act.put, Ly]; refine wpAnyH_done (by kernel_rfl) ?_ _; go_wp2_with fail; go_ret; exact ⟨by rw [HL.out]; rfl, Zac HB1.out HS10.out⟩
 · refine Tq 13 HS4.out ?_; simp only [Act.put, Ly]; refine Th 14 rfl (by intro w hSw; (try dsimp only at hSw); have k0 := cell_later hSw k0; clear hSw; go_simp; (try with_reducible rfl)) HS4.out ?_; simp only [Act.put, Ly]; refine Tq 15 HS4.out ?_; simp only [Act.put, Ly]; refine Tq 16 HS4.out ?_; simp only [Act.put, Ly]; refine Tq 17 HS4.out ?_; simp only [Act.put, Ly]; refine Tq 18 HS4.out ?_; simp only [Act.put, Ly]; refine Th 19 rfl (by intro w hSw; (try dsimp only at hSw); have k1 := cell_later hSw k1; clear hSw; go_simp; (try with_reducible rfl)) HS4.out ?_; simp only [Act.put, Ly]; refine Tq 20 HS4.out ?_; simp only [Act.put, Ly]; refine Tq 21 HS4.out ?_; simp only [Act.put, Ly]; refine Ra 22 (fun K hK => ?_); go_simp; refine Sb (Zba _ _) fun u11 hq => ?_
   have hb : Below u4.heap.size u4 u11 := by rw [hq]; exact Below.refl _ _
   clear hq; have HS11 := Zab (Zac HS4.out hb); clear hb; go_wp2_with fail; refine hK.out _ _ HS11.out (fun _ => ?_); clear hK K; (try simp only [Act.put]); clear HS4; refine Ra 23 (fun K hK => ?_); go_simp; have HS12 := Zab (Zac HS11.out (Zaa u11 (.cells #[Vi e3, Vi e4, Vi 3] 44))); have HN := Zab (Blk.new u11 44 [Vi e3, Vi e4, Vi 3]); generalize u11.alloc (.cells #[Vi e3, Vi e4, Vi 3] 44) = u12 at HS12 HN ⊢; generalize u11.heap.size = XN at HN ⊢; refine hK.out _ _ HS12.out (fun _ => ?_); clear hK K; (try simp only [Act.put]); clear HS11; refine Ra 24 (fun K hK => ?_); go_simp; refine Sb (Zdr XN 3 e3 e4 3 _ (HN.out.cell rfl).1 (HN.out.cell rfl).1 (HN.out.cell rfl).1) fun u13 hq => ?_
   have hb : Below u12.heap.size u12 u13 := by rw [hq]; exact Below.refl _ _
   clear hq; have HS13 := Zab (Zac HS12.out hb); clear hb; go_wp2_with fail; refine hK.out _ _ HS13.out (fun _ => ?_); clear hK K; (try simp only [Act.put]); clear HS12; refine Tq 25 HS13.out ?_; simp only [Act.put, Ly]; refine wpAnyH_done (by kernel_rfl) ?_ _; go_wp2_with fail; go_ret; exact ⟨by rw [HL.out]; rfl, Zac HB1.out HS13.out⟩
 · refine Tq 13 HS4.out ?_; simp only [Act.put, Ly]; refine Th 14 rfl (by intro w hSw; (try dsimp only at hSw); have k0 := cell_later hSw k0; clear hSw; go_simp; (try with_reducible rfl)) HS4.out ?_; simp only [Act.put, Ly]; refine Tq 15 HS4.out ?_; simp only [Act.put, Ly]; refine Tq 16 HS4.out ?_; simp only [Act.put, Ly]; refine Tq 17 HS4.out ?_; simp only [Act.put, Ly]; refine Tq 18 HS4.out ?_; simp only [Act.put, Ly]; refine Th 19 rfl (by intro w hSw; (try dsimp only at hSw); have k1 := cell_later hSw k1; clear hSw; go_simp; (try with_reducible rfl)) HS4.out ?_; simp only [Act.put, Ly]; refine Tq 20 HS4.out ?_; simp only [Act.put, Ly]; refine Tq 21 HS4.out ?_; simp only [Act.put, Ly]; refine Ra 22 (fun K hK => ?_); go_simp; refine Sb (Zbp _ _) fun u14 hq => ?_
   have hb : Below u4.heap.size u4 u14 := by rw [hq]; exact Below.refl _ _
   clear hq; have HS14 := Zab (Zac HS4.out hb); clear hb; go_wp2_with fail; refine hK.out _ _ HS14.out (fun _ => ?_); clear hK K; (try simp only [Act.put]); clear HS4; refine Ra 23 (fun K hK => ?_); go_simp; have HS15 := Zab (Zac HS14.out (Zaa u14 (.cells #[Vi e3, Vi e4, Vi 0] 44))); have HN := Zab (Blk.new u14 44 [Vi e3, Vi e4, Vi 0]); generalize u14.alloc (.cells #[Vi e3, Vi e4, Vi 0] 44) = u15 at HS15 HN ⊢; generalize u14.heap.size = XN at HN ⊢; refine hK.out _ _ HS15.out (fun _ => ?_); clear hK K; (try simp only [Act.put]); clear HS14; refine Ra 24 (fun K hK => ?_); go_simp; refine Sb (Zdr XN 3 e3 e4 0 _ (HN.out.cell rfl).1 (HN.out.cell rfl).1 (HN.out.cell rfl).1) fun u16 hq => ?_
   have hb : Below u15.heap.size u15 u16 := by rw [hq]; exact Below.refl _ _
   clear hq; have HS16 := Zab (Zac HS15.out hb); clear hb; go_wp2_with fail; refine hK.out _ _ HS16.out (fun _ => ?_); clear hK K; (try simp only [Act.put]); clear HS15; refine Tq 25 HS16.out ?_; simp only [Act.put, Ly]; refine wpAnyH_done (by kernel_rfl) ?_ _; go_wp2_with fail; go_ret; exact ⟨by rw [HL.out]; rfl, Zac HB1.out HS16.out⟩
theorem fstN_add (e : Nat → Int) (n : Nat) : ∀ m, fstN e (n + m) = if fstN e n = 0 then fstN (fun k => e (n + k)) m else fstN e n
 | 0 => by
  by_cases h : fstN e n = 0
  · rw [if_pos h]; exact h
  · rw [if_neg h]; rfl
 | m + 1 => by
  have ih := fstN_add e n m
  show (if fstN e (n + m) = 0 then e (n + m) else fstN e (n + m)) = _
  rw [ih]
  by_cases h : fstN e n = 0
  · rw [if_pos h, if_pos h]; rfl
  · rw [if_neg h, if_neg h, if_neg h]
theorem fstN_congr {e f : Nat → Int} : ∀ {n : Nat}, (∀ k, k < n → e k = f k) → fstN e n = fstN f n
 | 0, _ => rfl
 | n + 1, h => by
  show (if fstN e n = 0 then e n else fstN e n) = (if fstN f n = 0 then f n else fstN f n)
  rw [fstN_congr (fun k hk => h k (by omega)), h n (by omega)]
theorem first_13 (e f g : Nat → Int) (z : Int) (h1 : ∀ k, k < 6 → g k = e k) (h2 : ∀ k, k < 6 → g (6 + k) = f k) (h3 : g 12 = z) : fstN g 13 = Zao [Zao [Zao [0, fstN e 6], fstN f 6], z] := by
 have a1 : fstN g 6 = fstN e 6 := fstN_congr h1
 have a2 : fstN g 12 = if fstN e 6 = 0 then fstN f 6 else fstN e 6 := by
  rw [show (12 : Nat) = 6 + 6 from rfl, fstN_add g 6 6, a1, fstN_congr (f := f) h2]
 show (if fstN g 12 = 0 then g 12 else fstN g 12) = _
 rw [a2, h3]; generalize fstN e 6 = x; generalize fstN f 6 = y; simp only [Zao]
 by_cases hx : x = 0 <;> by_cases hy : y = 0 <;> by_cases hz : z = 0 <;> simp [*]
theorem infoA : (Tryz.prog.info? 26).map (·.size) = some 15 := by kernel_rfl
theorem first_b (T : TypeId) (x y : Int) (u : World) : Calls Tryz.prog 13 #[.slice (some (Ad u.heap.size 0)) 2 2] (u.alloc (.cells #[Vi x, Vi y] T)) fun r w' => r = .returned (Vi (Zao [x, y])) ∧ Below u.heap.size u w' :=
 (first_new2 T x y u).mono fun _ _ h => ⟨h.1, by rw [h.2]; exact Zaa _ _⟩
theorem craftMay_any (a0 a1 a2 a3 a4 a5 a6 a7 a8 a9 a10 a11 a14 : Int) (p q : Option Addr) (al zl : List Int) (cn cm : Nat) (b0 b1 b2 b3 b4 b5 b6 b7 b8 b9 b10 b11 b14 : Int) (r s : Option Addr) (bl yl : List Int) (dn dm : Nat) (c0 c1 : Int) (w : World)
 (hla : al.length ≤ 9223372036854775807 ∧ zl.length ≤ 9223372036854775807 ∧ al.length ≤ cn ∧ Lst w p al ∧ Lst w q zl) (hlb : bl.length ≤ 9223372036854775807 ∧ yl.length ≤ 9223372036854775807 ∧ bl.length ≤ dn ∧ Lst w r bl ∧ Lst w s yl) :
 Calls Tryz.prog 41 #[.agg #[Vi a0, Vi a1, Vi a2, Vi a3, Vi a4, Vi a5, Vi a6, Vi a7, Vi a8, Vi a9, Vi a10, Vi a11, .slice p al.length cn, .slice q zl.length cm, Vi a14, Vi b0, Vi b1, Vi b2, Vi b3, Vi b4, Vi b5, Vi b6, Vi b7, Vi b8, Vi b9, Vi b10, Vi b11, .slice r bl.length dn, .slice s yl.length dm, Vi b14, Vi c0, Vi c1]] w fun e w' => e = .returned (Vi (fstN (eCr a0 a1 a2 a3 a4 a5 a6 a7 a8 a9 a10 a11 a14 al zl b0 b1 b2 b3 b4 b5 b6 b7 b8 b9 b10 b11 b14 bl yl c0 c1) 13)) ∧ Below w.heap.size w w' := by
 have HF : Hid (fstN (eCr a0 a1 a2 a3 a4 a5 a6 a7 a8 a9 a10 a11 a14 al zl b0 b1 b2 b3 b4 b5 b6 b7 b8 b9 b10 b11 b14 bl yl c0 c1) 13 = Zao [Zao [Zao [0, fstN (eAx a0 a1 a2 a3 a4 a5 a6 a7 a8 a9 a10 a11 a14 al zl) 6], fstN (eAx b0 b1 b2 b3 b4 b5 b6 b7 b8 b9 b10 b11 b14 bl yl) 6], Zcj c0 c1]) := Zab (first_13 _ _ _ _ (fun k hk => by unfold eCr; rw [if_pos hk]) (fun k hk => by unfold eCr; rw [if_neg (by omega), if_pos (by omega)]; congr 1; omega) rfl); have ga := fun u h1 h2 => axisMay_any a0 a1 a2 a3 a4 a5 a6 a7 a8 a9 a10 a11 a14 p q al zl cn cm hla.1 hla.2.1 u h1 h2; have gb := fun u h1 h2 => axisMay_any b0 b1 b2 b3 b4 b5 b6 b7 b8 b9 b10 b11 b14 r s bl yl dn dm hlb.1 hlb.2.1 u h1 h2; have HLA := Zab hla.2.2.2; have HLB := Zab hlb.2.2.2; have HC0 : Hid (CrH (w.alloc (.cells #[Vi a0, Vi a1, Vi a2, Vi a3, Vi a4, Vi a5, Vi a6, Vi a7, Vi a8, Vi a9, Vi a10, Vi a11, .slice p al.length cn, .slice q zl.length cm, Vi a14, Vi b0, Vi b1, Vi b2, Vi b3, Vi b4, Vi b5, Vi b6, Vi b7, Vi b8, Vi b9, Vi b10, Vi b11, .slice r bl.length dn, .slice s yl.length dm, Vi b14, Vi c0, Vi c1] 29)) w.heap.size [Vi a0, Vi a1, Vi a2, Vi a3, Vi a4, Vi a5, Vi a6, Vi a7, Vi a8, Vi a9, Vi a10, Vi a11, .slice p al.length cn, .slice q zl.length cm, Vi a14, Vi b0, Vi b1, Vi b2, Vi b3, Vi b4, Vi b5, Vi b6, Vi b7, Vi b8, Vi b9, Vi b10, Vi b11, .slice r bl.length dn, .slice s yl.length dm, Vi b14, Vi c0, Vi c1]) := Zab (World.alloc_heap_new w _); have HB0 : Hid (Below w.heap.size w (w.alloc (.cells #[Vi a0, Vi a1, Vi a2, Vi a3, Vi a4, Vi a5, Vi a6, Vi a7, Vi a8, Vi a9, Vi a10, Vi a11, .slice p al.length cn, .slice q zl.length cm, Vi a14, Vi b0, Vi b1, Vi b2, Vi b3, Vi b4, Vi b5, Vi b6, Vi b7, Vi b8, Vi b9, Vi b10, Vi b11, .slice r bl.length dn, .slice s yl.length dm, Vi b14, Vi c0, Vi c1] 29))) := Zab (Zaa _ _); have g16 := ruleMay_any c0 c1; generalize fstN (eCr a0 a1 a2 a3 a4 a5 a6 a7 a8 a9 a10 a11 a14 al zl b0 b1 b2 b3 b4 b5 b6 b7 b8 b9 b10 b11 b14 bl yl c0 c1) 13 = res at *; generalize fstN (eAx a0 a1 a2 a3 a4 a5 a6 a7 a8 a9 a10 a11 a14 al zl) 6 = xa at *; generalize fstN (eAx b0 b1 b2 b3 b4 b5 b6 b7 b8 b9 b10 b11 b14 bl yl) 6 = xb at *; generalize Zcj c0 c1 = xc at *; clear hla hlb
 go_enter Tryz.func41, Tryz.ntmps41
 go_wp2_with fail; obtain ⟨w0, hw0⟩ : ∃ w0, w.alloc (.cells #[Vi a0, Vi a1, Vi a2, Vi a3, Vi a4, Vi a5, Vi a6, Vi a7, Vi a8, Vi a9, Vi a10, Vi a11, .slice p al.length cn, .slice q zl.length cm, Vi a14, Vi b0, Vi b1, Vi b2, Vi b3, Vi b4, Vi b5, Vi b6, Vi b7, Vi b8, Vi b9, Vi b10, Vi b11, .slice r bl.length dn, .slice s yl.length dm, Vi b14, Vi c0, Vi c1] 29) = w0 := ⟨_, rfl⟩; rw [hw0] at HC0 HB0 ⊢; clear hw0; refine wp_loop_rounds 3 ?_; rw [rounds_succ]
 go_wp2_with (first
  | (refine Zft _ rfl ?_; refine wpList_load_mid rfl 26 (.tmp 12) rfl w.heap.size 0 rfl [Vi a0, Vi a1, Vi a2, Vi a3, Vi a4, Vi a5, Vi a6, Vi a7, Vi a8, Vi a9, Vi a10, Vi a11, .slice p al.length cn, .slice q zl.length cm, Vi a14] _ (Zhs (n := 15) HC0.out.range 0) Tryz.underlying26 rfl infoA ?_)
  | (go_at_call 86; refine Sb (ga _ (HLA.out.1.later HB0.out) (HLA.out.2.later HB0.out)) fun w1 hb1 => ?_; have HC1 := Zab (HC0.out.later hb1); have HB1 := Zab (Zac HB0.out hb1); clear hb1)
  | (go_at_call 13; refine Sb (first_b _ _ _ _) fun w2 hq => ?_; have HC2 := Zab (HC1.out.later hq); have HB2 := Zab (Zac HB1.out hq); clear hq))
 rw [rounds_succ]
 go_wp2_with (first
  | (refine Zft _ rfl ?_; refine wpList_load_mid rfl 26 (.tmp 12) rfl w.heap.size 15 rfl [Vi b0, Vi b1, Vi b2, Vi b3, Vi b4, Vi b5, Vi b6, Vi b7, Vi b8, Vi b9, Vi b10, Vi b11, .slice r bl.length dn, .slice s yl.length dm, Vi b14] _ (Zhs (n := 15) HC2.out.range 15) Tryz.underlying26 rfl infoA ?_)
  | (go_at_call 86; refine Sb (gb _ (HLB.out.1.later HB2.out) (HLB.out.2.later HB2.out)) fun w3 hb3 => ?_; have HC3 := Zab (HC2.out.later hb3); have HB3 := Zab (Zac HB2.out hb3); clear hb3)
  | (go_at_call 13; refine Sb (first_b _ _ _ _) fun w4 hq => ?_; have HC4 := Zab (HC3.out.later hq); have HB4 := Zab (Zac HB3.out hq); clear hq))
 have k30 : w4.cell? (Ad w.heap.size 30) = some (Vi c0) := by have := HC4.out.range 30 _ rfl; rwa [Nat.zero_add] at this
 have k31 : w4.cell? (Ad w.heap.size 31) = some (Vi c1) := by have := HC4.out.range 31 _ rfl; rwa [Nat.zero_add] at this
 rw [rounds_succ]
 go_wp2_with (first
  | (go_at_call 87; refine Sb (g16 _) fun w5 hb5 => ?_; have HB5 := Zab (Zac HB4.out hb5); clear hb5)
  | (go_at_call 13; refine Sb (first_b _ _ _ _) fun w6 hq => ?_; have HB6 := Zab (Zac HB5.out hq); clear hq))
 go_ret; exact ⟨by rw [HF.out]; rfl, HB6.out⟩
theorem craftMay_f (C : CR) (w : World) (hl : CrL w C) : Calls Tryz.prog 41 #[.agg (crL C).toArray] w fun e w' => e = .returned (Vi (crE C)) ∧ Below w.heap.size w w' :=
 craftMay_any (C.a 0 0) (C.a 0 1) (C.a 0 2) (C.a 0 3) (C.a 0 4) (C.a 0 5) (C.a 0 6) (C.a 0 7) (C.a 0 8) (C.a 0 9) (C.a 0 10) (C.a 0 11) (C.a 0 14) (C.p 0) (C.q 0) (C.al 0) (C.zl 0) (C.cn 0) (C.cm 0) (C.a 1 0) (C.a 1 1) (C.a 1 2) (C.a 1 3) (C.a 1 4) (C.a 1 5) (C.a 1 6) (C.a 1 7) (C.a 1 8) (C.a 1 9) (C.a 1 10) (C.a 1 11) (C.a 1 14) (C.p 1) (C.q 1) (C.al 1) (C.zl 1) (C.cn 1) (C.cm 1) C.c0 C.c1 w (hl 0 (by omega)) (hl 1 (by omega))
theorem ffirst2 (X : Nat) (x y : Int) (w : World) (h : w.heap[X]? = some (.cells [Vi x, Vi y].toArray 44 (0, 0))) : Calls Tryz.prog 13 #[.slice (some (Ad X 0)) 2 2] w fun e w' => e = .returned (Vi (Zao [x, y])) ∧ Below w.heap.size w w' :=
 have k : Blk 44 w X [Vi x, Vi y] := h
 (first_two X 2 x y w (k.cell (j := 0) rfl).1 (k.cell (j := 1) rfl).1).mono (by rintro e w' ⟨rfl, rfl⟩; exact ⟨rfl, Below.refl _ _⟩)
def fl0 (C : CR) (l : List Ft) (ss : List Stp) : Int := Zao [crE C, if 20 < l.length ∨ 300 < ss.length then 2 else 0]
def fl1 (C : CR) (l : List Ft) (ss : List Stp) : Nat → Int
 | 0 => fl0 C l ss
 | k + 1 => if fl1 C l ss k = 0 then ftE C (ftAt l k) else fl1 C l ss k
def fl2 (C : CR) (l : List Ft) (ss : List Stp) : Nat → Int
 | 0 => fl1 C l ss l.length
 | k + 1 => if fl2 C l ss k = 0 then stpE C (stAt ss k) else fl2 C l ss k
def fmE' (C : CR) (l : List Ft) (ss : List Stp) : Int := fl2 C l ss ss.length
theorem Zib {C : CR} {l : List Ft} {ss : List Stp} {k : Nat} (h : fl1 C l ss k ≠ 0) : ∀ m, k ≤ m → fl1 C l ss m = fl1 C l ss k
 | 0, hm => by
  obtain rfl : k = 0 := by omega
  rfl
 | m + 1, hm => by
  by_cases e : k = m + 1
  · rw [e]
  · rw [fl1, Zib h m (by omega), if_neg h]
theorem Zia {C : CR} {l : List Ft} {ss : List Stp} {k : Nat} (h : fl2 C l ss k ≠ 0) : ∀ m, k ≤ m → fl2 C l ss m = fl2 C l ss k
 | 0, hm => by
  obtain rfl : k = 0 := by omega
  rfl
 | m + 1, hm => by
  by_cases e : k = m + 1
  · rw [e]
  · rw [fl2, Zia h m (by omega), if_neg h]
theorem fl0_zero {C : CR} {l : List Ft} {ss : List Stp} (h : fl0 C l ss = 0) : crE C = 0 ∧ l.length ≤ 20 ∧ ss.length ≤ 300 := by
 unfold fl0 at h
 by_cases h1 : crE C = 0
 · rw [h1] at h
   by_cases h2 : 20 < l.length ∨ 300 < ss.length
   · rw [if_pos h2] at h; simp [Zao] at h
   · omega
 · simp [Zao, h1] at h
theorem fl1_zero {C : CR} {l : List Ft} {ss : List Stp} {k : Nat} (h : fl1 C l ss k = 0) : ∀ m, m ≤ k → fl1 C l ss m = 0 := fun m hm => by
 by_cases e : fl1 C l ss m = 0
 · exact e
 · rw [← h, Zib e k hm]
theorem fl2_zero {C : CR} {l : List Ft} {ss : List Stp} {k : Nat} (h : fl2 C l ss k = 0) : ∀ m, m ≤ k → fl2 C l ss m = 0 := fun m hm => by
 by_cases e : fl2 C l ss m = 0
 · exact e
 · rw [← h, Zia e k hm]
structure FlOK (C : CR) (l : List Ft) (ss : List Stp) : Prop where
 cr : crE C = 0
 nl : l.length ≤ 20
 ns : ss.length ≤ 300
 ft : ∀ k, k < l.length → FtOK C (ftAt l k)
 st : ∀ k, k < ss.length → SA C (stAt ss k)
theorem fmE_ok {C : CR} {l : List Ft} {ss : List Stp} (h : fmE' C l ss = 0) : FlOK C l ss := by
 have h1 : fl1 C l ss l.length = 0 := fl2_zero h 0 (by omega); have h0 := fl0_zero (show fl0 C l ss = 0 from fl1_zero h1 0 (by omega)); refine ⟨h0.1, h0.2.1, h0.2.2, fun k hk => ?_, fun k hk => ?_⟩
 · have a := fl1_zero h1 (k + 1) (by omega); rw [fl1, if_pos (fl1_zero h1 k (by omega))] at a
   unfold ftE at a
   split at a
   · rename_i e; exact ftB_ok e
   · cases a
 · have a := fl2_zero h (k + 1) (by omega); rw [fl2, if_pos (fl2_zero h k (by omega))] at a
   unfold stpE at a
   split at a
   · rename_i e; exact stpU_ok e
   · cases a
theorem flightMay_any (C : CR) (pf : Option Addr) (cf : Nat) (l : List Ft) (ps : Option Addr) (cs : Nat) (ss : List Stp) (hml : l.length ≤ 9223372036854775807) (hms : ss.length ≤ 9223372036854775807) (w : World) (hcr : CrL w C) (hF : Fts w pf l) (hS : Sts w ps ss) :
 Calls Tryz.prog 25 #[.agg (crL C).toArray, .agg #[.slice pf l.length cf, .slice ps ss.length cs]] w fun e w' => e = .returned (Vi (fmE' C l ss)) ∧ Below w.heap.size w w' := by
 have HCM := Zab (fun u (h : Below w.heap.size w u) => craftMay_f C u (hcr.later h)); have HFT := Zab (fun u (h : Below w.heap.size w u) => hF.later h); have HST := Zab (fun u (h : Below w.heap.size w u) => hS.later h); have HK := Zab ((Blk.new w 29 (crL C)).later (Zaa (w.alloc (.cells (crL C).toArray 29)) (.cells #[.slice pf l.length cf, .slice ps ss.length cs] 67))); have HF : Hid (Blk 67 ((w.alloc (.cells (crL C).toArray 29)).alloc (.cells #[.slice pf l.length cf, .slice ps ss.length cs] 67)) (w.heap.size + 1) [.slice pf l.length cf, .slice ps ss.length cs]) := Zab (by have h := Blk.new (w.alloc (.cells (crL C).toArray 29)) 67 [.slice pf l.length cf, .slice ps ss.length cs]; rw [World.size_alloc] at h; exact h); have HB0 := Zab (Zac (Zaa w (.cells (crL C).toArray 29)) (Zaa (w.alloc (.cells (crL C).toArray 29)) (.cells #[.slice pf l.length cf, .slice ps ss.length cs] 67))); clear hcr hF hS
 go_enter Tryz.func25, Tryz.ntmps25
 go_upto_region 1 with fail; generalize (w.alloc (.cells (crL C).toArray 29)).alloc (.cells #[.slice pf l.length cf, .slice ps ss.length cs] 67) = v0 at *; generalize w.heap.size + 1 = QF at HF ⊢; generalize hQK : w.heap.size = QK at HK ⊢; clear hQK; have xf := (HF.out.cell (j := 0) rfl).1; have xs := (HF.out.cell (j := 1) rfl).1; have HKR := Zab HK.out.range; have hcm := fun u (h : Below v0.heap.size v0 u) => HCM.out u (Zac HB0.out h)
 by_cases h1 : (20 : Int) < (l.length : Int)
 · have hwh := Zba 2; have HE : Hid (fl0 C l ss = Zao [crE C, 2]) := Zab (by unfold fl0; rw [if_pos (by omega)])
   have HFM : Hid (fl0 C l ss ≠ 0 ∧ fmE' C l ss = fl0 C l ss) := Zab (by
    have hne : fl0 C l ss ≠ 0 := fun e => by have := fl0_zero e; omega
    have h1 : fl1 C l ss l.length = fl0 C l ss := Zib (k := 0) hne l.length (by omega); have h2 : fl2 C l ss ss.length = fl2 C l ss 0 := Zia (k := 0) (by show fl1 C l ss l.length ≠ 0; rw [h1]; exact hne) ss.length (by omega)
    exact ⟨hne, h2.trans h1⟩)
   refine Cs [8, 9, 10, 11, 12, 13, 14, 15, 16, 17, 18, 19, 20, 21, 22, 5] ?_; refine Cl (x := .tmp 2) 0 8 [] (fun y w _ u hSw => ⟨Zae HKR.out hSw, rfl⟩) Tryz.underlying29 Zbd ?_; refine Cc 1 9 [0] (fun y w h _ => hcm _ h) ?_; refine Cp 2 10 [] ?_; refine Cq (fun _ h => cell_later h xf) 3 11 [2] ?_; refine Cp 4 12 [3] ?_; refine Cp 5 13 [4] ?_; refine Cp 6 14 [5] ?_; refine Cz 7 15 [6] ?_ (hw := fun y w hF => Zbc (congrArg some hF.1)); refine Cz 8 16 [6] ?_ (hw := fun y w hF => Zbc (congrArg some hF.1)); refine Cz 9 17 [6] ?_ (hw := fun y w hF => Zbc (congrArg some hF.1)); refine Cz 10 18 [6] ?_ (hw := fun y w hF => Zbc (congrArg some hF.1)); refine Cp 11 19 [6, 10] ?_; refine Cc 12 20 [11] (fun y w h _ => Zgp (hwh _)) ?_; refine Cbs (z := [Vi (crE C), Vi 2]) (t := 44) (n := 2) 13 21 [1, 12] ?_; refine Cg 14 22 13 21 (fun X w _ hX => ffirst2 X (crE C) 2 w hX) ?_; refine Cp 15 5 [14] ?_; refine Ce (fun y u1 hB hf => ?_); have HS1 := Zab hB; clear hB hf; go_simp; have hB := HS1.out; clear HS1; generalize u1 = v2 at hB ⊢; rw [← HE.out]; have HX : Hid (fmE' C l ss = fl0 C l ss) := Zab HFM.out.2; have hne := HFM.out.1; clear HE hwh HFM; generalize fl0 C l ss = x at *; generalize y 21 = y21 at *; refine Zbh (by assumption) ?_; have HBW := Zab (Zac HB0.out hB); replace HF := Zab (HF.out.later hB); clear hB xf xs; have xf := (HF.out.cell (j := 0) rfl).1; have xs := (HF.out.cell (j := 1) rfl).1
   go_upto_region 3 with fail; refine wp_loop_rounds 1 ?_; rw [rounds_succ]
   go_upto_region 7 with fail
   all_goals (refine wp_loop_rounds 1 ?_; rw [rounds_succ]; go_wp2_with fail)
   all_goals (go_ret; exact ⟨by rw [HX.out]; rfl, HBW.out⟩)
 by_cases h2 : (300 : Int) < (ss.length : Int)
 · have hwh := Zba 2; have HE : Hid (fl0 C l ss = Zao [crE C, 2]) := Zab (by unfold fl0; rw [if_pos (by omega)])
   have HFM : Hid (fl0 C l ss ≠ 0 ∧ fmE' C l ss = fl0 C l ss) := Zab (by
    have hne : fl0 C l ss ≠ 0 := fun e => by have := fl0_zero e; omega
    have h1 : fl1 C l ss l.length = fl0 C l ss := Zib (k := 0) hne l.length (by omega); have h2 : fl2 C l ss ss.length = fl2 C l ss 0 := Zia (k := 0) (by show fl1 C l ss l.length ≠ 0; rw [h1]; exact hne) ss.length (by omega)
    exact ⟨hne, h2.trans h1⟩)
   refine Cs [8, 9, 10, 11, 12, 13, 14, 15, 16, 17, 18, 19, 20, 21, 22, 5] ?_; refine Cl (x := .tmp 2) 0 8 [] (fun y w _ u hSw => ⟨Zae HKR.out hSw, rfl⟩) Tryz.underlying29 Zbd ?_; refine Cc 1 9 [0] (fun y w h _ => hcm _ h) ?_; refine Cp 2 10 [] ?_; refine Cq (fun _ h => cell_later h xf) 3 11 [2] ?_; refine Cp 4 12 [3] ?_; refine Cp 5 13 [4] ?_; refine Cp 6 14 [5] ?_; refine Cp 7 15 [6] ?_ (hw := fun y w hF => Zaj (congrArg some hF.1)); refine Cq (fun _ h => cell_later h xs) 8 16 [7, 6] ?_ (hw := fun y w hF => Zaj (congrArg some hF.2.1)); refine Cp 9 17 [8, 6] ?_ (hw := fun y w hF => Zaj (congrArg some hF.2.1)); refine Cp 10 18 [9, 6] ?_ (hw := fun y w hF => Zaj (congrArg some hF.2.1)); refine Cp 11 19 [6, 10] ?_; refine Cc 12 20 [11] (fun y w h _ => Zgp (hwh _)) ?_; refine Cbs (z := [Vi (crE C), Vi 2]) (t := 44) (n := 2) 13 21 [1, 12] ?_; refine Cg 14 22 13 21 (fun X w _ hX => ffirst2 X (crE C) 2 w hX) ?_; refine Cp 15 5 [14] ?_; refine Ce (fun y u1 hB hf => ?_); have HS1 := Zab hB; clear hB hf; go_simp; have hB := HS1.out; clear HS1; generalize u1 = v2 at hB ⊢; rw [← HE.out]; have HX : Hid (fmE' C l ss = fl0 C l ss) := Zab HFM.out.2; have hne := HFM.out.1; clear HE hwh HFM; generalize fl0 C l ss = x at *; generalize y 21 = y21 at *; refine Zbh (by assumption) ?_; have HBW := Zab (Zac HB0.out hB); replace HF := Zab (HF.out.later hB); clear hB xf xs; have xf := (HF.out.cell (j := 0) rfl).1; have xs := (HF.out.cell (j := 1) rfl).1
   go_upto_region 3 with fail; refine wp_loop_rounds 1 ?_; rw [rounds_succ]
   go_upto_region 7 with fail
   all_goals (refine wp_loop_rounds 1 ?_; rw [rounds_succ]; go_wp2_with fail)
   all_goals (go_ret; exact ⟨by rw [HX.out]; rfl, HBW.out⟩)
 have hwh := Zbp 2; have HE : Hid (fl0 C l ss = Zao [crE C, 0]) := Zab (by unfold fl0; rw [if_neg (by omega)]); refine Cs [8, 9, 10, 11, 12, 13, 14, 15, 16, 17, 18, 19, 20, 21, 22, 5] ?_; refine Cl (x := .tmp 2) 0 8 [] (fun y w _ u hSw => ⟨Zae HKR.out hSw, rfl⟩) Tryz.underlying29 Zbd ?_; refine Cc 1 9 [0] (fun y w h _ => hcm _ h) ?_; refine Cp 2 10 [] ?_; refine Cq (fun _ h => cell_later h xf) 3 11 [2] ?_; refine Cp 4 12 [3] ?_; refine Cp 5 13 [4] ?_; refine Cp 6 14 [5] ?_; refine Cp 7 15 [6] ?_ (hw := fun y w hF => Zaj (congrArg some hF.1)); refine Cq (fun _ h => cell_later h xs) 8 16 [7, 6] ?_ (hw := fun y w hF => Zaj (congrArg some hF.2.1)); refine Cp 9 17 [8, 6] ?_ (hw := fun y w hF => Zaj (congrArg some hF.2.1)); refine Cp 10 18 [9, 6] ?_ (hw := fun y w hF => Zaj (congrArg some hF.2.1)); refine Cp 11 19 [6, 10] ?_; refine Cc 12 20 [11] (fun y w h _ => Zgp (hwh _)) ?_; refine Cbs (z := [Vi (crE C), Vi 0]) (t := 44) (n := 2) 13 21 [1, 12] ?_; refine Cg 14 22 13 21 (fun X w _ hX => ffirst2 X (crE C) 0 w hX) ?_; refine Cp 15 5 [14] ?_; refine Ce (fun y u1 hB hf => ?_); have HS1 := Zab hB; clear hB hf; go_simp; have hB := HS1.out; clear HS1; generalize u1 = v2 at hB ⊢; rw [← HE.out]; have HE0 : Hid (fl0 C l ss = fl1 C l ss 0) := Zab rfl; rw [HE0.out]; clear HE hwh HE0 h1 h2 hcm HKR xf xs; generalize y 21 = y21 at *; refine Zbh (by assumption) ?_; replace HB0 := Zab (Zac HB0.out hB); replace HF := Zab (HF.out.later hB); replace HK := Zab (HK.out.later hB); clear hB
 go_upto_region 3 with fail
 go_loopw [5, 6] (fun fe ix wr => ∃ k : Nat, k ≤ l.length ∧ ix = Vi k ∧ fe = Vi (fl1 C l ss k) ∧ Blk 67 wr QF [.slice pf l.length cf, .slice ps ss.length cs] ∧ Blk 29 wr QK (crL C) ∧ Below w.heap.size w wr) (fun _ ix _ => l.length - (intOf ix).toNat)
 case atStart => exact ⟨0, by omega, rfl, rfl, HF.out, HK.out, HB0.out⟩
 case round =>
  clear HF HK HB0; obtain ⟨k, hk, rfl, rfl, hff, hkk, hbw⟩ := hrel; have xf := (hff.cell (j := 0) rfl).1; have xs := (hff.cell (j := 1) rfl).1
  have k0 : (0 : Int) ≤ (k : Int) := by omega
  by_cases hgo : k < l.length ∧ fl1 C l ss k = 0
  · obtain ⟨hlt, he⟩ := hgo
    have k1 : (k : Int) < (l.length : Int) := by omega
    have HN : Hid (fl1 C l ss (k + 1) = ftE C (ftAt l k)) := Zab (by rw [fl1, if_pos he]); obtain ⟨b, off, rfl, hr⟩ := (HFT.out wr hbw).at hlt; have hfm := faultMay_any C (ftAt l k); rw [he]; clear he
    go_upto_region 5 with fail; refine Cs [34, 35, 36, 37, 38, 39, 40, 5] ?_; refine Cl (x := .tmp 2) 0 34 [] (fun y w _ u hSw => ⟨Zae hkk.range hSw, rfl⟩) Tryz.underlying29 Zbd ?_; refine Cp 1 35 [] ?_; refine Cq (fun _ h => cell_later h xf) 2 36 [1] ?_; refine Cp 3 37 [] ?_; refine Cp 4 38 [2, 3] ?_; refine Cl (x := .tmp 38) 5 39 [4] (fun y w hF u hSw => ⟨Zae hr hSw, hF.1⟩) Tryz.underlying73 infoFt ?_; refine Cc 6 40 [0, 5] (fun y w h _ => hfm _) ?_; refine Cp 7 5 [6] ?_; refine Ce (fun y u1 hB hf => ?_); have HS1 := Zab hB; clear hB hf; go_simp; have hB := HS1.out; clear HS1; generalize u1 = v2 at hB ⊢; refine Zbh (by assumption) ?_; have HFF := Zab (hff.later hB); have HKK := Zab (hkk.later hB); have HBW := Zab (Zac hbw hB); clear hff hkk hbw hB xf xs hr hfm; go_wp2_with fail; go_roundw
    case rel => exact ⟨k + 1, by omega, by go_num, by rw [HN.out], HFF.out, HKK.out, HBW.out⟩
    case measure => simp [intOf]; omega
  · have HX1 : Hid (fl1 C l ss k = fl2 C l ss 0) := Zab (by
     show fl1 C l ss k = fl1 C l ss l.length
     by_cases e : fl1 C l ss k = 0
     · obtain rfl : k = l.length := by omega
       rfl
     · exact (Zib e l.length hk).symm)
    have HFF := Zab hff; have HKK := Zab hkk; have HBW := Zab hbw; have hne : k < l.length → ¬ fl1 C l ss k = 0 := fun h e => hgo ⟨h, e⟩; clear hff hkk hbw hgo; generalize fl1 C l ss k = e1 at *
    by_cases hlt : (k : Int) < (l.length : Int)
    all_goals (
     (try have hnz := hne (by omega)); clear hne
     go_upto_region 7 with fail; rw [HX1.out]
     go_loopw [5, 7] (fun fe ix wr => ∃ k : Nat, k ≤ ss.length ∧ ix = Vi k ∧ fe = Vi (fl2 C l ss k) ∧ Blk 67 wr QF [.slice pf l.length cf, .slice ps ss.length cs] ∧ Blk 29 wr QK (crL C) ∧ Below w.heap.size w wr) (fun _ ix _ => ss.length - (intOf ix).toNat)
     case atStart => exact ⟨0, by omega, rfl, rfl, HFF.out, HKK.out, HBW.out⟩
     case round =>
      clear HFF HKK HBW; obtain ⟨m, hm, rfl, rfl, hff, hkk, hbw⟩ := hrel; rename World => wq; have xs := (hff.cell (j := 1) rfl).1
      have m0 : (0 : Int) ≤ (m : Int) := by omega
      by_cases hgo : m < ss.length ∧ fl2 C l ss m = 0
      · obtain ⟨hl2, he⟩ := hgo
        have m1 : (m : Int) < (ss.length : Int) := by omega
        have HN : Hid (fl2 C l ss (m + 1) = stpE C (stAt ss m)) := Zab (by rw [fl2, if_pos he]); have hc := (fl0_zero (show fl0 C l ss = 0 from fl1_zero (show fl1 C l ss l.length = 0 from fl2_zero he 0 (by omega)) 0 (by omega))).1; have hfm := stepMay_any C (stAt ss m) (fun i hi => (Zeb hc hi).2); obtain ⟨b, off, rfl, hr⟩ := (HST.out wq hbw).at hl2; rw [he]; clear he hc
        go_upto_region 9 with fail; refine Cs [52, 53, 54, 55, 56, 57, 58, 5] ?_; refine Cl (x := .tmp 2) 0 52 [] (fun y w _ u hSw => ⟨Zae hkk.range hSw, rfl⟩) Tryz.underlying29 Zbd ?_; refine Cp 1 53 [] ?_; refine Cq (fun _ h => cell_later h xs) 2 54 [1] ?_; refine Cp 3 55 [] ?_; refine Cp 4 56 [2, 3] ?_; refine Cl (x := .tmp 56) 5 57 [4] (fun y w hF u hSw => ⟨Zae hr hSw, hF.1⟩) Tryz.underlying78 infoStp ?_; refine Cc 6 58 [0, 5] (fun y w h _ => hfm _) ?_; refine Cp 7 5 [6] ?_; refine Ce (fun y u1 hB hf => ?_); have HS1 := Zab hB; clear hB hf; go_simp; have hB := HS1.out; clear HS1; generalize u1 = v2 at hB ⊢; refine Zbh (by assumption) ?_; have HFF := Zab (hff.later hB); have HKK := Zab (hkk.later hB); have HBW := Zab (Zac hbw hB); clear hff hkk hbw hB xs hr hfm; go_wp2_with fail; go_roundw
        case rel => exact ⟨m + 1, by omega, by go_num, by rw [HN.out], HFF.out, HKK.out, HBW.out⟩
        case measure => simp [intOf]; omega
      · have HX2 : Hid (fmE' C l ss = fl2 C l ss m) := Zab (by
         show fl2 C l ss ss.length = fl2 C l ss m
         by_cases e : fl2 C l ss m = 0
         · obtain rfl : m = ss.length := by omega
           rfl
         · exact Zia e ss.length hm)
        have HBW := Zab hbw; have hne : m < ss.length → ¬ fl2 C l ss m = 0 := fun h e => hgo ⟨h, e⟩; clear hkk hbw hgo; generalize fl2 C l ss m = e2 at *
        by_cases hl2 : (m : Int) < (ss.length : Int)
        all_goals (
         (try have hnz2 := hne (by omega)); clear hne; go_wp2_with fail; go_ret
         exact ⟨by rw [HX2.out]; rfl, HBW.out⟩))
end Go.Proofs.YtnfdfiholcelaaaGreatDoor
