
import Derived.Test.YtnfdfiholcelaaaGreatDoorJe00
import Derived.Test.YtnfdfiholcelaaaGreatDoorJe16
import Derived.Test.YtnfdfiholcelaaaGreatDoorJe17
import Derived.Test.YtnfdfiholcelaaaGreatDoorJe18
import Derived.Test.YtnfdfiholcelaaaGreatDoorJe19
import Derived.Test.YtnfdfiholcelaaaGreatDoorJe20
set_option maxRecDepth 100000
set_option maxHeartbeats 20000000
namespace Go.Proofs.YtnfdfiholcelaaaGreatDoor
open Go.RowKit Plain Tryz
theorem told_ok (L H U B M : Int) (a z : Option Addr) (ca cz : Nat) (al zl : List Int) (A D W k p v n q : Int) (want got : Int) (hm : al.length ≤ 9223372036854775807) (hn : zl.length ≤ 9223372036854775807) (hca : al.length ≤ ca) (h0 : hoE L H U B M al zl A D W k n q = 0) (w : World) (ha : Lst w a al) (hz : Lst w z zl) :
 Calls prog 173 #[.agg #[Vi L, Vi H, Vi U, Vi B, Vi M, .slice a al.length ca, .slice z zl.length cz], .agg #[Vi A, Vi D, Vi W], .agg #[Vi k, Vi p, Vi v, Vi n, Vi q], Vi want, Vi got] w fun e w' => e = .returned (.tuple #[.agg #[Vi A, Vi (toD B M A D p n want got), Vi W], .nilIface]) ∧ Below w.heap.size w w' := by
 have hck := fun u (h : Below w.heap.size w u) => Zfn L H U B M a z ca cz al zl A D W k p v n q hm hn hca u (ha.later h) (hz.later h); have HX := Zab (HW.new w L H U B M a z al.length zl.length ca cz A D W k p v n q); simp only [h0, Zaq] at hck; obtain ⟨e1, e2, e3⟩ := Zfw h0; obtain ⟨e4, e5, e6, _⟩ := Zed e1; obtain ⟨⟨l0, l1⟩, ⟨u0, u1⟩, _, _, m0, m1⟩ := Zee e4; obtain ⟨⟨a0, a1⟩, ⟨d0, d1⟩, _, _⟩ := stB_true e2; clear h0 e1 e2 e3 e4 e6 ha hz
 unfold toD
 by_cases hn : n = 0
 · by_cases hg : got = want
   · rw [if_pos ⟨hn, hg⟩]
     have hg' : (got == want) = true := by simpa using hg
     have hn' : (n == 0) = true := by simpa using hn
     clear hg hn; have hpl := holdPull_ex A p B (by omega) (by omega); have ppb := pullI_bd B A p; generalize pullI B A p = pp at *; obtain ⟨pp0, pp1⟩ := ppb; have hm2 := clipMove_ex L H U B M a z al.length zl.length ca cz (D + pp) m0 m1; generalize Zar (D + pp) (-M) M = y at *; have v2 := Wr (D + pp)
     go_enter func173, ntmps173
     go_upto_region 5 with (go_at_call 215; refine Sb (hck _ HX.out.2.2.2.2.2.2) fun w1 hb => ?_; have HX := Zab (HX.out.later hb); obtain ⟨⟨q0, q1, q2, q3, q4, q5, q6⟩, ⟨s0, s1, s2⟩, ⟨r0, r1, r2, r3, r4⟩, ⟨p0, p1, p2⟩, ⟨g0, g1, g2⟩, ⟨f0, f1, f2⟩, hB⟩ := HX.out; clear hB hb); have hB := HX.out.2.2.2.2.2.2; have Z := Zab (show (w1.cell? (Ad w.heap.size 0) = some (Vi L) ∧ w1.cell? (Ad w.heap.size 1) = some (Vi H) ∧ w1.cell? (Ad w.heap.size 2) = some (Vi U) ∧ w1.cell? (Ad w.heap.size 3) = some (Vi B) ∧ w1.cell? (Ad w.heap.size 4) = some (Vi M) ∧ w1.cell? (Ad w.heap.size 5) = some (.slice a al.length ca) ∧ w1.cell? (Ad w.heap.size 6) = some (.slice z zl.length cz)) ∧ (w1.cell? (Ad (w.heap.size + 1) 0) = some (Vi A) ∧ w1.cell? (Ad (w.heap.size + 1 + 1) 1) = some (Vi p)) ∧ Below w.heap.size w w1 from ⟨⟨q0, q1, q2, q3, q4, q5, q6⟩, ⟨s0, r1⟩, hB⟩); have x1 := Zaf (Zaa w1 (.cells #[Vi L, Vi H, Vi U, Vi B, Vi M, .slice a al.length ca, .slice z zl.length cz] 107)) s1; have x2 := Zbj (Zaa w1 (.cells #[Vi L, Vi H, Vi U, Vi B, Vi M, .slice a al.length ca, .slice z zl.length cz] 107)) s1 g1; clear hB; apply htwice
     · intro hk; refine wp_region_held_drew (S := fun u => (u.cell? (Ad w.heap.size 0) = some (Vi L) ∧ u.cell? (Ad w.heap.size 1) = some (Vi H) ∧ u.cell? (Ad w.heap.size 2) = some (Vi U) ∧ u.cell? (Ad w.heap.size 3) = some (Vi B) ∧ u.cell? (Ad w.heap.size 4) = some (Vi M) ∧ u.cell? (Ad w.heap.size 5) = some (.slice a al.length ca) ∧ u.cell? (Ad w.heap.size 6) = some (.slice z zl.length cz)) ∧ (u.cell? (Ad (w.heap.size + 1) 0) = some (Vi A) ∧ u.cell? (Ad (w.heap.size + 1 + 1) 1) = some (Vi p)) ∧ Below w.heap.size w u) (by kernel_rfl) (by first | exact Zbq (Below.refl _ _).drew Z.out | (repeat (with_reducible first | exact Z.out | refine Zbq (Below.refl _ _).drew ?_ | refine Zbq (Zaa _ _) ?_ | refine Zem ?_))) (fun hHeld => ?_); refine Tp 0 (by assumption) ?_; (try simp only [Act.put]); refine Tp 1 (by assumption) ?_; (try simp only [Act.put]); refine Tp 3 (by assumption) ?_; (try simp only [Act.put]); refine Tp 4 (by assumption) ?_; (try simp only [Act.put]); refine Tp 5 (by assumption) ?_; (try simp only [Act.put]); refine Tp 6 (by assumption) ?_; (try simp only [Act.put]); refine Tp 7 (by assumption) ?_; (try simp only [Act.put]); refine Tp 8 (by assumption) ?_; (try simp only [Act.put]); refine Rb 2 9 (fun K hK => ?_) (fun K hK => ?_)
       · go_simp; refine hK.out _ _ (by first | exact Zbq (Below.refl _ _).drew Z.out | (repeat (with_reducible first | exact Z.out | refine Zbq (Below.refl _ _).drew ?_ | refine Zbq (Zaa _ _) ?_ | refine Zem ?_))) (fun hHeld => ?_); clear hK K; (try simp only [Act.put]); refine Ra 9 (fun K hK => ?_); go_simp; refine Sm (hpl _) ?_; go_wp2_with fail; refine hK.out _ _ (by first | exact Zbq (Below.refl _ _).drew Z.out | (repeat (with_reducible first | exact Z.out | refine Zbq (Below.refl _ _).drew ?_ | refine Zbq (Zaa _ _) ?_ | refine Zem ?_))) (fun hHeld => ?_); clear hK K; (try simp only [Act.put]); refine Tp 10 (by assumption) ?_; (try simp only [Act.put]); refine Ra 11 (fun K hK => ?_); go_simp; refine Sm (hm2 _) ?_; go_wp2_with fail; refine hK.out _ _ (by first | exact Zbq (Below.refl _ _).drew Z.out | (repeat (with_reducible first | exact Z.out | refine Zbq (Below.refl _ _).drew ?_ | refine Zbq (Zaa _ _) ?_ | refine Zem ?_))) (fun hHeld => ?_); clear hK K; (try simp only [Act.put]); refine Tp 12 (by assumption) ?_; (try simp only [Act.put]); refine Ra 13 (fun K hK => ?_); go_simp; refine hK.out _ _ (by first | exact Zbq (Below.refl _ _).drew Z.out | (repeat (with_reducible first | exact Z.out | refine Zbq (Below.refl _ _).drew ?_ | refine Zbq (Zaa _ _) ?_ | refine Zem ?_))) (fun hHeld => ?_); clear hK K; (try simp only [Act.put]); refine wpAnyH_done (by kernel_rfl) ?_ _; exact hk
       · go_simp; refine Sm (hpl _) ?_; go_wp2_with fail; refine hK.out _ _ (by first | exact Zbq (Below.refl _ _).drew Z.out | (repeat (with_reducible first | exact Z.out | refine Zbq (Below.refl _ _).drew ?_ | refine Zbq (Zaa _ _) ?_ | refine Zem ?_))) (fun hHeld => ?_); clear hK K; (try simp only [Act.put]); refine Ra 2 (fun K hK => ?_); go_simp; refine hK.out _ _ (by first | exact Zbq (Below.refl _ _).drew Z.out | (repeat (with_reducible first | exact Z.out | refine Zbq (Below.refl _ _).drew ?_ | refine Zbq (Zaa _ _) ?_ | refine Zem ?_))) (fun hHeld => ?_); clear hK K; (try simp only [Act.put]); refine Tp 10 (by assumption) ?_; (try simp only [Act.put]); refine Ra 11 (fun K hK => ?_); go_simp; refine Sm (hm2 _) ?_; go_wp2_with fail; refine hK.out _ _ (by first | exact Zbq (Below.refl _ _).drew Z.out | (repeat (with_reducible first | exact Z.out | refine Zbq (Below.refl _ _).drew ?_ | refine Zbq (Zaa _ _) ?_ | refine Zem ?_))) (fun hHeld => ?_); clear hK K; (try simp only [Act.put]); refine Tp 12 (by assumption) ?_; (try simp only [Act.put]); refine Ra 13 (fun K hK => ?_); go_simp; refine hK.out _ _ (by first | exact Zbq (Below.refl _ _).drew Z.out | (repeat (with_reducible first | exact Z.out | refine Zbq (Below.refl _ _).drew ?_ | refine Zbq (Zaa _ _) ?_ | refine Zem ?_))) (fun hHeld => ?_); clear hK K; (try simp only [Act.put]); refine wpAnyH_done (by kernel_rfl) ?_ _; exact hk
     have HX3 := Zab ((((HX.out.later (Zaa _ (.cells #[Vi L, Vi H, Vi U, Vi B, Vi M, .slice a al.length ca, .slice z zl.length cz] 107))).setD y).later (Below.refl _ _).drew).later (Below.refl _ _).drew); generalize hw3 : World.drew (World.drew (World.setCell _ _ (Vi y))) = w3 at *; clear hw3 HX Z q0 q1 q2 q3 q4 q5 q6 s0 s1 s2 r0 r1 r2 r3 r4 p0 p1 p2 g0 g1 g2 f0 f1 f2 x1 x2; obtain ⟨⟨q0, q1, q2, q3, q4, q5, q6⟩, ⟨s0, s1, s2⟩, ⟨r0, r1, r2, r3, r4⟩, ⟨p0, p1, p2⟩, ⟨g0, g1, g2⟩, ⟨f0, f1, f2⟩, hB⟩ := HX3.out; go_wp2_with fail; refine bodyPost_ret (v := .tuple #[.agg #[Vi A, Vi y, Vi W], .nilIface]) ?_ rfl ⟨rfl, ((hB.setCell (by simp; omega) _).setCell (by simp; omega) _).setCell (by simp; omega) _⟩
     simp [results, results173, go_sem, p0, p1, p2]
   · rw [if_neg (fun h => hg h.2)]
     have hg' : (got == want) = false := by simpa using hg
     have hn' : (n == 0) = true := by simpa using hn
     clear hg hn
     go_enter func173, ntmps173
     go_wp2_with (go_at_call 215; refine Sb (hck _ HX.out.2.2.2.2.2.2) fun w1 hb => ?_; have HX := Zab (HX.out.later hb); obtain ⟨⟨q0, q1, q2, q3, q4, q5, q6⟩, ⟨s0, s1, s2⟩, ⟨r0, r1, r2, r3, r4⟩, ⟨p0, p1, p2⟩, ⟨g0, g1, g2⟩, ⟨f0, f1, f2⟩, hB⟩ := HX.out; clear hB hb); exact bodyPost_ret (v := .tuple #[.agg #[Vi A, Vi D, Vi W], .nilIface]) (by simp [results, results173, go_sem, p0, p1, p2]) rfl ⟨rfl, ((HX.out.2.2.2.2.2.2.setCell (by simp; omega) _).setCell (by simp; omega) _).setCell (by simp; omega) _⟩
 · rw [if_neg (fun h => hn h.1)]
   have hn' : (n == 0) = false := by simpa using hn
   clear hn
   go_enter func173, ntmps173
   go_wp2_with (go_at_call 215; refine Sb (hck _ HX.out.2.2.2.2.2.2) fun w1 hb => ?_; have HX := Zab (HX.out.later hb); obtain ⟨⟨q0, q1, q2, q3, q4, q5, q6⟩, ⟨s0, s1, s2⟩, ⟨r0, r1, r2, r3, r4⟩, ⟨p0, p1, p2⟩, ⟨g0, g1, g2⟩, ⟨f0, f1, f2⟩, hB⟩ := HX.out; clear hB hb); exact bodyPost_ret (v := .tuple #[.agg #[Vi A, Vi D, Vi W], .nilIface]) (by simp [results, results173, go_sem, p0, p1, p2]) rfl ⟨rfl, ((HX.out.2.2.2.2.2.2.setCell (by simp; omega) _).setCell (by simp; omega) _).setCell (by simp; omega) _⟩
theorem want_err (L H U B M : Int) (a z : Option Addr) (ca cz : Nat) (al zl : List Int) (A D W k p v n q : Int) (hm : al.length ≤ 9223372036854775807) (hn : zl.length ≤ 9223372036854775807) (hca : al.length ≤ ca) (h0 : hoE L H U B M al zl A D W k n q ≠ 0) (w : World) (ha : Lst w a al) (hz : Lst w z zl) :
 Calls prog 167 #[.agg #[Vi L, Vi H, Vi U, Vi B, Vi M, .slice a al.length ca, .slice z zl.length cz], .agg #[Vi A, Vi D, Vi W], .agg #[Vi k, Vi p, Vi v, Vi n, Vi q]] w fun e w' => e = .returned (.tuple #[Vi 0, .agg #[Vi 0, Vi 0, Vi 0], .iface 44 (Vi (hoE L H U B M al zl A D W k n q))]) ∧ Below w.heap.size w w' := by
 have hck := fun u (h : Below w.heap.size w u) => Zfn L H U B M a z ca cz al zl A D W k p v n q hm hn hca u (ha.later h) (hz.later h); have HX := Zab (HW.new w L H U B M a z al.length zl.length ca cz A D W k p v n q); simp only [Zbc h0] at hck; clear h0 ha hz; generalize hoE L H U B M al zl A D W k n q = E at *
 go_enter func167, ntmps167
 go_wp2_with (go_at_call 215; refine Sb (hck _ HX.out.2.2.2.2.2.2) fun w1 hb => ?_; have HX := Zab (HX.out.later hb); obtain ⟨⟨q0, q1, q2, q3, q4, q5, q6⟩, ⟨s0, s1, s2⟩, ⟨r0, r1, r2, r3, r4⟩, ⟨p0, p1, p2⟩, ⟨g0, g1, g2⟩, ⟨f0, f1, f2⟩, hB⟩ := HX.out; clear hB hb); exact bodyPost_ret (v := .tuple #[Vi 0, .agg #[Vi 0, Vi 0, Vi 0], .iface 44 (Vi E)]) (by simp [results, results167, go_sem, p0, p1, p2]) rfl ⟨rfl, ((HX.out.2.2.2.2.2.2.setCell (by simp; omega) _).setCell (by simp; omega) _).setCell (by simp; omega) _⟩
theorem want_ok (L H U B M : Int) (a z : Option Addr) (ca cz : Nat) (al zl : List Int) (A D W k p v n q : Int) (hm : al.length ≤ 9223372036854775807) (hn : zl.length ≤ 9223372036854775807) (hca : al.length ≤ ca) (h0 : hoE L H U B M al zl A D W k n q = 0) (w : World) (ha : Lst w a al) (hz : Lst w z zl) :
 Calls prog 167 #[.agg #[Vi L, Vi H, Vi U, Vi B, Vi M, .slice a al.length ca, .slice z zl.length cz], .agg #[Vi A, Vi D, Vi W], .agg #[Vi k, Vi p, Vi v, Vi n, Vi q]] w fun e w' => e = .returned (.tuple #[Vi (wX L H U M al zl A D W k p v n q), .agg #[Vi (wA L H U A W k p n), Vi (wD L H U M al zl A D W k p v n q), Vi n], .nilIface]) ∧ Below w.heap.size w w' := by
 have hck := fun u (h : Below w.heap.size w u) => Zfn L H U B M a z ca cz al zl A D W k p v n q hm hn hca u (ha.later h) (hz.later h); have HX := Zab (HW.new w L H U B M a z al.length zl.length ca cz A D W k p v n q); simp only [h0, Zaq] at hck; obtain ⟨e1, e2, e3⟩ := Zfw h0; obtain ⟨e4, e5, e6, _⟩ := Zed e1; obtain ⟨_, _, _, _, m0, m1⟩ := Zee e4; obtain ⟨⟨k0, k1⟩, ⟨n0, n3'⟩, _, _⟩ := asB_true e3; have hgd := Zgr n
 by_cases n1 : n ≤ 1
 · unfold wX wA wD; rw [if_pos n1, if_pos n1, if_pos n1]
   rw [show betw n 0 1 = true from Zbz n0 n1] at hgd; have hst := fun u (h : Below w.heap.size w u) => steer_ok L H U B M a z ca cz al zl A D W k p v n q hca h0 u (ha.later h) (hz.later h); clear h0 e1 e2 e3 e4 e6 ha hz; generalize wtI L H U M al zl A D W k p v n q = wt at *; generalize a2I L H U A W k p n = wa at *; generalize d2I L H U M al zl A D W k p v n q = wd at *
   go_enter func167, ntmps167
   go_wp2_with (first
    | (go_at_call 215; refine Sb (hck _ HX.out.2.2.2.2.2.2) fun w1 hb => ?_; have HX := Zab (HX.out.later hb); obtain ⟨⟨q0, q1, q2, q3, q4, q5, q6⟩, ⟨s0, s1, s2⟩, ⟨r0, r1, r2, r3, r4⟩, ⟨p0, p1, p2⟩, ⟨g0, g1, g2⟩, ⟨f0, f1, f2⟩, hB⟩ := HX.out; clear hB hb)
    | (go_at_call 216; refine Sm (hgd _) ?_)
    | (go_at_call 217; refine Sb (hst _ HX.out.2.2.2.2.2.2) fun w2 hb => ?_; have HX := Zab (HX.out.later hb); obtain ⟨⟨q0, q1, q2, q3, q4, q5, q6⟩, ⟨s0, s1, s2⟩, ⟨r0, r1, r2, r3, r4⟩, ⟨p0, p1, p2⟩, ⟨g0, g1, g2⟩, ⟨f0, f1, f2⟩, hB⟩ := HX.out; clear hB hb))
   exact bodyPost_ret (v := .tuple #[Vi wt, .agg #[Vi wa, Vi wd, Vi n], .nilIface]) (by simp [results, results167, go_sem, p0, p1, p2]) rfl ⟨rfl, ((HX.out.2.2.2.2.2.2.setCell (by simp; omega) _).setCell (by simp; omega) _).setCell (by simp; omega) _⟩
 · unfold wX wA wD; rw [if_neg n1, if_neg n1, if_neg n1]
   rw [show betw n 0 1 = false by unfold betw; simp; omega] at hgd; have hhu := holdHun_any k M k0 k1 (by omega) (by omega); clear h0 e1 e2 e3 e4 e6 ha hz; have GD : True := trivial
   by_cases n2 : n = 2
   · rw [if_pos n2]; subst n2; generalize hunI k M = hu at *
     go_enter func167, ntmps167
     go_upto_region 8 with (first
      | (go_at_call 215; refine Sb (hck _ HX.out.2.2.2.2.2.2) fun w1 hb => ?_; have HX := Zab (HX.out.later hb); obtain ⟨⟨q0, q1, q2, q3, q4, q5, q6⟩, ⟨s0, s1, s2⟩, ⟨r0, r1, r2, r3, r4⟩, ⟨p0, p1, p2⟩, ⟨g0, g1, g2⟩, ⟨f0, f1, f2⟩, hB⟩ := HX.out; clear hB hb)
      | (go_at_call 216; refine Sm (hgd _) ?_))
     have HX2 := Zab (HX.out.setW 2); clear HX; generalize hw2 : World.setCell _ _ (Vi _) = w2 at *; clear hw2 q0 q1 q2 q3 q4 q5 q6 s0 s1 s2 r0 r1 r2 r3 r4 p0 p1 p2 g0 g1 g2 f0 f1 f2; obtain ⟨⟨q0, q1, q2, q3, q4, q5, q6⟩, ⟨s0, s1, s2⟩, ⟨r0, r1, r2, r3, r4⟩, ⟨p0, p1, p2⟩, ⟨g0, g1, g2⟩, ⟨f0, f1, f2⟩, hB⟩ := HX2.out; have Z := Zab (show (w2.cell? (Ad w.heap.size 4) = some (Vi M) ∧ w2.cell? (Ad (w.heap.size + 1 + 1) 0) = some (Vi k)) ∧ (w2.cell? (Ad (w.heap.size + 1) 0) = some (Vi A) ∧ w2.cell? (Ad (w.heap.size + 1) 1) = some (Vi D) ∧ w2.cell? (Ad (w.heap.size + 1) 2) = some (Vi 2)) ∧ Below w.heap.size w w2 from ⟨⟨q4, r0⟩, ⟨s0, s1, s2⟩, hB⟩); clear hB q0 q1 q2 q3 q4 q5 q6 s0 s1 s2 r0 r1 r2 r3 r4 g0 g1 g2
     go_region_held3 (fun u => (u.cell? (Ad w.heap.size 4) = some (Vi M) ∧ u.cell? (Ad (w.heap.size + 1 + 1) 0) = some (Vi k)) ∧ (u.cell? (Ad (w.heap.size + 1) 0) = some (Vi A) ∧ u.cell? (Ad (w.heap.size + 1) 1) = some (Vi D) ∧ u.cell? (Ad (w.heap.size + 1) 2) = some (Vi 2)) ∧ Below w.heap.size w u)
      (first
       | (with_reducible assumption)
       | (with_reducible apply keepS2; with_reducible assumption; with_reducible assumption)
       | ((repeat (with_reducible first | exact Z.out | assumption | refine keepS2 (Below.refl _ _).drew ?_ | refine keepS2s ?_)); done))
      (first
       | (go_at_call 218; refine Sm (hhu _) ?_))
     all_goals
      rename_i hH
      have HB := Zab hH.2.2; clear hH; go_wp2_with fail; refine bodyPost_ret (v := .tuple #[Vi hu, .agg #[Vi A, Vi D, Vi 2], .nilIface]) ?_ rfl ⟨rfl, HB.out⟩
      simp [results, results167, go_sem, p0, p1, p2]
   · rw [if_neg n2]
     obtain rfl : n = 3 := by omega
     clear n1 n2 n0 n3' hhu
     go_enter func167, ntmps167
     go_upto_region 9 with (first
      | (go_at_call 215; refine Sb (hck _ HX.out.2.2.2.2.2.2) fun w1 hb => ?_; have HX := Zab (HX.out.later hb); obtain ⟨⟨q0, q1, q2, q3, q4, q5, q6⟩, ⟨s0, s1, s2⟩, ⟨r0, r1, r2, r3, r4⟩, ⟨p0, p1, p2⟩, ⟨g0, g1, g2⟩, ⟨f0, f1, f2⟩, hB⟩ := HX.out; clear hB hb)
      | (go_at_call 216; refine Sm (hgd _) ?_))
     have HX2 := Zab (HX.out.setW 3); clear HX; generalize hw2 : World.setCell _ _ (Vi _) = w2 at *; clear hw2 q0 q1 q2 q3 q4 q5 q6 s0 s1 s2 r0 r1 r2 r3 r4 p0 p1 p2 g0 g1 g2 f0 f1 f2; obtain ⟨⟨q0, q1, q2, q3, q4, q5, q6⟩, ⟨s0, s1, s2⟩, ⟨r0, r1, r2, r3, r4⟩, ⟨p0, p1, p2⟩, ⟨g0, g1, g2⟩, ⟨f0, f1, f2⟩, hB⟩ := HX2.out; have Z := Zab (show (w2.cell? (Ad w.heap.size 4) = some (Vi M) ∧ w2.cell? (Ad (w.heap.size + 1 + 1) 0) = some (Vi k)) ∧ (w2.cell? (Ad (w.heap.size + 1) 0) = some (Vi A) ∧ w2.cell? (Ad (w.heap.size + 1) 1) = some (Vi D) ∧ w2.cell? (Ad (w.heap.size + 1) 2) = some (Vi 3)) ∧ Below w.heap.size w w2 from ⟨⟨q4, r0⟩, ⟨s0, s1, s2⟩, hB⟩); clear hB q0 q1 q2 q3 q4 q5 q6 s0 s1 s2 r0 r1 r2 r3 r4 g0 g1 g2
     go_region_held3 (fun u => (u.cell? (Ad w.heap.size 4) = some (Vi M) ∧ u.cell? (Ad (w.heap.size + 1 + 1) 0) = some (Vi k)) ∧ (u.cell? (Ad (w.heap.size + 1) 0) = some (Vi A) ∧ u.cell? (Ad (w.heap.size + 1) 1) = some (Vi D) ∧ u.cell? (Ad (w.heap.size + 1) 2) = some (Vi 3)) ∧ Below w.heap.size w u)
      (first
       | (with_reducible assumption)
       | (with_reducible apply keepS2; with_reducible assumption; with_reducible assumption)
       | ((repeat (with_reducible first | exact Z.out | assumption | refine keepS2 (Below.refl _ _).drew ?_ | refine keepS2s ?_)); done))
      (fail)
     all_goals
      rename_i hH
      have HB := Zab hH.2.2; clear hH; go_wp2_with fail; refine bodyPost_ret (v := .tuple #[Vi 0, .agg #[Vi A, Vi D, Vi 3], .nilIface]) ?_ rfl ⟨rfl, HB.out⟩
      simp [results, results167, go_sem, p0, p1, p2]
theorem Zen : (prog.info? 38).map (·.size) = some 3 := by kernel_rfl
theorem infoP2 : (prog.info? 105).map (·.size) = some 2 := by kernel_rfl
theorem svL_putIs (x : Int) : ∀ (L : List Sv) (k : Nat), k < L.length → (svL L).set (k * 3) (Vi x) = svL (L.set k (x, (svAt L k).2))
 | [], _, h => by simp at h
 | s :: r, 0, _ => rfl
 | s :: r, k + 1, h => by
  have := svL_putIs x r k (by simpa using h); rw [show (k + 1) * 3 = k * 3 + 1 + 1 + 1 by omega]; simp only [svL, List.set_cons_succ, this]
  simp [svAt]
theorem FR.putIs {K : Nat} {w0 u : World} {B : Nat} {S : FS} {C : CR} {a : Option Addr} {cap : Nat} {l : List Rd} {sv : Nat → List Sv} {G : Nat → Nat} (h : FR K w0 u B S C a cap l sv G) {i k : Nat} (hi : i < 2) (hk : k < (sv i).length) (x : Int) : FR K w0 (u.setCell (Ad (G i) (k * 3)) (Vi x)) B S C a cap l (upd sv i ((sv i).set k (x, (svAt (sv i) k).2))) G := by
 have hs := h.servo i hi; have e : u.setCell (Ad (G i) (k * 3)) (Vi x) = u.setCells (G i) (k * 3) [Vi x] := rfl; rw [e]; refine ⟨Blk.farCells hs.2.2.2.2.1.symm _ _ _ h.blk, Zbs hs.2.2.2.2.2 _ _ _ h.rds, Zah _ _ _ h.low hs.2.2.2.1, h.base, h.far, fun j hj => ?_, h.two, h.many, fun b h1 h2 h3 h4 => (heap_far (show b ≠ G i by rcases (show i = 0 ∨ i = 1 by omega) with rfl | rfl <;> assumption) _ _ _).trans (h.oth b h1 h2 h3 h4)⟩; have hsj := h.servo j hj
 by_cases e : j = i
 · subst e; rw [Zbu]; exact ⟨hsj.1, by rw [List.length_set]; exact hsj.2.1, svL_putIs x (sv j) k hk ▸ Blk.setCells [Vi x] _ _ _ hsj.2.2.1, hsj.2.2.2⟩
 · rw [Zhb sv _ e]
   have hG : G j ≠ G i := by
    have := h.two
    rcases (show (j = 0 ∧ i = 1) ∨ (j = 1 ∧ i = 0) by omega) with ⟨rfl, rfl⟩ | ⟨rfl, rfl⟩
    · exact this
    · exact this.symm
   exact ⟨hsj.1, hsj.2.1, Blk.farCells hG _ _ _ hsj.2.2.1, hsj.2.2.2⟩
theorem plI_bd {T R S C : Int} {L : List Sv} (h : AllOk T R S C L) (s : Int) {k : Nat} (hk : k < L.length) : -2147483647 ≤ (plI T R L s).getD k 0 ∧ (plI T R L s).getD k 0 ≤ 2147483647 := by
 have g : ∀ (v s : Int) n k, k < n → (dlU T R L v s n).getD k 0 = dlI T R L v s k := by
  intro v s n
  induction n with
  | zero => intro k h; omega
  | succ n ih =>
   intro k h; rw [dlU, List.getD_eq_getElem?_getD]
   by_cases e : k = n
   · subst e; rw [List.getElem?_append_right (by rw [Zcg]; omega), Zcg]; simp
   · rw [List.getElem?_append_left (by rw [Zcg]; omega), ← List.getD_eq_getElem?_getD]; exact ih k (by omega)
 unfold plI
 rw [g _ _ _ _ hk]; have a := tk_bd h hk (levI T R L (smI T R L s))
 unfold dlI
 split <;> omega
theorem low_up {K : Nat} {wz w u : World} (h : Below K wz w) (hk : K ≤ w.heap.size) (hb : Below w.heap.size w u) : Below K wz u := h.trans (hb.mono hk)
theorem upd_sik0 (sv : Nat → List Sv) (i : Nat) (p : List Int) : upd sv i (sik (sv i) p 0) = sv := by
 funext j; rw [sik_zero]; unfold upd; split
 · rename_i h; rw [h]
 · rfl
theorem svL_get : ∀ (L : List Sv) (k : Nat), k < L.length → (svL L)[k * 3]? = some (Vi (svAt L k).1)
 | [], _, h => by simp at h
 | s :: r, 0, _ => rfl
 | s :: r, k + 1, h => by
  have := svL_get r k (by simpa using h); rw [show (k + 1) * 3 = k * 3 + 1 + 1 + 1 by omega]
  simpa [svL, svAt] using this
theorem sik_end (L : List Sv) (p : List Int) {k : Nat} (hk : k < L.length) : svAt (sik L p L.length) k = (p.getD k 0, (svAt L k).2) := by
 simp [sik, svAt, hk]
theorem ils_get {u : World} {g : Nat} {p : List Int} (h : ILs u (some (Ad g 0)) p) {k : Nat} (hk : k < p.length) : u.cell? (Ad g k) = some (Vi (p.getD k 0)) := by
 rcases h with h | ⟨b, off, h, hc⟩
 · subst h; simp at hk
 · simp only [Option.some.injEq, Addr.mk.injEq] at h; obtain ⟨rfl, rfl, _⟩ := h
   simpa using hc k hk
theorem ils_far {u : World} {g V j : Nat} {x : Value} {p : List Int} (hg : g ≠ V) (h : ILs u (some (Ad g 0)) p) : ILs (u.setCell (Ad V j) x) (some (Ad g 0)) p := by
 rcases h with h | ⟨b, off, h, hc⟩
 · exact .inl h
 · simp only [Option.some.injEq, Addr.mk.injEq] at h; obtain ⟨rfl, rfl, _⟩ := h; refine .inr ⟨g, 0, rfl, fun k hk => ?_⟩; rw [World.cell?_setCell_other _ _ _ _ (fun e => hg (congrArg Addr.block e).symm)]; exact hc k hk
theorem Blk.farCell {t : TypeId} {u : World} {V g j : Nat} {x : Value} {cs : List Value} (hV : V ≠ g) (h : Blk t u V cs) : Blk t (u.setCell (Ad g j) x) V cs := Blk.farCells hV [x] j u h
structure MvOK (K : Nat) (wz : World) (C : CR) (S : FS) (l : List Rd) (sv : Nat → List Sv) (i : Nat) : Prop where
 n1 : 1 ≤ (sv i).length
 n4 : (sv i).length ≤ 4
 m0 : (C.al i).length ≤ 9223372036854775807
 m1 : (C.zl i).length ≤ 9223372036854775807
 mc : (C.al i).length ≤ C.cn i
 line : ∀ u, Below K wz u → Lst u (C.p i) (C.al i) ∧ Lst u (C.q i) (C.zl i)
 ok : AllOk (C.a i 5) (C.a i 6) (C.a i 7) (C.a i 10) (sv i)
 h4 : 2 ≤ C.a i 4 ∧ C.a i 4 ≤ 4
 h5 : 1 ≤ C.a i 5 ∧ C.a i 5 ≤ 1000
 h3 : 0 ≤ C.a i 3 ∧ C.a i 3 ≤ 1000
 h7 : 0 ≤ C.a i 7 ∧ C.a i 7 ≤ 1000
 h6 : 1 ≤ C.a i 6 ∧ C.a i 6 ≤ 1000
 ho : hoE (C.a i 0) (C.a i 1) (C.a i 11) (C.a i 14) (moI C i) (C.al i) (C.zl i) (S.hd i).1 (S.hd i).2.1 (S.hd i).2.2 (skI l i) S.n (pvI C i (sv i)) = 0
 gm : gmE (C.a i 0) (C.a i 1) (C.a i 2) (puI C i) (moI C i) (raI C i) (pvI C i (sv i)) = 0
section
variable {K : Nat} {wz : World} {C : CR} {S : FS} {l : List Rd} {sv : Nat → List Sv} {i : Nat}
theorem MvOK.mo (h : MvOK K wz C S l sv i) : 1 ≤ moI C i ∧ moI C i ≤ 3000 := by
 have h4 := h.h4; have h5 := h.h5
 unfold moI
 exact ⟨by have := Int.mul_le_mul (show 1 ≤ C.a i 4 - 1 by omega) h5.1 (by omega) (by omega); omega, by have := Int.mul_le_mul (show C.a i 4 - 1 ≤ 3 by omega) h5.2 (by omega) (by omega); omega⟩
theorem MvOK.ra (h : MvOK K wz C S l sv i) : 1 ≤ raI C i ∧ raI C i ≤ 3000 := by
 have h4 := h.h4; have h6 := h.h6
 unfold raI
 exact ⟨by have := Int.mul_le_mul (show 1 ≤ C.a i 4 - 1 by omega) h6.1 (by omega) (by omega); omega, by have := Int.mul_le_mul (show C.a i 4 - 1 ≤ 3 by omega) h6.2 (by omega) (by omega); omega⟩
theorem MvOK.is (h : MvOK K wz C S l sv i) : ∀ k, k < (sv i).length → -2147483647 ≤ (svAt (sv i) k).1 ∧ (svAt (sv i) k).1 ≤ 2147483647 := fun k hk => by
 have a := Zas h.ok.1; have b := Zbg (h.ok.2 k hk)
 omega
theorem MvOK.bounds (h : MvOK K wz C S l sv i) (k p v : Int) (w : World) :
 Calls prog 169 #[.agg #[Vi (C.a i 0), Vi (C.a i 1), Vi (C.a i 2), Vi (puI C i), Vi (moI C i), Vi (raI C i)], .agg #[Vi k, Vi p, Vi v, Vi S.n, Vi (pvI C i (sv i))]] w fun e w' => e = .returned (.tuple #[.agg #[Vi (bdL C i p S.n (pvI C i (sv i))), Vi (bdH C i p S.n (pvI C i (sv i)))], .nilIface]) ∧ Below w.heap.size w w' := by
 have hm := h.mo; have hr := h.ra; have hp := Zbr (v := smU (sv i) (sv i).length) (show -moI C i ≤ moI C i by omega)
 cases hn : betw S.n 0 1
 · refine Sb (bounds_free _ _ _ _ _ _ k p v S.n (pvI C i (sv i)) hn ⟨by unfold pvI; omega, by unfold pvI; omega⟩ ⟨by omega, by omega⟩ w) fun w' hb => ?_; refine ⟨?_, hb⟩
   unfold bdL bdH
   rw [hn]
   rfl
 · refine (bounds_kept _ _ _ _ _ _ k p v S.n (pvI C i (sv i)) hn h.gm w).mono ?_; rintro e w' ⟨⟨x, y, rfl, hx, hy⟩, hb⟩; refine ⟨?_, hb⟩
   unfold bdL bdH
   rw [hn, if_pos rfl, if_pos rfl, hiI_is hx, hiI_is hy]
theorem MvOK.spread (h : MvOK K wz C S l sv i) (s : Int) (g : Nat) (ca : Nat) (w : World) (hv : VLs w (some (Ad g 0)) (sv i)) :
 Calls prog 171 #[.agg #[Vi (C.a i 5), Vi (C.a i 6), Vi (C.a i 7), Vi (C.a i 10)], .slice (some (Ad g 0)) (sv i).length ca, Vi s] w fun e w' => (∃ x cap, e = .returned (.tuple #[.slice (some (Ad x 0)) (sv i).length cap, .nilIface]) ∧ w.heap.size ≤ x ∧ ILs w' (some (Ad x 0)) (plI (C.a i 5) (C.a i 6) (sv i) s)) ∧ Below w.heap.size w w' :=
 spread_at (C.a i 5) (C.a i 6) (C.a i 7) (C.a i 10) s _ (sv i) (some (Ad g 0)) ca h.ok h.n1 h.n4 (levI_is (by have := h.h5; omega) (Zbr (v := s) (Zeb _ _ (sv i) (show -C.a i 5 ≤ C.a i 5 by have := h.h5; omega))).1) w hv
end
end Go.Proofs.YtnfdfiholcelaaaGreatDoor
