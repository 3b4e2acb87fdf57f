
import Derived.Test.YtnfdfiholcelaaaGreatDoorJa00
import Derived.Test.YtnfdfiholcelaaaGreatDoorJa06
set_option maxRecDepth 100000
set_option maxHeartbeats 20000000
namespace Go.Proofs.YtnfdfiholcelaaaGreatDoor
open Go.RowKit Plain
def vmnO (x y : Int) : Int := min x y
def vmxO (x y : Int) : Int := max x y
theorem vrun_min2 (ts : Array TypeId) (t : TypeId) (p q : Int) (w : World) : (Builtin.min_ ts t #[Vi p, Vi q]).run Tryz.prog w = .ok (Vi (vmnO p q)) w := by
 unfold vmnO; by_cases h : q < p
 · rw [Int.min_eq_right (by omega)]; simp [Builtin.min_, Builtin.min2, h]
 · rw [Int.min_eq_left (by omega)]; simp [Builtin.min_, Builtin.min2, h]
theorem vrun_max2 (ts : Array TypeId) (t : TypeId) (p q : Int) (w : World) : (Builtin.max_ ts t #[Vi p, Vi q]).run Tryz.prog w = .ok (Vi (vmxO p q)) w := by
 unfold vmxO; by_cases h : p < q
 · rw [Int.max_eq_right (by omega)]; simp [Builtin.max_, Builtin.max2, h]
 · rw [Int.max_eq_left (by omega)]; simp [Builtin.max_, Builtin.max2, h]
theorem Zeh (ts : Array TypeId) (t : TypeId) (p q : Int) (w : World) : (Builtin.min_ ts t #[Vi p, Vi q]).run Tryz.prog w = .ok (Vi (mnI p q)) w := by
 rw [vrun_min2, show vmnO p q = mnI p q by unfold vmnO mnI; split <;> omega]
theorem vrun_max (ts : Array TypeId) (t : TypeId) (p q : Int) (w : World) : (Builtin.max_ ts t #[Vi p, Vi q]).run Tryz.prog w = .ok (Vi (mxI p q)) w := by
 rw [vrun_max2, show vmxO p q = mxI p q by unfold vmxO mxI; split <;> omega]
theorem Zgo (b : Int) : badI b false = mnI (b + 1) 10 := rfl
theorem Zhc (b c : Int) : outB b false c = decide (c ≤ mnI (b + 1) 10) := by rw [outB, Zgo]; rfl
theorem voted_any (b : Nat → Int) (o : Nat → Bool) (l m c : Int) (t : Nat → Bool) (s : Nat → Int) (hf : Fit t o s) (hb : ∀ k, k < 3 → 0 ≤ b k ∧ b k ≤ 10) (hl0 : -1000000 ≤ l) (hl1 : l ≤ 1000000) (hm0 : 0 ≤ m) (hm1 : m ≤ 1000000) (w : World) :
 Calls Tryz.prog 92 #[.agg #[Vi (b 0), Vi (b 1), Vi (b 2), .bool (o 0), .bool (o 1), .bool (o 2), Vi l], .agg #[Vi m, Vi c], .agg #[.bool (t 0), Vi (s 0), .bool (t 1), Vi (s 1), .bool (t 2), Vi (s 2)]] w
  fun e w' => e = .returned (.tuple #[.agg #[Vi (nbI t o s b (votI t o s l) m 0), Vi (nbI t o s b (votI t o s l) m 1), Vi (nbI t o s b (votI t o s l) m 2), .bool (noB t o s b (votI t o s l) m c 0), .bool (noB t o s b (votI t o s l) m c 1), .bool (noB t o s b (votI t o s l) m c 2), Vi (votI t o s l)], .agg #[Vi (votI t o s l), Vi (Zby t o 3)]]) ∧ Below w.heap.size w w' := by
 have HX := hide (st_new w b o l m c t s); have HF := hide hf; have HBD := hide hb; clear hf hb
 go_enter Tryz.func92, Tryz.ntmps92
 go_wp2
 go_loopw [8, 9, 10, 11, 12] (fun n1 n2 n3 n4 i wr => ∃ k : Nat, k ≤ 3 ∧ i = Vi k ∧ n1 = Vi (Zby t o k) ∧ n2 = Vi (Zco t o s k) ∧ n3 = Vi (Zfa t o s k) ∧ n4 = Vi (sumU t o s k) ∧ StAt w wr b o l m c t s) (fun _ _ _ _ i _ => 3 - (intOf i).toNat)
 case atStart => exact ⟨0, by omega, rfl, rfl, rfl, rfl, rfl, HX.out⟩
 case round =>
  clear HX; obtain ⟨k, hk, rfl, rfl, rfl, rfl, rfl, hst⟩ := hrel
  by_cases hlt : k < 3
  · have c1 := hst.2.2.1.there k hlt; have c2 := hst.2.2.1.is k hlt; have c3 := hst.1.1.out k hlt; have d1 := manyU_bd t o k; have d2 := sumU_bd HF.out k (by omega); have hcnt := HF.out k hlt; have HS := hide (show Zby t o (k + 1) = (if cntB t o k then Zby t o k + 1 else Zby t o k) ∧ sumU t o s (k + 1) = (if cntB t o k then sumU t o s k + s k else sumU t o s k) ∧ Zco t o s (k + 1) = (if cntB t o k then mnI (Zco t o s k) (s k) else Zco t o s k) ∧ Zfa t o s (k + 1) = (if cntB t o k then mxI (Zfa t o s k) (s k) else Zfa t o s k) from ⟨rfl, rfl, rfl, rfl⟩)
    unfold cntB at hcnt HS
    have ST := hide hst; clear hst
    have i0 : (0 : Int) ≤ (k : Int) := by omega
    have i1 : (k : Int) < 3 := by omega
    generalize Zby t o k = n at *; generalize sumU t o s k = q at *; generalize Zco t o s k = p1 at *; generalize Zfa t o s k = p2 at *
    cases h1 : t k
    · rw [h1] at c1; rw [h1] at HS; clear hcnt; go_wp2; go_roundw
      case rel => exact ⟨k + 1, by omega, by go_num, by rw [HS.out.1]; rfl, by rw [HS.out.2.2.1]; rfl, by rw [HS.out.2.2.2]; rfl, by rw [HS.out.2.1]; rfl, ST.out⟩
      case measure => simp [intOf]; omega
    · rw [h1] at c1
      cases h2 : o k
      · have hs := hcnt (by simp [h1, h2]); rw [h2] at c3; rw [h1, h2] at HS; clear hcnt; have hmn := Zeh; have hmx := vrun_max
        have hw1 : IntKind.i64.wrap (q + s k) = q + s k := by rw [IntKind.wrap_i64]; omega
        generalize s k = z at *; go_wp2
        go_region
        all_goals
         go_wp2; go_roundw
         (case rel => exact ⟨k + 1, by omega, by go_num, by rw [HS.out.1]; rfl, by rw [HS.out.2.2.1]; rfl, by rw [HS.out.2.2.2]; rfl, by rw [HS.out.2.1]; rfl, ST.out.later (Below.refl _ _).drew⟩)
         (case measure => simp [intOf]; omega)
      · rw [h2] at c3; rw [h1, h2] at HS; clear hcnt; go_wp2; go_roundw
        case rel => exact ⟨k + 1, by omega, by go_num, by rw [HS.out.1]; rfl, by rw [HS.out.2.2.1]; rfl, by rw [HS.out.2.2.2]; rfl, by rw [HS.out.2.1]; rfl, ST.out⟩
        case measure => simp [intOf]; omega
  · have e : k = 3 := by omega
    subst e; have d2 := sumU_bd HF.out 3 (by omega); have d3 := leastU_bd HF.out 3 (by omega); have d4 := mostU_bd HF.out 3 (by omega); have d1 := manyU_bd t o 3; have hv := votI_bd HF.out hl0 hl1; have HV := hide (show votI t o s l = (if Zby t o 3 = 1 then sumU t o s 3 else if Zby t o 3 = 2 then sumU t o s 3 / 2 else if Zby t o 3 = 3 then sumU t o s 3 - Zco t o s 3 - Zfa t o s 3 else l) from rfl); rw [show ((3 : Nat) : Int) = 3 from rfl]; obtain ⟨v, hv'⟩ : ∃ v, v = votI t o s l := ⟨_, rfl⟩; rw [← hv'] at hv HV; have HVE := hide hv'; clear hv'; have ST := hide hst; obtain ⟨q0, q1, q2, q3, q4, q5, q6⟩ := hst.1.1; clear hst
    rcases (show Zby t o 3 = 0 ∨ Zby t o 3 = 1 ∨ Zby t o 3 = 2 ∨ Zby t o 3 = 3 by omega) with hn | hn | hn | hn
    · rw [hn, if_neg (by decide), if_neg (by decide), if_neg (by decide)] at HV; rw [hn]; go_wp2; have ST2 := hide (ST.out.later (Zaf wr (.cells #[Vi l, Vi 0] 187))); have R2 : Hid (RuleAt (wr.alloc (.cells #[Vi l, Vi 0] 187)) wr.heap.size l 0) := ⟨by simp [go_sem], by simp [go_sem]⟩
      have NE : Hid (w.heap.size ≠ wr.heap.size) := by have := ST.out.lt; show w.heap.size ≠ wr.heap.size; omega
      have LT := hide ST.out.lt; generalize (wr.alloc (.cells #[Vi l, Vi 0] 187)) = w5 at *; generalize hV : wr.heap.size = V at *; clear hV ST q0 q1 q2 q3 q4 q5 q6; obtain ⟨n, hn3⟩ : ∃ n : Int, n = 0 := ⟨_, rfl⟩; rw [← HV.out, ← hn3] at R2
      go_loopw [14] (fun i wr2 => ∃ k : Nat, k ≤ 3 ∧ i = Vi k ∧ StAt w wr2 (mixI k (nbI t o s b v m) b) (mixB k (noB t o s b v m c) o) l m c t s ∧ RuleAt wr2 V v n) (fun i _ => 3 - (intOf i).toNat)
      case atStart => exact ⟨0, by omega, rfl, by rw [Zhd, Zhe]; exact ST2.out, R2.out⟩
      case round =>
       clear ST2 R2
       rename_i w6 _
       obtain ⟨k, hk, rfl, hst, hvt⟩ := hrel
       by_cases hlt : k < 3
       · have c1 := hst.2.2.1.there k hlt; have c2 := hst.2.2.1.is k hlt; have c3 := hst.1.1.out k hlt; have c4 := hst.1.1.bad k hlt; have r0 := hst.2.1.1; have r1 := hst.2.1.2; have z1 := hst.1.2.1 k (by omega); have z2 := hst.1.2.1 (3 + k) (by omega); have vt := hvt.1; rw [Zdf] at c3; rw [Zfb] at c4; have bd := HBD.out k hlt
         have i0 : (0 : Int) ≤ (k : Int) := by omega
         have i1 : (k : Int) < 3 := by omega
         have HN := hide (show nbI t o s b v m k = (if o k then b k else badI (b k) (Zfk (t k) (s k) v m)) ∧ noB t o s b v m c k = (if o k then true else outB (b k) (Zfk (t k) (s k) v m) c) from ⟨rfl, rfl⟩); have STK := hide hst; have RK := hide hvt; clear hst hvt
         cases h2 : o k
         · rw [h2] at c3; rw [h2] at HN
           cases h1 : t k
           · rw [h1] at c1; rw [h1] at HN; have hmn := Zeh; have hbad : Hid (nbI t o s b v m k = mnI (b k + 1) 10) := HN.out.1.trans (Zgo _); have hout : Hid (noB t o s b v m c k = decide (c ≤ mnI (b k + 1) 10)) := HN.out.2.trans (Zhc _ _); generalize b k = x at *; go_wp2; go_quiet (fail); go_wp2; generalize mnI (x + 1) 10 = y at *
             go_region
             all_goals
              go_wp2; go_roundw
              (case rel =>
               refine ⟨k + 1, by omega, by go_num, ?_, ?_⟩
               · rw [Zbj, Zbk, hbad.out, hout.out]; exact ((((STK.out.later (below_drewN (Below.refl _ _) _)).setBad k hlt _).setOut k hlt _).later (Below.refl _ _).drew)
               · exact (((RK.out.later (below_drewN (Below.refl _ _) _)).set NE.out).set NE.out).later (Below.refl _ _).drew)
              (case measure => simp [intOf]; omega)
           · rw [h1] at c1; rw [h1] at HN; have hbt := Zcj (s k) (v - m) (v + m); have hfn : Hid (Zfk true (s k) v m = (decide (v - m ≤ s k) && decide (s k ≤ v + m))) := rfl; generalize (decide (v - m ≤ s k) && decide (s k ≤ v + m)) = g at *
             have hw1 : IntKind.i64.wrap (v - m) = v - m := by rw [IntKind.wrap_i64]; omega
             have hw2 : IntKind.i64.wrap (v + m) = v + m := by rw [IntKind.wrap_i64]; omega
             cases g
             · have hmn := Zeh; have hbad : Hid (nbI t o s b v m k = mnI (b k + 1) 10) := HN.out.1.trans (by rw [hfn.out]; exact Zgo _); have hout : Hid (noB t o s b v m c k = decide (c ≤ mnI (b k + 1) 10)) := HN.out.2.trans (by rw [hfn.out]; exact Zhc _ _); generalize b k = x at *; generalize s k = z at *; go_wp2; go_quiet ((go_at_call 38; exact Calls.quiet_of_same (hbt _))); go_wp2; generalize mnI (x + 1) 10 = y at *
               go_region
               all_goals
                go_wp2; go_roundw
                (case rel =>
                 refine ⟨k + 1, by omega, by go_num, ?_, ?_⟩
                 · rw [Zbj, Zbk, hbad.out, hout.out]; exact ((((STK.out.later (below_drewN (Below.refl _ _) _)).setBad k hlt _).setOut k hlt _).later (Below.refl _ _).drew)
                 · exact (((RK.out.later (below_drewN (Below.refl _ _) _)).set NE.out).set NE.out).later (Below.refl _ _).drew)
                (case measure => simp [intOf]; omega)
             · have hbad : Hid (nbI t o s b v m k = 0) := HN.out.1.trans (by rw [hfn.out]; rfl); have hout : Hid (noB t o s b v m c k = mixB k (noB t o s b v m c) o k) := HN.out.2.trans (by rw [hfn.out, Zdf, h2]; rfl); generalize b k = x at *; generalize s k = z at *; go_wp2; go_quiet ((go_at_call 38; exact Calls.quiet_of_same (hbt _))); go_wp2; go_roundw
               case rel =>
                refine ⟨k + 1, by omega, by go_num, ?_, ?_⟩
                · rw [Zbj, Zbk, hbad.out, hout.out, Zdd]; exact (STK.out.later (below_drewN (Below.refl _ _) _)).setBad k hlt _
                · exact (RK.out.later (below_drewN (Below.refl _ _) _)).set NE.out
               case measure => simp [intOf]; omega
         · rw [h2] at c3; rw [h2] at HN; have hbad : Hid (nbI t o s b v m k = mixI k (nbI t o s b v m) b k) := HN.out.1.trans (by rw [Zfb]; rfl); have hout : Hid (noB t o s b v m c k = mixB k (noB t o s b v m c) o k) := HN.out.2.trans (by rw [Zdf, h2]; rfl); go_wp2; go_roundw
           case rel =>
            refine ⟨k + 1, by omega, by go_num, ?_, RK.out⟩; rw [Zbj, Zbk, hbad.out, hout.out, Zgx, Zdd]; exact STK.out
           case measure => simp [intOf]; omega
       · have e : k = 3 := by omega
         subst e; have HS3 := hide (hst.setLast v); have q6 := hst.1.1.2.2.2.2.2.2; have z6 := hst.1.2.1 6 (by omega); have vt := hvt.1; have HV3 := hide (hvt.set (q := 6) (v := Vi v) NE.out); clear hst hvt
         go_upto_region 26 with fail; generalize hw7 : (World.setCell _ _ (Vi v)) = w7 at *; clear hw7 q6 z6 vt; obtain ⟨⟨⟨q0, q1, q2, q3, q4, q5, q6⟩, _⟩, _, _, ⟨⟨s0, s1, s2, s3, s4, s5, s6⟩, s7, _⟩, ⟨⟨p0, p1⟩, p2, _⟩, hB⟩ := HS3.out; have f0 := s7 0 (by omega); have f1 := s7 1 (by omega); have f2 := s7 2 (by omega); have f3 := s7 3 (by omega); have f4 := s7 4 (by omega); have f5 := s7 5 (by omega); have f6 := s7 6 (by omega); have g0 := p2 0 (by omega); have g1 := p2 1 (by omega); obtain ⟨v0, v1⟩ := HV3.out; have HB3 := hide hB; clear hB s7 p2; rw [show mixI 3 (nbI t o s b v m) b 0 = nbI t o s b v m 0 from rfl] at q0; rw [show mixI 3 (nbI t o s b v m) b 1 = nbI t o s b v m 1 from rfl] at q1; rw [show mixI 3 (nbI t o s b v m) b 2 = nbI t o s b v m 2 from rfl] at q2; rw [show mixB 3 (noB t o s b v m c) o 0 = noB t o s b v m c 0 from rfl] at q3; rw [show mixB 3 (noB t o s b v m c) o 1 = noB t o s b v m c 1 from rfl] at q4; rw [show mixB 3 (noB t o s b v m c) o 2 = noB t o s b v m c 2 from rfl] at q5; rw [show zI 0 = 0 from rfl] at s0; rw [show zI 1 = 0 from rfl] at s1; rw [show zI 2 = 0 from rfl] at s2; rw [show zB 0 = false from rfl] at s3; rw [show zB 1 = false from rfl] at s4; rw [show zB 2 = false from rfl] at s5; have EV := hide (show (v = votI t o s l) ∧ n = Zby t o 3 from ⟨HVE.out, by rw [hn3, hn]⟩); obtain ⟨y0, y1, y2, x0, x1, x2, EY⟩ : ∃ y0 y1 y2 x0 x1 x2, Hid (nbI t o s b v m 0 = y0 ∧ nbI t o s b v m 1 = y1 ∧ nbI t o s b v m 2 = y2 ∧ noB t o s b v m c 0 = x0 ∧ noB t o s b v m c 1 = x1 ∧ noB t o s b v m c 2 = x2) := ⟨_, _, _, _, _, _, rfl, rfl, rfl, rfl, rfl, rfl⟩; rw [EY.out.1] at q0; rw [EY.out.2.1] at q1; rw [EY.out.2.2.1] at q2; rw [EY.out.2.2.2.1] at q3; rw [EY.out.2.2.2.2.1] at q4; rw [EY.out.2.2.2.2.2] at q5; have lt := LT.out
         have n1 : ¬ (w.heap.size + 1 + 1 + 1 = V) := by omega
         have n2 : ¬ (V = w.heap.size + 1 + 1 + 1) := by omega
         have n3 : ¬ (w.heap.size + 1 + 1 + 1 + 1 = V) := by omega
         have n4 : ¬ (V = w.heap.size + 1 + 1 + 1 + 1) := by omega
         clear lt
         go_region
         all_goals
          go_wp2; have an := hide (ansW_at HS3.out.2.2.2.1.1 HS3.out.2.2.2.2.1.1 (by omega) y0 y1 y2 x0 x1 x2 v v n); have bl := hide (Zfl HS3.out.2.2.2.2.2 (B := w.heap.size + 1 + 1 + 1) (C := w.heap.size + 1 + 1 + 1 + 1) (by omega) (by omega) y0 y1 y2 x0 x1 x2 v v n); rw [hn3] at an bl
          change bodyPost _ _ _ Exit.ret _ (ansW w7 (w.heap.size + 1 + 1 + 1) (w.heap.size + 1 + 1 + 1 + 1) y0 y1 y2 x0 x1 x2 v v 0).drew
          generalize (ansW w7 (w.heap.size + 1 + 1 + 1) (w.heap.size + 1 + 1 + 1 + 1) y0 y1 y2 x0 x1 x2 v v 0) = w9 at *; obtain ⟨⟨c0, c1, c2, c3, c4, c5, c6⟩, d0, d1⟩ := an.out; exact bodyPost_ret (v := .tuple #[.agg #[Vi y0, Vi y1, Vi y2, .bool x0, .bool x1, .bool x2, Vi v], .agg #[Vi v, Vi 0]]) (by simp [results, Tryz.results92, go_sem, c0, c1, c2, c3, c4, c5, c6, d0, d1]) rfl ⟨by rw [← EV.out.1, ← EV.out.2, EY.out.1, EY.out.2.1, EY.out.2.2.1, EY.out.2.2.2.1, EY.out.2.2.2.2.1, EY.out.2.2.2.2.2, hn3], bl.out.drew⟩
    · rw [hn, if_pos rfl] at HV; rw [hn]; go_wp2; have ST2 := hide (ST.out.later (Zaf wr (.cells #[Vi (sumU t o s 3), Vi 1] 187))); have R2 : Hid (RuleAt (wr.alloc (.cells #[Vi (sumU t o s 3), Vi 1] 187)) wr.heap.size (sumU t o s 3) 1) := ⟨by simp [go_sem], by simp [go_sem]⟩
      have NE : Hid (w.heap.size ≠ wr.heap.size) := by have := ST.out.lt; show w.heap.size ≠ wr.heap.size; omega
      have LT := hide ST.out.lt; generalize (wr.alloc (.cells #[Vi (sumU t o s 3), Vi 1] 187)) = w5 at *; generalize hV : wr.heap.size = V at *; clear hV ST q0 q1 q2 q3 q4 q5 q6; obtain ⟨n, hn3⟩ : ∃ n : Int, n = 1 := ⟨_, rfl⟩; rw [← HV.out, ← hn3] at R2
      go_loopw [14] (fun i wr2 => ∃ k : Nat, k ≤ 3 ∧ i = Vi k ∧ StAt w wr2 (mixI k (nbI t o s b v m) b) (mixB k (noB t o s b v m c) o) l m c t s ∧ RuleAt wr2 V v n) (fun i _ => 3 - (intOf i).toNat)
      case atStart => exact ⟨0, by omega, rfl, by rw [Zhd, Zhe]; exact ST2.out, R2.out⟩
      case round =>
       clear ST2 R2
       rename_i w6 _
       obtain ⟨k, hk, rfl, hst, hvt⟩ := hrel
       by_cases hlt : k < 3
       · have c1 := hst.2.2.1.there k hlt; have c2 := hst.2.2.1.is k hlt; have c3 := hst.1.1.out k hlt; have c4 := hst.1.1.bad k hlt; have r0 := hst.2.1.1; have r1 := hst.2.1.2; have z1 := hst.1.2.1 k (by omega); have z2 := hst.1.2.1 (3 + k) (by omega); have vt := hvt.1; rw [Zdf] at c3; rw [Zfb] at c4; have bd := HBD.out k hlt
         have i0 : (0 : Int) ≤ (k : Int) := by omega
         have i1 : (k : Int) < 3 := by omega
         have HN := hide (show nbI t o s b v m k = (if o k then b k else badI (b k) (Zfk (t k) (s k) v m)) ∧ noB t o s b v m c k = (if o k then true else outB (b k) (Zfk (t k) (s k) v m) c) from ⟨rfl, rfl⟩); have STK := hide hst; have RK := hide hvt; clear hst hvt
         cases h2 : o k
         · rw [h2] at c3; rw [h2] at HN
           cases h1 : t k
           · rw [h1] at c1; rw [h1] at HN; have hmn := Zeh; have hbad : Hid (nbI t o s b v m k = mnI (b k + 1) 10) := HN.out.1.trans (Zgo _); have hout : Hid (noB t o s b v m c k = decide (c ≤ mnI (b k + 1) 10)) := HN.out.2.trans (Zhc _ _); generalize b k = x at *; go_wp2; go_quiet (fail); go_wp2; generalize mnI (x + 1) 10 = y at *
             go_region
             all_goals
              go_wp2; go_roundw
              (case rel =>
               refine ⟨k + 1, by omega, by go_num, ?_, ?_⟩
               · rw [Zbj, Zbk, hbad.out, hout.out]; exact ((((STK.out.later (below_drewN (Below.refl _ _) _)).setBad k hlt _).setOut k hlt _).later (Below.refl _ _).drew)
               · exact (((RK.out.later (below_drewN (Below.refl _ _) _)).set NE.out).set NE.out).later (Below.refl _ _).drew)
              (case measure => simp [intOf]; omega)
           · rw [h1] at c1; rw [h1] at HN; have hbt := Zcj (s k) (v - m) (v + m); have hfn : Hid (Zfk true (s k) v m = (decide (v - m ≤ s k) && decide (s k ≤ v + m))) := rfl; generalize (decide (v - m ≤ s k) && decide (s k ≤ v + m)) = g at *
             have hw1 : IntKind.i64.wrap (v - m) = v - m := by rw [IntKind.wrap_i64]; omega
             have hw2 : IntKind.i64.wrap (v + m) = v + m := by rw [IntKind.wrap_i64]; omega
             cases g
             · have hmn := Zeh; have hbad : Hid (nbI t o s b v m k = mnI (b k + 1) 10) := HN.out.1.trans (by rw [hfn.out]; exact Zgo _); have hout : Hid (noB t o s b v m c k = decide (c ≤ mnI (b k + 1) 10)) := HN.out.2.trans (by rw [hfn.out]; exact Zhc _ _); generalize b k = x at *; generalize s k = z at *; go_wp2; go_quiet ((go_at_call 38; exact Calls.quiet_of_same (hbt _))); go_wp2; generalize mnI (x + 1) 10 = y at *
               go_region
               all_goals
                go_wp2; go_roundw
                (case rel =>
                 refine ⟨k + 1, by omega, by go_num, ?_, ?_⟩
                 · rw [Zbj, Zbk, hbad.out, hout.out]; exact ((((STK.out.later (below_drewN (Below.refl _ _) _)).setBad k hlt _).setOut k hlt _).later (Below.refl _ _).drew)
                 · exact (((RK.out.later (below_drewN (Below.refl _ _) _)).set NE.out).set NE.out).later (Below.refl _ _).drew)
                (case measure => simp [intOf]; omega)
             · have hbad : Hid (nbI t o s b v m k = 0) := HN.out.1.trans (by rw [hfn.out]; rfl); have hout : Hid (noB t o s b v m c k = mixB k (noB t o s b v m c) o k) := HN.out.2.trans (by rw [hfn.out, Zdf, h2]; rfl); generalize b k = x at *; generalize s k = z at *; go_wp2; go_quiet ((go_at_call 38; exact Calls.quiet_of_same (hbt _))); go_wp2; go_roundw
               case rel =>
                refine ⟨k + 1, by omega, by go_num, ?_, ?_⟩
                · rw [Zbj, Zbk, hbad.out, hout.out, Zdd]; exact (STK.out.later (below_drewN (Below.refl _ _) _)).setBad k hlt _
                · exact (RK.out.later (below_drewN (Below.refl _ _) _)).set NE.out
               case measure => simp [intOf]; omega
         · rw [h2] at c3; rw [h2] at HN; have hbad : Hid (nbI t o s b v m k = mixI k (nbI t o s b v m) b k) := HN.out.1.trans (by rw [Zfb]; rfl); have hout : Hid (noB t o s b v m c k = mixB k (noB t o s b v m c) o k) := HN.out.2.trans (by rw [Zdf, h2]; rfl); go_wp2; go_roundw
           case rel =>
            refine ⟨k + 1, by omega, by go_num, ?_, RK.out⟩; rw [Zbj, Zbk, hbad.out, hout.out, Zgx, Zdd]; exact STK.out
           case measure => simp [intOf]; omega
       · have e : k = 3 := by omega
         subst e; have HS3 := hide (hst.setLast v); have q6 := hst.1.1.2.2.2.2.2.2; have z6 := hst.1.2.1 6 (by omega); have vt := hvt.1; have HV3 := hide (hvt.set (q := 6) (v := Vi v) NE.out); clear hst hvt
         go_upto_region 26 with fail; generalize hw7 : (World.setCell _ _ (Vi v)) = w7 at *; clear hw7 q6 z6 vt; obtain ⟨⟨⟨q0, q1, q2, q3, q4, q5, q6⟩, _⟩, _, _, ⟨⟨s0, s1, s2, s3, s4, s5, s6⟩, s7, _⟩, ⟨⟨p0, p1⟩, p2, _⟩, hB⟩ := HS3.out; have f0 := s7 0 (by omega); have f1 := s7 1 (by omega); have f2 := s7 2 (by omega); have f3 := s7 3 (by omega); have f4 := s7 4 (by omega); have f5 := s7 5 (by omega); have f6 := s7 6 (by omega); have g0 := p2 0 (by omega); have g1 := p2 1 (by omega); obtain ⟨v0, v1⟩ := HV3.out; have HB3 := hide hB; clear hB s7 p2; rw [show mixI 3 (nbI t o s b v m) b 0 = nbI t o s b v m 0 from rfl] at q0; rw [show mixI 3 (nbI t o s b v m) b 1 = nbI t o s b v m 1 from rfl] at q1; rw [show mixI 3 (nbI t o s b v m) b 2 = nbI t o s b v m 2 from rfl] at q2; rw [show mixB 3 (noB t o s b v m c) o 0 = noB t o s b v m c 0 from rfl] at q3; rw [show mixB 3 (noB t o s b v m c) o 1 = noB t o s b v m c 1 from rfl] at q4; rw [show mixB 3 (noB t o s b v m c) o 2 = noB t o s b v m c 2 from rfl] at q5; rw [show zI 0 = 0 from rfl] at s0; rw [show zI 1 = 0 from rfl] at s1; rw [show zI 2 = 0 from rfl] at s2; rw [show zB 0 = false from rfl] at s3; rw [show zB 1 = false from rfl] at s4; rw [show zB 2 = false from rfl] at s5; have EV := hide (show (v = votI t o s l) ∧ n = Zby t o 3 from ⟨HVE.out, by rw [hn3, hn]⟩); obtain ⟨y0, y1, y2, x0, x1, x2, EY⟩ : ∃ y0 y1 y2 x0 x1 x2, Hid (nbI t o s b v m 0 = y0 ∧ nbI t o s b v m 1 = y1 ∧ nbI t o s b v m 2 = y2 ∧ noB t o s b v m c 0 = x0 ∧ noB t o s b v m c 1 = x1 ∧ noB t o s b v m c 2 = x2) := ⟨_, _, _, _, _, _, rfl, rfl, rfl, rfl, rfl, rfl⟩; rw [EY.out.1] at q0; rw [EY.out.2.1] at q1; rw [EY.out.2.2.1] at q2; rw [EY.out.2.2.2.1] at q3; rw [EY.out.2.2.2.2.1] at q4; rw [EY.out.2.2.2.2.2] at q5; have lt := LT.out
         have n1 : ¬ (w.heap.size + 1 + 1 + 1 = V) := by omega
         have n2 : ¬ (V = w.heap.size + 1 + 1 + 1) := by omega
         have n3 : ¬ (w.heap.size + 1 + 1 + 1 + 1 = V) := by omega
         have n4 : ¬ (V = w.heap.size + 1 + 1 + 1 + 1) := by omega
         clear lt
         go_region
         all_goals
          go_wp2; have an := hide (ansW_at HS3.out.2.2.2.1.1 HS3.out.2.2.2.2.1.1 (by omega) y0 y1 y2 x0 x1 x2 v v n); have bl := hide (Zfl HS3.out.2.2.2.2.2 (B := w.heap.size + 1 + 1 + 1) (C := w.heap.size + 1 + 1 + 1 + 1) (by omega) (by omega) y0 y1 y2 x0 x1 x2 v v n); rw [hn3] at an bl
          change bodyPost _ _ _ Exit.ret _ (ansW w7 (w.heap.size + 1 + 1 + 1) (w.heap.size + 1 + 1 + 1 + 1) y0 y1 y2 x0 x1 x2 v v 1).drew
          generalize (ansW w7 (w.heap.size + 1 + 1 + 1) (w.heap.size + 1 + 1 + 1 + 1) y0 y1 y2 x0 x1 x2 v v 1) = w9 at *; obtain ⟨⟨c0, c1, c2, c3, c4, c5, c6⟩, d0, d1⟩ := an.out; exact bodyPost_ret (v := .tuple #[.agg #[Vi y0, Vi y1, Vi y2, .bool x0, .bool x1, .bool x2, Vi v], .agg #[Vi v, Vi 1]]) (by simp [results, Tryz.results92, go_sem, c0, c1, c2, c3, c4, c5, c6, d0, d1]) rfl ⟨by rw [← EV.out.1, ← EV.out.2, EY.out.1, EY.out.2.1, EY.out.2.2.1, EY.out.2.2.2.1, EY.out.2.2.2.2.1, EY.out.2.2.2.2.2, hn3], bl.out.drew⟩
    · rw [hn, if_neg (by decide), if_pos rfl] at HV; rw [hn]
      go_wp2_with (go_at_call 141; refine Sm (down_any _ _ (by omega) (by omega) (by omega) (by omega) _) ?_); have ST2 := hide (ST.out.later (Zaf wr (.cells #[Vi (sumU t o s 3 / 2), Vi 2] 187))); have R2 : Hid (RuleAt (wr.alloc (.cells #[Vi (sumU t o s 3 / 2), Vi 2] 187)) wr.heap.size (sumU t o s 3 / 2) 2) := ⟨by simp [go_sem], by simp [go_sem]⟩
      have NE : Hid (w.heap.size ≠ wr.heap.size) := by have := ST.out.lt; show w.heap.size ≠ wr.heap.size; omega
      have LT := hide ST.out.lt; generalize (wr.alloc (.cells #[Vi (sumU t o s 3 / 2), Vi 2] 187)) = w5 at *; generalize hV : wr.heap.size = V at *; clear hV ST q0 q1 q2 q3 q4 q5 q6; obtain ⟨n, hn3⟩ : ∃ n : Int, n = 2 := ⟨_, rfl⟩; rw [← HV.out, ← hn3] at R2
      go_loopw [14] (fun i wr2 => ∃ k : Nat, k ≤ 3 ∧ i = Vi k ∧ StAt w wr2 (mixI k (nbI t o s b v m) b) (mixB k (noB t o s b v m c) o) l m c t s ∧ RuleAt wr2 V v n) (fun i _ => 3 - (intOf i).toNat)
      case atStart => exact ⟨0, by omega, rfl, by rw [Zhd, Zhe]; exact ST2.out, R2.out⟩
      case round =>
       clear ST2 R2
       rename_i w6 _
       obtain ⟨k, hk, rfl, hst, hvt⟩ := hrel
       by_cases hlt : k < 3
       · have c1 := hst.2.2.1.there k hlt; have c2 := hst.2.2.1.is k hlt; have c3 := hst.1.1.out k hlt; have c4 := hst.1.1.bad k hlt; have r0 := hst.2.1.1; have r1 := hst.2.1.2; have z1 := hst.1.2.1 k (by omega); have z2 := hst.1.2.1 (3 + k) (by omega); have vt := hvt.1; rw [Zdf] at c3; rw [Zfb] at c4; have bd := HBD.out k hlt
         have i0 : (0 : Int) ≤ (k : Int) := by omega
         have i1 : (k : Int) < 3 := by omega
         have HN := hide (show nbI t o s b v m k = (if o k then b k else badI (b k) (Zfk (t k) (s k) v m)) ∧ noB t o s b v m c k = (if o k then true else outB (b k) (Zfk (t k) (s k) v m) c) from ⟨rfl, rfl⟩); have STK := hide hst; have RK := hide hvt; clear hst hvt
         cases h2 : o k
         · rw [h2] at c3; rw [h2] at HN
           cases h1 : t k
           · rw [h1] at c1; rw [h1] at HN; have hmn := Zeh; have hbad : Hid (nbI t o s b v m k = mnI (b k + 1) 10) := HN.out.1.trans (Zgo _); have hout : Hid (noB t o s b v m c k = decide (c ≤ mnI (b k + 1) 10)) := HN.out.2.trans (Zhc _ _); generalize b k = x at *; go_wp2; go_quiet (fail); go_wp2; generalize mnI (x + 1) 10 = y at *
             go_region
             all_goals
              go_wp2; go_roundw
              (case rel =>
               refine ⟨k + 1, by omega, by go_num, ?_, ?_⟩
               · rw [Zbj, Zbk, hbad.out, hout.out]; exact ((((STK.out.later (below_drewN (Below.refl _ _) _)).setBad k hlt _).setOut k hlt _).later (Below.refl _ _).drew)
               · exact (((RK.out.later (below_drewN (Below.refl _ _) _)).set NE.out).set NE.out).later (Below.refl _ _).drew)
              (case measure => simp [intOf]; omega)
           · rw [h1] at c1; rw [h1] at HN; have hbt := Zcj (s k) (v - m) (v + m); have hfn : Hid (Zfk true (s k) v m = (decide (v - m ≤ s k) && decide (s k ≤ v + m))) := rfl; generalize (decide (v - m ≤ s k) && decide (s k ≤ v + m)) = g at *
             have hw1 : IntKind.i64.wrap (v - m) = v - m := by rw [IntKind.wrap_i64]; omega
             have hw2 : IntKind.i64.wrap (v + m) = v + m := by rw [IntKind.wrap_i64]; omega
             cases g
             · have hmn := Zeh; have hbad : Hid (nbI t o s b v m k = mnI (b k + 1) 10) := HN.out.1.trans (by rw [hfn.out]; exact Zgo _); have hout : Hid (noB t o s b v m c k = decide (c ≤ mnI (b k + 1) 10)) := HN.out.2.trans (by rw [hfn.out]; exact Zhc _ _); generalize b k = x at *; generalize s k = z at *; go_wp2; go_quiet ((go_at_call 38; exact Calls.quiet_of_same (hbt _))); go_wp2; generalize mnI (x + 1) 10 = y at *
               go_region
               all_goals
                go_wp2; go_roundw
                (case rel =>
                 refine ⟨k + 1, by omega, by go_num, ?_, ?_⟩
                 · rw [Zbj, Zbk, hbad.out, hout.out]; exact ((((STK.out.later (below_drewN (Below.refl _ _) _)).setBad k hlt _).setOut k hlt _).later (Below.refl _ _).drew)
                 · exact (((RK.out.later (below_drewN (Below.refl _ _) _)).set NE.out).set NE.out).later (Below.refl _ _).drew)
                (case measure => simp [intOf]; omega)
             · have hbad : Hid (nbI t o s b v m k = 0) := HN.out.1.trans (by rw [hfn.out]; rfl); have hout : Hid (noB t o s b v m c k = mixB k (noB t o s b v m c) o k) := HN.out.2.trans (by rw [hfn.out, Zdf, h2]; rfl); generalize b k = x at *; generalize s k = z at *; go_wp2; go_quiet ((go_at_call 38; exact Calls.quiet_of_same (hbt _))); go_wp2; go_roundw
               case rel =>
                refine ⟨k + 1, by omega, by go_num, ?_, ?_⟩
                · rw [Zbj, Zbk, hbad.out, hout.out, Zdd]; exact (STK.out.later (below_drewN (Below.refl _ _) _)).setBad k hlt _
                · exact (RK.out.later (below_drewN (Below.refl _ _) _)).set NE.out
               case measure => simp [intOf]; omega
         · rw [h2] at c3; rw [h2] at HN; have hbad : Hid (nbI t o s b v m k = mixI k (nbI t o s b v m) b k) := HN.out.1.trans (by rw [Zfb]; rfl); have hout : Hid (noB t o s b v m c k = mixB k (noB t o s b v m c) o k) := HN.out.2.trans (by rw [Zdf, h2]; rfl); go_wp2; go_roundw
           case rel =>
            refine ⟨k + 1, by omega, by go_num, ?_, RK.out⟩; rw [Zbj, Zbk, hbad.out, hout.out, Zgx, Zdd]; exact STK.out
           case measure => simp [intOf]; omega
       · have e : k = 3 := by omega
         subst e; have HS3 := hide (hst.setLast v); have q6 := hst.1.1.2.2.2.2.2.2; have z6 := hst.1.2.1 6 (by omega); have vt := hvt.1; have HV3 := hide (hvt.set (q := 6) (v := Vi v) NE.out); clear hst hvt
         go_upto_region 26 with fail; generalize hw7 : (World.setCell _ _ (Vi v)) = w7 at *; clear hw7 q6 z6 vt; obtain ⟨⟨⟨q0, q1, q2, q3, q4, q5, q6⟩, _⟩, _, _, ⟨⟨s0, s1, s2, s3, s4, s5, s6⟩, s7, _⟩, ⟨⟨p0, p1⟩, p2, _⟩, hB⟩ := HS3.out; have f0 := s7 0 (by omega); have f1 := s7 1 (by omega); have f2 := s7 2 (by omega); have f3 := s7 3 (by omega); have f4 := s7 4 (by omega); have f5 := s7 5 (by omega); have f6 := s7 6 (by omega); have g0 := p2 0 (by omega); have g1 := p2 1 (by omega); obtain ⟨v0, v1⟩ := HV3.out; have HB3 := hide hB; clear hB s7 p2; rw [show mixI 3 (nbI t o s b v m) b 0 = nbI t o s b v m 0 from rfl] at q0; rw [show mixI 3 (nbI t o s b v m) b 1 = nbI t o s b v m 1 from rfl] at q1; rw [show mixI 3 (nbI t o s b v m) b 2 = nbI t o s b v m 2 from rfl] at q2; rw [show mixB 3 (noB t o s b v m c) o 0 = noB t o s b v m c 0 from rfl] at q3; rw [show mixB 3 (noB t o s b v m c) o 1 = noB t o s b v m c 1 from rfl] at q4; rw [show mixB 3 (noB t o s b v m c) o 2 = noB t o s b v m c 2 from rfl] at q5; rw [show zI 0 = 0 from rfl] at s0; rw [show zI 1 = 0 from rfl] at s1; rw [show zI 2 = 0 from rfl] at s2; rw [show zB 0 = false from rfl] at s3; rw [show zB 1 = false from rfl] at s4; rw [show zB 2 = false from rfl] at s5; have EV := hide (show (v = votI t o s l) ∧ n = Zby t o 3 from ⟨HVE.out, by rw [hn3, hn]⟩); obtain ⟨y0, y1, y2, x0, x1, x2, EY⟩ : ∃ y0 y1 y2 x0 x1 x2, Hid (nbI t o s b v m 0 = y0 ∧ nbI t o s b v m 1 = y1 ∧ nbI t o s b v m 2 = y2 ∧ noB t o s b v m c 0 = x0 ∧ noB t o s b v m c 1 = x1 ∧ noB t o s b v m c 2 = x2) := ⟨_, _, _, _, _, _, rfl, rfl, rfl, rfl, rfl, rfl⟩; rw [EY.out.1] at q0; rw [EY.out.2.1] at q1; rw [EY.out.2.2.1] at q2; rw [EY.out.2.2.2.1] at q3; rw [EY.out.2.2.2.2.1] at q4; rw [EY.out.2.2.2.2.2] at q5; have lt := LT.out
         have n1 : ¬ (w.heap.size + 1 + 1 + 1 = V) := by omega
         have n2 : ¬ (V = w.heap.size + 1 + 1 + 1) := by omega
         have n3 : ¬ (w.heap.size + 1 + 1 + 1 + 1 = V) := by omega
         have n4 : ¬ (V = w.heap.size + 1 + 1 + 1 + 1) := by omega
         clear lt
         go_region
         all_goals
          go_wp2; have an := hide (ansW_at HS3.out.2.2.2.1.1 HS3.out.2.2.2.2.1.1 (by omega) y0 y1 y2 x0 x1 x2 v v n); have bl := hide (Zfl HS3.out.2.2.2.2.2 (B := w.heap.size + 1 + 1 + 1) (C := w.heap.size + 1 + 1 + 1 + 1) (by omega) (by omega) y0 y1 y2 x0 x1 x2 v v n); rw [hn3] at an bl
          change bodyPost _ _ _ Exit.ret _ (ansW w7 (w.heap.size + 1 + 1 + 1) (w.heap.size + 1 + 1 + 1 + 1) y0 y1 y2 x0 x1 x2 v v 2).drew
          generalize (ansW w7 (w.heap.size + 1 + 1 + 1) (w.heap.size + 1 + 1 + 1 + 1) y0 y1 y2 x0 x1 x2 v v 2) = w9 at *; obtain ⟨⟨c0, c1, c2, c3, c4, c5, c6⟩, d0, d1⟩ := an.out; exact bodyPost_ret (v := .tuple #[.agg #[Vi y0, Vi y1, Vi y2, .bool x0, .bool x1, .bool x2, Vi v], .agg #[Vi v, Vi 2]]) (by simp [results, Tryz.results92, go_sem, c0, c1, c2, c3, c4, c5, c6, d0, d1]) rfl ⟨by rw [← EV.out.1, ← EV.out.2, EY.out.1, EY.out.2.1, EY.out.2.2.1, EY.out.2.2.2.1, EY.out.2.2.2.2.1, EY.out.2.2.2.2.2, hn3], bl.out.drew⟩
    · rw [hn, if_neg (by decide), if_neg (by decide), if_pos rfl] at HV; rw [hn]
      have hw1 : IntKind.i64.wrap (sumU t o s 3 - Zco t o s 3) = sumU t o s 3 - Zco t o s 3 := by rw [IntKind.wrap_i64]; omega
      have hw2 : IntKind.i64.wrap (sumU t o s 3 - Zco t o s 3 - Zfa t o s 3) = sumU t o s 3 - Zco t o s 3 - Zfa t o s 3 := by rw [IntKind.wrap_i64]; omega
      go_wp2; have ST2 := hide (ST.out.later (Zaf wr (.cells #[Vi (sumU t o s 3 - Zco t o s 3 - Zfa t o s 3), Vi 3] 187))); have R2 : Hid (RuleAt (wr.alloc (.cells #[Vi (sumU t o s 3 - Zco t o s 3 - Zfa t o s 3), Vi 3] 187)) wr.heap.size (sumU t o s 3 - Zco t o s 3 - Zfa t o s 3) 3) := ⟨by simp [go_sem], by simp [go_sem]⟩
      have NE : Hid (w.heap.size ≠ wr.heap.size) := by have := ST.out.lt; show w.heap.size ≠ wr.heap.size; omega
      have LT := hide ST.out.lt; generalize (wr.alloc (.cells #[Vi (sumU t o s 3 - Zco t o s 3 - Zfa t o s 3), Vi 3] 187)) = w5 at *; generalize hV : wr.heap.size = V at *; clear hV ST q0 q1 q2 q3 q4 q5 q6; obtain ⟨n, hn3⟩ : ∃ n : Int, n = 3 := ⟨_, rfl⟩; rw [← HV.out, ← hn3] at R2
      go_loopw [14] (fun i wr2 => ∃ k : Nat, k ≤ 3 ∧ i = Vi k ∧ StAt w wr2 (mixI k (nbI t o s b v m) b) (mixB k (noB t o s b v m c) o) l m c t s ∧ RuleAt wr2 V v n) (fun i _ => 3 - (intOf i).toNat)
      case atStart => exact ⟨0, by omega, rfl, by rw [Zhd, Zhe]; exact ST2.out, R2.out⟩
      case round =>
       clear ST2 R2
       rename_i w6 _
       obtain ⟨k, hk, rfl, hst, hvt⟩ := hrel
       by_cases hlt : k < 3
       · have c1 := hst.2.2.1.there k hlt; have c2 := hst.2.2.1.is k hlt; have c3 := hst.1.1.out k hlt; have c4 := hst.1.1.bad k hlt; have r0 := hst.2.1.1; have r1 := hst.2.1.2; have z1 := hst.1.2.1 k (by omega); have z2 := hst.1.2.1 (3 + k) (by omega); have vt := hvt.1; rw [Zdf] at c3; rw [Zfb] at c4; have bd := HBD.out k hlt
         have i0 : (0 : Int) ≤ (k : Int) := by omega
         have i1 : (k : Int) < 3 := by omega
         have HN := hide (show nbI t o s b v m k = (if o k then b k else badI (b k) (Zfk (t k) (s k) v m)) ∧ noB t o s b v m c k = (if o k then true else outB (b k) (Zfk (t k) (s k) v m) c) from ⟨rfl, rfl⟩); have STK := hide hst; have RK := hide hvt; clear hst hvt
         cases h2 : o k
         · rw [h2] at c3; rw [h2] at HN
           cases h1 : t k
           · rw [h1] at c1; rw [h1] at HN; have hmn := Zeh; have hbad : Hid (nbI t o s b v m k = mnI (b k + 1) 10) := HN.out.1.trans (Zgo _); have hout : Hid (noB t o s b v m c k = decide (c ≤ mnI (b k + 1) 10)) := HN.out.2.trans (Zhc _ _); generalize b k = x at *; go_wp2; go_quiet (fail); go_wp2; generalize mnI (x + 1) 10 = y at *
             go_region
             all_goals
              go_wp2; go_roundw
              (case rel =>
               refine ⟨k + 1, by omega, by go_num, ?_, ?_⟩
               · rw [Zbj, Zbk, hbad.out, hout.out]; exact ((((STK.out.later (below_drewN (Below.refl _ _) _)).setBad k hlt _).setOut k hlt _).later (Below.refl _ _).drew)
               · exact (((RK.out.later (below_drewN (Below.refl _ _) _)).set NE.out).set NE.out).later (Below.refl _ _).drew)
              (case measure => simp [intOf]; omega)
           · rw [h1] at c1; rw [h1] at HN; have hbt := Zcj (s k) (v - m) (v + m); have hfn : Hid (Zfk true (s k) v m = (decide (v - m ≤ s k) && decide (s k ≤ v + m))) := rfl; generalize (decide (v - m ≤ s k) && decide (s k ≤ v + m)) = g at *
             have hw1 : IntKind.i64.wrap (v - m) = v - m := by rw [IntKind.wrap_i64]; omega
             have hw2 : IntKind.i64.wrap (v + m) = v + m := by rw [IntKind.wrap_i64]; omega
             cases g
             · have hmn := Zeh; have hbad : Hid (nbI t o s b v m k = mnI (b k + 1) 10) := HN.out.1.trans (by rw [hfn.out]; exact Zgo _); have hout : Hid (noB t o s b v m c k = decide (c ≤ mnI (b k + 1) 10)) := HN.out.2.trans (by rw [hfn.out]; exact Zhc _ _); generalize b k = x at *; generalize s k = z at *; go_wp2; go_quiet ((go_at_call 38; exact Calls.quiet_of_same (hbt _))); go_wp2; generalize mnI (x + 1) 10 = y at *
               go_region
               all_goals
                go_wp2; go_roundw
                (case rel =>
                 refine ⟨k + 1, by omega, by go_num, ?_, ?_⟩
                 · rw [Zbj, Zbk, hbad.out, hout.out]; exact ((((STK.out.later (below_drewN (Below.refl _ _) _)).setBad k hlt _).setOut k hlt _).later (Below.refl _ _).drew)
                 · exact (((RK.out.later (below_drewN (Below.refl _ _) _)).set NE.out).set NE.out).later (Below.refl _ _).drew)
                (case measure => simp [intOf]; omega)
             · have hbad : Hid (nbI t o s b v m k = 0) := HN.out.1.trans (by rw [hfn.out]; rfl); have hout : Hid (noB t o s b v m c k = mixB k (noB t o s b v m c) o k) := HN.out.2.trans (by rw [hfn.out, Zdf, h2]; rfl); generalize b k = x at *; generalize s k = z at *; go_wp2; go_quiet ((go_at_call 38; exact Calls.quiet_of_same (hbt _))); go_wp2; go_roundw
               case rel =>
                refine ⟨k + 1, by omega, by go_num, ?_, ?_⟩
                · rw [Zbj, Zbk, hbad.out, hout.out, Zdd]; exact (STK.out.later (below_drewN (Below.refl _ _) _)).setBad k hlt _
                · exact (RK.out.later (below_drewN (Below.refl _ _) _)).set NE.out
               case measure => simp [intOf]; omega
         · rw [h2] at c3; rw [h2] at HN; have hbad : Hid (nbI t o s b v m k = mixI k (nbI t o s b v m) b k) := HN.out.1.trans (by rw [Zfb]; rfl); have hout : Hid (noB t o s b v m c k = mixB k (noB t o s b v m c) o k) := HN.out.2.trans (by rw [Zdf, h2]; rfl); go_wp2; go_roundw
           case rel =>
            refine ⟨k + 1, by omega, by go_num, ?_, RK.out⟩; rw [Zbj, Zbk, hbad.out, hout.out, Zgx, Zdd]; exact STK.out
           case measure => simp [intOf]; omega
       · have e : k = 3 := by omega
         subst e; have HS3 := hide (hst.setLast v); have q6 := hst.1.1.2.2.2.2.2.2; have z6 := hst.1.2.1 6 (by omega); have vt := hvt.1; have HV3 := hide (hvt.set (q := 6) (v := Vi v) NE.out); clear hst hvt
         go_upto_region 26 with fail; generalize hw7 : (World.setCell _ _ (Vi v)) = w7 at *; clear hw7 q6 z6 vt; obtain ⟨⟨⟨q0, q1, q2, q3, q4, q5, q6⟩, _⟩, _, _, ⟨⟨s0, s1, s2, s3, s4, s5, s6⟩, s7, _⟩, ⟨⟨p0, p1⟩, p2, _⟩, hB⟩ := HS3.out; have f0 := s7 0 (by omega); have f1 := s7 1 (by omega); have f2 := s7 2 (by omega); have f3 := s7 3 (by omega); have f4 := s7 4 (by omega); have f5 := s7 5 (by omega); have f6 := s7 6 (by omega); have g0 := p2 0 (by omega); have g1 := p2 1 (by omega); obtain ⟨v0, v1⟩ := HV3.out; have HB3 := hide hB; clear hB s7 p2; rw [show mixI 3 (nbI t o s b v m) b 0 = nbI t o s b v m 0 from rfl] at q0; rw [show mixI 3 (nbI t o s b v m) b 1 = nbI t o s b v m 1 from rfl] at q1; rw [show mixI 3 (nbI t o s b v m) b 2 = nbI t o s b v m 2 from rfl] at q2; rw [show mixB 3 (noB t o s b v m c) o 0 = noB t o s b v m c 0 from rfl] at q3; rw [show mixB 3 (noB t o s b v m c) o 1 = noB t o s b v m c 1 from rfl] at q4; rw [show mixB 3 (noB t o s b v m c) o 2 = noB t o s b v m c 2 from rfl] at q5; rw [show zI 0 = 0 from rfl] at s0; rw [show zI 1 = 0 from rfl] at s1; rw [show zI 2 = 0 from rfl] at s2; rw [show zB 0 = false from rfl] at s3; rw [show zB 1 = false from rfl] at s4; rw [show zB 2 = false from rfl] at s5; have EV := hide (show (v = votI t o s l) ∧ n = Zby t o 3 from ⟨HVE.out, by rw [hn3, hn]⟩); obtain ⟨y0, y1, y2, x0, x1, x2, EY⟩ : ∃ y0 y1 y2 x0 x1 x2, Hid (nbI t o s b v m 0 = y0 ∧ nbI t o s b v m 1 = y1 ∧ nbI t o s b v m 2 = y2 ∧ noB t o s b v m c 0 = x0 ∧ noB t o s b v m c 1 = x1 ∧ noB t o s b v m c 2 = x2) := ⟨_, _, _, _, _, _, rfl, rfl, rfl, rfl, rfl, rfl⟩; rw [EY.out.1] at q0; rw [EY.out.2.1] at q1; rw [EY.out.2.2.1] at q2; rw [EY.out.2.2.2.1] at q3; rw [EY.out.2.2.2.2.1] at q4; rw [EY.out.2.2.2.2.2] at q5; have lt := LT.out
         have n1 : ¬ (w.heap.size + 1 + 1 + 1 = V) := by omega
         have n2 : ¬ (V = w.heap.size + 1 + 1 + 1) := by omega
         have n3 : ¬ (w.heap.size + 1 + 1 + 1 + 1 = V) := by omega
         have n4 : ¬ (V = w.heap.size + 1 + 1 + 1 + 1) := by omega
         clear lt
         go_region
         all_goals
          go_wp2; have an := hide (ansW_at HS3.out.2.2.2.1.1 HS3.out.2.2.2.2.1.1 (by omega) y0 y1 y2 x0 x1 x2 v v n); have bl := hide (Zfl HS3.out.2.2.2.2.2 (B := w.heap.size + 1 + 1 + 1) (C := w.heap.size + 1 + 1 + 1 + 1) (by omega) (by omega) y0 y1 y2 x0 x1 x2 v v n); rw [hn3] at an bl
          change bodyPost _ _ _ Exit.ret _ (ansW w7 (w.heap.size + 1 + 1 + 1) (w.heap.size + 1 + 1 + 1 + 1) y0 y1 y2 x0 x1 x2 v v 3).drew
          generalize (ansW w7 (w.heap.size + 1 + 1 + 1) (w.heap.size + 1 + 1 + 1 + 1) y0 y1 y2 x0 x1 x2 v v 3) = w9 at *; obtain ⟨⟨c0, c1, c2, c3, c4, c5, c6⟩, d0, d1⟩ := an.out; exact bodyPost_ret (v := .tuple #[.agg #[Vi y0, Vi y1, Vi y2, .bool x0, .bool x1, .bool x2, Vi v], .agg #[Vi v, Vi 3]]) (by simp [results, Tryz.results92, go_sem, c0, c1, c2, c3, c4, c5, c6, d0, d1]) rfl ⟨by rw [← EV.out.1, ← EV.out.2, EY.out.1, EY.out.2.1, EY.out.2.2.1, EY.out.2.2.2.1, EY.out.2.2.2.2.1, EY.out.2.2.2.2.2, hn3], bl.out.drew⟩
end Go.Proofs.YtnfdfiholcelaaaGreatDoor
