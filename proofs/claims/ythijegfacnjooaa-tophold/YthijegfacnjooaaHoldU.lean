/-
  Contracts of hold.Told and hold.Want.
-/
import Derived.Test.YthijegfacnjooaaHoldT
namespace Go.Proofs.Ythijegfacnjooaa
open Go.RowKit Plain

set_option maxHeartbeats 2000000 in
theorem want_err (L H U B M : Int) (a z : Option Addr) (ca cz : Nat) (al zl : List Int) (A D W k p v n q : Int) (hm : al.length ≤ 9223372036854775807) (hn : zl.length ≤ 9223372036854775807) (hca : al.length ≤ ca) (h0 : hoE L H U B M al zl A D W k n q ≠ 0) (w : World) (ha : Lst w a al) (hz : Lst w z zl) :
    Calls Try.prog 32 #[.agg #[.int .i64 L, .int .i64 H, .int .i64 U, .int .i64 B, .int .i64 M, .slice a al.length ca, .slice z zl.length cz], .agg #[.int .i64 A, .int .i64 D, .int .i64 W], .agg #[.int .i64 k, .int .i64 p, .int .i64 v, .int .i64 n, .int .i64 q]] w fun e w' => e = .returned (.tuple #[.int .i64 0, .agg #[.int .i64 0, .int .i64 0, .int .i64 0], .iface 26 (.int .i64 (hoE L H U B M al zl A D W k n q))]) ∧ Below w.heap.size w w' := by
  have hck := fun u (h : Below w.heap.size w u) => checkAll_any L H U B M a z ca cz al zl A D W k p v n q hm hn hca u (ha.later h) (hz.later h)
  have HX := ahide (HW.new w L H U B M a z al.length zl.length ca cz A D W k p v n q)
  simp only [errV_ne h0] at hck
  clear h0 ha hz
  generalize hoE L H U B M al zl A D W k n q = E at *
  go_enter Try.func32, Try.ntmps32
  go_wp2_with (go_at_call 54; refine (hck _ HX.out.2.2.2.2.2.2).mono ?_; rintro e w1 ⟨rfl, hb⟩; have HX := ahide (HX.out.later hb); obtain ⟨⟨q0, q1, q2, q3, q4, q5, q6⟩, ⟨s0, s1, s2⟩, ⟨r0, r1, r2, r3, r4⟩, ⟨p0, p1, p2⟩, ⟨g0, g1, g2⟩, ⟨f0, f1, f2⟩, hB⟩ := HX.out; clear hB hb)
  exact bodyPost_ret (v := .tuple #[.int .i64 0, .agg #[.int .i64 0, .int .i64 0, .int .i64 0], .iface 26 (.int .i64 E)]) (by simp [results, Try.results32, go_sem, p0, p1, p2]) rfl ⟨rfl, ((HX.out.2.2.2.2.2.2.setCell (by simp; omega) _).setCell (by simp; omega) _).setCell (by simp; omega) _⟩

set_option maxRecDepth 100000 in
set_option maxHeartbeats 4000000 in
theorem want_ok (L H U B M : Int) (a z : Option Addr) (ca cz : Nat) (al zl : List Int) (A D W k p v n q : Int) (hm : al.length ≤ 9223372036854775807) (hn : zl.length ≤ 9223372036854775807) (hca : al.length ≤ ca) (h0 : hoE L H U B M al zl A D W k n q = 0) (w : World) (ha : Lst w a al) (hz : Lst w z zl) :
    Calls Try.prog 32 #[.agg #[.int .i64 L, .int .i64 H, .int .i64 U, .int .i64 B, .int .i64 M, .slice a al.length ca, .slice z zl.length cz], .agg #[.int .i64 A, .int .i64 D, .int .i64 W], .agg #[.int .i64 k, .int .i64 p, .int .i64 v, .int .i64 n, .int .i64 q]] w fun e w' => e = .returned (.tuple #[.int .i64 (wX L H U M al zl A D W k p v n q), .agg #[.int .i64 (wA L H U A W k p n), .int .i64 (wD L H U M al zl A D W k p v n q), .int .i64 n], .nilIface]) ∧ Below w.heap.size w w' := by
  have hck := fun u (h : Below w.heap.size w u) => checkAll_any L H U B M a z ca cz al zl A D W k p v n q hm hn hca u (ha.later h) (hz.later h)
  have HX := ahide (HW.new w L H U B M a z al.length zl.length ca cz A D W k p v n q)
  simp only [h0, errV_zero] at hck
  obtain ⟨e1, e2, e3⟩ := hoE_zero h0
  obtain ⟨e4, e5, e6, _⟩ := ruE_zero e1
  obtain ⟨_, _, _, _, m0, m1⟩ := ruB_true e4
  obtain ⟨⟨k0, k1⟩, ⟨n0, n3'⟩, _, _⟩ := asB_true e3
  have hgd := guarded_any n
  by_cases n1 : n ≤ 1
  · unfold wX wA wD; rw [if_pos n1, if_pos n1, if_pos n1]
    rw [show betw n 0 1 = true from betw_mk n0 n1] at hgd
    have hst := fun u (h : Below w.heap.size w u) => steer_ok L H U B M a z ca cz al zl A D W k p v n q hca h0 u (ha.later h) (hz.later h)
    clear h0 e1 e2 e3 e4 e6 ha hz
    generalize wtI L H U M al zl A D W k p v n q = wt at *
    generalize a2I L H U A W k p n = wa at *
    generalize d2I L H U M al zl A D W k p v n q = wd at *
    go_enter Try.func32, Try.ntmps32
    go_wp2_with (first
      | (go_at_call 54; refine (hck _ HX.out.2.2.2.2.2.2).mono ?_; rintro e w1 ⟨rfl, hb⟩; have HX := ahide (HX.out.later hb); obtain ⟨⟨q0, q1, q2, q3, q4, q5, q6⟩, ⟨s0, s1, s2⟩, ⟨r0, r1, r2, r3, r4⟩, ⟨p0, p1, p2⟩, ⟨g0, g1, g2⟩, ⟨f0, f1, f2⟩, hB⟩ := HX.out; clear hB hb)
      | (go_at_call 55; refine (hgd _).mono ?_; rintro e w' ⟨rfl, hq⟩; have hq := hq.symm; subst hq)
      | (go_at_call 56; refine (hst _ HX.out.2.2.2.2.2.2).mono ?_; rintro e w2 ⟨rfl, hb⟩; have HX := ahide (HX.out.later hb); obtain ⟨⟨q0, q1, q2, q3, q4, q5, q6⟩, ⟨s0, s1, s2⟩, ⟨r0, r1, r2, r3, r4⟩, ⟨p0, p1, p2⟩, ⟨g0, g1, g2⟩, ⟨f0, f1, f2⟩, hB⟩ := HX.out; clear hB hb))
    exact bodyPost_ret (v := .tuple #[.int .i64 wt, .agg #[.int .i64 wa, .int .i64 wd, .int .i64 n], .nilIface]) (by simp [results, Try.results32, go_sem, p0, p1, p2]) rfl ⟨rfl, ((HX.out.2.2.2.2.2.2.setCell (by simp; omega) _).setCell (by simp; omega) _).setCell (by simp; omega) _⟩
  · unfold wX wA wD; rw [if_neg n1, if_neg n1, if_neg n1]
    rw [show betw n 0 1 = false by unfold betw; simp; omega] at hgd
    have hhu := holdHun_any k M k0 k1 (by omega) (by omega)
    clear h0 e1 e2 e3 e4 e6 ha hz
    have GD : True := trivial
    by_cases n2 : n = 2
    · rw [if_pos n2]
      subst n2
      generalize hunI k M = hu at *
      go_enter Try.func32, Try.ntmps32
      go_upto_region 8 with (first
        | (go_at_call 54; refine (hck _ HX.out.2.2.2.2.2.2).mono ?_; rintro e w1 ⟨rfl, hb⟩; have HX := ahide (HX.out.later hb); obtain ⟨⟨q0, q1, q2, q3, q4, q5, q6⟩, ⟨s0, s1, s2⟩, ⟨r0, r1, r2, r3, r4⟩, ⟨p0, p1, p2⟩, ⟨g0, g1, g2⟩, ⟨f0, f1, f2⟩, hB⟩ := HX.out; clear hB hb)
        | (go_at_call 55; refine (hgd _).mono ?_; rintro e w' ⟨rfl, hq⟩; have hq := hq.symm; subst hq))
      have HX2 := ahide (HX.out.setW 2)
      clear HX
      generalize hw2 : World.setCell _ _ (.int .i64 _) = w2 at *
      clear hw2 q0 q1 q2 q3 q4 q5 q6 s0 s1 s2 r0 r1 r2 r3 r4 p0 p1 p2 g0 g1 g2 f0 f1 f2
      obtain ⟨⟨q0, q1, q2, q3, q4, q5, q6⟩, ⟨s0, s1, s2⟩, ⟨r0, r1, r2, r3, r4⟩, ⟨p0, p1, p2⟩, ⟨g0, g1, g2⟩, ⟨f0, f1, f2⟩, hB⟩ := HX2.out
      have Z := ahide (show (w2.cell? ⟨w.heap.size, 4, none⟩ = some (.int .i64 M) ∧ w2.cell? ⟨w.heap.size + 1 + 1, 0, none⟩ = some (.int .i64 k)) ∧ (w2.cell? ⟨w.heap.size + 1, 0, none⟩ = some (.int .i64 A) ∧ w2.cell? ⟨w.heap.size + 1, 1, none⟩ = some (.int .i64 D) ∧ w2.cell? ⟨w.heap.size + 1, 2, none⟩ = some (.int .i64 2)) ∧ Below w.heap.size w w2 from ⟨⟨q4, r0⟩, ⟨s0, s1, s2⟩, hB⟩)
      clear hB q0 q1 q2 q3 q4 q5 q6 s0 s1 s2 r0 r1 r2 r3 r4 g0 g1 g2
      go_region_held3 (fun u => (u.cell? ⟨w.heap.size, 4, none⟩ = some (.int .i64 M) ∧ u.cell? ⟨w.heap.size + 1 + 1, 0, none⟩ = some (.int .i64 k)) ∧ (u.cell? ⟨w.heap.size + 1, 0, none⟩ = some (.int .i64 A) ∧ u.cell? ⟨w.heap.size + 1, 1, none⟩ = some (.int .i64 D) ∧ u.cell? ⟨w.heap.size + 1, 2, none⟩ = some (.int .i64 2)) ∧ Below w.heap.size w u)
        (first
          | (with_reducible assumption)
          | (with_reducible apply keepS2; with_reducible assumption; with_reducible assumption)
          | ((repeat (with_reducible first | exact Z.out | assumption | refine keepS2 (Below.refl _ _).drew ?_ | refine keepS2s ?_)); done))
        (first
          | (go_at_call 57; refine (hhu _).mono ?_; rintro e w' ⟨rfl, hq⟩; have hq := hq.symm; subst hq))
      all_goals
        rename_i hH
        have HB := ahide hH.2.2
        clear hH
        go_wp2_with fail
        refine bodyPost_ret (v := .tuple #[.int .i64 hu, .agg #[.int .i64 A, .int .i64 D, .int .i64 2], .nilIface]) ?_ rfl ⟨rfl, HB.out⟩
        simp [results, Try.results32, go_sem, p0, p1, p2]
    · rw [if_neg n2]
      obtain rfl : n = 3 := by omega
      clear n1 n2 n0 n3' hhu
      go_enter Try.func32, Try.ntmps32
      go_upto_region 9 with (first
        | (go_at_call 54; refine (hck _ HX.out.2.2.2.2.2.2).mono ?_; rintro e w1 ⟨rfl, hb⟩; have HX := ahide (HX.out.later hb); obtain ⟨⟨q0, q1, q2, q3, q4, q5, q6⟩, ⟨s0, s1, s2⟩, ⟨r0, r1, r2, r3, r4⟩, ⟨p0, p1, p2⟩, ⟨g0, g1, g2⟩, ⟨f0, f1, f2⟩, hB⟩ := HX.out; clear hB hb)
        | (go_at_call 55; refine (hgd _).mono ?_; rintro e w' ⟨rfl, hq⟩; have hq := hq.symm; subst hq))
      have HX2 := ahide (HX.out.setW 3)
      clear HX
      generalize hw2 : World.setCell _ _ (.int .i64 _) = w2 at *
      clear hw2 q0 q1 q2 q3 q4 q5 q6 s0 s1 s2 r0 r1 r2 r3 r4 p0 p1 p2 g0 g1 g2 f0 f1 f2
      obtain ⟨⟨q0, q1, q2, q3, q4, q5, q6⟩, ⟨s0, s1, s2⟩, ⟨r0, r1, r2, r3, r4⟩, ⟨p0, p1, p2⟩, ⟨g0, g1, g2⟩, ⟨f0, f1, f2⟩, hB⟩ := HX2.out
      have Z := ahide (show (w2.cell? ⟨w.heap.size, 4, none⟩ = some (.int .i64 M) ∧ w2.cell? ⟨w.heap.size + 1 + 1, 0, none⟩ = some (.int .i64 k)) ∧ (w2.cell? ⟨w.heap.size + 1, 0, none⟩ = some (.int .i64 A) ∧ w2.cell? ⟨w.heap.size + 1, 1, none⟩ = some (.int .i64 D) ∧ w2.cell? ⟨w.heap.size + 1, 2, none⟩ = some (.int .i64 3)) ∧ Below w.heap.size w w2 from ⟨⟨q4, r0⟩, ⟨s0, s1, s2⟩, hB⟩)
      clear hB q0 q1 q2 q3 q4 q5 q6 s0 s1 s2 r0 r1 r2 r3 r4 g0 g1 g2
      go_region_held3 (fun u => (u.cell? ⟨w.heap.size, 4, none⟩ = some (.int .i64 M) ∧ u.cell? ⟨w.heap.size + 1 + 1, 0, none⟩ = some (.int .i64 k)) ∧ (u.cell? ⟨w.heap.size + 1, 0, none⟩ = some (.int .i64 A) ∧ u.cell? ⟨w.heap.size + 1, 1, none⟩ = some (.int .i64 D) ∧ u.cell? ⟨w.heap.size + 1, 2, none⟩ = some (.int .i64 3)) ∧ Below w.heap.size w u)
        (first
          | (with_reducible assumption)
          | (with_reducible apply keepS2; with_reducible assumption; with_reducible assumption)
          | ((repeat (with_reducible first | exact Z.out | assumption | refine keepS2 (Below.refl _ _).drew ?_ | refine keepS2s ?_)); done))
        (fail)
      all_goals
        rename_i hH
        have HB := ahide hH.2.2
        clear hH
        go_wp2_with fail
        refine bodyPost_ret (v := .tuple #[.int .i64 0, .agg #[.int .i64 A, .int .i64 D, .int .i64 3], .nilIface]) ?_ rfl ⟨rfl, HB.out⟩
        simp [results, Try.results32, go_sem, p0, p1, p2]

end Go.Proofs.Ythijegfacnjooaa
