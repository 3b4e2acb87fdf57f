/-
  Contracts of hold.Told and hold.Want.
-/
import Derived.Test.YtheihcpacpoliaaHoldT
namespace Go.Proofs.Ytheihcpacpoliaa
open Go.RowKit Plain

set_option maxRecDepth 100000 in
set_option maxHeartbeats 4000000 in
theorem told_ok (L H U B M : Int) (a z : Option Addr) (ca cz : Nat) (al zl : List Int) (A D W k p v n q : Int) (want got : Int) (hm : al.length ≤ 9223372036854775807) (hn : zl.length ≤ 9223372036854775807) (hca : al.length ≤ ca) (h0 : hoE L H U B M al zl A D W k n q = 0) (w : World) (ha : Lst w a al) (hz : Lst w z zl) :
    Calls Try.prog 35 #[.agg #[.int .i64 L, .int .i64 H, .int .i64 U, .int .i64 B, .int .i64 M, .slice a al.length ca, .slice z zl.length cz], .agg #[.int .i64 A, .int .i64 D, .int .i64 W], .agg #[.int .i64 k, .int .i64 p, .int .i64 v, .int .i64 n, .int .i64 q], .int .i64 want, .int .i64 got] w fun e w' => e = .returned (.tuple #[.agg #[.int .i64 A, .int .i64 (toD B M A D p n want got), .int .i64 W], .nilIface]) ∧ Below w.heap.size w w' := by
  have hck := fun u (h : Below w.heap.size w u) => checkAll_any L H U B M a z ca cz al zl A D W k p v n q hm hn hca u (ha.later h) (hz.later h)
  have HX := ahide (HW.new w L H U B M a z al.length zl.length ca cz A D W k p v n q)
  simp only [h0, errV_zero] at hck
  obtain ⟨e1, e2, e3⟩ := hoE_zero h0
  obtain ⟨e4, e5, e6, _⟩ := ruE_zero e1
  obtain ⟨⟨l0, l1⟩, ⟨u0, u1⟩, _, _, m0, m1⟩ := ruB_true e4
  obtain ⟨⟨a0, a1⟩, ⟨d0, d1⟩, _, _⟩ := stB_true e2
  clear h0 e1 e2 e3 e4 e6 ha hz
  unfold toD
  by_cases hn : n = 0
  · by_cases hg : got = want
    · rw [if_pos ⟨hn, hg⟩]
      have hg' : (got == want) = true := by simpa using hg
      have hn' : (n == 0) = true := by simpa using hn
      clear hg hn
      have hpl := holdPull_ex A p B (by omega) (by omega)
      have ppb := pullI_bd B A p
      generalize pullI B A p = pp at *
      obtain ⟨pp0, pp1⟩ := ppb
      have hm2 := clipMove_ex L H U B M a z al.length zl.length ca cz (D + pp) m0 m1
      generalize clipI (D + pp) (-M) M = y at *
      have v2 : IntKind.i64.wrap (D + pp) = D + pp := hwrap_id (by omega) (by omega)
      go_enter Try.func35, Try.ntmps35
      go_upto_region 5 with (go_at_call 54; refine (hck _ HX.out.2.2.2.2.2.2).mono ?_; rintro e w1 ⟨rfl, hb⟩; have HX := ahide (HX.out.later hb); obtain ⟨⟨q0, q1, q2, q3, q4, q5, q6⟩, ⟨s0, s1, s2⟩, ⟨r0, r1, r2, r3, r4⟩, ⟨p0, p1, p2⟩, ⟨g0, g1, g2⟩, ⟨f0, f1, f2⟩, hB⟩ := HX.out; clear hB hb)
      have hB := HX.out.2.2.2.2.2.2
      have Z := ahide (show (w1.cell? ⟨w.heap.size, 0, none⟩ = some (.int .i64 L) ∧ w1.cell? ⟨w.heap.size, 1, none⟩ = some (.int .i64 H) ∧ w1.cell? ⟨w.heap.size, 2, none⟩ = some (.int .i64 U) ∧ w1.cell? ⟨w.heap.size, 3, none⟩ = some (.int .i64 B) ∧ w1.cell? ⟨w.heap.size, 4, none⟩ = some (.int .i64 M) ∧ w1.cell? ⟨w.heap.size, 5, none⟩ = some (.slice a al.length ca) ∧ w1.cell? ⟨w.heap.size, 6, none⟩ = some (.slice z zl.length cz)) ∧ (w1.cell? ⟨w.heap.size + 1, 0, none⟩ = some (.int .i64 A) ∧ w1.cell? ⟨w.heap.size + 1 + 1, 1, none⟩ = some (.int .i64 p)) ∧ Below w.heap.size w w1 from ⟨⟨q0, q1, q2, q3, q4, q5, q6⟩, ⟨s0, r1⟩, hB⟩)
      have x1 := hcell_later (abelow_alloc w1 (.cells #[.int .i64 L, .int .i64 H, .int .i64 U, .int .i64 B, .int .i64 M, .slice a al.length ca, .slice z zl.length cz] 45)) s1
      have x2 := hfr_later (abelow_alloc w1 (.cells #[.int .i64 L, .int .i64 H, .int .i64 U, .int .i64 B, .int .i64 M, .slice a al.length ca, .slice z zl.length cz] 45)) s1 g1
      clear hB
      apply htwice
      · intro hk
        refine wp_region_held_drew (S := fun u => (u.cell? ⟨w.heap.size, 0, none⟩ = some (.int .i64 L) ∧ u.cell? ⟨w.heap.size, 1, none⟩ = some (.int .i64 H) ∧ u.cell? ⟨w.heap.size, 2, none⟩ = some (.int .i64 U) ∧ u.cell? ⟨w.heap.size, 3, none⟩ = some (.int .i64 B) ∧ u.cell? ⟨w.heap.size, 4, none⟩ = some (.int .i64 M) ∧ u.cell? ⟨w.heap.size, 5, none⟩ = some (.slice a al.length ca) ∧ u.cell? ⟨w.heap.size, 6, none⟩ = some (.slice z zl.length cz)) ∧ (u.cell? ⟨w.heap.size + 1, 0, none⟩ = some (.int .i64 A) ∧ u.cell? ⟨w.heap.size + 1 + 1, 1, none⟩ = some (.int .i64 p)) ∧ Below w.heap.size w u) (by kernel_rfl) (by first | exact keepSG (Below.refl _ _).drew Z.out | (repeat (with_reducible first | exact Z.out | refine keepSG (Below.refl _ _).drew ?_ | refine keepSG (abelow_alloc _ _) ?_ | refine keepSGs ?_))) (fun hHeld => ?_)
        refine wpAnyH_take (i := 0) (v := ?v1) rfl (by kernel_rfl) (by kernel_rfl) (by kernel_rfl) (fun _ _ _ h => h) (Or.inl ⟨by rfl, ?hy1⟩) (by assumption) ?rest1
        case hy1 => (intro w hSw; (try dsimp only at hSw); go_simp; (try with_reducible rfl))
        (try simp only [Act.put])
        refine wpAnyH_take (i := 1) (v := ?v2) rfl (by kernel_rfl) (by kernel_rfl) (by kernel_rfl) (fun _ _ _ h => h) (Or.inl ⟨by rfl, ?hy2⟩) (by assumption) ?rest2
        case hy2 => (intro w hSw; (try dsimp only at hSw); go_simp; (try with_reducible rfl))
        (try simp only [Act.put])
        refine wpAnyH_take (i := 3) (v := ?v3) rfl (by kernel_rfl) (by kernel_rfl) (by kernel_rfl) (fun _ _ _ h => h) (Or.inl ⟨by rfl, ?hy3⟩) (by assumption) ?rest3
        case hy3 => (intro w hSw; (try dsimp only at hSw); go_simp; (try with_reducible rfl))
        (try simp only [Act.put])
        refine wpAnyH_take (i := 4) (v := ?v4) rfl (by kernel_rfl) (by kernel_rfl) (by kernel_rfl) (fun _ _ _ h => h) (Or.inl ⟨by rfl, ?hy4⟩) (by assumption) ?rest4
        case hy4 => (intro w hSw; (try dsimp only at hSw); go_simp; (try with_reducible rfl))
        (try simp only [Act.put])
        refine wpAnyH_take (i := 5) (v := ?v5) rfl (by kernel_rfl) (by kernel_rfl) (by kernel_rfl) (fun _ _ _ h => h) (Or.inl ⟨by rfl, ?hy5⟩) (by assumption) ?rest5
        case hy5 => (intro w hSw; (try dsimp only at hSw); go_simp; (try with_reducible rfl))
        (try simp only [Act.put])
        refine wpAnyH_take (i := 6) (v := ?v6) rfl (by kernel_rfl) (by kernel_rfl) (by kernel_rfl) (fun _ _ _ h => h) (Or.inl ⟨by rfl, ?hy6⟩) (by assumption) ?rest6
        case hy6 => (intro w hSw; (try dsimp only at hSw); go_simp; (try with_reducible rfl))
        (try simp only [Act.put])
        refine wpAnyH_take (i := 7) (v := ?v7) rfl (by kernel_rfl) (by kernel_rfl) (by kernel_rfl) (fun _ _ _ h => h) (Or.inl ⟨by rfl, ?hy7⟩) (by assumption) ?rest7
        case hy7 => (intro w hSw; (try dsimp only at hSw); go_simp; (try with_reducible rfl))
        (try simp only [Act.put])
        refine wpAnyH_take (i := 8) (v := ?v8) rfl (by kernel_rfl) (by kernel_rfl) (by kernel_rfl) (fun _ _ _ h => h) (Or.inl ⟨by rfl, ?hy8⟩) (by assumption) ?rest8
        case hy8 => (intro w hSw; (try dsimp only at hSw); go_simp; (try with_reducible rfl))
        (try simp only [Act.put])
        refine wpAnyH_ready (rs := [2, 9]) (by kernel_rfl) (by simp) ?_
        refine AllReadyH.cons rfl (fun K hK => ?_) (AllReadyH.cons rfl (fun K hK => ?_) AllReadyH.nil)
        · go_simp
          refine hK.out _ _ (by first | exact keepSG (Below.refl _ _).drew Z.out | (repeat (with_reducible first | exact Z.out | refine keepSG (Below.refl _ _).drew ?_ | refine keepSG (abelow_alloc _ _) ?_ | refine keepSGs ?_))) (fun hHeld => ?_)
          clear hK K
          (try simp only [Act.put])
          refine wpAnyH_ready (rs := [9]) (by kernel_rfl) (by simp) ?_
          refine AllReadyH.cons rfl (fun K hK => ?_) AllReadyH.nil
          go_simp
          refine (hpl _).mono ?_
          rintro e w' ⟨rfl, hq⟩
          have hq := hq.symm
          subst hq
          go_wp2_with fail
          refine hK.out _ _ (by first | exact keepSG (Below.refl _ _).drew Z.out | (repeat (with_reducible first | exact Z.out | refine keepSG (Below.refl _ _).drew ?_ | refine keepSG (abelow_alloc _ _) ?_ | refine keepSGs ?_))) (fun hHeld => ?_)
          clear hK K
          (try simp only [Act.put])
          refine wpAnyH_take (i := 10) (v := ?v9) rfl (by kernel_rfl) (by kernel_rfl) (by kernel_rfl) (fun _ _ _ h => h) (Or.inl ⟨by rfl, ?hy9⟩) (by assumption) ?rest9
          case hy9 => (intro w hSw; (try dsimp only at hSw); go_simp; (try with_reducible rfl))
          (try simp only [Act.put])
          refine wpAnyH_ready (rs := [11]) (by kernel_rfl) (by simp) ?_
          refine AllReadyH.cons rfl (fun K hK => ?_) AllReadyH.nil
          go_simp
          refine (hm2 _).mono ?_
          rintro e w' ⟨rfl, hq⟩
          have hq := hq.symm
          subst hq
          go_wp2_with fail
          refine hK.out _ _ (by first | exact keepSG (Below.refl _ _).drew Z.out | (repeat (with_reducible first | exact Z.out | refine keepSG (Below.refl _ _).drew ?_ | refine keepSG (abelow_alloc _ _) ?_ | refine keepSGs ?_))) (fun hHeld => ?_)
          clear hK K
          (try simp only [Act.put])
          refine wpAnyH_take (i := 12) (v := ?v10) rfl (by kernel_rfl) (by kernel_rfl) (by kernel_rfl) (fun _ _ _ h => h) (Or.inl ⟨by rfl, ?hy10⟩) (by assumption) ?rest10
          case hy10 => (intro w hSw; (try dsimp only at hSw); go_simp; (try with_reducible rfl))
          (try simp only [Act.put])
          refine wpAnyH_ready (rs := [13]) (by kernel_rfl) (by simp) ?_
          refine AllReadyH.cons rfl (fun K hK => ?_) AllReadyH.nil
          go_simp
          refine hK.out _ _ (by first | exact keepSG (Below.refl _ _).drew Z.out | (repeat (with_reducible first | exact Z.out | refine keepSG (Below.refl _ _).drew ?_ | refine keepSG (abelow_alloc _ _) ?_ | refine keepSGs ?_))) (fun hHeld => ?_)
          clear hK K
          (try simp only [Act.put])
          refine wpAnyH_done (by kernel_rfl) ?_ _
          exact hk
        · go_simp
          refine (hpl _).mono ?_
          rintro e w' ⟨rfl, hq⟩
          have hq := hq.symm
          subst hq
          go_wp2_with fail
          refine hK.out _ _ (by first | exact keepSG (Below.refl _ _).drew Z.out | (repeat (with_reducible first | exact Z.out | refine keepSG (Below.refl _ _).drew ?_ | refine keepSG (abelow_alloc _ _) ?_ | refine keepSGs ?_))) (fun hHeld => ?_)
          clear hK K
          (try simp only [Act.put])
          refine wpAnyH_ready (rs := [2]) (by kernel_rfl) (by simp) ?_
          refine AllReadyH.cons rfl (fun K hK => ?_) AllReadyH.nil
          go_simp
          refine hK.out _ _ (by first | exact keepSG (Below.refl _ _).drew Z.out | (repeat (with_reducible first | exact Z.out | refine keepSG (Below.refl _ _).drew ?_ | refine keepSG (abelow_alloc _ _) ?_ | refine keepSGs ?_))) (fun hHeld => ?_)
          clear hK K
          (try simp only [Act.put])
          refine wpAnyH_take (i := 10) (v := ?v11) rfl (by kernel_rfl) (by kernel_rfl) (by kernel_rfl) (fun _ _ _ h => h) (Or.inl ⟨by rfl, ?hy11⟩) (by assumption) ?rest11
          case hy11 => (intro w hSw; (try dsimp only at hSw); go_simp; (try with_reducible rfl))
          (try simp only [Act.put])
          refine wpAnyH_ready (rs := [11]) (by kernel_rfl) (by simp) ?_
          refine AllReadyH.cons rfl (fun K hK => ?_) AllReadyH.nil
          go_simp
          refine (hm2 _).mono ?_
          rintro e w' ⟨rfl, hq⟩
          have hq := hq.symm
          subst hq
          go_wp2_with fail
          refine hK.out _ _ (by first | exact keepSG (Below.refl _ _).drew Z.out | (repeat (with_reducible first | exact Z.out | refine keepSG (Below.refl _ _).drew ?_ | refine keepSG (abelow_alloc _ _) ?_ | refine keepSGs ?_))) (fun hHeld => ?_)
          clear hK K
          (try simp only [Act.put])
          refine wpAnyH_take (i := 12) (v := ?v12) rfl (by kernel_rfl) (by kernel_rfl) (by kernel_rfl) (fun _ _ _ h => h) (Or.inl ⟨by rfl, ?hy12⟩) (by assumption) ?rest12
          case hy12 => (intro w hSw; (try dsimp only at hSw); go_simp; (try with_reducible rfl))
          (try simp only [Act.put])
          refine wpAnyH_ready (rs := [13]) (by kernel_rfl) (by simp) ?_
          refine AllReadyH.cons rfl (fun K hK => ?_) AllReadyH.nil
          go_simp
          refine hK.out _ _ (by first | exact keepSG (Below.refl _ _).drew Z.out | (repeat (with_reducible first | exact Z.out | refine keepSG (Below.refl _ _).drew ?_ | refine keepSG (abelow_alloc _ _) ?_ | refine keepSGs ?_))) (fun hHeld => ?_)
          clear hK K
          (try simp only [Act.put])
          refine wpAnyH_done (by kernel_rfl) ?_ _
          exact hk
      have HX3 := ahide ((((HX.out.later (abelow_alloc _ (.cells #[.int .i64 L, .int .i64 H, .int .i64 U, .int .i64 B, .int .i64 M, .slice a al.length ca, .slice z zl.length cz] 45))).setD y).later (Below.refl _ _).drew).later (Below.refl _ _).drew)
      generalize hw3 : World.drew (World.drew (World.setCell _ _ (.int .i64 y))) = w3 at *
      clear hw3 HX Z q0 q1 q2 q3 q4 q5 q6 s0 s1 s2 r0 r1 r2 r3 r4 p0 p1 p2 g0 g1 g2 f0 f1 f2 x1 x2
      obtain ⟨⟨q0, q1, q2, q3, q4, q5, q6⟩, ⟨s0, s1, s2⟩, ⟨r0, r1, r2, r3, r4⟩, ⟨p0, p1, p2⟩, ⟨g0, g1, g2⟩, ⟨f0, f1, f2⟩, hB⟩ := HX3.out
      go_wp2_with fail
      refine bodyPost_ret (v := .tuple #[.agg #[.int .i64 A, .int .i64 y, .int .i64 W], .nilIface]) ?_ rfl ⟨rfl, ((hB.setCell (by simp; omega) _).setCell (by simp; omega) _).setCell (by simp; omega) _⟩
      simp [results, Try.results35, go_sem, p0, p1, p2]
    · rw [if_neg (fun h => hg h.2)]
      have hg' : (got == want) = false := by simpa using hg
      have hn' : (n == 0) = true := by simpa using hn
      clear hg hn
      go_enter Try.func35, Try.ntmps35
      go_wp2_with (go_at_call 54; refine (hck _ HX.out.2.2.2.2.2.2).mono ?_; rintro e w1 ⟨rfl, hb⟩; have HX := ahide (HX.out.later hb); obtain ⟨⟨q0, q1, q2, q3, q4, q5, q6⟩, ⟨s0, s1, s2⟩, ⟨r0, r1, r2, r3, r4⟩, ⟨p0, p1, p2⟩, ⟨g0, g1, g2⟩, ⟨f0, f1, f2⟩, hB⟩ := HX.out; clear hB hb)
      exact bodyPost_ret (v := .tuple #[.agg #[.int .i64 A, .int .i64 D, .int .i64 W], .nilIface]) (by simp [results, Try.results35, go_sem, p0, p1, p2]) rfl ⟨rfl, ((HX.out.2.2.2.2.2.2.setCell (by simp; omega) _).setCell (by simp; omega) _).setCell (by simp; omega) _⟩
  · rw [if_neg (fun h => hn h.1)]
    have hn' : (n == 0) = false := by simpa using hn
    clear hn
    go_enter Try.func35, Try.ntmps35
    go_wp2_with (go_at_call 54; refine (hck _ HX.out.2.2.2.2.2.2).mono ?_; rintro e w1 ⟨rfl, hb⟩; have HX := ahide (HX.out.later hb); obtain ⟨⟨q0, q1, q2, q3, q4, q5, q6⟩, ⟨s0, s1, s2⟩, ⟨r0, r1, r2, r3, r4⟩, ⟨p0, p1, p2⟩, ⟨g0, g1, g2⟩, ⟨f0, f1, f2⟩, hB⟩ := HX.out; clear hB hb)
    exact bodyPost_ret (v := .tuple #[.agg #[.int .i64 A, .int .i64 D, .int .i64 W], .nilIface]) (by simp [results, Try.results35, go_sem, p0, p1, p2]) rfl ⟨rfl, ((HX.out.2.2.2.2.2.2.setCell (by simp; omega) _).setCell (by simp; omega) _).setCell (by simp; omega) _⟩

set_option maxHeartbeats 2000000 in
theorem told_err (L H U B M : Int) (a z : Option Addr) (ca cz : Nat) (al zl : List Int) (A D W k p v n q : Int) (want got : Int) (hm : al.length ≤ 9223372036854775807) (hn : zl.length ≤ 9223372036854775807) (hca : al.length ≤ ca) (h0 : hoE L H U B M al zl A D W k n q ≠ 0) (w : World) (ha : Lst w a al) (hz : Lst w z zl) :
    Calls Try.prog 35 #[.agg #[.int .i64 L, .int .i64 H, .int .i64 U, .int .i64 B, .int .i64 M, .slice a al.length ca, .slice z zl.length cz], .agg #[.int .i64 A, .int .i64 D, .int .i64 W], .agg #[.int .i64 k, .int .i64 p, .int .i64 v, .int .i64 n, .int .i64 q], .int .i64 want, .int .i64 got] w fun e w' => e = .returned (.tuple #[.agg #[.int .i64 0, .int .i64 0, .int .i64 0], .iface 23 (.int .i64 (hoE L H U B M al zl A D W k n q))]) ∧ Below w.heap.size w w' := by
  have hck := fun u (h : Below w.heap.size w u) => checkAll_any L H U B M a z ca cz al zl A D W k p v n q hm hn hca u (ha.later h) (hz.later h)
  have HX := ahide (HW.new w L H U B M a z al.length zl.length ca cz A D W k p v n q)
  simp only [errV_ne h0] at hck
  clear h0 ha hz
  generalize hoE L H U B M al zl A D W k n q = E at *
  go_enter Try.func35, Try.ntmps35
  go_wp2_with (go_at_call 54; refine (hck _ HX.out.2.2.2.2.2.2).mono ?_; rintro e w1 ⟨rfl, hb⟩; have HX := ahide (HX.out.later hb); obtain ⟨⟨q0, q1, q2, q3, q4, q5, q6⟩, ⟨s0, s1, s2⟩, ⟨r0, r1, r2, r3, r4⟩, ⟨p0, p1, p2⟩, ⟨g0, g1, g2⟩, ⟨f0, f1, f2⟩, hB⟩ := HX.out; clear hB hb)
  exact bodyPost_ret (v := .tuple #[.agg #[.int .i64 0, .int .i64 0, .int .i64 0], .iface 23 (.int .i64 E)]) (by simp [results, Try.results35, go_sem, p0, p1, p2]) rfl ⟨rfl, ((HX.out.2.2.2.2.2.2.setCell (by simp; omega) _).setCell (by simp; omega) _).setCell (by simp; omega) _⟩

set_option maxHeartbeats 2000000 in
theorem want_err (L H U B M : Int) (a z : Option Addr) (ca cz : Nat) (al zl : List Int) (A D W k p v n q : Int) (hm : al.length ≤ 9223372036854775807) (hn : zl.length ≤ 9223372036854775807) (hca : al.length ≤ ca) (h0 : hoE L H U B M al zl A D W k n q ≠ 0) (w : World) (ha : Lst w a al) (hz : Lst w z zl) :
    Calls Try.prog 34 #[.agg #[.int .i64 L, .int .i64 H, .int .i64 U, .int .i64 B, .int .i64 M, .slice a al.length ca, .slice z zl.length cz], .agg #[.int .i64 A, .int .i64 D, .int .i64 W], .agg #[.int .i64 k, .int .i64 p, .int .i64 v, .int .i64 n, .int .i64 q]] w fun e w' => e = .returned (.tuple #[.int .i64 0, .agg #[.int .i64 0, .int .i64 0, .int .i64 0], .iface 23 (.int .i64 (hoE L H U B M al zl A D W k n q))]) ∧ Below w.heap.size w w' := by
  have hck := fun u (h : Below w.heap.size w u) => checkAll_any L H U B M a z ca cz al zl A D W k p v n q hm hn hca u (ha.later h) (hz.later h)
  have HX := ahide (HW.new w L H U B M a z al.length zl.length ca cz A D W k p v n q)
  simp only [errV_ne h0] at hck
  clear h0 ha hz
  generalize hoE L H U B M al zl A D W k n q = E at *
  go_enter Try.func34, Try.ntmps34
  go_wp2_with (go_at_call 54; refine (hck _ HX.out.2.2.2.2.2.2).mono ?_; rintro e w1 ⟨rfl, hb⟩; have HX := ahide (HX.out.later hb); obtain ⟨⟨q0, q1, q2, q3, q4, q5, q6⟩, ⟨s0, s1, s2⟩, ⟨r0, r1, r2, r3, r4⟩, ⟨p0, p1, p2⟩, ⟨g0, g1, g2⟩, ⟨f0, f1, f2⟩, hB⟩ := HX.out; clear hB hb)
  exact bodyPost_ret (v := .tuple #[.int .i64 0, .agg #[.int .i64 0, .int .i64 0, .int .i64 0], .iface 23 (.int .i64 E)]) (by simp [results, Try.results34, go_sem, p0, p1, p2]) rfl ⟨rfl, ((HX.out.2.2.2.2.2.2.setCell (by simp; omega) _).setCell (by simp; omega) _).setCell (by simp; omega) _⟩

set_option maxRecDepth 100000 in
set_option maxHeartbeats 4000000 in
theorem want_ok (L H U B M : Int) (a z : Option Addr) (ca cz : Nat) (al zl : List Int) (A D W k p v n q : Int) (hm : al.length ≤ 9223372036854775807) (hn : zl.length ≤ 9223372036854775807) (hca : al.length ≤ ca) (h0 : hoE L H U B M al zl A D W k n q = 0) (w : World) (ha : Lst w a al) (hz : Lst w z zl) :
    Calls Try.prog 34 #[.agg #[.int .i64 L, .int .i64 H, .int .i64 U, .int .i64 B, .int .i64 M, .slice a al.length ca, .slice z zl.length cz], .agg #[.int .i64 A, .int .i64 D, .int .i64 W], .agg #[.int .i64 k, .int .i64 p, .int .i64 v, .int .i64 n, .int .i64 q]] w fun e w' => e = .returned (.tuple #[.int .i64 (wX L H U M al zl A D W k p v n q), .agg #[.int .i64 (wA L H U A W k p n), .int .i64 (wD L H U M al zl A D W k p v n q), .int .i64 n], .nilIface]) ∧ Below w.heap.size w w' := by
  have hck := fun u (h : Below w.heap.size w u) => checkAll_any L H U B M a z ca cz al zl A D W k p v n q hm hn hca u (ha.later h) (hz.later h)
  have HX := ahide (HW.new w L H U B M a z al.length zl.length ca cz A D W k p v n q)
  simp only [h0, errV_zero] at hck
  obtain ⟨e1, e2, e3⟩ := hoE_zero h0
  obtain ⟨e4, e5, e6, _⟩ := ruE_zero e1
  obtain ⟨_, _, _, _, m0, m1⟩ := ruB_true e4
  obtain ⟨⟨k0, k1⟩, ⟨n0, n3'⟩, _, _⟩ := asB_true e3
  have hgd := guarded_any n
  by_cases n1 : n ≤ 1
  · unfold wX wA wD; rw [if_pos n1, if_pos n1, if_pos n1]
    rw [show betw n 0 1 = true from betw_mk n0 n1] at hgd
    have hst := fun u (h : Below w.heap.size w u) => steer_ok L H U B M a z ca cz al zl A D W k p v n q hca h0 u (ha.later h) (hz.later h)
    clear h0 e1 e2 e3 e4 e6 ha hz
    generalize wtI L H U M al zl A D W k p v n q = wt at *
    generalize a2I L H U A W k p n = wa at *
    generalize d2I L H U M al zl A D W k p v n q = wd at *
    go_enter Try.func34, Try.ntmps34
    go_wp2_with (first
      | (go_at_call 54; refine (hck _ HX.out.2.2.2.2.2.2).mono ?_; rintro e w1 ⟨rfl, hb⟩; have HX := ahide (HX.out.later hb); obtain ⟨⟨q0, q1, q2, q3, q4, q5, q6⟩, ⟨s0, s1, s2⟩, ⟨r0, r1, r2, r3, r4⟩, ⟨p0, p1, p2⟩, ⟨g0, g1, g2⟩, ⟨f0, f1, f2⟩, hB⟩ := HX.out; clear hB hb)
      | (go_at_call 55; refine (hgd _).mono ?_; rintro e w' ⟨rfl, hq⟩; have hq := hq.symm; subst hq)
      | (go_at_call 56; refine (hst _ HX.out.2.2.2.2.2.2).mono ?_; rintro e w2 ⟨rfl, hb⟩; have HX := ahide (HX.out.later hb); obtain ⟨⟨q0, q1, q2, q3, q4, q5, q6⟩, ⟨s0, s1, s2⟩, ⟨r0, r1, r2, r3, r4⟩, ⟨p0, p1, p2⟩, ⟨g0, g1, g2⟩, ⟨f0, f1, f2⟩, hB⟩ := HX.out; clear hB hb))
    exact bodyPost_ret (v := .tuple #[.int .i64 wt, .agg #[.int .i64 wa, .int .i64 wd, .int .i64 n], .nilIface]) (by simp [results, Try.results34, go_sem, p0, p1, p2]) rfl ⟨rfl, ((HX.out.2.2.2.2.2.2.setCell (by simp; omega) _).setCell (by simp; omega) _).setCell (by simp; omega) _⟩
  · unfold wX wA wD; rw [if_neg n1, if_neg n1, if_neg n1]
    rw [show betw n 0 1 = false by unfold betw; simp; omega] at hgd
    have hhu := holdHun_any k M k0 k1 (by omega) (by omega)
    clear h0 e1 e2 e3 e4 e6 ha hz
    have GD : True := trivial
    by_cases n2 : n = 2
    · rw [if_pos n2]
      subst n2
      generalize hunI k M = hu at *
      go_enter Try.func34, Try.ntmps34
      go_upto_region 8 with (first
        | (go_at_call 54; refine (hck _ HX.out.2.2.2.2.2.2).mono ?_; rintro e w1 ⟨rfl, hb⟩; have HX := ahide (HX.out.later hb); obtain ⟨⟨q0, q1, q2, q3, q4, q5, q6⟩, ⟨s0, s1, s2⟩, ⟨r0, r1, r2, r3, r4⟩, ⟨p0, p1, p2⟩, ⟨g0, g1, g2⟩, ⟨f0, f1, f2⟩, hB⟩ := HX.out; clear hB hb)
        | (go_at_call 55; refine (hgd _).mono ?_; rintro e w' ⟨rfl, hq⟩; have hq := hq.symm; subst hq))
      have HX2 := ahide (HX.out.setW 2)
      clear HX
      generalize hw2 : World.setCell _ _ (.int .i64 _) = w2 at *
      clear hw2 q0 q1 q2 q3 q4 q5 q6 s0 s1 s2 r0 r1 r2 r3 r4 p0 p1 p2 g0 g1 g2 f0 f1 f2
      obtain ⟨⟨q0, q1, q2, q3, q4, q5, q6⟩, ⟨s0, s1, s2⟩, ⟨r0, r1, r2, r3, r4⟩, ⟨p0, p1, p2⟩, ⟨g0, g1, g2⟩, ⟨f0, f1, f2⟩, hB⟩ := HX2.out
      have Z := ahide (show (w2.cell? ⟨w.heap.size, 4, none⟩ = some (.int .i64 M) ∧ w2.cell? ⟨w.heap.size + 1 + 1, 0, none⟩ = some (.int .i64 k)) ∧ (w2.cell? ⟨w.heap.size + 1, 0, none⟩ = some (.int .i64 A) ∧ w2.cell? ⟨w.heap.size + 1, 1, none⟩ = some (.int .i64 D) ∧ w2.cell? ⟨w.heap.size + 1, 2, none⟩ = some (.int .i64 2)) ∧ Below w.heap.size w w2 from ⟨⟨q4, r0⟩, ⟨s0, s1, s2⟩, hB⟩)
      clear hB q0 q1 q2 q3 q4 q5 q6 s0 s1 s2 r0 r1 r2 r3 r4 g0 g1 g2
      go_region_held3 (fun u => (u.cell? ⟨w.heap.size, 4, none⟩ = some (.int .i64 M) ∧ u.cell? ⟨w.heap.size + 1 + 1, 0, none⟩ = some (.int .i64 k)) ∧ (u.cell? ⟨w.heap.size + 1, 0, none⟩ = some (.int .i64 A) ∧ u.cell? ⟨w.heap.size + 1, 1, none⟩ = some (.int .i64 D) ∧ u.cell? ⟨w.heap.size + 1, 2, none⟩ = some (.int .i64 2)) ∧ Below w.heap.size w u)
        (first
          | (with_reducible assumption)
          | (with_reducible apply keepS2; with_reducible assumption; with_reducible assumption)
          | ((repeat (with_reducible first | exact Z.out | assumption | refine keepS2 (Below.refl _ _).drew ?_ | refine keepS2s ?_)); done))
        (first
          | (go_at_call 57; refine (hhu _).mono ?_; rintro e w' ⟨rfl, hq⟩; have hq := hq.symm; subst hq))
      all_goals
        rename_i hH
        have HB := ahide hH.2.2
        clear hH
        go_wp2_with fail
        refine bodyPost_ret (v := .tuple #[.int .i64 hu, .agg #[.int .i64 A, .int .i64 D, .int .i64 2], .nilIface]) ?_ rfl ⟨rfl, HB.out⟩
        simp [results, Try.results34, go_sem, p0, p1, p2]
    · rw [if_neg n2]
      obtain rfl : n = 3 := by omega
      clear n1 n2 n0 n3' hhu
      go_enter Try.func34, Try.ntmps34
      go_upto_region 9 with (first
        | (go_at_call 54; refine (hck _ HX.out.2.2.2.2.2.2).mono ?_; rintro e w1 ⟨rfl, hb⟩; have HX := ahide (HX.out.later hb); obtain ⟨⟨q0, q1, q2, q3, q4, q5, q6⟩, ⟨s0, s1, s2⟩, ⟨r0, r1, r2, r3, r4⟩, ⟨p0, p1, p2⟩, ⟨g0, g1, g2⟩, ⟨f0, f1, f2⟩, hB⟩ := HX.out; clear hB hb)
        | (go_at_call 55; refine (hgd _).mono ?_; rintro e w' ⟨rfl, hq⟩; have hq := hq.symm; subst hq))
      have HX2 := ahide (HX.out.setW 3)
      clear HX
      generalize hw2 : World.setCell _ _ (.int .i64 _) = w2 at *
      clear hw2 q0 q1 q2 q3 q4 q5 q6 s0 s1 s2 r0 r1 r2 r3 r4 p0 p1 p2 g0 g1 g2 f0 f1 f2
      obtain ⟨⟨q0, q1, q2, q3, q4, q5, q6⟩, ⟨s0, s1, s2⟩, ⟨r0, r1, r2, r3, r4⟩, ⟨p0, p1, p2⟩, ⟨g0, g1, g2⟩, ⟨f0, f1, f2⟩, hB⟩ := HX2.out
      have Z := ahide (show (w2.cell? ⟨w.heap.size, 4, none⟩ = some (.int .i64 M) ∧ w2.cell? ⟨w.heap.size + 1 + 1, 0, none⟩ = some (.int .i64 k)) ∧ (w2.cell? ⟨w.heap.size + 1, 0, none⟩ = some (.int .i64 A) ∧ w2.cell? ⟨w.heap.size + 1, 1, none⟩ = some (.int .i64 D) ∧ w2.cell? ⟨w.heap.size + 1, 2, none⟩ = some (.int .i64 3)) ∧ Below w.heap.size w w2 from ⟨⟨q4, r0⟩, ⟨s0, s1, s2⟩, hB⟩)
      clear hB q0 q1 q2 q3 q4 q5 q6 s0 s1 s2 r0 r1 r2 r3 r4 g0 g1 g2
      go_region_held3 (fun u => (u.cell? ⟨w.heap.size, 4, none⟩ = some (.int .i64 M) ∧ u.cell? ⟨w.heap.size + 1 + 1, 0, none⟩ = some (.int .i64 k)) ∧ (u.cell? ⟨w.heap.size + 1, 0, none⟩ = some (.int .i64 A) ∧ u.cell? ⟨w.heap.size + 1, 1, none⟩ = some (.int .i64 D) ∧ u.cell? ⟨w.heap.size + 1, 2, none⟩ = some (.int .i64 3)) ∧ Below w.heap.size w u)
        (first
          | (with_reducible assumption)
          | (with_reducible apply keepS2; with_reducible assumption; with_reducible assumption)
          | ((repeat (with_reducible first | exact Z.out | assumption | refine keepS2 (Below.refl _ _).drew ?_ | refine keepS2s ?_)); done))
        (fail)
      all_goals
        rename_i hH
        have HB := ahide hH.2.2
        clear hH
        go_wp2_with fail
        refine bodyPost_ret (v := .tuple #[.int .i64 0, .agg #[.int .i64 A, .int .i64 D, .int .i64 3], .nilIface]) ?_ rfl ⟨rfl, HB.out⟩
        simp [results, Try.results34, go_sem, p0, p1, p2]

end Go.Proofs.Ytheihcpacpoliaa
