/-
  Contract of hold.steer: what is wanted under a law that holds.
-/
import Derived.Test.YthijegfacnjooaaHoldV
import Derived.Test.YthijegfacnjooaaMinA
namespace Go.Proofs.Ythijegfacnjooaa
open Go.RowKit Plain

/-- The cells that are read where Aim turns. -/
theorem keepSA {w u u' : World} {L H U k : Int} (hb : Below u.heap.size u u') (h : (u.cell? ⟨w.heap.size, 0, none⟩ = some (.int .i64 L) ∧ u.cell? ⟨w.heap.size, 1, none⟩ = some (.int .i64 H) ∧ u.cell? ⟨w.heap.size, 2, none⟩ = some (.int .i64 U) ∧ u.cell? ⟨w.heap.size + 1 + 1, 0, none⟩ = some (.int .i64 k)) ∧ Below w.heap.size w u) : (u'.cell? ⟨w.heap.size, 0, none⟩ = some (.int .i64 L) ∧ u'.cell? ⟨w.heap.size, 1, none⟩ = some (.int .i64 H) ∧ u'.cell? ⟨w.heap.size, 2, none⟩ = some (.int .i64 U) ∧ u'.cell? ⟨w.heap.size + 1 + 1, 0, none⟩ = some (.int .i64 k)) ∧ Below w.heap.size w u' :=
  ⟨⟨hcell_later hb h.1.1, hcell_later hb h.1.2.1, hcell_later hb h.1.2.2.1, hcell_later hb h.1.2.2.2⟩, abelow_up h.2 hb⟩
theorem keepSAs {w u : World} {L H U k : Int} {j : Nat} {x : Value} (h : (u.cell? ⟨w.heap.size, 0, none⟩ = some (.int .i64 L) ∧ u.cell? ⟨w.heap.size, 1, none⟩ = some (.int .i64 H) ∧ u.cell? ⟨w.heap.size, 2, none⟩ = some (.int .i64 U) ∧ u.cell? ⟨w.heap.size + 1 + 1, 0, none⟩ = some (.int .i64 k)) ∧ Below w.heap.size w u) : ((u.setCell ⟨w.heap.size + 1, j, none⟩ x).cell? ⟨w.heap.size, 0, none⟩ = some (.int .i64 L) ∧ (u.setCell ⟨w.heap.size + 1, j, none⟩ x).cell? ⟨w.heap.size, 1, none⟩ = some (.int .i64 H) ∧ (u.setCell ⟨w.heap.size + 1, j, none⟩ x).cell? ⟨w.heap.size, 2, none⟩ = some (.int .i64 U) ∧ (u.setCell ⟨w.heap.size + 1, j, none⟩ x).cell? ⟨w.heap.size + 1 + 1, 0, none⟩ = some (.int .i64 k)) ∧ Below w.heap.size w (u.setCell ⟨w.heap.size + 1, j, none⟩ x) :=
  ⟨⟨hset_far (by omega) h.1.1, hset_far (by omega) h.1.2.1, hset_far (by omega) h.1.2.2.1, hset_far (by omega) h.1.2.2.2⟩, h.2.setCell (by simp) _⟩
/-- The rule, the state; the state is laid into its room. -/
theorem keepSE {w u u' : World} {L H U B M : Int} {a z : Option Addr} {la lz ca cz : Nat} {A D W : Int} (hb : Below u.heap.size u u') (h : (u.cell? ⟨w.heap.size, 0, none⟩ = some (.int .i64 L) ∧ u.cell? ⟨w.heap.size, 1, none⟩ = some (.int .i64 H) ∧ u.cell? ⟨w.heap.size, 2, none⟩ = some (.int .i64 U) ∧ u.cell? ⟨w.heap.size, 3, none⟩ = some (.int .i64 B) ∧ u.cell? ⟨w.heap.size, 4, none⟩ = some (.int .i64 M) ∧ u.cell? ⟨w.heap.size, 5, none⟩ = some (.slice a la ca) ∧ u.cell? ⟨w.heap.size, 6, none⟩ = some (.slice z lz cz)) ∧ (u.cell? ⟨w.heap.size + 1, 0, none⟩ = some (.int .i64 A) ∧ u.cell? ⟨w.heap.size + 1, 1, none⟩ = some (.int .i64 D) ∧ u.cell? ⟨w.heap.size + 1, 2, none⟩ = some (.int .i64 W)) ∧ Below w.heap.size w u) : (u'.cell? ⟨w.heap.size, 0, none⟩ = some (.int .i64 L) ∧ u'.cell? ⟨w.heap.size, 1, none⟩ = some (.int .i64 H) ∧ u'.cell? ⟨w.heap.size, 2, none⟩ = some (.int .i64 U) ∧ u'.cell? ⟨w.heap.size, 3, none⟩ = some (.int .i64 B) ∧ u'.cell? ⟨w.heap.size, 4, none⟩ = some (.int .i64 M) ∧ u'.cell? ⟨w.heap.size, 5, none⟩ = some (.slice a la ca) ∧ u'.cell? ⟨w.heap.size, 6, none⟩ = some (.slice z lz cz)) ∧ (u'.cell? ⟨w.heap.size + 1, 0, none⟩ = some (.int .i64 A) ∧ u'.cell? ⟨w.heap.size + 1, 1, none⟩ = some (.int .i64 D) ∧ u'.cell? ⟨w.heap.size + 1, 2, none⟩ = some (.int .i64 W)) ∧ Below w.heap.size w u' :=
  ⟨⟨hcell_later hb h.1.1, hcell_later hb h.1.2.1, hcell_later hb h.1.2.2.1, hcell_later hb h.1.2.2.2.1, hcell_later hb h.1.2.2.2.2.1, hcell_later hb h.1.2.2.2.2.2.1, hcell_later hb h.1.2.2.2.2.2.2⟩, ⟨hcell_later hb h.2.1.1, hcell_later hb h.2.1.2.1, hcell_later hb h.2.1.2.2⟩, abelow_up h.2.2 hb⟩
theorem keepSEs {w u : World} {L H U B M : Int} {a z : Option Addr} {la lz ca cz : Nat} {A D W : Int} {j : Nat} {x : Value} (h : (u.cell? ⟨w.heap.size, 0, none⟩ = some (.int .i64 L) ∧ u.cell? ⟨w.heap.size, 1, none⟩ = some (.int .i64 H) ∧ u.cell? ⟨w.heap.size, 2, none⟩ = some (.int .i64 U) ∧ u.cell? ⟨w.heap.size, 3, none⟩ = some (.int .i64 B) ∧ u.cell? ⟨w.heap.size, 4, none⟩ = some (.int .i64 M) ∧ u.cell? ⟨w.heap.size, 5, none⟩ = some (.slice a la ca) ∧ u.cell? ⟨w.heap.size, 6, none⟩ = some (.slice z lz cz)) ∧ (u.cell? ⟨w.heap.size + 1, 0, none⟩ = some (.int .i64 A) ∧ u.cell? ⟨w.heap.size + 1, 1, none⟩ = some (.int .i64 D) ∧ u.cell? ⟨w.heap.size + 1, 2, none⟩ = some (.int .i64 W)) ∧ Below w.heap.size w u) : ((u.setCell ⟨w.heap.size + 1 + 1 + 1, j, none⟩ x).cell? ⟨w.heap.size, 0, none⟩ = some (.int .i64 L) ∧ (u.setCell ⟨w.heap.size + 1 + 1 + 1, j, none⟩ x).cell? ⟨w.heap.size, 1, none⟩ = some (.int .i64 H) ∧ (u.setCell ⟨w.heap.size + 1 + 1 + 1, j, none⟩ x).cell? ⟨w.heap.size, 2, none⟩ = some (.int .i64 U) ∧ (u.setCell ⟨w.heap.size + 1 + 1 + 1, j, none⟩ x).cell? ⟨w.heap.size, 3, none⟩ = some (.int .i64 B) ∧ (u.setCell ⟨w.heap.size + 1 + 1 + 1, j, none⟩ x).cell? ⟨w.heap.size, 4, none⟩ = some (.int .i64 M) ∧ (u.setCell ⟨w.heap.size + 1 + 1 + 1, j, none⟩ x).cell? ⟨w.heap.size, 5, none⟩ = some (.slice a la ca) ∧ (u.setCell ⟨w.heap.size + 1 + 1 + 1, j, none⟩ x).cell? ⟨w.heap.size, 6, none⟩ = some (.slice z lz cz)) ∧ ((u.setCell ⟨w.heap.size + 1 + 1 + 1, j, none⟩ x).cell? ⟨w.heap.size + 1, 0, none⟩ = some (.int .i64 A) ∧ (u.setCell ⟨w.heap.size + 1 + 1 + 1, j, none⟩ x).cell? ⟨w.heap.size + 1, 1, none⟩ = some (.int .i64 D) ∧ (u.setCell ⟨w.heap.size + 1 + 1 + 1, j, none⟩ x).cell? ⟨w.heap.size + 1, 2, none⟩ = some (.int .i64 W)) ∧ Below w.heap.size w (u.setCell ⟨w.heap.size + 1 + 1 + 1, j, none⟩ x) := by
  have n0 : w.heap.size + 1 + 1 + 1 ≠ w.heap.size := by omega
  have n1 : w.heap.size + 1 + 1 + 1 ≠ w.heap.size + 1 := by omega
  exact ⟨⟨hset_far n0 h.1.1, hset_far n0 h.1.2.1, hset_far n0 h.1.2.2.1, hset_far n0 h.1.2.2.2.1, hset_far n0 h.1.2.2.2.2.1, hset_far n0 h.1.2.2.2.2.2.1, hset_far n0 h.1.2.2.2.2.2.2⟩, ⟨hset_far n1 h.2.1.1, hset_far n1 h.2.1.2.1, hset_far n1 h.2.1.2.2⟩, h.2.2.setCell (by simp; omega) _⟩


theorem hwrap_id {x : Int} (h0 : -9223372036854775808 ≤ x) (h1 : x ≤ 9223372036854775807) : IntKind.i64.wrap x = x := by
  rw [IntKind.wrap_i64]; omega
theorem room_zero {u u' : World} {Q : Nat} {c0 c1 c2 : Value} (hb : Below u.drew.heap.size u.drew u') (p0 : u.cell? ⟨Q, 0, none⟩ = some c0) (p1 : u.cell? ⟨Q, 1, none⟩ = some c1) (p2 : u.cell? ⟨Q, 2, none⟩ = some c2) (f0 : u.frozen? ⟨Q, 0, none⟩ = false) (f1 : u.frozen? ⟨Q, 1, none⟩ = false) (f2 : u.frozen? ⟨Q, 2, none⟩ = false) :
    u'.cell? ⟨Q, 0, none⟩ = some c0 ∧ u'.cell? ⟨Q, 1, none⟩ = some c1 ∧ u'.cell? ⟨Q, 2, none⟩ = some c2 ∧ u'.frozen? ⟨Q, 0, none⟩ = false ∧ u'.frozen? ⟨Q, 1, none⟩ = false ∧ u'.frozen? ⟨Q, 2, none⟩ = false :=
  ⟨hcell_later hb p0, hcell_later hb p1, hcell_later hb p2, hfr_later hb p0 f0, hfr_later hb p1 f1, hfr_later hb p2 f2⟩
theorem room_full {u u' : World} {Q : Nat} {c0 c1 c2 x y z : Value} (hb : Below (((u.setCell ⟨Q, 0, none⟩ x).setCell ⟨Q, 1, none⟩ y).setCell ⟨Q, 2, none⟩ z).drew.heap.size (((u.setCell ⟨Q, 0, none⟩ x).setCell ⟨Q, 1, none⟩ y).setCell ⟨Q, 2, none⟩ z).drew u') (p0 : u.cell? ⟨Q, 0, none⟩ = some c0) (p1 : u.cell? ⟨Q, 1, none⟩ = some c1) (p2 : u.cell? ⟨Q, 2, none⟩ = some c2) :
    u'.cell? ⟨Q, 0, none⟩ = some x ∧ u'.cell? ⟨Q, 1, none⟩ = some y ∧ u'.cell? ⟨Q, 2, none⟩ = some z :=
  ⟨hcell_later hb (hset_off (by decide) (hset_off (by decide) (hset_same p0))), hcell_later hb (hset_off (by decide) (hset_same (hset_off (by decide) p1))), hcell_later hb (hset_same (hset_off (by decide) (hset_off (by decide) p2)))⟩

set_option maxRecDepth 100000 in
set_option maxHeartbeats 4000000 in
theorem steer_ok (L H U B M : Int) (a z : Option Addr) (ca cz : Nat) (al zl : List Int) (A D W k p v n q : Int) (hca : al.length ≤ ca) (h0 : hoE L H U B M al zl A D W k n q = 0) (w : World) (ha : Lst w a al) (hz : Lst w z zl) :
    Calls Try.prog 56 #[.agg #[.int .i64 L, .int .i64 H, .int .i64 U, .int .i64 B, .int .i64 M, .slice a al.length ca, .slice z zl.length cz], .agg #[.int .i64 A, .int .i64 D, .int .i64 W], .agg #[.int .i64 k, .int .i64 p, .int .i64 v, .int .i64 n, .int .i64 q]] w fun e w' => e = .returned (.tuple #[.int .i64 (wtI L H U M al zl A D W k p v n q), .agg #[.int .i64 (a2I L H U A W k p n), .int .i64 (d2I L H U M al zl A D W k p v n q), .int .i64 n], .nilIface]) ∧ Below w.heap.size w w' := by
  obtain ⟨e1, e2, e3⟩ := hoE_zero h0
  obtain ⟨e4, e5, e6, _⟩ := ruE_zero e1
  obtain ⟨⟨l0, l1⟩, ⟨u0, u1⟩, ⟨t0, t1⟩, ⟨b0, b1⟩, m0, m1⟩ := ruB_true e4
  obtain ⟨⟨a0, a1⟩, ⟨d0, d1⟩, _, _⟩ := stB_true e2
  obtain ⟨⟨k0, k1⟩, _, q0', q1'⟩ := asB_true e3
  obtain ⟨ba, oa, bz, oz, rfl, rfl, hl⟩ := hline_lies e6 ha hz
  have HX := ahide (HW.new w L H U B M (some ⟨ba, oa, none⟩) (some ⟨bz, oz, none⟩) al.length zl.length ca cz A D W k p v n q)
  have hlk := fun u (h : Below w.heap.size w u) => look_ok ba oa ca bz oz cz al zl v u hca (hl.later h)
  have hhu := holdHun_any k U k0 k1 t0 (by omega)
  have hub := hunI_bd k0 k1 t0 (show U ≤ 4000 by omega)
  clear h0 e1 e2 e3 e4 e6 ha hz hl
  unfold wtI d2I ppI a2I a1I
  generalize lookI al zl v = g at *
  generalize hunI k U = hu at *
  obtain ⟨hu0, hu1⟩ := hub
  by_cases hW : n = W
  case' pos =>
    obtain ⟨x1, rfl⟩ : ∃ x1, x1 = A := ⟨_, rfl⟩
    obtain ⟨y, rfl⟩ : ∃ y, y = D := ⟨_, rfl⟩
    rw [if_pos hW, if_pos hW]
    have hne : (W != n) = false := by simp [hW]
    clear hW
    have hc2 := fixClip_any (x1 + hu) L H
    have x2b := clipI_bd (x1 + hu) e5
    generalize clipI (x1 + hu) L H = x2 at *
    have hpl := holdPull_any x2 p g (by omega) (by omega)
    have ppb := pullI_bd g x2 p
    generalize pullI g x2 p = pp at *
    obtain ⟨pp0, pp1⟩ := ppb
    have hm2 := clipMove_any L H U B M (some ⟨ba, oa, none⟩) (some ⟨bz, oz, none⟩) al.length zl.length ca cz (pp + y) m0 m1
    generalize clipI (pp + y) (-M) M = wt at *
    have v1 : IntKind.i64.wrap (x1 + hu) = x1 + hu := hwrap_id (by omega) (by omega)
    have v2 : IntKind.i64.wrap (pp + y) = pp + y := hwrap_id (by omega) (by omega)
    go_enter Try.func56, Try.ntmps56
    go_upto_region 8 with (go_at_call 83; refine (hlk _ HX.out.2.2.2.2.2.2).mono ?_; rintro e w1 ⟨rfl, hb⟩; have HX := ahide (HX.out.later hb); obtain ⟨⟨q0, q1, q2, q3, q4, q5, q6⟩, ⟨s0, s1, s2⟩, ⟨r0, r1, r2, r3, r4⟩, ⟨p0, p1, p2⟩, ⟨g0, g1, g2⟩, ⟨f0, f1, f2⟩, hB⟩ := HX.out; clear hB hb)
    have HX2 := ahide (HX.out.setW n)
    clear HX
  case' neg =>
    rw [if_neg hW, if_neg hW]
    have hne : (W != n) = true := by simpa using fun h => hW h.symm
    clear hW
    have hc1 := fixClip_any p L H
    have x1b := clipI_bd p e5
    generalize clipI p L H = x1 at *
    have hc2 := fixClip_any (x1 + hu) L H
    have x2b := clipI_bd (x1 + hu) e5
    generalize clipI (x1 + hu) L H = x2 at *
    have hpl := holdPull_any x2 p g (by omega) (by omega)
    have ppb := pullI_bd g x2 p
    generalize pullI g x2 p = pp at *
    obtain ⟨pp0, pp1⟩ := ppb
    have hm1 := clipMove_any L H U B M (some ⟨ba, oa, none⟩) (some ⟨bz, oz, none⟩) al.length zl.length ca cz (q - pp) m0 m1
    have yb := clipI_bd (q - pp) (lo := -M) (hi := M) (by omega)
    generalize clipI (q - pp) (-M) M = y at *
    have hm2 := clipMove_any L H U B M (some ⟨ba, oa, none⟩) (some ⟨bz, oz, none⟩) al.length zl.length ca cz (pp + y) m0 m1
    generalize clipI (pp + y) (-M) M = wt at *
    have v1 : IntKind.i64.wrap (x1 + hu) = x1 + hu := hwrap_id (by omega) (by omega)
    have v2 : IntKind.i64.wrap (pp + y) = pp + y := hwrap_id (by omega) (by omega)
    go_enter Try.func56, Try.ntmps56
    go_upto_region 8 with (first
      | (go_at_call 83; refine (hlk _ HX.out.2.2.2.2.2.2).mono ?_; rintro e w1 ⟨rfl, hb⟩; have HX := ahide (HX.out.later hb); obtain ⟨⟨q0, q1, q2, q3, q4, q5, q6⟩, ⟨s0, s1, s2⟩, ⟨r0, r1, r2, r3, r4⟩, ⟨p0, p1, p2⟩, ⟨g0, g1, g2⟩, ⟨f0, f1, f2⟩, hB⟩ := HX.out; clear hB hb)
      | (go_at_call 44; refine (hc1 _).mono ?_; rintro e w' ⟨rfl, hq⟩; have hq := hq.symm; subst hq))
    have HX2 := ahide ((HX.out.setW n).setA x1)
    clear HX
  all_goals
    generalize hw2 : World.setCell _ _ (.int .i64 _) = w2 at *
    clear hw2
    clear q0 q1 q2 q3 q4 q5 q6 s0 s1 s2 r0 r1 r2 r3 r4 p0 p1 p2 g0 g1 g2 f0 f1 f2
    obtain ⟨⟨q0, q1, q2, q3, q4, q5, q6⟩, ⟨s0, s1, s2⟩, ⟨r0, r1, r2, r3, r4⟩, ⟨p0, p1, p2⟩, ⟨g0, g1, g2⟩, ⟨f0, f1, f2⟩, hB⟩ := HX2.out
    have Z := ahide (show (w2.cell? ⟨w.heap.size, 0, none⟩ = some (.int .i64 L) ∧ w2.cell? ⟨w.heap.size, 1, none⟩ = some (.int .i64 H) ∧ w2.cell? ⟨w.heap.size, 2, none⟩ = some (.int .i64 U) ∧ w2.cell? ⟨w.heap.size + 1 + 1, 0, none⟩ = some (.int .i64 k)) ∧ Below w.heap.size w w2 from ⟨⟨q0, q1, q2, r0⟩, hB⟩)
    clear hB
    apply htwice
    · intro hk
      refine wp_region_held_drew (S := fun u => (u.cell? ⟨w.heap.size, 0, none⟩ = some (.int .i64 L) ∧ u.cell? ⟨w.heap.size, 1, none⟩ = some (.int .i64 H) ∧ u.cell? ⟨w.heap.size, 2, none⟩ = some (.int .i64 U) ∧ u.cell? ⟨w.heap.size + 1 + 1, 0, none⟩ = some (.int .i64 k)) ∧ Below w.heap.size w u) (by kernel_rfl) (keepSA (Below.refl _ _).drew Z.out) (fun hHeld => ?_)
      refine Tp 0 (by assumption) ?_
      (try simp only [Act.put])
      refine Tp 2 (by assumption) ?_
      (try simp only [Act.put])
      refine Tp 3 (by assumption) ?_
      (try simp only [Act.put])
      refine Tp 4 (by assumption) ?_
      (try simp only [Act.put])
      refine Tp 5 (by assumption) ?_
      (try simp only [Act.put])
      refine Tp 8 (by assumption) ?_
      (try simp only [Act.put])
      refine Tp 9 (by assumption) ?_
      (try simp only [Act.put])
      refine Tp 10 (by assumption) ?_
      (try simp only [Act.put])
      refine Tp 11 (by assumption) ?_
      (try simp only [Act.put])
      refine Tp 12 (by assumption) ?_
      (try simp only [Act.put])
      refine Tp 13 (by assumption) ?_
      (try simp only [Act.put])
      refine wpAnyH_ready (rs := [1, 6]) (by kernel_rfl) (by simp) ?_
      refine AllReadyH.cons rfl (fun K hK => ?_) (AllReadyH.cons rfl (fun K hK => ?_) AllReadyH.nil)
      · go_simp
        refine hK.out _ _ (keepSA (Below.refl _ _).drew Z.out) (fun hHeld => ?_)
        clear hK K
        (try simp only [Act.put])
        refine wpAnyH_ready (rs := [6]) (by kernel_rfl) (by simp) ?_
        refine AllReadyH.cons rfl (fun K hK => ?_) AllReadyH.nil
        go_simp
        refine (hhu _).mono ?_
        rintro e w' ⟨rfl, hq⟩
        have hq := hq.symm
        subst hq
        go_wp2_with fail
        refine hK.out _ _ (keepSA (Below.refl _ _).drew Z.out) (fun hHeld => ?_)
        clear hK K
        (try simp only [Act.put])
        refine Tp 7 (by assumption) ?_
        (try simp only [Act.put])
        refine wpAnyH_ready (rs := [14]) (by kernel_rfl) (by simp) ?_
        refine AllReadyH.cons rfl (fun K hK => ?_) AllReadyH.nil
        go_simp
        refine (hc2 _).mono ?_
        rintro e w' ⟨rfl, hq⟩
        have hq := hq.symm
        subst hq
        go_wp2_with fail
        refine hK.out _ _ (keepSA (Below.refl _ _).drew Z.out) (fun hHeld => ?_)
        clear hK K
        (try simp only [Act.put])
        refine Tp 15 (by assumption) ?_
        (try simp only [Act.put])
        refine wpAnyH_ready (rs := [16]) (by kernel_rfl) (by simp) ?_
        refine AllReadyH.cons rfl (fun K hK => ?_) AllReadyH.nil
        go_simp
        refine hK.out _ _ (keepSAs (keepSA (Below.refl _ _).drew Z.out)) (fun hHeld => ?_)
        clear hK K
        (try simp only [Act.put])
        refine wpAnyH_done (by kernel_rfl) ?_ _
        exact hk
      · go_simp
        refine (hhu _).mono ?_
        rintro e w' ⟨rfl, hq⟩
        have hq := hq.symm
        subst hq
        go_wp2_with fail
        refine hK.out _ _ (keepSA (Below.refl _ _).drew Z.out) (fun hHeld => ?_)
        clear hK K
        (try simp only [Act.put])
        refine wpAnyH_ready (rs := [1]) (by kernel_rfl) (by simp) ?_
        refine AllReadyH.cons rfl (fun K hK => ?_) AllReadyH.nil
        go_simp
        refine hK.out _ _ (keepSA (Below.refl _ _).drew Z.out) (fun hHeld => ?_)
        clear hK K
        (try simp only [Act.put])
        refine Tp 7 (by assumption) ?_
        (try simp only [Act.put])
        refine wpAnyH_ready (rs := [14]) (by kernel_rfl) (by simp) ?_
        refine AllReadyH.cons rfl (fun K hK => ?_) AllReadyH.nil
        go_simp
        refine (hc2 _).mono ?_
        rintro e w' ⟨rfl, hq⟩
        have hq := hq.symm
        subst hq
        go_wp2_with fail
        refine hK.out _ _ (keepSA (Below.refl _ _).drew Z.out) (fun hHeld => ?_)
        clear hK K
        (try simp only [Act.put])
        refine Tp 15 (by assumption) ?_
        (try simp only [Act.put])
        refine wpAnyH_ready (rs := [16]) (by kernel_rfl) (by simp) ?_
        refine AllReadyH.cons rfl (fun K hK => ?_) AllReadyH.nil
        go_simp
        refine hK.out _ _ (keepSAs (keepSA (Below.refl _ _).drew Z.out)) (fun hHeld => ?_)
        clear hK K
        (try simp only [Act.put])
        refine wpAnyH_done (by kernel_rfl) ?_ _
        exact hk
    have HX3 := ahide ((HX2.out.setA x2).later (Below.refl _ _).drew)
    clear HX2 Z
    generalize hw3 : World.drew (World.setCell _ _ (.int .i64 x2)) = w3 at *
    clear hw3
    clear q0 q1 q2 q3 q4 q5 q6 s0 s1 s2 r0 r1 r2 r3 r4 p0 p1 p2 g0 g1 g2 f0 f1 f2
    obtain ⟨⟨q0, q1, q2, q3, q4, q5, q6⟩, ⟨s0, s1, s2⟩, ⟨r0, r1, r2, r3, r4⟩, ⟨p0, p1, p2⟩, ⟨g0, g1, g2⟩, ⟨f0, f1, f2⟩, hB⟩ := HX3.out
    clear hB
    first
      | (have hz : (W != n) = false := hne; clear hz; go_upto_region 12 with (first | (go_at_call 84; refine (hpl _).mono ?_; rintro e w6 ⟨rfl, hb⟩; have HX3 := ahide (HX3.out.later hb); obtain ⟨⟨q0, q1, q2, q3, q4, q5, q6⟩, ⟨s0, s1, s2⟩, ⟨r0, r1, r2, r3, r4⟩, ⟨p0, p1, p2⟩, ⟨g0, g1, g2⟩, ⟨f0, f1, f2⟩, hB⟩ := HX3.out; clear hB hb)); have HX4 := HX3; clear HX3; obtain ⟨⟨q0, q1, q2, q3, q4, q5, q6⟩, ⟨s0, s1, s2⟩, ⟨r0, r1, r2, r3, r4⟩, ⟨p0, p1, p2⟩, ⟨g0, g1, g2⟩, ⟨f0, f1, f2⟩, hB⟩ := HX4.out)
      | (go_upto_region 12 with (first | (go_at_call 84; refine (hpl _).mono ?_; rintro e w4 ⟨rfl, hb⟩; have HX3 := ahide (HX3.out.later hb); obtain ⟨⟨q0, q1, q2, q3, q4, q5, q6⟩, ⟨s0, s1, s2⟩, ⟨r0, r1, r2, r3, r4⟩, ⟨p0, p1, p2⟩, ⟨g0, g1, g2⟩, ⟨f0, f1, f2⟩, hB⟩ := HX3.out; clear hB hb) | (go_at_call 85; refine (hm1 _).mono ?_; rintro e w5 ⟨rfl, hb⟩; have HX3 := ahide (HX3.out.later hb); obtain ⟨⟨q0, q1, q2, q3, q4, q5, q6⟩, ⟨s0, s1, s2⟩, ⟨r0, r1, r2, r3, r4⟩, ⟨p0, p1, p2⟩, ⟨g0, g1, g2⟩, ⟨f0, f1, f2⟩, hB⟩ := HX3.out; clear hB hb)); have HX4 := ahide (HX3.out.setD y); clear HX3; generalize hw5 : World.setCell _ _ (.int .i64 y) = w6 at *; clear hw5; clear q0 q1 q2 q3 q4 q5 q6 s0 s1 s2 r0 r1 r2 r3 r4 p0 p1 p2 g0 g1 g2 f0 f1 f2; obtain ⟨⟨q0, q1, q2, q3, q4, q5, q6⟩, ⟨s0, s1, s2⟩, ⟨r0, r1, r2, r3, r4⟩, ⟨p0, p1, p2⟩, ⟨g0, g1, g2⟩, ⟨f0, f1, f2⟩, hB⟩ := HX4.out)
    have Z := ahide (show (w6.cell? ⟨w.heap.size, 0, none⟩ = some (.int .i64 L) ∧ w6.cell? ⟨w.heap.size, 1, none⟩ = some (.int .i64 H) ∧ w6.cell? ⟨w.heap.size, 2, none⟩ = some (.int .i64 U) ∧ w6.cell? ⟨w.heap.size, 3, none⟩ = some (.int .i64 B) ∧ w6.cell? ⟨w.heap.size, 4, none⟩ = some (.int .i64 M) ∧ w6.cell? ⟨w.heap.size, 5, none⟩ = some (.slice (some ⟨ba, oa, none⟩) al.length ca) ∧ w6.cell? ⟨w.heap.size, 6, none⟩ = some (.slice (some ⟨bz, oz, none⟩) zl.length cz)) ∧ (w6.cell? ⟨w.heap.size + 1, 0, none⟩ = some (.int .i64 x2) ∧ w6.cell? ⟨w.heap.size + 1, 1, none⟩ = some (.int .i64 y) ∧ w6.cell? ⟨w.heap.size + 1, 2, none⟩ = some (.int .i64 n)) ∧ Below w.heap.size w w6 from ⟨⟨q0, q1, q2, q3, q4, q5, q6⟩, ⟨s0, s1, s2⟩, hB⟩)
    clear hB q0 q1 q2 q3 q4 q5 q6 s0 s1 s2 r0 r1 r2 r3 r4 g0 g1 g2
    go_region_held3 (fun u => (u.cell? ⟨w.heap.size, 0, none⟩ = some (.int .i64 L) ∧ u.cell? ⟨w.heap.size, 1, none⟩ = some (.int .i64 H) ∧ u.cell? ⟨w.heap.size, 2, none⟩ = some (.int .i64 U) ∧ u.cell? ⟨w.heap.size, 3, none⟩ = some (.int .i64 B) ∧ u.cell? ⟨w.heap.size, 4, none⟩ = some (.int .i64 M) ∧ u.cell? ⟨w.heap.size, 5, none⟩ = some (.slice (some ⟨ba, oa, none⟩) al.length ca) ∧ u.cell? ⟨w.heap.size, 6, none⟩ = some (.slice (some ⟨bz, oz, none⟩) zl.length cz)) ∧ (u.cell? ⟨w.heap.size + 1, 0, none⟩ = some (.int .i64 x2) ∧ u.cell? ⟨w.heap.size + 1, 1, none⟩ = some (.int .i64 y) ∧ u.cell? ⟨w.heap.size + 1, 2, none⟩ = some (.int .i64 n)) ∧ Below w.heap.size w u)
      (first
        | (with_reducible assumption)
        | (with_reducible apply keepSE; with_reducible assumption; with_reducible assumption)
        | ((repeat (with_reducible first | exact Z.out | assumption | refine keepSE (Below.refl _ _).drew ?_ | refine keepSEs ?_)); done))
      (first
        | (go_at_call 85; refine (hm2 _).mono ?_; rintro e w' ⟨rfl, hb⟩; first | (obtain ⟨y0, y1, y2, k0, k1, k2⟩ := room_zero hb p0 p1 p2 f0 f1 f2) | (obtain ⟨y0, y1, y2⟩ := room_full hb p0 p1 p2)))
    all_goals
      rename_i hH
      have HB := ahide hH.2.2
      clear hH
      go_wp2_with fail
      refine bodyPost_ret (v := .tuple #[.int .i64 wt, .agg #[.int .i64 x2, .int .i64 y, .int .i64 n], .nilIface]) ?_ rfl ⟨rfl, HB.out⟩
      simp [results, Try.results56, go_sem, y0, y1, y2]

end Go.Proofs.Ythijegfacnjooaa
