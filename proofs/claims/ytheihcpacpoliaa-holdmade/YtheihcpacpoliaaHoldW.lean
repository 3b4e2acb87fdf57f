/-
  Contract of hold.steer: what is wanted under a law that holds.
-/
import Derived.Test.YtheihcpacpoliaaHoldV
namespace Go.Proofs.Ytheihcpacpoliaa
open Go.RowKit Plain

/-- The cells that are read where Aim turns. -/
theorem keepSA {w u u' : World} {L H U k : Int} (hb : Below u.heap.size u u') (h : (u.cell? ⟨w.heap.size, 0, none⟩ = some (.int .i64 L) ∧ u.cell? ⟨w.heap.size, 1, none⟩ = some (.int .i64 H) ∧ u.cell? ⟨w.heap.size, 2, none⟩ = some (.int .i64 U) ∧ u.cell? ⟨w.heap.size + 1 + 1, 0, none⟩ = some (.int .i64 k)) ∧ Below w.heap.size w u) : (u'.cell? ⟨w.heap.size, 0, none⟩ = some (.int .i64 L) ∧ u'.cell? ⟨w.heap.size, 1, none⟩ = some (.int .i64 H) ∧ u'.cell? ⟨w.heap.size, 2, none⟩ = some (.int .i64 U) ∧ u'.cell? ⟨w.heap.size + 1 + 1, 0, none⟩ = some (.int .i64 k)) ∧ Below w.heap.size w u' :=
  ⟨⟨hcell_later hb h.1.1, hcell_later hb h.1.2.1, hcell_later hb h.1.2.2.1, hcell_later hb h.1.2.2.2⟩, abelow_up h.2 hb⟩
theorem keepSAs {w u : World} {L H U k : Int} {j : Nat} {x : Value} (h : (u.cell? ⟨w.heap.size, 0, none⟩ = some (.int .i64 L) ∧ u.cell? ⟨w.heap.size, 1, none⟩ = some (.int .i64 H) ∧ u.cell? ⟨w.heap.size, 2, none⟩ = some (.int .i64 U) ∧ u.cell? ⟨w.heap.size + 1 + 1, 0, none⟩ = some (.int .i64 k)) ∧ Below w.heap.size w u) : ((u.setCell ⟨w.heap.size + 1, j, none⟩ x).cell? ⟨w.heap.size, 0, none⟩ = some (.int .i64 L) ∧ (u.setCell ⟨w.heap.size + 1, j, none⟩ x).cell? ⟨w.heap.size, 1, none⟩ = some (.int .i64 H) ∧ (u.setCell ⟨w.heap.size + 1, j, none⟩ x).cell? ⟨w.heap.size, 2, none⟩ = some (.int .i64 U) ∧ (u.setCell ⟨w.heap.size + 1, j, none⟩ x).cell? ⟨w.heap.size + 1 + 1, 0, none⟩ = some (.int .i64 k)) ∧ Below w.heap.size w (u.setCell ⟨w.heap.size + 1, j, none⟩ x) :=
  ⟨⟨hset_far (by omega) h.1.1, hset_far (by omega) h.1.2.1, hset_far (by omega) h.1.2.2.1, hset_far (by omega) h.1.2.2.2⟩, h.2.setCell (by simp) _⟩
/-- The rule, the state; the state is laid into its room. -/
theorem keepSE {w u u' : World} {L H U B M : Int} {a z : Option Addr} {la lz ca cz : Nat} {A D W : Int} (hb : Below u.heap.size u u') (h : (u.cell? ⟨w.heap.size, 0, none⟩ = some (.int .i64 L) ∧ u.cell? ⟨w.heap.size, 1, none⟩ = some (.int .i64 H) ∧ u.cell? ⟨w.heap.size, 2, none⟩ = some (.int .i64 U) ∧ u.cell? ⟨w.heap.size, 3, none⟩ = some (.int .i64 B) ∧ u.cell? ⟨w.heap.size, 4, none⟩ = some (.int .i64 M) ∧ u.cell? ⟨w.heap.size, 5, none⟩ = some (.slice a la ca) ∧ u.cell? ⟨w.heap.size, 6, none⟩ = some (.slice z lz cz)) ∧ (u.cell? ⟨w.heap.size + 1, 0, none⟩ = some (.int .i64 A) ∧ u.cell? ⟨w.heap.size + 1, 1, none⟩ = some (.int .i64 D) ∧ u.cell? ⟨w.heap.size + 1, 2, none⟩ = some (.int .i64 W)) ∧ Below w.heap.size w u) : (u'.cell? ⟨w.heap.size, 0, none⟩ = some (.int .i64 L) ∧ u'.cell? ⟨w.heap.size, 1, none⟩ = some (.int .i64 H) ∧ u'.cell? ⟨w.heap.size, 2, none⟩ = some (.int .i64 U) ∧ u'.cell? ⟨w.heap.size, 3, none⟩ = some (.int .i64 B) ∧ u'.cell? ⟨w.heap.size, 4, none⟩ = some (.int .i64 M) ∧ u'.cell? ⟨w.heap.size, 5, none⟩ = some (.slice a la ca) ∧ u'.cell? ⟨w.heap.size, 6, none⟩ = some (.slice z lz cz)) ∧ (u'.cell? ⟨w.heap.size + 1, 0, none⟩ = some (.int .i64 A) ∧ u'.cell? ⟨w.heap.size + 1, 1, none⟩ = some (.int .i64 D) ∧ u'.cell? ⟨w.heap.size + 1, 2, none⟩ = some (.int .i64 W)) ∧ Below w.heap.size w u' :=
  ⟨⟨hcell_later hb h.1.1, hcell_later hb h.1.2.1, hcell_later hb h.1.2.2.1, hcell_later hb h.1.2.2.2.1, hcell_later hb h.1.2.2.2.2.1, hcell_later hb h.1.2.2.2.2.2.1, hcell_later hb h.1.2.2.2.2.2.2⟩, ⟨hcell_later hb h.2.1.1, hcell_later hb h.2.1.2.1, hcell_later hb h.2.1.2.2⟩, abelow_up h.2.2 hb⟩
theorem keepSEs {w u : World} {L H U B M : Int} {a z : Option Addr} {la lz ca cz : Nat} {A D W : Int} {j : Nat} {x : Value} (h : (u.cell? ⟨w.heap.size, 0, none⟩ = some (.int .i64 L) ∧ u.cell? ⟨w.heap.size, 1, none⟩ = some (.int .i64 H) ∧ u.cell? ⟨w.heap.size, 2, none⟩ = some (.int .i64 U) ∧ u.cell? ⟨w.heap.size, 3, none⟩ = some (.int .i64 B) ∧ u.cell? ⟨w.heap.size, 4, none⟩ = some (.int .i64 M) ∧ u.cell? ⟨w.heap.size, 5, none⟩ = some (.slice a la ca) ∧ u.cell? ⟨w.heap.size, 6, none⟩ = some (.slice z lz cz)) ∧ (u.cell? ⟨w.heap.size + 1, 0, none⟩ = some (.int .i64 A) ∧ u.cell? ⟨w.heap.size + 1, 1, none⟩ = some (.int .i64 D) ∧ u.cell? ⟨w.heap.size + 1, 2, none⟩ = some (.int .i64 W)) ∧ Below w.heap.size w u) : ((u.setCell ⟨w.heap.size + 1 + 1 + 1, j, none⟩ x).cell? ⟨w.heap.size, 0, none⟩ = some (.int .i64 L) ∧ (u.setCell ⟨w.heap.size + 1 + 1 + 1, j, none⟩ x).cell? ⟨w.heap.size, 1, none⟩ = some (.int .i64 H) ∧ (u.setCell ⟨w.heap.size + 1 + 1 + 1, j, none⟩ x).cell? ⟨w.heap.size, 2, none⟩ = some (.int .i64 U) ∧ (u.setCell ⟨w.heap.size + 1 + 1 + 1, j, none⟩ x).cell? ⟨w.heap.size, 3, none⟩ = some (.int .i64 B) ∧ (u.setCell ⟨w.heap.size + 1 + 1 + 1, j, none⟩ x).cell? ⟨w.heap.size, 4, none⟩ = some (.int .i64 M) ∧ (u.setCell ⟨w.heap.size + 1 + 1 + 1, j, none⟩ x).cell? ⟨w.heap.size, 5, none⟩ = some (.slice a la ca) ∧ (u.setCell ⟨w.heap.size + 1 + 1 + 1, j, none⟩ x).cell? ⟨w.heap.size, 6, none⟩ = some (.slice z lz cz)) ∧ ((u.setCell ⟨w.heap.size + 1 + 1 + 1, j, none⟩ x).cell? ⟨w.heap.size + 1, 0, none⟩ = some (.int .i64 A) ∧ (u.setCell ⟨w.heap.size + 1 + 1 + 1, j, none⟩ x).cell? ⟨w.heap.size + 1, 1, none⟩ = some (.int .i64 D) ∧ (u.setCell ⟨w.heap.size + 1 + 1 + 1, j, none⟩ x).cell? ⟨w.heap.size + 1, 2, none⟩ = some (.int .i64 W)) ∧ Below w.heap.size w (u.setCell ⟨w.heap.size + 1 + 1 + 1, j, none⟩ x) := by
  have n0 : w.heap.size + 1 + 1 + 1 ≠ w.heap.size := by omega
  have n1 : w.heap.size + 1 + 1 + 1 ≠ w.heap.size + 1 := by omega
  exact ⟨⟨hset_far n0 h.1.1, hset_far n0 h.1.2.1, hset_far n0 h.1.2.2.1, hset_far n0 h.1.2.2.2.1, hset_far n0 h.1.2.2.2.2.1, hset_far n0 h.1.2.2.2.2.2.1, hset_far n0 h.1.2.2.2.2.2.2⟩, ⟨hset_far n1 h.2.1.1, hset_far n1 h.2.1.2.1, hset_far n1 h.2.1.2.2⟩, h.2.2.setCell (by simp; omega) _⟩


theorem hwrap_id {x : Int} (h0 : -9223372036854775808 ≤ x) (h1 : x ≤ 9223372036854775807) : IntKind.i64.wrap x = x := by
  rw [IntKind.wrap_i64]; omega
theorem room_zero {u u' : World} {Q : Nat} {c0 c1 c2 : Value} (hb : Below u.drew.heap.size u.drew u') (p0 : u.cell? ⟨Q, 0, none⟩ = some c0) (p1 : u.cell? ⟨Q, 1, none⟩ = some c1) (p2 : u.cell? ⟨Q, 2, none⟩ = some c2) (f0 : u.frozen? ⟨Q, 0, none⟩ = false) (f1 : u.frozen? ⟨Q, 1, none⟩ = false) (f2 : u.frozen? ⟨Q, 2, none⟩ = false) :
    u'.cell? ⟨Q, 0, none⟩ = some c0 ∧ u'.cell? ⟨Q, 1, none⟩ = some c1 ∧ u'.cell? ⟨Q, 2, none⟩ = some c2 ∧ u'.frozen? ⟨Q, 0, none⟩ = false ∧ u'.frozen? ⟨Q, 1, none⟩ = false ∧ u'.frozen? ⟨Q, 2, none⟩ = false :=
  ⟨hcell_later hb p0, hcell_later hb p1, hcell_later hb p2, hfr_later hb p0 f0, hfr_later hb p1 f1, hfr_later hb p2 f2⟩
theorem room_full {u u' : World} {Q : Nat} {c0 c1 c2 x y z : Value} (hb : Below (((u.setCell ⟨Q, 0, none⟩ x).setCell ⟨Q, 1, none⟩ y).setCell ⟨Q, 2, none⟩ z).drew.heap.size (((u.setCell ⟨Q, 0, none⟩ x).setCell ⟨Q, 1, none⟩ y).setCell ⟨Q, 2, none⟩ z).drew u') (p0 : u.cell? ⟨Q, 0, none⟩ = some c0) (p1 : u.cell? ⟨Q, 1, none⟩ = some c1) (p2 : u.cell? ⟨Q, 2, none⟩ = some c2) :
    u'.cell? ⟨Q, 0, none⟩ = some x ∧ u'.cell? ⟨Q, 1, none⟩ = some y ∧ u'.cell? ⟨Q, 2, none⟩ = some z :=
  ⟨hcell_later hb (hset_off (by decide) (hset_off (by decide) (hset_same p0))), hcell_later hb (hset_off (by decide) (hset_same (hset_off (by decide) p1))), hcell_later hb (hset_same (hset_off (by decide) (hset_off (by decide) p2)))⟩

set_option maxRecDepth 100000 in
set_option maxHeartbeats 4000000 in
theorem steer_ok (L H U B M : Int) (a z : Option Addr) (ca cz : Nat) (al zl : List Int) (A D W k p v n q : Int) (hca : al.length ≤ ca) (h0 : hoE L H U B M al zl A D W k n q = 0) (w : World) (ha : Lst w a al) (hz : Lst w z zl) :
    Calls Try.prog 56 #[.agg #[.int .i64 L, .int .i64 H, .int .i64 U, .int .i64 B, .int .i64 M, .slice a al.length ca, .slice z zl.length cz], .agg #[.int .i64 A, .int .i64 D, .int .i64 W], .agg #[.int .i64 k, .int .i64 p, .int .i64 v, .int .i64 n, .int .i64 q]] w fun e w' => e = .returned (.tuple #[.int .i64 (wtI L H U M al zl A D W k p v n q), .agg #[.int .i64 (a2I L H U A W k p n), .int .i64 (d2I L H U M al zl A D W k p v n q), .int .i64 n], .nilIface]) ∧ Below w.heap.size w w' := by
  obtain ⟨e1, e2, e3⟩ := hoE_zero h0
  obtain ⟨e4, e5, e6, _⟩ := ruE_zero e1
  obtain ⟨⟨l0, l1⟩, ⟨u0, u1⟩, ⟨t0, t1⟩, ⟨b0, b1⟩, m0, m1⟩ := ruB_true e4
  obtain ⟨⟨a0, a1⟩, ⟨d0, d1⟩, _, _⟩ := stB_true e2
  obtain ⟨⟨k0, k1⟩, _, q0', q1'⟩ := asB_true e3
  obtain ⟨ba, oa, bz, oz, rfl, rfl, hl⟩ := hline_lies e6 ha hz
  have HX := ahide (HW.new w L H U B M (some ⟨ba, oa, none⟩) (some ⟨bz, oz, none⟩) al.length zl.length ca cz A D W k p v n q)
  have hlk := fun u (h : Below w.heap.size w u) => look_ok ba oa ca bz oz cz al zl v u hca (hl.later h)
  have hhu := holdHun_any k U k0 k1 t0 (by omega)
  have hub := hunI_bd k0 k1 t0 (show U ≤ 4000 by omega)
  clear h0 e1 e2 e3 e4 e6 ha hz hl
  unfold wtI d2I ppI a2I a1I
  generalize lookI al zl v = g at *
  generalize hunI k U = hu at *
  obtain ⟨hu0, hu1⟩ := hub
  by_cases hW : n = W
  · rw [if_pos hW, if_pos hW]
    have hne : (W != n) = false := by simp [hW]
    clear hW
    have hc2 := fixClip_any (A + hu) L H
    have x2b := clipI_bd (A + hu) e5
    generalize clipI (A + hu) L H = x2 at *
    have hpl := holdPull_any x2 p g (by omega) (by omega)
    have ppb := pullI_bd g x2 p
    generalize pullI g x2 p = pp at *
    obtain ⟨pp0, pp1⟩ := ppb
    have hm2 := clipMove_any L H U B M (some ⟨ba, oa, none⟩) (some ⟨bz, oz, none⟩) al.length zl.length ca cz (pp + D) m0 m1
    generalize clipI (pp + D) (-M) M = wt at *
    have v1 : IntKind.i64.wrap (A + hu) = A + hu := hwrap_id (by omega) (by omega)
    have v2 : IntKind.i64.wrap (pp + D) = pp + D := hwrap_id (by omega) (by omega)
    go_enter Try.func56, Try.ntmps56
    go_upto_region 8 with (go_at_call 74; refine (hlk _ HX.out.2.2.2.2.2.2).mono ?_; rintro e w1 ⟨rfl, hb⟩; have HX := ahide (HX.out.later hb); obtain ⟨⟨q0, q1, q2, q3, q4, q5, q6⟩, ⟨s0, s1, s2⟩, ⟨r0, r1, r2, r3, r4⟩, ⟨p0, p1, p2⟩, ⟨g0, g1, g2⟩, ⟨f0, f1, f2⟩, hB⟩ := HX.out; clear hB hb)
    have HX2 := ahide (HX.out.setW n)
    clear HX
    generalize hw2 : World.setCell _ _ (.int .i64 _) = w2 at *
    clear hw2
    clear q0 q1 q2 q3 q4 q5 q6 s0 s1 s2 r0 r1 r2 r3 r4 p0 p1 p2 g0 g1 g2 f0 f1 f2
    obtain ⟨⟨q0, q1, q2, q3, q4, q5, q6⟩, ⟨s0, s1, s2⟩, ⟨r0, r1, r2, r3, r4⟩, ⟨p0, p1, p2⟩, ⟨g0, g1, g2⟩, ⟨f0, f1, f2⟩, hB⟩ := HX2.out
    have Z := ahide (show (w2.cell? ⟨w.heap.size, 0, none⟩ = some (.int .i64 L) ∧ w2.cell? ⟨w.heap.size, 1, none⟩ = some (.int .i64 H) ∧ w2.cell? ⟨w.heap.size, 2, none⟩ = some (.int .i64 U) ∧ w2.cell? ⟨w.heap.size + 1 + 1, 0, none⟩ = some (.int .i64 k)) ∧ Below w.heap.size w w2 from ⟨⟨q0, q1, q2, r0⟩, hB⟩)
    clear hB
    apply htwice
    · intro hk
      refine wp_region_held_drew (S := fun u => (u.cell? ⟨w.heap.size, 0, none⟩ = some (.int .i64 L) ∧ u.cell? ⟨w.heap.size, 1, none⟩ = some (.int .i64 H) ∧ u.cell? ⟨w.heap.size, 2, none⟩ = some (.int .i64 U) ∧ u.cell? ⟨w.heap.size + 1 + 1, 0, none⟩ = some (.int .i64 k)) ∧ Below w.heap.size w u) (by kernel_rfl) (keepSA (Below.refl _ _).drew Z.out) (fun hHeld => ?_)
      refine wpAnyH_take (i := 0) (v := ?v1) rfl (by kernel_rfl) (by kernel_rfl) (by kernel_rfl) (fun _ _ _ h => h) (Or.inl ⟨by rfl, ?hy1⟩) (by assumption) ?rest1
      case hy1 => (intro w hSw; (try dsimp only at hSw); go_simp; (try with_reducible rfl))
      (try simp only [Act.put])
      refine wpAnyH_take (i := 2) (v := ?v2) rfl (by kernel_rfl) (by kernel_rfl) (by kernel_rfl) (fun _ _ _ h => h) (Or.inl ⟨by rfl, ?hy2⟩) (by assumption) ?rest2
      case hy2 => (intro w hSw; (try dsimp only at hSw); go_simp; (try with_reducible rfl))
      (try simp only [Act.put])
      refine wpAnyH_take (i := 3) (v := ?v3) rfl (by kernel_rfl) (by kernel_rfl) (by kernel_rfl) (fun _ _ _ h => h) (Or.inl ⟨by rfl, ?hy3⟩) (by assumption) ?rest3
      case hy3 => (intro w hSw; (try dsimp only at hSw); go_simp; (try with_reducible rfl))
      (try simp only [Act.put])
      refine wpAnyH_take (i := 4) (v := ?v4) rfl (by kernel_rfl) (by kernel_rfl) (by kernel_rfl) (fun _ _ _ h => h) (Or.inl ⟨by rfl, ?hy4⟩) (by assumption) ?rest4
      case hy4 => (intro w hSw; (try dsimp only at hSw); go_simp; (try with_reducible rfl))
      (try simp only [Act.put])
      refine wpAnyH_take (i := 5) (v := ?v5) rfl (by kernel_rfl) (by kernel_rfl) (by kernel_rfl) (fun _ _ _ h => h) (Or.inl ⟨by rfl, ?hy5⟩) (by assumption) ?rest5
      case hy5 => (intro w hSw; (try dsimp only at hSw); go_simp; (try with_reducible rfl))
      (try simp only [Act.put])
      refine wpAnyH_take (i := 8) (v := ?v6) rfl (by kernel_rfl) (by kernel_rfl) (by kernel_rfl) (fun _ _ _ h => h) (Or.inl ⟨by rfl, ?hy6⟩) (by assumption) ?rest6
      case hy6 => (intro w hSw; (try dsimp only at hSw); go_simp; (try with_reducible rfl))
      (try simp only [Act.put])
      refine wpAnyH_take (i := 9) (v := ?v7) rfl (by kernel_rfl) (by kernel_rfl) (by kernel_rfl) (fun _ _ _ h => h) (Or.inl ⟨by rfl, ?hy7⟩) (by assumption) ?rest7
      case hy7 => (intro w hSw; (try dsimp only at hSw); go_simp; (try with_reducible rfl))
      (try simp only [Act.put])
      refine wpAnyH_take (i := 10) (v := ?v8) rfl (by kernel_rfl) (by kernel_rfl) (by kernel_rfl) (fun _ _ _ h => h) (Or.inl ⟨by rfl, ?hy8⟩) (by assumption) ?rest8
      case hy8 => (intro w hSw; (try dsimp only at hSw); go_simp; (try with_reducible rfl))
      (try simp only [Act.put])
      refine wpAnyH_take (i := 11) (v := ?v9) rfl (by kernel_rfl) (by kernel_rfl) (by kernel_rfl) (fun _ _ _ h => h) (Or.inl ⟨by rfl, ?hy9⟩) (by assumption) ?rest9
      case hy9 => (intro w hSw; (try dsimp only at hSw); go_simp; (try with_reducible rfl))
      (try simp only [Act.put])
      refine wpAnyH_take (i := 12) (v := ?v10) rfl (by kernel_rfl) (by kernel_rfl) (by kernel_rfl) (fun _ _ _ h => h) (Or.inl ⟨by rfl, ?hy10⟩) (by assumption) ?rest10
      case hy10 => (intro w hSw; (try dsimp only at hSw); go_simp; (try with_reducible rfl))
      (try simp only [Act.put])
      refine wpAnyH_take (i := 13) (v := ?v11) rfl (by kernel_rfl) (by kernel_rfl) (by kernel_rfl) (fun _ _ _ h => h) (Or.inl ⟨by rfl, ?hy11⟩) (by assumption) ?rest11
      case hy11 => (intro w hSw; (try dsimp only at hSw); go_simp; (try with_reducible rfl))
      (try simp only [Act.put])
      refine wpAnyH_ready (rs := [1, 6]) (by kernel_rfl) (by simp) ?_
      refine AllReadyH.cons rfl (fun K hK => ?_) (AllReadyH.cons rfl (fun K hK => ?_) AllReadyH.nil)
      · go_simp
        refine hK.out _ _ (keepSA (Below.refl _ _).drew Z.out) (fun hHeld => ?_)
        clear hK K
        (try simp only [Act.put])
        refine wpAnyH_ready (rs := [6]) (by kernel_rfl) (by simp) ?_
        refine AllReadyH.cons rfl (fun K hK => ?_) AllReadyH.nil
        go_simp
        refine (hhu _).mono ?_
        rintro e w' ⟨rfl, hq⟩
        have hq := hq.symm
        subst hq
        go_wp2_with fail
        refine hK.out _ _ (keepSA (Below.refl _ _).drew Z.out) (fun hHeld => ?_)
        clear hK K
        (try simp only [Act.put])
        refine wpAnyH_take (i := 7) (v := ?v12) rfl (by kernel_rfl) (by kernel_rfl) (by kernel_rfl) (fun _ _ _ h => h) (Or.inl ⟨by rfl, ?hy12⟩) (by assumption) ?rest12
        case hy12 => (intro w hSw; (try dsimp only at hSw); go_simp; (try with_reducible rfl))
        (try simp only [Act.put])
        refine wpAnyH_ready (rs := [14]) (by kernel_rfl) (by simp) ?_
        refine AllReadyH.cons rfl (fun K hK => ?_) AllReadyH.nil
        go_simp
        refine (hc2 _).mono ?_
        rintro e w' ⟨rfl, hq⟩
        have hq := hq.symm
        subst hq
        go_wp2_with fail
        refine hK.out _ _ (keepSA (Below.refl _ _).drew Z.out) (fun hHeld => ?_)
        clear hK K
        (try simp only [Act.put])
        refine wpAnyH_take (i := 15) (v := ?v13) rfl (by kernel_rfl) (by kernel_rfl) (by kernel_rfl) (fun _ _ _ h => h) (Or.inl ⟨by rfl, ?hy13⟩) (by assumption) ?rest13
        case hy13 => (intro w hSw; (try dsimp only at hSw); go_simp; (try with_reducible rfl))
        (try simp only [Act.put])
        refine wpAnyH_ready (rs := [16]) (by kernel_rfl) (by simp) ?_
        refine AllReadyH.cons rfl (fun K hK => ?_) AllReadyH.nil
        go_simp
        refine hK.out _ _ (keepSAs (keepSA (Below.refl _ _).drew Z.out)) (fun hHeld => ?_)
        clear hK K
        (try simp only [Act.put])
        refine wpAnyH_done (by kernel_rfl) ?_ _
        exact hk
      · go_simp
        refine (hhu _).mono ?_
        rintro e w' ⟨rfl, hq⟩
        have hq := hq.symm
        subst hq
        go_wp2_with fail
        refine hK.out _ _ (keepSA (Below.refl _ _).drew Z.out) (fun hHeld => ?_)
        clear hK K
        (try simp only [Act.put])
        refine wpAnyH_ready (rs := [1]) (by kernel_rfl) (by simp) ?_
        refine AllReadyH.cons rfl (fun K hK => ?_) AllReadyH.nil
        go_simp
        refine hK.out _ _ (keepSA (Below.refl _ _).drew Z.out) (fun hHeld => ?_)
        clear hK K
        (try simp only [Act.put])
        refine wpAnyH_take (i := 7) (v := ?v14) rfl (by kernel_rfl) (by kernel_rfl) (by kernel_rfl) (fun _ _ _ h => h) (Or.inl ⟨by rfl, ?hy14⟩) (by assumption) ?rest14
        case hy14 => (intro w hSw; (try dsimp only at hSw); go_simp; (try with_reducible rfl))
        (try simp only [Act.put])
        refine wpAnyH_ready (rs := [14]) (by kernel_rfl) (by simp) ?_
        refine AllReadyH.cons rfl (fun K hK => ?_) AllReadyH.nil
        go_simp
        refine (hc2 _).mono ?_
        rintro e w' ⟨rfl, hq⟩
        have hq := hq.symm
        subst hq
        go_wp2_with fail
        refine hK.out _ _ (keepSA (Below.refl _ _).drew Z.out) (fun hHeld => ?_)
        clear hK K
        (try simp only [Act.put])
        refine wpAnyH_take (i := 15) (v := ?v15) rfl (by kernel_rfl) (by kernel_rfl) (by kernel_rfl) (fun _ _ _ h => h) (Or.inl ⟨by rfl, ?hy15⟩) (by assumption) ?rest15
        case hy15 => (intro w hSw; (try dsimp only at hSw); go_simp; (try with_reducible rfl))
        (try simp only [Act.put])
        refine wpAnyH_ready (rs := [16]) (by kernel_rfl) (by simp) ?_
        refine AllReadyH.cons rfl (fun K hK => ?_) AllReadyH.nil
        go_simp
        refine hK.out _ _ (keepSAs (keepSA (Below.refl _ _).drew Z.out)) (fun hHeld => ?_)
        clear hK K
        (try simp only [Act.put])
        refine wpAnyH_done (by kernel_rfl) ?_ _
        exact hk
    have HX3 := ahide ((HX2.out.setA x2).later (Below.refl _ _).drew)
    clear HX2 Z
    generalize hw3 : World.drew (World.setCell _ _ (.int .i64 x2)) = w3 at *
    clear hw3
    clear q0 q1 q2 q3 q4 q5 q6 s0 s1 s2 r0 r1 r2 r3 r4 p0 p1 p2 g0 g1 g2 f0 f1 f2
    obtain ⟨⟨q0, q1, q2, q3, q4, q5, q6⟩, ⟨s0, s1, s2⟩, ⟨r0, r1, r2, r3, r4⟩, ⟨p0, p1, p2⟩, ⟨g0, g1, g2⟩, ⟨f0, f1, f2⟩, hB⟩ := HX3.out
    clear hB
    go_upto_region 12 with (first | (go_at_call 59; refine (hpl _).mono ?_; rintro e w6 ⟨rfl, hb⟩; have HX3 := ahide (HX3.out.later hb); obtain ⟨⟨q0, q1, q2, q3, q4, q5, q6⟩, ⟨s0, s1, s2⟩, ⟨r0, r1, r2, r3, r4⟩, ⟨p0, p1, p2⟩, ⟨g0, g1, g2⟩, ⟨f0, f1, f2⟩, hB⟩ := HX3.out; clear hB hb))
    have HX4 := HX3
    clear HX3
    obtain ⟨⟨q0, q1, q2, q3, q4, q5, q6⟩, ⟨s0, s1, s2⟩, ⟨r0, r1, r2, r3, r4⟩, ⟨p0, p1, p2⟩, ⟨g0, g1, g2⟩, ⟨f0, f1, f2⟩, hB⟩ := HX4.out
    have Z := ahide (show (w6.cell? ⟨w.heap.size, 0, none⟩ = some (.int .i64 L) ∧ w6.cell? ⟨w.heap.size, 1, none⟩ = some (.int .i64 H) ∧ w6.cell? ⟨w.heap.size, 2, none⟩ = some (.int .i64 U) ∧ w6.cell? ⟨w.heap.size, 3, none⟩ = some (.int .i64 B) ∧ w6.cell? ⟨w.heap.size, 4, none⟩ = some (.int .i64 M) ∧ w6.cell? ⟨w.heap.size, 5, none⟩ = some (.slice (some ⟨ba, oa, none⟩) al.length ca) ∧ w6.cell? ⟨w.heap.size, 6, none⟩ = some (.slice (some ⟨bz, oz, none⟩) zl.length cz)) ∧ (w6.cell? ⟨w.heap.size + 1, 0, none⟩ = some (.int .i64 x2) ∧ w6.cell? ⟨w.heap.size + 1, 1, none⟩ = some (.int .i64 D) ∧ w6.cell? ⟨w.heap.size + 1, 2, none⟩ = some (.int .i64 n)) ∧ Below w.heap.size w w6 from ⟨⟨q0, q1, q2, q3, q4, q5, q6⟩, ⟨s0, s1, s2⟩, hB⟩)
    clear hB q0 q1 q2 q3 q4 q5 q6 s0 s1 s2 r0 r1 r2 r3 r4 g0 g1 g2
    go_region_held3 (fun u => (u.cell? ⟨w.heap.size, 0, none⟩ = some (.int .i64 L) ∧ u.cell? ⟨w.heap.size, 1, none⟩ = some (.int .i64 H) ∧ u.cell? ⟨w.heap.size, 2, none⟩ = some (.int .i64 U) ∧ u.cell? ⟨w.heap.size, 3, none⟩ = some (.int .i64 B) ∧ u.cell? ⟨w.heap.size, 4, none⟩ = some (.int .i64 M) ∧ u.cell? ⟨w.heap.size, 5, none⟩ = some (.slice (some ⟨ba, oa, none⟩) al.length ca) ∧ u.cell? ⟨w.heap.size, 6, none⟩ = some (.slice (some ⟨bz, oz, none⟩) zl.length cz)) ∧ (u.cell? ⟨w.heap.size + 1, 0, none⟩ = some (.int .i64 x2) ∧ u.cell? ⟨w.heap.size + 1, 1, none⟩ = some (.int .i64 D) ∧ u.cell? ⟨w.heap.size + 1, 2, none⟩ = some (.int .i64 n)) ∧ Below w.heap.size w u)
      (first
        | (with_reducible assumption)
        | (with_reducible apply keepSE; with_reducible assumption; with_reducible assumption)
        | ((repeat (with_reducible first | exact Z.out | assumption | refine keepSE (Below.refl _ _).drew ?_ | refine keepSEs ?_)); done))
      (first
        | (go_at_call 58; refine (hm2 _).mono ?_; rintro e w' ⟨rfl, hb⟩; first | (obtain ⟨y0, y1, y2, k0, k1, k2⟩ := room_zero hb p0 p1 p2 f0 f1 f2) | (obtain ⟨y0, y1, y2⟩ := room_full hb p0 p1 p2)))
    all_goals
      rename_i hH
      have HB := ahide hH.2.2
      clear hH
      go_wp2_with fail
      refine bodyPost_ret (v := .tuple #[.int .i64 wt, .agg #[.int .i64 x2, .int .i64 D, .int .i64 n], .nilIface]) ?_ rfl ⟨rfl, HB.out⟩
      simp [results, Try.results56, go_sem, y0, y1, y2]

  · rw [if_neg hW, if_neg hW]
    have hne : (W != n) = true := by simpa using fun h => hW h.symm
    clear hW
    have hc1 := fixClip_any p L H
    have x1b := clipI_bd p e5
    generalize clipI p L H = x1 at *
    have hc2 := fixClip_any (x1 + hu) L H
    have x2b := clipI_bd (x1 + hu) e5
    generalize clipI (x1 + hu) L H = x2 at *
    have hpl := holdPull_any x2 p g (by omega) (by omega)
    have ppb := pullI_bd g x2 p
    generalize pullI g x2 p = pp at *
    obtain ⟨pp0, pp1⟩ := ppb
    have hm1 := clipMove_any L H U B M (some ⟨ba, oa, none⟩) (some ⟨bz, oz, none⟩) al.length zl.length ca cz (q - pp) m0 m1
    have yb := clipI_bd (q - pp) (lo := -M) (hi := M) (by omega)
    generalize clipI (q - pp) (-M) M = y at *
    have hm2 := clipMove_any L H U B M (some ⟨ba, oa, none⟩) (some ⟨bz, oz, none⟩) al.length zl.length ca cz (pp + y) m0 m1
    generalize clipI (pp + y) (-M) M = wt at *
    have v1 : IntKind.i64.wrap (x1 + hu) = x1 + hu := hwrap_id (by omega) (by omega)
    have v2 : IntKind.i64.wrap (pp + y) = pp + y := hwrap_id (by omega) (by omega)
    go_enter Try.func56, Try.ntmps56
    go_upto_region 8 with (first
      | (go_at_call 74; refine (hlk _ HX.out.2.2.2.2.2.2).mono ?_; rintro e w1 ⟨rfl, hb⟩; have HX := ahide (HX.out.later hb); obtain ⟨⟨q0, q1, q2, q3, q4, q5, q6⟩, ⟨s0, s1, s2⟩, ⟨r0, r1, r2, r3, r4⟩, ⟨p0, p1, p2⟩, ⟨g0, g1, g2⟩, ⟨f0, f1, f2⟩, hB⟩ := HX.out; clear hB hb)
      | (go_at_call 75; refine (hc1 _).mono ?_; rintro e w' ⟨rfl, hq⟩; have hq := hq.symm; subst hq))
    have HX2 := ahide ((HX.out.setW n).setA x1)
    clear HX
    generalize hw2 : World.setCell _ _ (.int .i64 _) = w2 at *
    clear hw2
    clear q0 q1 q2 q3 q4 q5 q6 s0 s1 s2 r0 r1 r2 r3 r4 p0 p1 p2 g0 g1 g2 f0 f1 f2
    obtain ⟨⟨q0, q1, q2, q3, q4, q5, q6⟩, ⟨s0, s1, s2⟩, ⟨r0, r1, r2, r3, r4⟩, ⟨p0, p1, p2⟩, ⟨g0, g1, g2⟩, ⟨f0, f1, f2⟩, hB⟩ := HX2.out
    have Z := ahide (show (w2.cell? ⟨w.heap.size, 0, none⟩ = some (.int .i64 L) ∧ w2.cell? ⟨w.heap.size, 1, none⟩ = some (.int .i64 H) ∧ w2.cell? ⟨w.heap.size, 2, none⟩ = some (.int .i64 U) ∧ w2.cell? ⟨w.heap.size + 1 + 1, 0, none⟩ = some (.int .i64 k)) ∧ Below w.heap.size w w2 from ⟨⟨q0, q1, q2, r0⟩, hB⟩)
    clear hB
    apply htwice
    · intro hk
      refine wp_region_held_drew (S := fun u => (u.cell? ⟨w.heap.size, 0, none⟩ = some (.int .i64 L) ∧ u.cell? ⟨w.heap.size, 1, none⟩ = some (.int .i64 H) ∧ u.cell? ⟨w.heap.size, 2, none⟩ = some (.int .i64 U) ∧ u.cell? ⟨w.heap.size + 1 + 1, 0, none⟩ = some (.int .i64 k)) ∧ Below w.heap.size w u) (by kernel_rfl) (keepSA (Below.refl _ _).drew Z.out) (fun hHeld => ?_)
      refine wpAnyH_take (i := 0) (v := ?v16) rfl (by kernel_rfl) (by kernel_rfl) (by kernel_rfl) (fun _ _ _ h => h) (Or.inl ⟨by rfl, ?hy16⟩) (by assumption) ?rest16
      case hy16 => (intro w hSw; (try dsimp only at hSw); go_simp; (try with_reducible rfl))
      (try simp only [Act.put])
      refine wpAnyH_take (i := 2) (v := ?v17) rfl (by kernel_rfl) (by kernel_rfl) (by kernel_rfl) (fun _ _ _ h => h) (Or.inl ⟨by rfl, ?hy17⟩) (by assumption) ?rest17
      case hy17 => (intro w hSw; (try dsimp only at hSw); go_simp; (try with_reducible rfl))
      (try simp only [Act.put])
      refine wpAnyH_take (i := 3) (v := ?v18) rfl (by kernel_rfl) (by kernel_rfl) (by kernel_rfl) (fun _ _ _ h => h) (Or.inl ⟨by rfl, ?hy18⟩) (by assumption) ?rest18
      case hy18 => (intro w hSw; (try dsimp only at hSw); go_simp; (try with_reducible rfl))
      (try simp only [Act.put])
      refine wpAnyH_take (i := 4) (v := ?v19) rfl (by kernel_rfl) (by kernel_rfl) (by kernel_rfl) (fun _ _ _ h => h) (Or.inl ⟨by rfl, ?hy19⟩) (by assumption) ?rest19
      case hy19 => (intro w hSw; (try dsimp only at hSw); go_simp; (try with_reducible rfl))
      (try simp only [Act.put])
      refine wpAnyH_take (i := 5) (v := ?v20) rfl (by kernel_rfl) (by kernel_rfl) (by kernel_rfl) (fun _ _ _ h => h) (Or.inl ⟨by rfl, ?hy20⟩) (by assumption) ?rest20
      case hy20 => (intro w hSw; (try dsimp only at hSw); go_simp; (try with_reducible rfl))
      (try simp only [Act.put])
      refine wpAnyH_take (i := 8) (v := ?v21) rfl (by kernel_rfl) (by kernel_rfl) (by kernel_rfl) (fun _ _ _ h => h) (Or.inl ⟨by rfl, ?hy21⟩) (by assumption) ?rest21
      case hy21 => (intro w hSw; (try dsimp only at hSw); go_simp; (try with_reducible rfl))
      (try simp only [Act.put])
      refine wpAnyH_take (i := 9) (v := ?v22) rfl (by kernel_rfl) (by kernel_rfl) (by kernel_rfl) (fun _ _ _ h => h) (Or.inl ⟨by rfl, ?hy22⟩) (by assumption) ?rest22
      case hy22 => (intro w hSw; (try dsimp only at hSw); go_simp; (try with_reducible rfl))
      (try simp only [Act.put])
      refine wpAnyH_take (i := 10) (v := ?v23) rfl (by kernel_rfl) (by kernel_rfl) (by kernel_rfl) (fun _ _ _ h => h) (Or.inl ⟨by rfl, ?hy23⟩) (by assumption) ?rest23
      case hy23 => (intro w hSw; (try dsimp only at hSw); go_simp; (try with_reducible rfl))
      (try simp only [Act.put])
      refine wpAnyH_take (i := 11) (v := ?v24) rfl (by kernel_rfl) (by kernel_rfl) (by kernel_rfl) (fun _ _ _ h => h) (Or.inl ⟨by rfl, ?hy24⟩) (by assumption) ?rest24
      case hy24 => (intro w hSw; (try dsimp only at hSw); go_simp; (try with_reducible rfl))
      (try simp only [Act.put])
      refine wpAnyH_take (i := 12) (v := ?v25) rfl (by kernel_rfl) (by kernel_rfl) (by kernel_rfl) (fun _ _ _ h => h) (Or.inl ⟨by rfl, ?hy25⟩) (by assumption) ?rest25
      case hy25 => (intro w hSw; (try dsimp only at hSw); go_simp; (try with_reducible rfl))
      (try simp only [Act.put])
      refine wpAnyH_take (i := 13) (v := ?v26) rfl (by kernel_rfl) (by kernel_rfl) (by kernel_rfl) (fun _ _ _ h => h) (Or.inl ⟨by rfl, ?hy26⟩) (by assumption) ?rest26
      case hy26 => (intro w hSw; (try dsimp only at hSw); go_simp; (try with_reducible rfl))
      (try simp only [Act.put])
      refine wpAnyH_ready (rs := [1, 6]) (by kernel_rfl) (by simp) ?_
      refine AllReadyH.cons rfl (fun K hK => ?_) (AllReadyH.cons rfl (fun K hK => ?_) AllReadyH.nil)
      · go_simp
        refine hK.out _ _ (keepSA (Below.refl _ _).drew Z.out) (fun hHeld => ?_)
        clear hK K
        (try simp only [Act.put])
        refine wpAnyH_ready (rs := [6]) (by kernel_rfl) (by simp) ?_
        refine AllReadyH.cons rfl (fun K hK => ?_) AllReadyH.nil
        go_simp
        refine (hhu _).mono ?_
        rintro e w' ⟨rfl, hq⟩
        have hq := hq.symm
        subst hq
        go_wp2_with fail
        refine hK.out _ _ (keepSA (Below.refl _ _).drew Z.out) (fun hHeld => ?_)
        clear hK K
        (try simp only [Act.put])
        refine wpAnyH_take (i := 7) (v := ?v27) rfl (by kernel_rfl) (by kernel_rfl) (by kernel_rfl) (fun _ _ _ h => h) (Or.inl ⟨by rfl, ?hy27⟩) (by assumption) ?rest27
        case hy27 => (intro w hSw; (try dsimp only at hSw); go_simp; (try with_reducible rfl))
        (try simp only [Act.put])
        refine wpAnyH_ready (rs := [14]) (by kernel_rfl) (by simp) ?_
        refine AllReadyH.cons rfl (fun K hK => ?_) AllReadyH.nil
        go_simp
        refine (hc2 _).mono ?_
        rintro e w' ⟨rfl, hq⟩
        have hq := hq.symm
        subst hq
        go_wp2_with fail
        refine hK.out _ _ (keepSA (Below.refl _ _).drew Z.out) (fun hHeld => ?_)
        clear hK K
        (try simp only [Act.put])
        refine wpAnyH_take (i := 15) (v := ?v28) rfl (by kernel_rfl) (by kernel_rfl) (by kernel_rfl) (fun _ _ _ h => h) (Or.inl ⟨by rfl, ?hy28⟩) (by assumption) ?rest28
        case hy28 => (intro w hSw; (try dsimp only at hSw); go_simp; (try with_reducible rfl))
        (try simp only [Act.put])
        refine wpAnyH_ready (rs := [16]) (by kernel_rfl) (by simp) ?_
        refine AllReadyH.cons rfl (fun K hK => ?_) AllReadyH.nil
        go_simp
        refine hK.out _ _ (keepSAs (keepSA (Below.refl _ _).drew Z.out)) (fun hHeld => ?_)
        clear hK K
        (try simp only [Act.put])
        refine wpAnyH_done (by kernel_rfl) ?_ _
        exact hk
      · go_simp
        refine (hhu _).mono ?_
        rintro e w' ⟨rfl, hq⟩
        have hq := hq.symm
        subst hq
        go_wp2_with fail
        refine hK.out _ _ (keepSA (Below.refl _ _).drew Z.out) (fun hHeld => ?_)
        clear hK K
        (try simp only [Act.put])
        refine wpAnyH_ready (rs := [1]) (by kernel_rfl) (by simp) ?_
        refine AllReadyH.cons rfl (fun K hK => ?_) AllReadyH.nil
        go_simp
        refine hK.out _ _ (keepSA (Below.refl _ _).drew Z.out) (fun hHeld => ?_)
        clear hK K
        (try simp only [Act.put])
        refine wpAnyH_take (i := 7) (v := ?v29) rfl (by kernel_rfl) (by kernel_rfl) (by kernel_rfl) (fun _ _ _ h => h) (Or.inl ⟨by rfl, ?hy29⟩) (by assumption) ?rest29
        case hy29 => (intro w hSw; (try dsimp only at hSw); go_simp; (try with_reducible rfl))
        (try simp only [Act.put])
        refine wpAnyH_ready (rs := [14]) (by kernel_rfl) (by simp) ?_
        refine AllReadyH.cons rfl (fun K hK => ?_) AllReadyH.nil
        go_simp
        refine (hc2 _).mono ?_
        rintro e w' ⟨rfl, hq⟩
        have hq := hq.symm
        subst hq
        go_wp2_with fail
        refine hK.out _ _ (keepSA (Below.refl _ _).drew Z.out) (fun hHeld => ?_)
        clear hK K
        (try simp only [Act.put])
        refine wpAnyH_take (i := 15) (v := ?v30) rfl (by kernel_rfl) (by kernel_rfl) (by kernel_rfl) (fun _ _ _ h => h) (Or.inl ⟨by rfl, ?hy30⟩) (by assumption) ?rest30
        case hy30 => (intro w hSw; (try dsimp only at hSw); go_simp; (try with_reducible rfl))
        (try simp only [Act.put])
        refine wpAnyH_ready (rs := [16]) (by kernel_rfl) (by simp) ?_
        refine AllReadyH.cons rfl (fun K hK => ?_) AllReadyH.nil
        go_simp
        refine hK.out _ _ (keepSAs (keepSA (Below.refl _ _).drew Z.out)) (fun hHeld => ?_)
        clear hK K
        (try simp only [Act.put])
        refine wpAnyH_done (by kernel_rfl) ?_ _
        exact hk
    have HX3 := ahide ((HX2.out.setA x2).later (Below.refl _ _).drew)
    clear HX2 Z
    generalize hw3 : World.drew (World.setCell _ _ (.int .i64 x2)) = w3 at *
    clear hw3
    clear q0 q1 q2 q3 q4 q5 q6 s0 s1 s2 r0 r1 r2 r3 r4 p0 p1 p2 g0 g1 g2 f0 f1 f2
    obtain ⟨⟨q0, q1, q2, q3, q4, q5, q6⟩, ⟨s0, s1, s2⟩, ⟨r0, r1, r2, r3, r4⟩, ⟨p0, p1, p2⟩, ⟨g0, g1, g2⟩, ⟨f0, f1, f2⟩, hB⟩ := HX3.out
    clear hB
    go_upto_region 12 with (first | (go_at_call 59; refine (hpl _).mono ?_; rintro e w4 ⟨rfl, hb⟩; have HX3 := ahide (HX3.out.later hb); obtain ⟨⟨q0, q1, q2, q3, q4, q5, q6⟩, ⟨s0, s1, s2⟩, ⟨r0, r1, r2, r3, r4⟩, ⟨p0, p1, p2⟩, ⟨g0, g1, g2⟩, ⟨f0, f1, f2⟩, hB⟩ := HX3.out; clear hB hb) | (go_at_call 58; refine (hm1 _).mono ?_; rintro e w5 ⟨rfl, hb⟩; have HX3 := ahide (HX3.out.later hb); obtain ⟨⟨q0, q1, q2, q3, q4, q5, q6⟩, ⟨s0, s1, s2⟩, ⟨r0, r1, r2, r3, r4⟩, ⟨p0, p1, p2⟩, ⟨g0, g1, g2⟩, ⟨f0, f1, f2⟩, hB⟩ := HX3.out; clear hB hb))
    have HX4 := ahide (HX3.out.setD y)
    clear HX3
    generalize hw5 : World.setCell _ _ (.int .i64 y) = w6 at *
    clear hw5
    clear q0 q1 q2 q3 q4 q5 q6 s0 s1 s2 r0 r1 r2 r3 r4 p0 p1 p2 g0 g1 g2 f0 f1 f2
    obtain ⟨⟨q0, q1, q2, q3, q4, q5, q6⟩, ⟨s0, s1, s2⟩, ⟨r0, r1, r2, r3, r4⟩, ⟨p0, p1, p2⟩, ⟨g0, g1, g2⟩, ⟨f0, f1, f2⟩, hB⟩ := HX4.out
    have Z := ahide (show (w6.cell? ⟨w.heap.size, 0, none⟩ = some (.int .i64 L) ∧ w6.cell? ⟨w.heap.size, 1, none⟩ = some (.int .i64 H) ∧ w6.cell? ⟨w.heap.size, 2, none⟩ = some (.int .i64 U) ∧ w6.cell? ⟨w.heap.size, 3, none⟩ = some (.int .i64 B) ∧ w6.cell? ⟨w.heap.size, 4, none⟩ = some (.int .i64 M) ∧ w6.cell? ⟨w.heap.size, 5, none⟩ = some (.slice (some ⟨ba, oa, none⟩) al.length ca) ∧ w6.cell? ⟨w.heap.size, 6, none⟩ = some (.slice (some ⟨bz, oz, none⟩) zl.length cz)) ∧ (w6.cell? ⟨w.heap.size + 1, 0, none⟩ = some (.int .i64 x2) ∧ w6.cell? ⟨w.heap.size + 1, 1, none⟩ = some (.int .i64 y) ∧ w6.cell? ⟨w.heap.size + 1, 2, none⟩ = some (.int .i64 n)) ∧ Below w.heap.size w w6 from ⟨⟨q0, q1, q2, q3, q4, q5, q6⟩, ⟨s0, s1, s2⟩, hB⟩)
    clear hB q0 q1 q2 q3 q4 q5 q6 s0 s1 s2 r0 r1 r2 r3 r4 g0 g1 g2
    go_region_held3 (fun u => (u.cell? ⟨w.heap.size, 0, none⟩ = some (.int .i64 L) ∧ u.cell? ⟨w.heap.size, 1, none⟩ = some (.int .i64 H) ∧ u.cell? ⟨w.heap.size, 2, none⟩ = some (.int .i64 U) ∧ u.cell? ⟨w.heap.size, 3, none⟩ = some (.int .i64 B) ∧ u.cell? ⟨w.heap.size, 4, none⟩ = some (.int .i64 M) ∧ u.cell? ⟨w.heap.size, 5, none⟩ = some (.slice (some ⟨ba, oa, none⟩) al.length ca) ∧ u.cell? ⟨w.heap.size, 6, none⟩ = some (.slice (some ⟨bz, oz, none⟩) zl.length cz)) ∧ (u.cell? ⟨w.heap.size + 1, 0, none⟩ = some (.int .i64 x2) ∧ u.cell? ⟨w.heap.size + 1, 1, none⟩ = some (.int .i64 y) ∧ u.cell? ⟨w.heap.size + 1, 2, none⟩ = some (.int .i64 n)) ∧ Below w.heap.size w u)
      (first
        | (with_reducible assumption)
        | (with_reducible apply keepSE; with_reducible assumption; with_reducible assumption)
        | ((repeat (with_reducible first | exact Z.out | assumption | refine keepSE (Below.refl _ _).drew ?_ | refine keepSEs ?_)); done))
      (first
        | (go_at_call 58; refine (hm2 _).mono ?_; rintro e w' ⟨rfl, hb⟩; first | (obtain ⟨y0, y1, y2, k0, k1, k2⟩ := room_zero hb p0 p1 p2 f0 f1 f2) | (obtain ⟨y0, y1, y2⟩ := room_full hb p0 p1 p2)))
    all_goals
      rename_i hH
      have HB := ahide hH.2.2
      clear hH
      go_wp2_with fail
      refine bodyPost_ret (v := .tuple #[.int .i64 wt, .agg #[.int .i64 x2, .int .i64 y, .int .i64 n], .nilIface]) ?_ rfl ⟨rfl, HB.out⟩
      simp [results, Try.results56, go_sem, y0, y1, y2]


end Go.Proofs.Ytheihcpacpoliaa
