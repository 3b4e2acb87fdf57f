/-
  Contract of fulmarref.Wanted: what is wanted, and the state behind it.
-/
import Derived.Test.YtheihcpacpoliaaHoldW
namespace Go.Proofs.Ytheihcpacpoliaa
open Go.RowKit Plain

theorem keepS2 {w u u' : World} {M A D W k : Int} (hb : Below u.heap.size u u') (h : (u.cell? ⟨w.heap.size, 4, none⟩ = some (.int .i64 M) ∧ u.cell? ⟨w.heap.size + 1 + 1, 0, none⟩ = some (.int .i64 k)) ∧ (u.cell? ⟨w.heap.size + 1, 0, none⟩ = some (.int .i64 A) ∧ u.cell? ⟨w.heap.size + 1, 1, none⟩ = some (.int .i64 D) ∧ u.cell? ⟨w.heap.size + 1, 2, none⟩ = some (.int .i64 W)) ∧ Below w.heap.size w u) : (u'.cell? ⟨w.heap.size, 4, none⟩ = some (.int .i64 M) ∧ u'.cell? ⟨w.heap.size + 1 + 1, 0, none⟩ = some (.int .i64 k)) ∧ (u'.cell? ⟨w.heap.size + 1, 0, none⟩ = some (.int .i64 A) ∧ u'.cell? ⟨w.heap.size + 1, 1, none⟩ = some (.int .i64 D) ∧ u'.cell? ⟨w.heap.size + 1, 2, none⟩ = some (.int .i64 W)) ∧ Below w.heap.size w u' :=
  ⟨⟨hcell_later hb h.1.1, hcell_later hb h.1.2⟩, ⟨hcell_later hb h.2.1.1, hcell_later hb h.2.1.2.1, hcell_later hb h.2.1.2.2⟩, abelow_up h.2.2 hb⟩
theorem keepS2s {w u : World} {M A D W k : Int} {j : Nat} {x : Value} (h : (u.cell? ⟨w.heap.size, 4, none⟩ = some (.int .i64 M) ∧ u.cell? ⟨w.heap.size + 1 + 1, 0, none⟩ = some (.int .i64 k)) ∧ (u.cell? ⟨w.heap.size + 1, 0, none⟩ = some (.int .i64 A) ∧ u.cell? ⟨w.heap.size + 1, 1, none⟩ = some (.int .i64 D) ∧ u.cell? ⟨w.heap.size + 1, 2, none⟩ = some (.int .i64 W)) ∧ Below w.heap.size w u) : ((u.setCell ⟨w.heap.size + 1 + 1 + 1, j, none⟩ x).cell? ⟨w.heap.size, 4, none⟩ = some (.int .i64 M) ∧ (u.setCell ⟨w.heap.size + 1 + 1 + 1, j, none⟩ x).cell? ⟨w.heap.size + 1 + 1, 0, none⟩ = some (.int .i64 k)) ∧ ((u.setCell ⟨w.heap.size + 1 + 1 + 1, j, none⟩ x).cell? ⟨w.heap.size + 1, 0, none⟩ = some (.int .i64 A) ∧ (u.setCell ⟨w.heap.size + 1 + 1 + 1, j, none⟩ x).cell? ⟨w.heap.size + 1, 1, none⟩ = some (.int .i64 D) ∧ (u.setCell ⟨w.heap.size + 1 + 1 + 1, j, none⟩ x).cell? ⟨w.heap.size + 1, 2, none⟩ = some (.int .i64 W)) ∧ Below w.heap.size w (u.setCell ⟨w.heap.size + 1 + 1 + 1, j, none⟩ x) := by
  have n0 : w.heap.size + 1 + 1 + 1 ≠ w.heap.size := by omega
  have n1 : w.heap.size + 1 + 1 + 1 ≠ w.heap.size + 1 := by omega
  have n2 : w.heap.size + 1 + 1 + 1 ≠ w.heap.size + 1 + 1 := by omega
  exact ⟨⟨hset_far n0 h.1.1, hset_far n2 h.1.2⟩, ⟨hset_far n1 h.2.1.1, hset_far n1 h.2.1.2.1, hset_far n1 h.2.1.2.2⟩, h.2.2.setCell (by simp; omega) _⟩
theorem keepSP {w u u' : World} {ba oa bz oz la lz ca cz : Nat} {A k p v n q : Int} (hb : Below u.heap.size u u') (h : (u.cell? ⟨w.heap.size, 5, none⟩ = some (.slice (some ⟨ba, oa, none⟩) la ca) ∧ u.cell? ⟨w.heap.size, 6, none⟩ = some (.slice (some ⟨bz, oz, none⟩) lz cz) ∧ u.cell? ⟨w.heap.size + 1, 0, none⟩ = some (.int .i64 A)) ∧ (u.cell? ⟨w.heap.size + 1 + 1, 0, none⟩ = some (.int .i64 k) ∧ u.cell? ⟨w.heap.size + 1 + 1, 1, none⟩ = some (.int .i64 p) ∧ u.cell? ⟨w.heap.size + 1 + 1, 2, none⟩ = some (.int .i64 v) ∧ u.cell? ⟨w.heap.size + 1 + 1, 3, none⟩ = some (.int .i64 n) ∧ u.cell? ⟨w.heap.size + 1 + 1, 4, none⟩ = some (.int .i64 q)) ∧ Below w.heap.size w u) : (u'.cell? ⟨w.heap.size, 5, none⟩ = some (.slice (some ⟨ba, oa, none⟩) la ca) ∧ u'.cell? ⟨w.heap.size, 6, none⟩ = some (.slice (some ⟨bz, oz, none⟩) lz cz) ∧ u'.cell? ⟨w.heap.size + 1, 0, none⟩ = some (.int .i64 A)) ∧ (u'.cell? ⟨w.heap.size + 1 + 1, 0, none⟩ = some (.int .i64 k) ∧ u'.cell? ⟨w.heap.size + 1 + 1, 1, none⟩ = some (.int .i64 p) ∧ u'.cell? ⟨w.heap.size + 1 + 1, 2, none⟩ = some (.int .i64 v) ∧ u'.cell? ⟨w.heap.size + 1 + 1, 3, none⟩ = some (.int .i64 n) ∧ u'.cell? ⟨w.heap.size + 1 + 1, 4, none⟩ = some (.int .i64 q)) ∧ Below w.heap.size w u' :=
  ⟨⟨hcell_later hb h.1.1, hcell_later hb h.1.2.1, hcell_later hb h.1.2.2⟩, ⟨hcell_later hb h.2.1.1, hcell_later hb h.2.1.2.1, hcell_later hb h.2.1.2.2.1, hcell_later hb h.2.1.2.2.2.1, hcell_later hb h.2.1.2.2.2.2⟩, abelow_up h.2.2 hb⟩

set_option maxRecDepth 100000 in
set_option maxHeartbeats 4000000 in
theorem wanted_hold (L H U B M : Int) (a z : Option Addr) (ca cz : Nat) (al zl : List Int) (A D W k p v n q : Int) (h0 : hoE L H U B M al zl A D W k n q = 0) (n1 : n ≤ 1) (w : World) (ha : Lst w a al) (hz : Lst w z zl) :
    Calls Try.prog 16 #[.agg #[.int .i64 L, .int .i64 H, .int .i64 U, .int .i64 B, .int .i64 M, .slice a al.length ca, .slice z zl.length cz], .agg #[.int .i64 A, .int .i64 D, .int .i64 W], .agg #[.int .i64 k, .int .i64 p, .int .i64 v, .int .i64 n, .int .i64 q]] w fun e w' => e = .returned (.tuple #[.int .i64 (wtI L H U M al zl A D W k p v n q), .agg #[.int .i64 (a2I L H U A W k p n), .int .i64 (d2I L H U M al zl A D W k p v n q), .int .i64 n]]) ∧ Below w.heap.size w w' := by
  obtain ⟨e1, e2, e3⟩ := hoE_zero h0
  obtain ⟨e4, e5, e6, _⟩ := ruE_zero e1
  obtain ⟨⟨l0, l1⟩, ⟨u0, u1⟩, ⟨t0, t1⟩, ⟨b0, b1⟩, m0, m1⟩ := ruB_true e4
  obtain ⟨⟨a0, a1⟩, ⟨d0, d1⟩, _, _⟩ := stB_true e2
  obtain ⟨⟨k0, k1⟩, ⟨n0, _⟩, q0', q1'⟩ := asB_true e3
  obtain ⟨ba, oa, bz, oz, rfl, rfl, hl⟩ := hline_lies e6 ha hz
  have hhu := refHun_any k U k0 k1 t0 (by omega)
  have hub := hunI_bd k0 k1 t0 (show U ≤ 4000 by omega)
  have n2 : (n == 2) = false := by simp; omega
  have n3 : (n == 3) = false := by simp; omega
  unfold wtI d2I ppI a2I a1I
  have hlk0 := fun u (h : Below w.heap.size w u) => refLook_ok ba oa ca bz oz cz al zl v u (hl.later h)
  clear h0 e1 e2 e3 e4 e6 ha hz hl n1
  generalize lookI al zl v = g at *
  generalize hunI k U = hu at *
  obtain ⟨hu0, hu1⟩ := hub
  by_cases hW : n = W
  · rw [if_pos hW, if_pos hW]
    have hne : (n != W) = false := by simp [hW]
    clear hW
    have hc2 := refClip_any (A + hu) L H e5
    have x2b := clipI_bd (A + hu) e5
    generalize clipI (A + hu) L H = x2 at *
    have hpl := refPull_any g x2 k p v n q (by omega) (by omega)
    have ppb := pullI_bd g x2 p
    generalize pullI g x2 p = pp at *
    obtain ⟨pp0, pp1⟩ := ppb
    have hm2 := refClip_any (pp + D) (-M) M (by omega)
    generalize clipI (pp + D) (-M) M = wt at *
    have v1 : IntKind.i64.wrap (A + hu) = A + hu := hwrap_id (by omega) (by omega)
    have v2 : IntKind.i64.wrap (pp + D) = pp + D := hwrap_id (by omega) (by omega)
    have v3 : IntKind.i64.wrap (-M) = -M := hwrap_id (by omega) (by omega)
    have hlk : ∀ u, (u.cell? ⟨w.heap.size, 5, none⟩ = some (.slice (some ⟨ba, oa, none⟩) al.length ca) ∧ u.cell? ⟨w.heap.size, 6, none⟩ = some (.slice (some ⟨bz, oz, none⟩) zl.length cz) ∧ u.cell? ⟨w.heap.size + 1, 0, none⟩ = some (.int .i64 x2)) ∧ (u.cell? ⟨w.heap.size + 1 + 1, 0, none⟩ = some (.int .i64 k) ∧ u.cell? ⟨w.heap.size + 1 + 1, 1, none⟩ = some (.int .i64 p) ∧ u.cell? ⟨w.heap.size + 1 + 1, 2, none⟩ = some (.int .i64 v) ∧ u.cell? ⟨w.heap.size + 1 + 1, 3, none⟩ = some (.int .i64 n) ∧ u.cell? ⟨w.heap.size + 1 + 1, 4, none⟩ = some (.int .i64 q)) ∧ Below w.heap.size w u → _ := fun u h => hlk0 u h.2.2
    clear hlk0
    go_enter Try.func16, Try.ntmps16
    go_upto_region 9 with fail
    have HX2 := ahide (HW.new w L H U B M (some ⟨ba, oa, none⟩) (some ⟨bz, oz, none⟩) al.length zl.length ca cz A D n k p v n q)
    generalize hw2 : World.alloc (World.alloc (World.alloc (World.alloc _ _) _) _) _ = w2 at *
    clear hw2
    obtain ⟨⟨q0, q1, q2, q3, q4, q5, q6⟩, ⟨s0, s1, s2⟩, ⟨r0, r1, r2, r3, r4⟩, ⟨p0, p1, p2⟩, ⟨g0, g1, g2⟩, ⟨f0, f1, f2⟩, hB⟩ := HX2.out
    have Z := ahide (show (w2.cell? ⟨w.heap.size, 0, none⟩ = some (.int .i64 L) ∧ w2.cell? ⟨w.heap.size, 1, none⟩ = some (.int .i64 H) ∧ w2.cell? ⟨w.heap.size, 2, none⟩ = some (.int .i64 U) ∧ w2.cell? ⟨w.heap.size + 1 + 1, 0, none⟩ = some (.int .i64 k)) ∧ Below w.heap.size w w2 from ⟨⟨q0, q1, q2, r0⟩, hB⟩)
    clear hB
    apply htwice
    · intro hk
      refine wp_region_held_drew (S := fun u => (u.cell? ⟨w.heap.size, 0, none⟩ = some (.int .i64 L) ∧ u.cell? ⟨w.heap.size, 1, none⟩ = some (.int .i64 H) ∧ u.cell? ⟨w.heap.size, 2, none⟩ = some (.int .i64 U) ∧ u.cell? ⟨w.heap.size + 1 + 1, 0, none⟩ = some (.int .i64 k)) ∧ Below w.heap.size w u) (by kernel_rfl) (keepSA (Below.refl _ _).drew Z.out) (fun hHeld => ?_)
      refine wpAnyH_take (i := 0) (v := ?v1) rfl (by kernel_rfl) (by kernel_rfl) (by kernel_rfl) (fun _ _ _ h => h) (Or.inl ⟨by rfl, ?hy1⟩) (by assumption) ?rest1
      case hy1 => (intro w hSw; (try dsimp only at hSw); go_simp; (try with_reducible rfl))
      (try simp only [Act.put])
      refine wpAnyH_take (i := 2) (v := ?v2) rfl (by kernel_rfl) (by kernel_rfl) (by kernel_rfl) (fun _ _ _ h => h) (Or.inl ⟨by rfl, ?hy2⟩) (by assumption) ?rest2
      case hy2 => (intro w hSw; (try dsimp only at hSw); go_simp; (try with_reducible rfl))
      (try simp only [Act.put])
      refine wpAnyH_take (i := 3) (v := ?v3) rfl (by kernel_rfl) (by kernel_rfl) (by kernel_rfl) (fun _ _ _ h => h) (Or.inl ⟨by rfl, ?hy3⟩) (by assumption) ?rest3
      case hy3 => (intro w hSw; (try dsimp only at hSw); go_simp; (try with_reducible rfl))
      (try simp only [Act.put])
      refine wpAnyH_take (i := 4) (v := ?v4) rfl (by kernel_rfl) (by kernel_rfl) (by kernel_rfl) (fun _ _ _ h => h) (Or.inl ⟨by rfl, ?hy4⟩) (by assumption) ?rest4
      case hy4 => (intro w hSw; (try dsimp only at hSw); go_simp; (try with_reducible rfl))
      (try simp only [Act.put])
      refine wpAnyH_take (i := 5) (v := ?v5) rfl (by kernel_rfl) (by kernel_rfl) (by kernel_rfl) (fun _ _ _ h => h) (Or.inl ⟨by rfl, ?hy5⟩) (by assumption) ?rest5
      case hy5 => (intro w hSw; (try dsimp only at hSw); go_simp; (try with_reducible rfl))
      (try simp only [Act.put])
      refine wpAnyH_take (i := 8) (v := ?v6) rfl (by kernel_rfl) (by kernel_rfl) (by kernel_rfl) (fun _ _ _ h => h) (Or.inl ⟨by rfl, ?hy6⟩) (by assumption) ?rest6
      case hy6 => (intro w hSw; (try dsimp only at hSw); go_simp; (try with_reducible rfl))
      (try simp only [Act.put])
      refine wpAnyH_take (i := 9) (v := ?v7) rfl (by kernel_rfl) (by kernel_rfl) (by kernel_rfl) (fun _ _ _ h => h) (Or.inl ⟨by rfl, ?hy7⟩) (by assumption) ?rest7
      case hy7 => (intro w hSw; (try dsimp only at hSw); go_simp; (try with_reducible rfl))
      (try simp only [Act.put])
      refine wpAnyH_take (i := 10) (v := ?v8) rfl (by kernel_rfl) (by kernel_rfl) (by kernel_rfl) (fun _ _ _ h => h) (Or.inl ⟨by rfl, ?hy8⟩) (by assumption) ?rest8
      case hy8 => (intro w hSw; (try dsimp only at hSw); go_simp; (try with_reducible rfl))
      (try simp only [Act.put])
      refine wpAnyH_take (i := 11) (v := ?v9) rfl (by kernel_rfl) (by kernel_rfl) (by kernel_rfl) (fun _ _ _ h => h) (Or.inl ⟨by rfl, ?hy9⟩) (by assumption) ?rest9
      case hy9 => (intro w hSw; (try dsimp only at hSw); go_simp; (try with_reducible rfl))
      (try simp only [Act.put])
      refine wpAnyH_take (i := 12) (v := ?v10) rfl (by kernel_rfl) (by kernel_rfl) (by kernel_rfl) (fun _ _ _ h => h) (Or.inl ⟨by rfl, ?hy10⟩) (by assumption) ?rest10
      case hy10 => (intro w hSw; (try dsimp only at hSw); go_simp; (try with_reducible rfl))
      (try simp only [Act.put])
      refine wpAnyH_take (i := 13) (v := ?v11) rfl (by kernel_rfl) (by kernel_rfl) (by kernel_rfl) (fun _ _ _ h => h) (Or.inl ⟨by rfl, ?hy11⟩) (by assumption) ?rest11
      case hy11 => (intro w hSw; (try dsimp only at hSw); go_simp; (try with_reducible rfl))
      (try simp only [Act.put])
      refine wpAnyH_ready (rs := [1, 6]) (by kernel_rfl) (by simp) ?_
      refine AllReadyH.cons rfl (fun K hK => ?_) (AllReadyH.cons rfl (fun K hK => ?_) AllReadyH.nil)
      · go_simp
        refine hK.out _ _ (keepSA (Below.refl _ _).drew Z.out) (fun hHeld => ?_)
        clear hK K
        (try simp only [Act.put])
        refine wpAnyH_ready (rs := [6]) (by kernel_rfl) (by simp) ?_
        refine AllReadyH.cons rfl (fun K hK => ?_) AllReadyH.nil
        go_simp
        refine (hhu _).mono ?_
        rintro e w' ⟨rfl, hq⟩
        have hq := hq.symm
        subst hq
        go_wp2_with fail
        refine hK.out _ _ (keepSA (Below.refl _ _).drew Z.out) (fun hHeld => ?_)
        clear hK K
        (try simp only [Act.put])
        refine wpAnyH_take (i := 7) (v := ?v12) rfl (by kernel_rfl) (by kernel_rfl) (by kernel_rfl) (fun _ _ _ h => h) (Or.inl ⟨by rfl, ?hy12⟩) (by assumption) ?rest12
        case hy12 => (intro w hSw; (try dsimp only at hSw); go_simp; (try with_reducible rfl))
        (try simp only [Act.put])
        refine wpAnyH_ready (rs := [14]) (by kernel_rfl) (by simp) ?_
        refine AllReadyH.cons rfl (fun K hK => ?_) AllReadyH.nil
        go_simp
        refine (hc2 _).mono ?_
        rintro e w' ⟨rfl, hq⟩
        have hq := hq.symm
        subst hq
        go_wp2_with fail
        refine hK.out _ _ (keepSA (Below.refl _ _).drew Z.out) (fun hHeld => ?_)
        clear hK K
        (try simp only [Act.put])
        refine wpAnyH_take (i := 15) (v := ?v13) rfl (by kernel_rfl) (by kernel_rfl) (by kernel_rfl) (fun _ _ _ h => h) (Or.inl ⟨by rfl, ?hy13⟩) (by assumption) ?rest13
        case hy13 => (intro w hSw; (try dsimp only at hSw); go_simp; (try with_reducible rfl))
        (try simp only [Act.put])
        refine wpAnyH_ready (rs := [16]) (by kernel_rfl) (by simp) ?_
        refine AllReadyH.cons rfl (fun K hK => ?_) AllReadyH.nil
        go_simp
        refine hK.out _ _ (keepSAs (keepSA (Below.refl _ _).drew Z.out)) (fun hHeld => ?_)
        clear hK K
        (try simp only [Act.put])
        refine wpAnyH_done (by kernel_rfl) ?_ _
        exact hk
      · go_simp
        refine (hhu _).mono ?_
        rintro e w' ⟨rfl, hq⟩
        have hq := hq.symm
        subst hq
        go_wp2_with fail
        refine hK.out _ _ (keepSA (Below.refl _ _).drew Z.out) (fun hHeld => ?_)
        clear hK K
        (try simp only [Act.put])
        refine wpAnyH_ready (rs := [1]) (by kernel_rfl) (by simp) ?_
        refine AllReadyH.cons rfl (fun K hK => ?_) AllReadyH.nil
        go_simp
        refine hK.out _ _ (keepSA (Below.refl _ _).drew Z.out) (fun hHeld => ?_)
        clear hK K
        (try simp only [Act.put])
        refine wpAnyH_take (i := 7) (v := ?v14) rfl (by kernel_rfl) (by kernel_rfl) (by kernel_rfl) (fun _ _ _ h => h) (Or.inl ⟨by rfl, ?hy14⟩) (by assumption) ?rest14
        case hy14 => (intro w hSw; (try dsimp only at hSw); go_simp; (try with_reducible rfl))
        (try simp only [Act.put])
        refine wpAnyH_ready (rs := [14]) (by kernel_rfl) (by simp) ?_
        refine AllReadyH.cons rfl (fun K hK => ?_) AllReadyH.nil
        go_simp
        refine (hc2 _).mono ?_
        rintro e w' ⟨rfl, hq⟩
        have hq := hq.symm
        subst hq
        go_wp2_with fail
        refine hK.out _ _ (keepSA (Below.refl _ _).drew Z.out) (fun hHeld => ?_)
        clear hK K
        (try simp only [Act.put])
        refine wpAnyH_take (i := 15) (v := ?v15) rfl (by kernel_rfl) (by kernel_rfl) (by kernel_rfl) (fun _ _ _ h => h) (Or.inl ⟨by rfl, ?hy15⟩) (by assumption) ?rest15
        case hy15 => (intro w hSw; (try dsimp only at hSw); go_simp; (try with_reducible rfl))
        (try simp only [Act.put])
        refine wpAnyH_ready (rs := [16]) (by kernel_rfl) (by simp) ?_
        refine AllReadyH.cons rfl (fun K hK => ?_) AllReadyH.nil
        go_simp
        refine hK.out _ _ (keepSAs (keepSA (Below.refl _ _).drew Z.out)) (fun hHeld => ?_)
        clear hK K
        (try simp only [Act.put])
        refine wpAnyH_done (by kernel_rfl) ?_ _
        exact hk
    have HX3 := ahide ((HX2.out.setA x2).later (Below.refl _ _).drew)
    clear HX2 Z
    generalize hw3 : World.drew (World.setCell _ _ (.int .i64 x2)) = w3 at *
    clear hw3
    clear q0 q1 q2 q3 q4 q5 q6 s0 s1 s2 r0 r1 r2 r3 r4 p0 p1 p2 g0 g1 g2 f0 f1 f2
    obtain ⟨⟨q0, q1, q2, q3, q4, q5, q6⟩, ⟨s0, s1, s2⟩, ⟨r0, r1, r2, r3, r4⟩, ⟨p0, p1, p2⟩, ⟨g0, g1, g2⟩, ⟨f0, f1, f2⟩, hB⟩ := HX3.out
    go_upto_region 10 with fail
    have Z := ahide (show (w3.cell? ⟨w.heap.size, 5, none⟩ = some (.slice (some ⟨ba, oa, none⟩) al.length ca) ∧ w3.cell? ⟨w.heap.size, 6, none⟩ = some (.slice (some ⟨bz, oz, none⟩) zl.length cz) ∧ w3.cell? ⟨w.heap.size + 1, 0, none⟩ = some (.int .i64 x2)) ∧ (w3.cell? ⟨w.heap.size + 1 + 1, 0, none⟩ = some (.int .i64 k) ∧ w3.cell? ⟨w.heap.size + 1 + 1, 1, none⟩ = some (.int .i64 p) ∧ w3.cell? ⟨w.heap.size + 1 + 1, 2, none⟩ = some (.int .i64 v) ∧ w3.cell? ⟨w.heap.size + 1 + 1, 3, none⟩ = some (.int .i64 n) ∧ w3.cell? ⟨w.heap.size + 1 + 1, 4, none⟩ = some (.int .i64 q)) ∧ Below w.heap.size w w3 from ⟨⟨q5, q6, s0⟩, ⟨r0, r1, r2, r3, r4⟩, hB⟩)
    clear hB
    go_region_held3 (fun u => (u.cell? ⟨w.heap.size, 5, none⟩ = some (.slice (some ⟨ba, oa, none⟩) al.length ca) ∧ u.cell? ⟨w.heap.size, 6, none⟩ = some (.slice (some ⟨bz, oz, none⟩) zl.length cz) ∧ u.cell? ⟨w.heap.size + 1, 0, none⟩ = some (.int .i64 x2)) ∧ (u.cell? ⟨w.heap.size + 1 + 1, 0, none⟩ = some (.int .i64 k) ∧ u.cell? ⟨w.heap.size + 1 + 1, 1, none⟩ = some (.int .i64 p) ∧ u.cell? ⟨w.heap.size + 1 + 1, 2, none⟩ = some (.int .i64 v) ∧ u.cell? ⟨w.heap.size + 1 + 1, 3, none⟩ = some (.int .i64 n) ∧ u.cell? ⟨w.heap.size + 1 + 1, 4, none⟩ = some (.int .i64 q)) ∧ Below w.heap.size w u)
      (first
        | (with_reducible assumption)
        | (with_reducible apply keepSP; with_reducible assumption; with_reducible assumption)
        | (with_reducible refine keepSP (Below.refl _ _).drew ?_; exact Z.out))
      (first
        | (go_at_call 31; refine (hlk _ ?_).mono ?_; (with_reducible assumption); rintro e w4 ⟨rfl, hb4⟩; have HX3 := ahide (HX3.out.later (Below.trans (Below.refl _ _).drew hb4)))
        | (go_at_call 30; refine (hpl _).mono ?_; rintro e w5 ⟨rfl, hb5⟩; have HX3 := ahide (HX3.out.later hb5)))
    clear Z q0 q1 q2 q3 q4 q5 q6 s0 s1 s2 r0 r1 r2 r3 r4 p0 p1 p2 g0 g1 g2 f0 f1 f2 hlk hpl
    obtain ⟨⟨q0, q1, q2, q3, q4, q5, q6⟩, ⟨s0, s1, s2⟩, ⟨r0, r1, r2, r3, r4⟩, ⟨p0, p1, p2⟩, ⟨g0, g1, g2⟩, ⟨f0, f1, f2⟩, hB⟩ := HX3.out
    clear hB
    go_upto_region 13 with fail
    have HX4 := HX3
    clear HX3
    obtain ⟨⟨q0, q1, q2, q3, q4, q5, q6⟩, ⟨s0, s1, s2⟩, ⟨r0, r1, r2, r3, r4⟩, ⟨p0, p1, p2⟩, ⟨g0, g1, g2⟩, ⟨f0, f1, f2⟩, hB⟩ := HX4.out
    rename World => w6
    have Z := ahide (show (w6.cell? ⟨w.heap.size, 0, none⟩ = some (.int .i64 L) ∧ w6.cell? ⟨w.heap.size, 1, none⟩ = some (.int .i64 H) ∧ w6.cell? ⟨w.heap.size, 2, none⟩ = some (.int .i64 U) ∧ w6.cell? ⟨w.heap.size, 3, none⟩ = some (.int .i64 B) ∧ w6.cell? ⟨w.heap.size, 4, none⟩ = some (.int .i64 M) ∧ w6.cell? ⟨w.heap.size, 5, none⟩ = some (.slice (some ⟨ba, oa, none⟩) al.length ca) ∧ w6.cell? ⟨w.heap.size, 6, none⟩ = some (.slice (some ⟨bz, oz, none⟩) zl.length cz)) ∧ (w6.cell? ⟨w.heap.size + 1, 0, none⟩ = some (.int .i64 x2) ∧ w6.cell? ⟨w.heap.size + 1, 1, none⟩ = some (.int .i64 D) ∧ w6.cell? ⟨w.heap.size + 1, 2, none⟩ = some (.int .i64 n)) ∧ Below w.heap.size w w6 from ⟨⟨q0, q1, q2, q3, q4, q5, q6⟩, ⟨s0, s1, s2⟩, hB⟩)
    clear hB q0 q1 q2 q3 q4 q5 q6 s0 s1 s2 r0 r1 r2 r3 r4 g0 g1 g2
    go_region_held3 (fun u => (u.cell? ⟨w.heap.size, 0, none⟩ = some (.int .i64 L) ∧ u.cell? ⟨w.heap.size, 1, none⟩ = some (.int .i64 H) ∧ u.cell? ⟨w.heap.size, 2, none⟩ = some (.int .i64 U) ∧ u.cell? ⟨w.heap.size, 3, none⟩ = some (.int .i64 B) ∧ u.cell? ⟨w.heap.size, 4, none⟩ = some (.int .i64 M) ∧ u.cell? ⟨w.heap.size, 5, none⟩ = some (.slice (some ⟨ba, oa, none⟩) al.length ca) ∧ u.cell? ⟨w.heap.size, 6, none⟩ = some (.slice (some ⟨bz, oz, none⟩) zl.length cz)) ∧ (u.cell? ⟨w.heap.size + 1, 0, none⟩ = some (.int .i64 x2) ∧ u.cell? ⟨w.heap.size + 1, 1, none⟩ = some (.int .i64 D) ∧ u.cell? ⟨w.heap.size + 1, 2, none⟩ = some (.int .i64 n)) ∧ Below w.heap.size w u)
      (first
        | (with_reducible assumption)
        | (with_reducible apply keepSE; with_reducible assumption; with_reducible assumption)
        | ((repeat (with_reducible first | exact Z.out | assumption | refine keepSE (Below.refl _ _).drew ?_ | refine keepSEs ?_)); done))
      (first
        | (go_at_call 29; refine (hm2 _).mono ?_; rintro e w' ⟨rfl, hq⟩; have hq := hq.symm; subst hq))
    all_goals
      rename_i hH
      have HB := ahide hH.2.2
      clear hH
      go_wp2_with fail
      refine bodyPost_ret (v := .tuple #[.int .i64 wt, .agg #[.int .i64 x2, .int .i64 D, .int .i64 n]]) ?_ rfl ⟨rfl, HB.out⟩
      simp [results, Try.results16, go_sem, p0, p1, p2]

  · rw [if_neg hW, if_neg hW]
    have hne : (n != W) = true := by simpa using hW
    clear hW
    have hc1 := refClip_any p L H e5
    have x1b := clipI_bd p e5
    generalize clipI p L H = x1 at *
    have hc2 := refClip_any (x1 + hu) L H e5
    have x2b := clipI_bd (x1 + hu) e5
    generalize clipI (x1 + hu) L H = x2 at *
    have hpl := refPull_any g x2 k p v n q (by omega) (by omega)
    have ppb := pullI_bd g x2 p
    generalize pullI g x2 p = pp at *
    obtain ⟨pp0, pp1⟩ := ppb
    have hm1 := refClip_any (q - pp) (-M) M (by omega)
    have yb := clipI_bd (q - pp) (lo := -M) (hi := M) (by omega)
    generalize clipI (q - pp) (-M) M = y at *
    have hm2 := refClip_any (pp + y) (-M) M (by omega)
    generalize clipI (pp + y) (-M) M = wt at *
    have v1 : IntKind.i64.wrap (x1 + hu) = x1 + hu := hwrap_id (by omega) (by omega)
    have v2 : IntKind.i64.wrap (pp + y) = pp + y := hwrap_id (by omega) (by omega)
    have v3 : IntKind.i64.wrap (-M) = -M := hwrap_id (by omega) (by omega)
    have hlk : ∀ u, (u.cell? ⟨w.heap.size, 5, none⟩ = some (.slice (some ⟨ba, oa, none⟩) al.length ca) ∧ u.cell? ⟨w.heap.size, 6, none⟩ = some (.slice (some ⟨bz, oz, none⟩) zl.length cz) ∧ u.cell? ⟨w.heap.size + 1, 0, none⟩ = some (.int .i64 x2)) ∧ (u.cell? ⟨w.heap.size + 1 + 1, 0, none⟩ = some (.int .i64 k) ∧ u.cell? ⟨w.heap.size + 1 + 1, 1, none⟩ = some (.int .i64 p) ∧ u.cell? ⟨w.heap.size + 1 + 1, 2, none⟩ = some (.int .i64 v) ∧ u.cell? ⟨w.heap.size + 1 + 1, 3, none⟩ = some (.int .i64 n) ∧ u.cell? ⟨w.heap.size + 1 + 1, 4, none⟩ = some (.int .i64 q)) ∧ Below w.heap.size w u → _ := fun u h => hlk0 u h.2.2
    clear hlk0
    go_enter Try.func16, Try.ntmps16
    go_upto_region 9 with (go_at_call 29; refine (hc1 _).mono ?_; rintro e w' ⟨rfl, hq⟩; have hq := hq.symm; subst hq)
    have HX2 := ahide (HW.new w L H U B M (some ⟨ba, oa, none⟩) (some ⟨bz, oz, none⟩) al.length zl.length ca cz x1 D n k p v n q)
    generalize hw2 : World.alloc (World.alloc (World.alloc (World.alloc _ _) _) _) _ = w2 at *
    clear hw2
    obtain ⟨⟨q0, q1, q2, q3, q4, q5, q6⟩, ⟨s0, s1, s2⟩, ⟨r0, r1, r2, r3, r4⟩, ⟨p0, p1, p2⟩, ⟨g0, g1, g2⟩, ⟨f0, f1, f2⟩, hB⟩ := HX2.out
    have Z := ahide (show (w2.cell? ⟨w.heap.size, 0, none⟩ = some (.int .i64 L) ∧ w2.cell? ⟨w.heap.size, 1, none⟩ = some (.int .i64 H) ∧ w2.cell? ⟨w.heap.size, 2, none⟩ = some (.int .i64 U) ∧ w2.cell? ⟨w.heap.size + 1 + 1, 0, none⟩ = some (.int .i64 k)) ∧ Below w.heap.size w w2 from ⟨⟨q0, q1, q2, r0⟩, hB⟩)
    clear hB
    apply htwice
    · intro hk
      refine wp_region_held_drew (S := fun u => (u.cell? ⟨w.heap.size, 0, none⟩ = some (.int .i64 L) ∧ u.cell? ⟨w.heap.size, 1, none⟩ = some (.int .i64 H) ∧ u.cell? ⟨w.heap.size, 2, none⟩ = some (.int .i64 U) ∧ u.cell? ⟨w.heap.size + 1 + 1, 0, none⟩ = some (.int .i64 k)) ∧ Below w.heap.size w u) (by kernel_rfl) (keepSA (Below.refl _ _).drew Z.out) (fun hHeld => ?_)
      refine wpAnyH_take (i := 0) (v := ?v16) rfl (by kernel_rfl) (by kernel_rfl) (by kernel_rfl) (fun _ _ _ h => h) (Or.inl ⟨by rfl, ?hy16⟩) (by assumption) ?rest16
      case hy16 => (intro w hSw; (try dsimp only at hSw); go_simp; (try with_reducible rfl))
      (try simp only [Act.put])
      refine wpAnyH_take (i := 2) (v := ?v17) rfl (by kernel_rfl) (by kernel_rfl) (by kernel_rfl) (fun _ _ _ h => h) (Or.inl ⟨by rfl, ?hy17⟩) (by assumption) ?rest17
      case hy17 => (intro w hSw; (try dsimp only at hSw); go_simp; (try with_reducible rfl))
      (try simp only [Act.put])
      refine wpAnyH_take (i := 3) (v := ?v18) rfl (by kernel_rfl) (by kernel_rfl) (by kernel_rfl) (fun _ _ _ h => h) (Or.inl ⟨by rfl, ?hy18⟩) (by assumption) ?rest18
      case hy18 => (intro w hSw; (try dsimp only at hSw); go_simp; (try with_reducible rfl))
      (try simp only [Act.put])
      refine wpAnyH_take (i := 4) (v := ?v19) rfl (by kernel_rfl) (by kernel_rfl) (by kernel_rfl) (fun _ _ _ h => h) (Or.inl ⟨by rfl, ?hy19⟩) (by assumption) ?rest19
      case hy19 => (intro w hSw; (try dsimp only at hSw); go_simp; (try with_reducible rfl))
      (try simp only [Act.put])
      refine wpAnyH_take (i := 5) (v := ?v20) rfl (by kernel_rfl) (by kernel_rfl) (by kernel_rfl) (fun _ _ _ h => h) (Or.inl ⟨by rfl, ?hy20⟩) (by assumption) ?rest20
      case hy20 => (intro w hSw; (try dsimp only at hSw); go_simp; (try with_reducible rfl))
      (try simp only [Act.put])
      refine wpAnyH_take (i := 8) (v := ?v21) rfl (by kernel_rfl) (by kernel_rfl) (by kernel_rfl) (fun _ _ _ h => h) (Or.inl ⟨by rfl, ?hy21⟩) (by assumption) ?rest21
      case hy21 => (intro w hSw; (try dsimp only at hSw); go_simp; (try with_reducible rfl))
      (try simp only [Act.put])
      refine wpAnyH_take (i := 9) (v := ?v22) rfl (by kernel_rfl) (by kernel_rfl) (by kernel_rfl) (fun _ _ _ h => h) (Or.inl ⟨by rfl, ?hy22⟩) (by assumption) ?rest22
      case hy22 => (intro w hSw; (try dsimp only at hSw); go_simp; (try with_reducible rfl))
      (try simp only [Act.put])
      refine wpAnyH_take (i := 10) (v := ?v23) rfl (by kernel_rfl) (by kernel_rfl) (by kernel_rfl) (fun _ _ _ h => h) (Or.inl ⟨by rfl, ?hy23⟩) (by assumption) ?rest23
      case hy23 => (intro w hSw; (try dsimp only at hSw); go_simp; (try with_reducible rfl))
      (try simp only [Act.put])
      refine wpAnyH_take (i := 11) (v := ?v24) rfl (by kernel_rfl) (by kernel_rfl) (by kernel_rfl) (fun _ _ _ h => h) (Or.inl ⟨by rfl, ?hy24⟩) (by assumption) ?rest24
      case hy24 => (intro w hSw; (try dsimp only at hSw); go_simp; (try with_reducible rfl))
      (try simp only [Act.put])
      refine wpAnyH_take (i := 12) (v := ?v25) rfl (by kernel_rfl) (by kernel_rfl) (by kernel_rfl) (fun _ _ _ h => h) (Or.inl ⟨by rfl, ?hy25⟩) (by assumption) ?rest25
      case hy25 => (intro w hSw; (try dsimp only at hSw); go_simp; (try with_reducible rfl))
      (try simp only [Act.put])
      refine wpAnyH_take (i := 13) (v := ?v26) rfl (by kernel_rfl) (by kernel_rfl) (by kernel_rfl) (fun _ _ _ h => h) (Or.inl ⟨by rfl, ?hy26⟩) (by assumption) ?rest26
      case hy26 => (intro w hSw; (try dsimp only at hSw); go_simp; (try with_reducible rfl))
      (try simp only [Act.put])
      refine wpAnyH_ready (rs := [1, 6]) (by kernel_rfl) (by simp) ?_
      refine AllReadyH.cons rfl (fun K hK => ?_) (AllReadyH.cons rfl (fun K hK => ?_) AllReadyH.nil)
      · go_simp
        refine hK.out _ _ (keepSA (Below.refl _ _).drew Z.out) (fun hHeld => ?_)
        clear hK K
        (try simp only [Act.put])
        refine wpAnyH_ready (rs := [6]) (by kernel_rfl) (by simp) ?_
        refine AllReadyH.cons rfl (fun K hK => ?_) AllReadyH.nil
        go_simp
        refine (hhu _).mono ?_
        rintro e w' ⟨rfl, hq⟩
        have hq := hq.symm
        subst hq
        go_wp2_with fail
        refine hK.out _ _ (keepSA (Below.refl _ _).drew Z.out) (fun hHeld => ?_)
        clear hK K
        (try simp only [Act.put])
        refine wpAnyH_take (i := 7) (v := ?v27) rfl (by kernel_rfl) (by kernel_rfl) (by kernel_rfl) (fun _ _ _ h => h) (Or.inl ⟨by rfl, ?hy27⟩) (by assumption) ?rest27
        case hy27 => (intro w hSw; (try dsimp only at hSw); go_simp; (try with_reducible rfl))
        (try simp only [Act.put])
        refine wpAnyH_ready (rs := [14]) (by kernel_rfl) (by simp) ?_
        refine AllReadyH.cons rfl (fun K hK => ?_) AllReadyH.nil
        go_simp
        refine (hc2 _).mono ?_
        rintro e w' ⟨rfl, hq⟩
        have hq := hq.symm
        subst hq
        go_wp2_with fail
        refine hK.out _ _ (keepSA (Below.refl _ _).drew Z.out) (fun hHeld => ?_)
        clear hK K
        (try simp only [Act.put])
        refine wpAnyH_take (i := 15) (v := ?v28) rfl (by kernel_rfl) (by kernel_rfl) (by kernel_rfl) (fun _ _ _ h => h) (Or.inl ⟨by rfl, ?hy28⟩) (by assumption) ?rest28
        case hy28 => (intro w hSw; (try dsimp only at hSw); go_simp; (try with_reducible rfl))
        (try simp only [Act.put])
        refine wpAnyH_ready (rs := [16]) (by kernel_rfl) (by simp) ?_
        refine AllReadyH.cons rfl (fun K hK => ?_) AllReadyH.nil
        go_simp
        refine hK.out _ _ (keepSAs (keepSA (Below.refl _ _).drew Z.out)) (fun hHeld => ?_)
        clear hK K
        (try simp only [Act.put])
        refine wpAnyH_done (by kernel_rfl) ?_ _
        exact hk
      · go_simp
        refine (hhu _).mono ?_
        rintro e w' ⟨rfl, hq⟩
        have hq := hq.symm
        subst hq
        go_wp2_with fail
        refine hK.out _ _ (keepSA (Below.refl _ _).drew Z.out) (fun hHeld => ?_)
        clear hK K
        (try simp only [Act.put])
        refine wpAnyH_ready (rs := [1]) (by kernel_rfl) (by simp) ?_
        refine AllReadyH.cons rfl (fun K hK => ?_) AllReadyH.nil
        go_simp
        refine hK.out _ _ (keepSA (Below.refl _ _).drew Z.out) (fun hHeld => ?_)
        clear hK K
        (try simp only [Act.put])
        refine wpAnyH_take (i := 7) (v := ?v29) rfl (by kernel_rfl) (by kernel_rfl) (by kernel_rfl) (fun _ _ _ h => h) (Or.inl ⟨by rfl, ?hy29⟩) (by assumption) ?rest29
        case hy29 => (intro w hSw; (try dsimp only at hSw); go_simp; (try with_reducible rfl))
        (try simp only [Act.put])
        refine wpAnyH_ready (rs := [14]) (by kernel_rfl) (by simp) ?_
        refine AllReadyH.cons rfl (fun K hK => ?_) AllReadyH.nil
        go_simp
        refine (hc2 _).mono ?_
        rintro e w' ⟨rfl, hq⟩
        have hq := hq.symm
        subst hq
        go_wp2_with fail
        refine hK.out _ _ (keepSA (Below.refl _ _).drew Z.out) (fun hHeld => ?_)
        clear hK K
        (try simp only [Act.put])
        refine wpAnyH_take (i := 15) (v := ?v30) rfl (by kernel_rfl) (by kernel_rfl) (by kernel_rfl) (fun _ _ _ h => h) (Or.inl ⟨by rfl, ?hy30⟩) (by assumption) ?rest30
        case hy30 => (intro w hSw; (try dsimp only at hSw); go_simp; (try with_reducible rfl))
        (try simp only [Act.put])
        refine wpAnyH_ready (rs := [16]) (by kernel_rfl) (by simp) ?_
        refine AllReadyH.cons rfl (fun K hK => ?_) AllReadyH.nil
        go_simp
        refine hK.out _ _ (keepSAs (keepSA (Below.refl _ _).drew Z.out)) (fun hHeld => ?_)
        clear hK K
        (try simp only [Act.put])
        refine wpAnyH_done (by kernel_rfl) ?_ _
        exact hk
    have HX3 := ahide ((HX2.out.setA x2).later (Below.refl _ _).drew)
    clear HX2 Z
    generalize hw3 : World.drew (World.setCell _ _ (.int .i64 x2)) = w3 at *
    clear hw3
    clear q0 q1 q2 q3 q4 q5 q6 s0 s1 s2 r0 r1 r2 r3 r4 p0 p1 p2 g0 g1 g2 f0 f1 f2
    obtain ⟨⟨q0, q1, q2, q3, q4, q5, q6⟩, ⟨s0, s1, s2⟩, ⟨r0, r1, r2, r3, r4⟩, ⟨p0, p1, p2⟩, ⟨g0, g1, g2⟩, ⟨f0, f1, f2⟩, hB⟩ := HX3.out
    go_upto_region 10 with fail
    have Z := ahide (show (w3.cell? ⟨w.heap.size, 5, none⟩ = some (.slice (some ⟨ba, oa, none⟩) al.length ca) ∧ w3.cell? ⟨w.heap.size, 6, none⟩ = some (.slice (some ⟨bz, oz, none⟩) zl.length cz) ∧ w3.cell? ⟨w.heap.size + 1, 0, none⟩ = some (.int .i64 x2)) ∧ (w3.cell? ⟨w.heap.size + 1 + 1, 0, none⟩ = some (.int .i64 k) ∧ w3.cell? ⟨w.heap.size + 1 + 1, 1, none⟩ = some (.int .i64 p) ∧ w3.cell? ⟨w.heap.size + 1 + 1, 2, none⟩ = some (.int .i64 v) ∧ w3.cell? ⟨w.heap.size + 1 + 1, 3, none⟩ = some (.int .i64 n) ∧ w3.cell? ⟨w.heap.size + 1 + 1, 4, none⟩ = some (.int .i64 q)) ∧ Below w.heap.size w w3 from ⟨⟨q5, q6, s0⟩, ⟨r0, r1, r2, r3, r4⟩, hB⟩)
    clear hB
    go_region_held3 (fun u => (u.cell? ⟨w.heap.size, 5, none⟩ = some (.slice (some ⟨ba, oa, none⟩) al.length ca) ∧ u.cell? ⟨w.heap.size, 6, none⟩ = some (.slice (some ⟨bz, oz, none⟩) zl.length cz) ∧ u.cell? ⟨w.heap.size + 1, 0, none⟩ = some (.int .i64 x2)) ∧ (u.cell? ⟨w.heap.size + 1 + 1, 0, none⟩ = some (.int .i64 k) ∧ u.cell? ⟨w.heap.size + 1 + 1, 1, none⟩ = some (.int .i64 p) ∧ u.cell? ⟨w.heap.size + 1 + 1, 2, none⟩ = some (.int .i64 v) ∧ u.cell? ⟨w.heap.size + 1 + 1, 3, none⟩ = some (.int .i64 n) ∧ u.cell? ⟨w.heap.size + 1 + 1, 4, none⟩ = some (.int .i64 q)) ∧ Below w.heap.size w u)
      (first
        | (with_reducible assumption)
        | (with_reducible apply keepSP; with_reducible assumption; with_reducible assumption)
        | (with_reducible refine keepSP (Below.refl _ _).drew ?_; exact Z.out))
      (first
        | (go_at_call 31; refine (hlk _ ?_).mono ?_; (with_reducible assumption); rintro e w4 ⟨rfl, hb4⟩; have HX3 := ahide (HX3.out.later (Below.trans (Below.refl _ _).drew hb4)))
        | (go_at_call 30; refine (hpl _).mono ?_; rintro e w5 ⟨rfl, hb5⟩; have HX3 := ahide (HX3.out.later hb5)))
    clear Z q0 q1 q2 q3 q4 q5 q6 s0 s1 s2 r0 r1 r2 r3 r4 p0 p1 p2 g0 g1 g2 f0 f1 f2 hlk hpl
    obtain ⟨⟨q0, q1, q2, q3, q4, q5, q6⟩, ⟨s0, s1, s2⟩, ⟨r0, r1, r2, r3, r4⟩, ⟨p0, p1, p2⟩, ⟨g0, g1, g2⟩, ⟨f0, f1, f2⟩, hB⟩ := HX3.out
    clear hB
    go_upto_region 13 with (go_at_call 29; refine (hm1 _).mono ?_; rintro e w' ⟨rfl, hq⟩; have hq := hq.symm; subst hq)
    have HX4 := ahide (HX3.out.setD y)
    clear HX3
    generalize hw5 : World.setCell _ _ (.int .i64 y) = w6 at *
    clear hw5
    clear q0 q1 q2 q3 q4 q5 q6 s0 s1 s2 r0 r1 r2 r3 r4 p0 p1 p2 g0 g1 g2 f0 f1 f2
    obtain ⟨⟨q0, q1, q2, q3, q4, q5, q6⟩, ⟨s0, s1, s2⟩, ⟨r0, r1, r2, r3, r4⟩, ⟨p0, p1, p2⟩, ⟨g0, g1, g2⟩, ⟨f0, f1, f2⟩, hB⟩ := HX4.out
    have Z := ahide (show (w6.cell? ⟨w.heap.size, 0, none⟩ = some (.int .i64 L) ∧ w6.cell? ⟨w.heap.size, 1, none⟩ = some (.int .i64 H) ∧ w6.cell? ⟨w.heap.size, 2, none⟩ = some (.int .i64 U) ∧ w6.cell? ⟨w.heap.size, 3, none⟩ = some (.int .i64 B) ∧ w6.cell? ⟨w.heap.size, 4, none⟩ = some (.int .i64 M) ∧ w6.cell? ⟨w.heap.size, 5, none⟩ = some (.slice (some ⟨ba, oa, none⟩) al.length ca) ∧ w6.cell? ⟨w.heap.size, 6, none⟩ = some (.slice (some ⟨bz, oz, none⟩) zl.length cz)) ∧ (w6.cell? ⟨w.heap.size + 1, 0, none⟩ = some (.int .i64 x2) ∧ w6.cell? ⟨w.heap.size + 1, 1, none⟩ = some (.int .i64 y) ∧ w6.cell? ⟨w.heap.size + 1, 2, none⟩ = some (.int .i64 n)) ∧ Below w.heap.size w w6 from ⟨⟨q0, q1, q2, q3, q4, q5, q6⟩, ⟨s0, s1, s2⟩, hB⟩)
    clear hB q0 q1 q2 q3 q4 q5 q6 s0 s1 s2 r0 r1 r2 r3 r4 g0 g1 g2
    go_region_held3 (fun u => (u.cell? ⟨w.heap.size, 0, none⟩ = some (.int .i64 L) ∧ u.cell? ⟨w.heap.size, 1, none⟩ = some (.int .i64 H) ∧ u.cell? ⟨w.heap.size, 2, none⟩ = some (.int .i64 U) ∧ u.cell? ⟨w.heap.size, 3, none⟩ = some (.int .i64 B) ∧ u.cell? ⟨w.heap.size, 4, none⟩ = some (.int .i64 M) ∧ u.cell? ⟨w.heap.size, 5, none⟩ = some (.slice (some ⟨ba, oa, none⟩) al.length ca) ∧ u.cell? ⟨w.heap.size, 6, none⟩ = some (.slice (some ⟨bz, oz, none⟩) zl.length cz)) ∧ (u.cell? ⟨w.heap.size + 1, 0, none⟩ = some (.int .i64 x2) ∧ u.cell? ⟨w.heap.size + 1, 1, none⟩ = some (.int .i64 y) ∧ u.cell? ⟨w.heap.size + 1, 2, none⟩ = some (.int .i64 n)) ∧ Below w.heap.size w u)
      (first
        | (with_reducible assumption)
        | (with_reducible apply keepSE; with_reducible assumption; with_reducible assumption)
        | ((repeat (with_reducible first | exact Z.out | assumption | refine keepSE (Below.refl _ _).drew ?_ | refine keepSEs ?_)); done))
      (first
        | (go_at_call 29; refine (hm2 _).mono ?_; rintro e w' ⟨rfl, hq⟩; have hq := hq.symm; subst hq))
    all_goals
      rename_i hH
      have HB := ahide hH.2.2
      clear hH
      go_wp2_with fail
      refine bodyPost_ret (v := .tuple #[.int .i64 wt, .agg #[.int .i64 x2, .int .i64 y, .int .i64 n]]) ?_ rfl ⟨rfl, HB.out⟩
      simp [results, Try.results16, go_sem, p0, p1, p2]


set_option maxRecDepth 100000 in
set_option maxHeartbeats 4000000 in
theorem refWanted_any (L H U B M : Int) (a z : Option Addr) (ca cz : Nat) (al zl : List Int) (A D W k p v n q : Int) (h0 : hoE L H U B M al zl A D W k n q = 0) (w : World) (ha : Lst w a al) (hz : Lst w z zl) :
    Calls Try.prog 16 #[.agg #[.int .i64 L, .int .i64 H, .int .i64 U, .int .i64 B, .int .i64 M, .slice a al.length ca, .slice z zl.length cz], .agg #[.int .i64 A, .int .i64 D, .int .i64 W], .agg #[.int .i64 k, .int .i64 p, .int .i64 v, .int .i64 n, .int .i64 q]] w fun e w' => e = .returned (.tuple #[.int .i64 (wX L H U M al zl A D W k p v n q), .agg #[.int .i64 (wA L H U A W k p n), .int .i64 (wD L H U M al zl A D W k p v n q), .int .i64 n]]) ∧ Below w.heap.size w w' := by
  obtain ⟨e1, e2, e3⟩ := hoE_zero h0
  obtain ⟨e4, e5, e6, _⟩ := ruE_zero e1
  obtain ⟨_, _, _, _, m0, m1⟩ := ruB_true e4
  obtain ⟨⟨k0, k1⟩, ⟨n0, n3'⟩, _, _⟩ := asB_true e3
  by_cases n1 : n ≤ 1
  · have := wanted_hold L H U B M a z ca cz al zl A D W k p v n q h0 n1 w ha hz
    unfold wX wA wD; rw [if_pos n1, if_pos n1, if_pos n1]; exact this
  · unfold wX wA wD; rw [if_neg n1, if_neg n1, if_neg n1]
    have HX := ahide (HW.new w L H U B M a z al.length zl.length ca cz A D n k p v n q)
    have hhu := refHun_any k M k0 k1 (by omega) (by omega)
    clear h0 e1 e2 e3 e4 e6 ha hz
    by_cases n2 : n = 2
    · rw [if_pos n2]
      subst n2
      generalize hunI k M = hu at *
      go_enter Try.func16, Try.ntmps16
      go_upto_region 4 with fail
      generalize hw2 : World.alloc (World.alloc (World.alloc (World.alloc _ _) _) _) _ = w2 at *
      clear hw2
      obtain ⟨⟨q0, q1, q2, q3, q4, q5, q6⟩, ⟨s0, s1, s2⟩, ⟨r0, r1, r2, r3, r4⟩, ⟨p0, p1, p2⟩, ⟨g0, g1, g2⟩, ⟨f0, f1, f2⟩, hB⟩ := HX.out
      have Z := ahide (show (w2.cell? ⟨w.heap.size, 4, none⟩ = some (.int .i64 M) ∧ w2.cell? ⟨w.heap.size + 1 + 1, 0, none⟩ = some (.int .i64 k)) ∧ (w2.cell? ⟨w.heap.size + 1, 0, none⟩ = some (.int .i64 A) ∧ w2.cell? ⟨w.heap.size + 1, 1, none⟩ = some (.int .i64 D) ∧ w2.cell? ⟨w.heap.size + 1, 2, none⟩ = some (.int .i64 2)) ∧ Below w.heap.size w w2 from ⟨⟨q4, r0⟩, ⟨s0, s1, s2⟩, hB⟩)
      clear hB q0 q1 q2 q3 q4 q5 q6 s0 s1 s2 r0 r1 r2 r3 r4 g0 g1 g2
      go_region_held3 (fun u => (u.cell? ⟨w.heap.size, 4, none⟩ = some (.int .i64 M) ∧ u.cell? ⟨w.heap.size + 1 + 1, 0, none⟩ = some (.int .i64 k)) ∧ (u.cell? ⟨w.heap.size + 1, 0, none⟩ = some (.int .i64 A) ∧ u.cell? ⟨w.heap.size + 1, 1, none⟩ = some (.int .i64 D) ∧ u.cell? ⟨w.heap.size + 1, 2, none⟩ = some (.int .i64 2)) ∧ Below w.heap.size w u)
        (first
          | (with_reducible assumption)
          | (with_reducible apply keepS2; with_reducible assumption; with_reducible assumption)
          | ((repeat (with_reducible first | exact Z.out | assumption | refine keepS2 (Below.refl _ _).drew ?_ | refine keepS2s ?_)); done))
        (first
          | (go_at_call 28; refine (hhu _).mono ?_; rintro e w' ⟨rfl, hq⟩; have hq := hq.symm; subst hq))
      all_goals
        rename_i hH
        have HB := ahide hH.2.2
        clear hH
        go_wp2_with fail
        refine bodyPost_ret (v := .tuple #[.int .i64 hu, .agg #[.int .i64 A, .int .i64 D, .int .i64 2]]) ?_ rfl ⟨rfl, HB.out⟩
        simp [results, Try.results16, go_sem, p0, p1, p2]
    · rw [if_neg n2]
      obtain rfl : n = 3 := by omega
      clear n1 n2 n0 n3' hhu
      go_enter Try.func16, Try.ntmps16
      go_upto_region 6 with fail
      generalize hw2 : World.alloc (World.alloc (World.alloc (World.alloc _ _) _) _) _ = w2 at *
      clear hw2
      obtain ⟨⟨q0, q1, q2, q3, q4, q5, q6⟩, ⟨s0, s1, s2⟩, ⟨r0, r1, r2, r3, r4⟩, ⟨p0, p1, p2⟩, ⟨g0, g1, g2⟩, ⟨f0, f1, f2⟩, hB⟩ := HX.out
      have Z := ahide (show (w2.cell? ⟨w.heap.size, 4, none⟩ = some (.int .i64 M) ∧ w2.cell? ⟨w.heap.size + 1 + 1, 0, none⟩ = some (.int .i64 k)) ∧ (w2.cell? ⟨w.heap.size + 1, 0, none⟩ = some (.int .i64 A) ∧ w2.cell? ⟨w.heap.size + 1, 1, none⟩ = some (.int .i64 D) ∧ w2.cell? ⟨w.heap.size + 1, 2, none⟩ = some (.int .i64 3)) ∧ Below w.heap.size w w2 from ⟨⟨q4, r0⟩, ⟨s0, s1, s2⟩, hB⟩)
      clear hB q0 q1 q2 q3 q4 q5 q6 s0 s1 s2 r0 r1 r2 r3 r4 g0 g1 g2
      go_region_held3 (fun u => (u.cell? ⟨w.heap.size, 4, none⟩ = some (.int .i64 M) ∧ u.cell? ⟨w.heap.size + 1 + 1, 0, none⟩ = some (.int .i64 k)) ∧ (u.cell? ⟨w.heap.size + 1, 0, none⟩ = some (.int .i64 A) ∧ u.cell? ⟨w.heap.size + 1, 1, none⟩ = some (.int .i64 D) ∧ u.cell? ⟨w.heap.size + 1, 2, none⟩ = some (.int .i64 3)) ∧ Below w.heap.size w u)
        (first
          | (with_reducible assumption)
          | (with_reducible apply keepS2; with_reducible assumption; with_reducible assumption)
          | ((repeat (with_reducible first | exact Z.out | assumption | refine keepS2 (Below.refl _ _).drew ?_ | refine keepS2s ?_)); done))
        (fail)
      all_goals
        rename_i hH
        have HB := ahide hH.2.2
        clear hH
        go_wp2_with fail
        refine bodyPost_ret (v := .tuple #[.int .i64 0, .agg #[.int .i64 A, .int .i64 D, .int .i64 3]]) ?_ rfl ⟨rfl, HB.out⟩
        simp [results, Try.results16, go_sem, p0, p1, p2]

end Go.Proofs.Ytheihcpacpoliaa
