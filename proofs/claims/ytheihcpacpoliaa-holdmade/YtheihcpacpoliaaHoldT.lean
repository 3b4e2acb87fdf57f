/-
  Contracts of hold.Want, hold.Told and fulmarref.Told.
-/
import Derived.Test.YtheihcpacpoliaaHoldX
namespace Go.Proofs.Ytheihcpacpoliaa
open Go.RowKit Plain

theorem clipMove_ex (L H U B M : Int) (a z : Option Addr) (al zl ca cz : Nat) (x : Int) (m0 : 1 ≤ M) (m1 : M ≤ 4000) (w : World) :
    Calls Try.prog 58 #[.agg #[.int .i64 L, .int .i64 H, .int .i64 U, .int .i64 B, .int .i64 M, .slice a al ca, .slice z zl cz], .int .i64 x] w fun e w' => e = .returned (.int .i64 (clipI x (-M) M)) ∧ w' = w.alloc (.cells #[.int .i64 L, .int .i64 H, .int .i64 U, .int .i64 B, .int .i64 M, .slice a al ca, .slice z zl cz] 45) := by
  have c1 := fixClip_any x (-M) M
  generalize clipI x (-M) M = m at *
  go_enter Try.func58, Try.ntmps58
  go_wp2_with (go_at_call 75; refine (c1 _).mono ?_; rintro e w' ⟨rfl, hq⟩; have hq := hq.symm; subst hq)
  go_ret
  exact ⟨rfl, rfl⟩
set_option maxHeartbeats 1000000 in
theorem holdPull_ex (aim p g : Int) (a0 : -100000 ≤ aim) (a1 : aim ≤ 100000) (w : World) :
    Calls Try.prog 59 #[.int .i64 aim, .int .i64 p, .int .i64 g] w fun e w' => e = .returned (.int .i64 (pullI g aim p)) ∧ w' = w.drew := by
  have c1 := fixClip_any p (-2000000) 2000000
  have b1 := clipI_bd p (lo := -2000000) (hi := 2000000) (by omega)
  have c2 := fixClip_any (aim - clipI p (-2000000) 2000000) (-1000000) 1000000
  have c3 := fixMul_any g (clipI (aim - clipI p (-2000000) 2000000) (-1000000) 1000000)
  obtain ⟨b2, b3⟩ := b1
  unfold pullI
  generalize mulI g (clipI (aim - clipI p (-2000000) 2000000) (-1000000) 1000000) = m at *
  generalize clipI (aim - clipI p (-2000000) 2000000) (-1000000) 1000000 = y at *
  generalize clipI p (-2000000) 2000000 = x at *
  go_enter Try.func59, Try.ntmps59
  go_wp2_with (first
    | (go_at_call_of 75 (Value.int .i64 p); refine (c1 _).mono ?_; rintro e w' ⟨rfl, hq⟩; have hq := hq.symm; subst hq)
    | (go_at_call_of 75 (Value.int .i64 (aim - x)); refine (c2 _).mono ?_; rintro e w' ⟨rfl, hq⟩; have hq := hq.symm; subst hq)
    | (go_at_call 76; refine (c3 _).mono ?_; rintro e w' ⟨rfl, hq⟩; have hq := hq.symm; subst hq))
  go_ret
  exact ⟨rfl, rfl⟩
set_option maxHeartbeats 1000000 in
theorem refPull_ex (g aim k p v n q : Int) (a0 : -100000 ≤ aim) (a1 : aim ≤ 100000) (w : World) :
    Calls Try.prog 30 #[.int .i64 g, .int .i64 aim, .agg #[.int .i64 k, .int .i64 p, .int .i64 v, .int .i64 n, .int .i64 q]] w fun e w' => e = .returned (.int .i64 (pullI g aim p)) ∧ w' = w.alloc (.cells #[.int .i64 k, .int .i64 p, .int .i64 v, .int .i64 n, .int .i64 q] 61) := by
  have c1 := refClip_any p (-2000000) 2000000 (by omega)
  have b1 := clipI_bd p (lo := -2000000) (hi := 2000000) (by omega)
  have c2 := refClip_any (aim - clipI p (-2000000) 2000000) (-1000000) 1000000 (by omega)
  have c3 := refMul_any g (clipI (aim - clipI p (-2000000) 2000000) (-1000000) 1000000)
  obtain ⟨b2, b3⟩ := b1
  unfold pullI
  generalize mulI g (clipI (aim - clipI p (-2000000) 2000000) (-1000000) 1000000) = m at *
  generalize clipI (aim - clipI p (-2000000) 2000000) (-1000000) 1000000 = y at *
  generalize clipI p (-2000000) 2000000 = x at *
  go_enter Try.func30, Try.ntmps30
  go_wp2_with (first
    | (go_at_call_of 29 (Value.int .i64 p); refine (c1 _).mono ?_; rintro e w' ⟨rfl, hq⟩; have hq := hq.symm; subst hq)
    | (go_at_call_of 29 (Value.int .i64 (aim - x)); refine (c2 _).mono ?_; rintro e w' ⟨rfl, hq⟩; have hq := hq.symm; subst hq)
    | (go_at_call 50; refine (c3 _).mono ?_; rintro e w' ⟨rfl, hq⟩; have hq := hq.symm; subst hq))
  go_ret
  exact ⟨rfl, rfl⟩

theorem keepSH {w u u' : World} {B M A k p v n q : Int} (hb : Below u.heap.size u u') (h : (u.cell? ⟨w.heap.size, 3, none⟩ = some (.int .i64 B) ∧ u.cell? ⟨w.heap.size, 4, none⟩ = some (.int .i64 M) ∧ u.cell? ⟨w.heap.size + 1, 0, none⟩ = some (.int .i64 A)) ∧ (u.cell? ⟨w.heap.size + 1 + 1, 0, none⟩ = some (.int .i64 k) ∧ u.cell? ⟨w.heap.size + 1 + 1, 1, none⟩ = some (.int .i64 p) ∧ u.cell? ⟨w.heap.size + 1 + 1, 2, none⟩ = some (.int .i64 v) ∧ u.cell? ⟨w.heap.size + 1 + 1, 3, none⟩ = some (.int .i64 n) ∧ u.cell? ⟨w.heap.size + 1 + 1, 4, none⟩ = some (.int .i64 q)) ∧ Below w.heap.size w u) : (u'.cell? ⟨w.heap.size, 3, none⟩ = some (.int .i64 B) ∧ u'.cell? ⟨w.heap.size, 4, none⟩ = some (.int .i64 M) ∧ u'.cell? ⟨w.heap.size + 1, 0, none⟩ = some (.int .i64 A)) ∧ (u'.cell? ⟨w.heap.size + 1 + 1, 0, none⟩ = some (.int .i64 k) ∧ u'.cell? ⟨w.heap.size + 1 + 1, 1, none⟩ = some (.int .i64 p) ∧ u'.cell? ⟨w.heap.size + 1 + 1, 2, none⟩ = some (.int .i64 v) ∧ u'.cell? ⟨w.heap.size + 1 + 1, 3, none⟩ = some (.int .i64 n) ∧ u'.cell? ⟨w.heap.size + 1 + 1, 4, none⟩ = some (.int .i64 q)) ∧ Below w.heap.size w u' :=
  ⟨⟨hcell_later hb h.1.1, hcell_later hb h.1.2.1, hcell_later hb h.1.2.2⟩, ⟨hcell_later hb h.2.1.1, hcell_later hb h.2.1.2.1, hcell_later hb h.2.1.2.2.1, hcell_later hb h.2.1.2.2.2.1, hcell_later hb h.2.1.2.2.2.2⟩, abelow_up h.2.2 hb⟩
theorem keepSHs {w u : World} {B M A k p v n q : Int} {x : Value} (h : (u.cell? ⟨w.heap.size, 3, none⟩ = some (.int .i64 B) ∧ u.cell? ⟨w.heap.size, 4, none⟩ = some (.int .i64 M) ∧ u.cell? ⟨w.heap.size + 1, 0, none⟩ = some (.int .i64 A)) ∧ (u.cell? ⟨w.heap.size + 1 + 1, 0, none⟩ = some (.int .i64 k) ∧ u.cell? ⟨w.heap.size + 1 + 1, 1, none⟩ = some (.int .i64 p) ∧ u.cell? ⟨w.heap.size + 1 + 1, 2, none⟩ = some (.int .i64 v) ∧ u.cell? ⟨w.heap.size + 1 + 1, 3, none⟩ = some (.int .i64 n) ∧ u.cell? ⟨w.heap.size + 1 + 1, 4, none⟩ = some (.int .i64 q)) ∧ Below w.heap.size w u) : ((u.setCell ⟨w.heap.size + 1, 1, none⟩ x).cell? ⟨w.heap.size, 3, none⟩ = some (.int .i64 B) ∧ (u.setCell ⟨w.heap.size + 1, 1, none⟩ x).cell? ⟨w.heap.size, 4, none⟩ = some (.int .i64 M) ∧ (u.setCell ⟨w.heap.size + 1, 1, none⟩ x).cell? ⟨w.heap.size + 1, 0, none⟩ = some (.int .i64 A)) ∧ ((u.setCell ⟨w.heap.size + 1, 1, none⟩ x).cell? ⟨w.heap.size + 1 + 1, 0, none⟩ = some (.int .i64 k) ∧ (u.setCell ⟨w.heap.size + 1, 1, none⟩ x).cell? ⟨w.heap.size + 1 + 1, 1, none⟩ = some (.int .i64 p) ∧ (u.setCell ⟨w.heap.size + 1, 1, none⟩ x).cell? ⟨w.heap.size + 1 + 1, 2, none⟩ = some (.int .i64 v) ∧ (u.setCell ⟨w.heap.size + 1, 1, none⟩ x).cell? ⟨w.heap.size + 1 + 1, 3, none⟩ = some (.int .i64 n) ∧ (u.setCell ⟨w.heap.size + 1, 1, none⟩ x).cell? ⟨w.heap.size + 1 + 1, 4, none⟩ = some (.int .i64 q)) ∧ Below w.heap.size w (u.setCell ⟨w.heap.size + 1, 1, none⟩ x) := by
  have n0 : w.heap.size + 1 ≠ w.heap.size := by omega
  have n2 : w.heap.size + 1 ≠ w.heap.size + 1 + 1 := by omega
  exact ⟨⟨hset_far n0 h.1.1, hset_far n0 h.1.2.1, hset_off (by decide) h.1.2.2⟩, ⟨hset_far n2 h.2.1.1, hset_far n2 h.2.1.2.1, hset_far n2 h.2.1.2.2.1, hset_far n2 h.2.1.2.2.2.1, hset_far n2 h.2.1.2.2.2.2⟩, h.2.2.setCell (by simp) _⟩
theorem keepSG {w u u' : World} {L H U B M : Int} {a z : Option Addr} {la lz ca cz : Nat} {A p : Int} (hb : Below u.heap.size u u') (h : (u.cell? ⟨w.heap.size, 0, none⟩ = some (.int .i64 L) ∧ u.cell? ⟨w.heap.size, 1, none⟩ = some (.int .i64 H) ∧ u.cell? ⟨w.heap.size, 2, none⟩ = some (.int .i64 U) ∧ u.cell? ⟨w.heap.size, 3, none⟩ = some (.int .i64 B) ∧ u.cell? ⟨w.heap.size, 4, none⟩ = some (.int .i64 M) ∧ u.cell? ⟨w.heap.size, 5, none⟩ = some (.slice a la ca) ∧ u.cell? ⟨w.heap.size, 6, none⟩ = some (.slice z lz cz)) ∧ (u.cell? ⟨w.heap.size + 1, 0, none⟩ = some (.int .i64 A) ∧ u.cell? ⟨w.heap.size + 1 + 1, 1, none⟩ = some (.int .i64 p)) ∧ Below w.heap.size w u) : (u'.cell? ⟨w.heap.size, 0, none⟩ = some (.int .i64 L) ∧ u'.cell? ⟨w.heap.size, 1, none⟩ = some (.int .i64 H) ∧ u'.cell? ⟨w.heap.size, 2, none⟩ = some (.int .i64 U) ∧ u'.cell? ⟨w.heap.size, 3, none⟩ = some (.int .i64 B) ∧ u'.cell? ⟨w.heap.size, 4, none⟩ = some (.int .i64 M) ∧ u'.cell? ⟨w.heap.size, 5, none⟩ = some (.slice a la ca) ∧ u'.cell? ⟨w.heap.size, 6, none⟩ = some (.slice z lz cz)) ∧ (u'.cell? ⟨w.heap.size + 1, 0, none⟩ = some (.int .i64 A) ∧ u'.cell? ⟨w.heap.size + 1 + 1, 1, none⟩ = some (.int .i64 p)) ∧ Below w.heap.size w u' :=
  ⟨⟨hcell_later hb h.1.1, hcell_later hb h.1.2.1, hcell_later hb h.1.2.2.1, hcell_later hb h.1.2.2.2.1, hcell_later hb h.1.2.2.2.2.1, hcell_later hb h.1.2.2.2.2.2.1, hcell_later hb h.1.2.2.2.2.2.2⟩, ⟨hcell_later hb h.2.1.1, hcell_later hb h.2.1.2⟩, abelow_up h.2.2 hb⟩
theorem keepSGs {w u : World} {L H U B M : Int} {a z : Option Addr} {la lz ca cz : Nat} {A p : Int} {x : Value} (h : (u.cell? ⟨w.heap.size, 0, none⟩ = some (.int .i64 L) ∧ u.cell? ⟨w.heap.size, 1, none⟩ = some (.int .i64 H) ∧ u.cell? ⟨w.heap.size, 2, none⟩ = some (.int .i64 U) ∧ u.cell? ⟨w.heap.size, 3, none⟩ = some (.int .i64 B) ∧ u.cell? ⟨w.heap.size, 4, none⟩ = some (.int .i64 M) ∧ u.cell? ⟨w.heap.size, 5, none⟩ = some (.slice a la ca) ∧ u.cell? ⟨w.heap.size, 6, none⟩ = some (.slice z lz cz)) ∧ (u.cell? ⟨w.heap.size + 1, 0, none⟩ = some (.int .i64 A) ∧ u.cell? ⟨w.heap.size + 1 + 1, 1, none⟩ = some (.int .i64 p)) ∧ Below w.heap.size w u) : ((u.setCell ⟨w.heap.size + 1, 1, none⟩ x).cell? ⟨w.heap.size, 0, none⟩ = some (.int .i64 L) ∧ (u.setCell ⟨w.heap.size + 1, 1, none⟩ x).cell? ⟨w.heap.size, 1, none⟩ = some (.int .i64 H) ∧ (u.setCell ⟨w.heap.size + 1, 1, none⟩ x).cell? ⟨w.heap.size, 2, none⟩ = some (.int .i64 U) ∧ (u.setCell ⟨w.heap.size + 1, 1, none⟩ x).cell? ⟨w.heap.size, 3, none⟩ = some (.int .i64 B) ∧ (u.setCell ⟨w.heap.size + 1, 1, none⟩ x).cell? ⟨w.heap.size, 4, none⟩ = some (.int .i64 M) ∧ (u.setCell ⟨w.heap.size + 1, 1, none⟩ x).cell? ⟨w.heap.size, 5, none⟩ = some (.slice a la ca) ∧ (u.setCell ⟨w.heap.size + 1, 1, none⟩ x).cell? ⟨w.heap.size, 6, none⟩ = some (.slice z lz cz)) ∧ ((u.setCell ⟨w.heap.size + 1, 1, none⟩ x).cell? ⟨w.heap.size + 1, 0, none⟩ = some (.int .i64 A) ∧ (u.setCell ⟨w.heap.size + 1, 1, none⟩ x).cell? ⟨w.heap.size + 1 + 1, 1, none⟩ = some (.int .i64 p)) ∧ Below w.heap.size w (u.setCell ⟨w.heap.size + 1, 1, none⟩ x) := by
  have n0 : w.heap.size + 1 ≠ w.heap.size := by omega
  have n2 : w.heap.size + 1 ≠ w.heap.size + 1 + 1 := by omega
  exact ⟨⟨hset_far n0 h.1.1, hset_far n0 h.1.2.1, hset_far n0 h.1.2.2.1, hset_far n0 h.1.2.2.2.1, hset_far n0 h.1.2.2.2.2.1, hset_far n0 h.1.2.2.2.2.2.1, hset_far n0 h.1.2.2.2.2.2.2⟩, ⟨hset_off (by decide) h.2.1.1, hset_far n2 h.2.1.2⟩, h.2.2.setCell (by simp) _⟩

set_option maxRecDepth 100000 in
set_option maxHeartbeats 4000000 in
theorem refTold_any (L H U B M : Int) (a z : Option Addr) (la lz ca cz : Nat) (A D W k p v n q want got : Int) (a0 : -100000 ≤ A) (a1 : A ≤ 100000) (m0 : 1 ≤ M) (m1 : M ≤ 4000) (d0 : -M ≤ D) (d1 : D ≤ M) (w : World) :
    Calls Try.prog 33 #[.agg #[.int .i64 L, .int .i64 H, .int .i64 U, .int .i64 B, .int .i64 M, .slice a la ca, .slice z lz cz], .agg #[.int .i64 A, .int .i64 D, .int .i64 W], .agg #[.int .i64 k, .int .i64 p, .int .i64 v, .int .i64 n, .int .i64 q], .int .i64 want, .int .i64 got] w fun e w' => e = .returned (.agg #[.int .i64 A, .int .i64 (toD B M A D p n want got), .int .i64 W]) ∧ Below w.heap.size w w' := by
  have HX := ahide (HW.new w L H U B M a z la lz ca cz A D W k p v n q)
  unfold toD
  by_cases hg : want = got
  · by_cases hn : n = 0
    · rw [if_pos ⟨hn, hg.symm⟩]
      have hg' : (want == got) = true := by simpa using hg
      have hn' : (n == 0) = true := by simpa using hn
      clear hg hn
      have hpl := refPull_ex B A k p v n q a0 a1
      have ppb := pullI_bd B A p
      generalize pullI B A p = pp at *
      obtain ⟨pp0, pp1⟩ := ppb
      have hm2 := refClip_any (D + pp) (-M) M (by omega)
      generalize clipI (D + pp) (-M) M = y at *
      have v2 : IntKind.i64.wrap (D + pp) = D + pp := hwrap_id (by omega) (by omega)
      have v3 : IntKind.i64.wrap (-M) = -M := hwrap_id (by omega) (by omega)
      go_enter Try.func33, Try.ntmps33
      go_upto_region 2 with fail
      generalize hw2 : World.alloc (World.alloc (World.alloc (World.alloc _ _) _) _) _ = w2 at *
      clear hw2
      obtain ⟨⟨q0, q1, q2, q3, q4, q5, q6⟩, ⟨s0, s1, s2⟩, ⟨r0, r1, r2, r3, r4⟩, ⟨p0, p1, p2⟩, ⟨g0, g1, g2⟩, ⟨f0, f1, f2⟩, hB⟩ := HX.out
      have Z := ahide (show (w2.cell? ⟨w.heap.size, 3, none⟩ = some (.int .i64 B) ∧ w2.cell? ⟨w.heap.size, 4, none⟩ = some (.int .i64 M) ∧ w2.cell? ⟨w.heap.size + 1, 0, none⟩ = some (.int .i64 A)) ∧ (w2.cell? ⟨w.heap.size + 1 + 1, 0, none⟩ = some (.int .i64 k) ∧ w2.cell? ⟨w.heap.size + 1 + 1, 1, none⟩ = some (.int .i64 p) ∧ w2.cell? ⟨w.heap.size + 1 + 1, 2, none⟩ = some (.int .i64 v) ∧ w2.cell? ⟨w.heap.size + 1 + 1, 3, none⟩ = some (.int .i64 n) ∧ w2.cell? ⟨w.heap.size + 1 + 1, 4, none⟩ = some (.int .i64 q)) ∧ Below w.heap.size w w2 from ⟨⟨q3, q4, s0⟩, ⟨r0, r1, r2, r3, r4⟩, hB⟩)
      have x1 := hcell_later (abelow_alloc w2 (.cells #[.int .i64 k, .int .i64 p, .int .i64 v, .int .i64 n, .int .i64 q] 61)) s1
      have x2 := hfr_later (abelow_alloc w2 (.cells #[.int .i64 k, .int .i64 p, .int .i64 v, .int .i64 n, .int .i64 q] 61)) s1 g1
      clear hB
      apply htwice
      · intro hk
        refine wp_region_held_drew (S := fun u => (u.cell? ⟨w.heap.size, 3, none⟩ = some (.int .i64 B) ∧ u.cell? ⟨w.heap.size, 4, none⟩ = some (.int .i64 M) ∧ u.cell? ⟨w.heap.size + 1, 0, none⟩ = some (.int .i64 A)) ∧ (u.cell? ⟨w.heap.size + 1 + 1, 0, none⟩ = some (.int .i64 k) ∧ u.cell? ⟨w.heap.size + 1 + 1, 1, none⟩ = some (.int .i64 p) ∧ u.cell? ⟨w.heap.size + 1 + 1, 2, none⟩ = some (.int .i64 v) ∧ u.cell? ⟨w.heap.size + 1 + 1, 3, none⟩ = some (.int .i64 n) ∧ u.cell? ⟨w.heap.size + 1 + 1, 4, none⟩ = some (.int .i64 q)) ∧ Below w.heap.size w u) (by kernel_rfl) (by first | exact keepSH (Below.refl _ _).drew Z.out | (repeat (with_reducible first | exact Z.out | refine keepSH (Below.refl _ _).drew ?_ | refine keepSH (abelow_alloc _ _) ?_ | refine keepSHs ?_))) (fun hHeld => ?_)
        refine wpAnyH_take (i := 0) (v := ?v1) rfl (by kernel_rfl) (by kernel_rfl) (by kernel_rfl) (fun _ _ _ h => h) (Or.inl ⟨by rfl, ?hy1⟩) (by assumption) ?rest1
        case hy1 => (intro w hSw; (try dsimp only at hSw); go_simp; (try with_reducible rfl))
        (try simp only [Act.put])
        refine wpAnyH_take (i := 2) (v := ?v2) rfl (by kernel_rfl) (by kernel_rfl) (by kernel_rfl) (fun _ _ _ h => h) (Or.inl ⟨by rfl, ?hy2⟩) (by assumption) ?rest2
        case hy2 => (intro w hSw; (try dsimp only at hSw); go_simp; (try with_reducible rfl))
        (try simp only [Act.put])
        refine wpAnyH_take (i := 3) (v := ?v3) rfl (by kernel_rfl) (by kernel_rfl) (by kernel_rfl) (fun _ _ _ h => h) (Or.inl ⟨by rfl, ?hy3⟩) (by assumption) ?rest3
        case hy3 => (intro w hSw; (try dsimp only at hSw); go_simp; (try with_reducible rfl))
        (try simp only [Act.put])
        refine wpAnyH_take (i := 4) (v := ?v4) rfl (by kernel_rfl) (by kernel_rfl) (by kernel_rfl) (fun _ _ _ h => h) (Or.inl ⟨by rfl, ?hy4⟩) (by assumption) ?rest4
        case hy4 => (intro w hSw; (try dsimp only at hSw); go_simp; (try with_reducible rfl))
        (try simp only [Act.put])
        refine wpAnyH_take (i := 5) (v := ?v5) rfl (by kernel_rfl) (by kernel_rfl) (by kernel_rfl) (fun _ _ _ h => h) (Or.inl ⟨by rfl, ?hy5⟩) (by assumption) ?rest5
        case hy5 => (intro w hSw; (try dsimp only at hSw); go_simp; (try with_reducible rfl))
        (try simp only [Act.put])
        refine wpAnyH_take (i := 6) (v := ?v6) rfl (by kernel_rfl) (by kernel_rfl) (by kernel_rfl) (fun _ _ _ h => h) (Or.inl ⟨by rfl, ?hy6⟩) (by assumption) ?rest6
        case hy6 => (intro w hSw; (try dsimp only at hSw); go_simp; (try with_reducible rfl))
        (try simp only [Act.put])
        refine wpAnyH_take (i := 9) (v := ?v7) rfl (by kernel_rfl) (by kernel_rfl) (by kernel_rfl) (fun _ _ _ h => h) (Or.inl ⟨by rfl, ?hy7⟩) (by assumption) ?rest7
        case hy7 => (intro w hSw; (try dsimp only at hSw); go_simp; (try with_reducible rfl))
        (try simp only [Act.put])
        refine wpAnyH_take (i := 10) (v := ?v8) rfl (by kernel_rfl) (by kernel_rfl) (by kernel_rfl) (fun _ _ _ h => h) (Or.inl ⟨by rfl, ?hy8⟩) (by assumption) ?rest8
        case hy8 => (intro w hSw; (try dsimp only at hSw); go_simp; (try with_reducible rfl))
        (try simp only [Act.put])
        refine wpAnyH_take (i := 11) (v := ?v9) rfl (by kernel_rfl) (by kernel_rfl) (by kernel_rfl) (fun _ _ _ h => h) (Or.inl ⟨by rfl, ?hy9⟩) (by assumption) ?rest9
        case hy9 => (intro w hSw; (try dsimp only at hSw); go_simp; (try with_reducible rfl))
        (try simp only [Act.put])
        refine wpAnyH_take (i := 12) (v := ?v10) rfl (by kernel_rfl) (by kernel_rfl) (by kernel_rfl) (fun _ _ _ h => h) (Or.inl ⟨by rfl, ?hy10⟩) (by assumption) ?rest10
        case hy10 => (intro w hSw; (try dsimp only at hSw); go_simp; (try with_reducible rfl))
        (try simp only [Act.put])
        refine wpAnyH_take (i := 13) (v := ?v11) rfl (by kernel_rfl) (by kernel_rfl) (by kernel_rfl) (fun _ _ _ h => h) (Or.inl ⟨by rfl, ?hy11⟩) (by assumption) ?rest11
        case hy11 => (intro w hSw; (try dsimp only at hSw); go_simp; (try with_reducible rfl))
        (try simp only [Act.put])
        refine wpAnyH_ready (rs := [1, 7]) (by kernel_rfl) (by simp) ?_
        refine AllReadyH.cons rfl (fun K hK => ?_) (AllReadyH.cons rfl (fun K hK => ?_) AllReadyH.nil)
        · go_simp
          refine hK.out _ _ (by first | exact keepSH (Below.refl _ _).drew Z.out | (repeat (with_reducible first | exact Z.out | refine keepSH (Below.refl _ _).drew ?_ | refine keepSH (abelow_alloc _ _) ?_ | refine keepSHs ?_))) (fun hHeld => ?_)
          clear hK K
          (try simp only [Act.put])
          refine wpAnyH_ready (rs := [7]) (by kernel_rfl) (by simp) ?_
          refine AllReadyH.cons rfl (fun K hK => ?_) AllReadyH.nil
          go_simp
          refine (hpl _).mono ?_
          rintro e w' ⟨rfl, hq⟩
          have hq := hq.symm
          subst hq
          go_wp2_with fail
          refine hK.out _ _ (by first | exact keepSH (Below.refl _ _).drew Z.out | (repeat (with_reducible first | exact Z.out | refine keepSH (Below.refl _ _).drew ?_ | refine keepSH (abelow_alloc _ _) ?_ | refine keepSHs ?_))) (fun hHeld => ?_)
          clear hK K
          (try simp only [Act.put])
          refine wpAnyH_take (i := 8) (v := ?v12) rfl (by kernel_rfl) (by kernel_rfl) (by kernel_rfl) (fun _ _ _ h => h) (Or.inl ⟨by rfl, ?hy12⟩) (by assumption) ?rest12
          case hy12 => (intro w hSw; (try dsimp only at hSw); go_simp; (try with_reducible rfl))
          (try simp only [Act.put])
          refine wpAnyH_ready (rs := [14]) (by kernel_rfl) (by simp) ?_
          refine AllReadyH.cons rfl (fun K hK => ?_) AllReadyH.nil
          go_simp
          refine (hm2 _).mono ?_
          rintro e w' ⟨rfl, hq⟩
          have hq := hq.symm
          subst hq
          go_wp2_with fail
          refine hK.out _ _ (by first | exact keepSH (Below.refl _ _).drew Z.out | (repeat (with_reducible first | exact Z.out | refine keepSH (Below.refl _ _).drew ?_ | refine keepSH (abelow_alloc _ _) ?_ | refine keepSHs ?_))) (fun hHeld => ?_)
          clear hK K
          (try simp only [Act.put])
          refine wpAnyH_take (i := 15) (v := ?v13) rfl (by kernel_rfl) (by kernel_rfl) (by kernel_rfl) (fun _ _ _ h => h) (Or.inl ⟨by rfl, ?hy13⟩) (by assumption) ?rest13
          case hy13 => (intro w hSw; (try dsimp only at hSw); go_simp; (try with_reducible rfl))
          (try simp only [Act.put])
          refine wpAnyH_ready (rs := [16]) (by kernel_rfl) (by simp) ?_
          refine AllReadyH.cons rfl (fun K hK => ?_) AllReadyH.nil
          go_simp
          refine hK.out _ _ (by first | exact keepSH (Below.refl _ _).drew Z.out | (repeat (with_reducible first | exact Z.out | refine keepSH (Below.refl _ _).drew ?_ | refine keepSH (abelow_alloc _ _) ?_ | refine keepSHs ?_))) (fun hHeld => ?_)
          clear hK K
          (try simp only [Act.put])
          refine wpAnyH_done (by kernel_rfl) ?_ _
          exact hk
        · go_simp
          refine (hpl _).mono ?_
          rintro e w' ⟨rfl, hq⟩
          have hq := hq.symm
          subst hq
          go_wp2_with fail
          refine hK.out _ _ (by first | exact keepSH (Below.refl _ _).drew Z.out | (repeat (with_reducible first | exact Z.out | refine keepSH (Below.refl _ _).drew ?_ | refine keepSH (abelow_alloc _ _) ?_ | refine keepSHs ?_))) (fun hHeld => ?_)
          clear hK K
          (try simp only [Act.put])
          refine wpAnyH_ready (rs := [1]) (by kernel_rfl) (by simp) ?_
          refine AllReadyH.cons rfl (fun K hK => ?_) AllReadyH.nil
          go_simp
          refine hK.out _ _ (by first | exact keepSH (Below.refl _ _).drew Z.out | (repeat (with_reducible first | exact Z.out | refine keepSH (Below.refl _ _).drew ?_ | refine keepSH (abelow_alloc _ _) ?_ | refine keepSHs ?_))) (fun hHeld => ?_)
          clear hK K
          (try simp only [Act.put])
          refine wpAnyH_take (i := 8) (v := ?v14) rfl (by kernel_rfl) (by kernel_rfl) (by kernel_rfl) (fun _ _ _ h => h) (Or.inl ⟨by rfl, ?hy14⟩) (by assumption) ?rest14
          case hy14 => (intro w hSw; (try dsimp only at hSw); go_simp; (try with_reducible rfl))
          (try simp only [Act.put])
          refine wpAnyH_ready (rs := [14]) (by kernel_rfl) (by simp) ?_
          refine AllReadyH.cons rfl (fun K hK => ?_) AllReadyH.nil
          go_simp
          refine (hm2 _).mono ?_
          rintro e w' ⟨rfl, hq⟩
          have hq := hq.symm
          subst hq
          go_wp2_with fail
          refine hK.out _ _ (by first | exact keepSH (Below.refl _ _).drew Z.out | (repeat (with_reducible first | exact Z.out | refine keepSH (Below.refl _ _).drew ?_ | refine keepSH (abelow_alloc _ _) ?_ | refine keepSHs ?_))) (fun hHeld => ?_)
          clear hK K
          (try simp only [Act.put])
          refine wpAnyH_take (i := 15) (v := ?v15) rfl (by kernel_rfl) (by kernel_rfl) (by kernel_rfl) (fun _ _ _ h => h) (Or.inl ⟨by rfl, ?hy15⟩) (by assumption) ?rest15
          case hy15 => (intro w hSw; (try dsimp only at hSw); go_simp; (try with_reducible rfl))
          (try simp only [Act.put])
          refine wpAnyH_ready (rs := [16]) (by kernel_rfl) (by simp) ?_
          refine AllReadyH.cons rfl (fun K hK => ?_) AllReadyH.nil
          go_simp
          refine hK.out _ _ (by first | exact keepSH (Below.refl _ _).drew Z.out | (repeat (with_reducible first | exact Z.out | refine keepSH (Below.refl _ _).drew ?_ | refine keepSH (abelow_alloc _ _) ?_ | refine keepSHs ?_))) (fun hHeld => ?_)
          clear hK K
          (try simp only [Act.put])
          refine wpAnyH_done (by kernel_rfl) ?_ _
          exact hk
      have HX3 := ahide (((HX.out.later (abelow_alloc _ (.cells #[.int .i64 k, .int .i64 p, .int .i64 v, .int .i64 n, .int .i64 q] 61))).setD y).later (Below.refl _ _).drew)
      generalize hw3 : World.drew (World.setCell _ _ (.int .i64 y)) = w3 at *
      clear hw3 HX Z q0 q1 q2 q3 q4 q5 q6 s0 s1 s2 r0 r1 r2 r3 r4 p0 p1 p2 g0 g1 g2 f0 f1 f2 x1 x2
      obtain ⟨⟨q0, q1, q2, q3, q4, q5, q6⟩, ⟨s0, s1, s2⟩, ⟨r0, r1, r2, r3, r4⟩, ⟨p0, p1, p2⟩, ⟨g0, g1, g2⟩, ⟨f0, f1, f2⟩, hB⟩ := HX3.out
      go_wp2_with fail
      refine bodyPost_ret (v := .agg #[.int .i64 A, .int .i64 y, .int .i64 W]) ?_ rfl ⟨rfl, ((hB.setCell (by simp; omega) _).setCell (by simp; omega) _).setCell (by simp; omega) _⟩
      simp [results, Try.results33, go_sem, p0, p1, p2]
    · rw [if_neg (fun h => hn h.1)]
      have hg' : (want == got) = true := by simpa using hg
      have hn' : (n == 0) = false := by simpa using hn
      clear hg hn
      go_enter Try.func33, Try.ntmps33
      go_wp2_with fail
      exact bodyPost_ret (v := .agg #[.int .i64 A, .int .i64 D, .int .i64 W]) (by simp [results, Try.results33, go_sem]) rfl ⟨rfl, by repeat (first | exact abelow_alloc _ _ | refine abelow_up ?_ (abelow_alloc _ _))⟩
  · rw [if_neg (fun h => hg h.2.symm)]
    have hg' : (want == got) = false := by simpa using hg
    clear hg
    go_enter Try.func33, Try.ntmps33
    go_wp2_with fail
    exact bodyPost_ret (v := .agg #[.int .i64 A, .int .i64 D, .int .i64 W]) (by simp [results, Try.results33, go_sem]) rfl ⟨rfl, by repeat (first | exact abelow_alloc _ _ | refine abelow_up ?_ (abelow_alloc _ _))⟩

end Go.Proofs.Ytheihcpacpoliaa
