/-
  Contracts of fulmarref.Bounds and guard.Clamp.
-/
import Derived.Test.YtbgabomjiibphabGuardG
namespace Go.Proofs.Ytbgabomjiibphab
open Go.RowKit Go.Sort Plain

theorem keepGBs {w u : World} {j : Nat} {v : Value} {L H N P M R : Int} (h : (u.cell? ⟨w.heap.size, 0, none⟩ = some (.int .i64 L) ∧ u.cell? ⟨w.heap.size, 1, none⟩ = some (.int .i64 H) ∧ u.cell? ⟨w.heap.size, 2, none⟩ = some (.int .i64 N) ∧ u.cell? ⟨w.heap.size, 3, none⟩ = some (.int .i64 P) ∧ u.cell? ⟨w.heap.size, 4, none⟩ = some (.int .i64 M) ∧ u.cell? ⟨w.heap.size, 5, none⟩ = some (.int .i64 R)) ∧ Below w.heap.size w u) : ((u.setCell ⟨w.heap.size + 1, j, none⟩ v).cell? ⟨w.heap.size, 0, none⟩ = some (.int .i64 L) ∧ (u.setCell ⟨w.heap.size + 1, j, none⟩ v).cell? ⟨w.heap.size, 1, none⟩ = some (.int .i64 H) ∧ (u.setCell ⟨w.heap.size + 1, j, none⟩ v).cell? ⟨w.heap.size, 2, none⟩ = some (.int .i64 N) ∧ (u.setCell ⟨w.heap.size + 1, j, none⟩ v).cell? ⟨w.heap.size, 3, none⟩ = some (.int .i64 P) ∧ (u.setCell ⟨w.heap.size + 1, j, none⟩ v).cell? ⟨w.heap.size, 4, none⟩ = some (.int .i64 M) ∧ (u.setCell ⟨w.heap.size + 1, j, none⟩ v).cell? ⟨w.heap.size, 5, none⟩ = some (.int .i64 R)) ∧ Below w.heap.size w (u.setCell ⟨w.heap.size + 1, j, none⟩ v) := by
  have hQ : w.heap.size + 1 ≠ w.heap.size := by omega
  exact ⟨⟨gset_other hQ h.1.1, gset_other hQ h.1.2.1, gset_other hQ h.1.2.2.1, gset_other hQ h.1.2.2.2.1, gset_other hQ h.1.2.2.2.2.1, gset_other hQ h.1.2.2.2.2.2⟩, h.2.setCell (by simp) _⟩

set_option maxHeartbeats 2000000 in
theorem refBounds_any (L H N P M R x q : Int) (g : GOK L H N P M R) (k0 : -M ≤ q) (k1 : q ≤ M) (w : World) :
    Calls Try.prog 36 #[.agg #[.int .i64 L, .int .i64 H, .int .i64 N, .int .i64 P, .int .i64 M, .int .i64 R], .int .i64 x, .int .i64 q] w fun e w' => (∃ a b, e = .returned (.agg #[.int .i64 (-a), .int .i64 b]) ∧ IsHi R P (-canHi M R q) (-canLo M R q) (clipI x (-2000000) 2000000 - N - L) a ∧ IsHi R P (canLo M R q) (canHi M R q) (H - N - clipI x (-2000000) 2000000) b) ∧ Below w.heap.size w w' := by
  have HX := ahide (GS.new w L H N P M R)
  obtain ⟨⟨l0, l1, h0, h1, n0, n1, p0, p1, m0, m1, r0, r1⟩, pm, pr, room⟩ := g
  have hcl := refClip_any x (-2000000) 2000000 (by omega)
  have x0 : -2000000 ≤ clipI x (-2000000) 2000000 := by unfold clipI; split <;> (try split) <;> (try split) <;> omega
  have x1 : clipI x (-2000000) 2000000 ≤ 2000000 := by unfold clipI; split <;> (try split) <;> (try split) <;> omega
  have cn := can_le r0 m0 k0 k1
  have mx : ∀ ts t w, (Builtin.max_ ts t #[.int .i64 (-M), .int .i64 (q - R)]).run Try.prog w = .ok (.int .i64 (canLo M R q)) w := fun ts t w => by rw [run_maxG]; congr 2; unfold canLo; split <;> split <;> congr 1 <;> omega
  have mn : ∀ ts t w, (Builtin.min_ ts t #[.int .i64 M, .int .i64 (q + R)]).run Try.prog w = .ok (.int .i64 (canHi M R q)) w := fun ts t w => by rw [run_minG]; congr 2; unfold canHi; split <;> split <;> congr 1 <;> omega
  generalize clipI x (-2000000) 2000000 = y at *
  generalize canLo M R q = lo at *
  generalize canHi M R q = hi at *
  obtain ⟨cn0, cn1, cn2, cn3, cn4⟩ := cn
  have v1 : IntKind.i64.wrap (q - R) = q - R := gwrap_id (by omega) (by omega)
  have v2 : IntKind.i64.wrap (q + R) = q + R := gwrap_id (by omega) (by omega)
  have v3 : IntKind.i64.wrap (-M) = -M := gwrap_id (by omega) (by omega)
  have v4 : IntKind.i64.wrap (-hi) = -hi := gwrap_id (by omega) (by omega)
  have v5 : IntKind.i64.wrap (-lo) = -lo := gwrap_id (by omega) (by omega)
  have v6 : IntKind.i64.wrap (y - N) = y - N := gwrap_id (by omega) (by omega)
  have v7 : IntKind.i64.wrap (y - N - L) = y - N - L := gwrap_id (by omega) (by omega)
  have v8 : IntKind.i64.wrap (H - N) = H - N := gwrap_id (by omega) (by omega)
  have v9 : IntKind.i64.wrap (H - N - y) = H - N - y := gwrap_id (by omega) (by omega)
  have hA := refHighest_any L H N P M R (-hi) (-lo) (y - N - L) p0 p1 r0 (by omega) (by omega) (by omega) (by omega)
  have hB := refHighest_any L H N P M R lo hi (H - N - y) p0 p1 r0 (by omega) (by omega) (by omega) (by omega)
  clear room
  go_enter Try.func36, Try.ntmps36
  go_upto_region 2 with (go_at_call 21; refine (hcl _).mono ?_; rintro e w' ⟨rfl, hq⟩; have hq := hq.symm; subst hq)
  generalize (w.alloc (.cells #[.int .i64 L, .int .i64 H, .int .i64 N, .int .i64 P, .int .i64 M, .int .i64 R] 24)).alloc (.cells #[.int .i64 0, .int .i64 0] 84) = w1 at *
  obtain ⟨⟨q0, q1, q2, q3, q4, q5⟩, _⟩ := HX.out
  have S0 : (w1.cell? ⟨w.heap.size, 0, none⟩ = some (.int .i64 L) ∧ w1.cell? ⟨w.heap.size, 1, none⟩ = some (.int .i64 H) ∧ w1.cell? ⟨w.heap.size, 2, none⟩ = some (.int .i64 N) ∧ w1.cell? ⟨w.heap.size, 3, none⟩ = some (.int .i64 P) ∧ w1.cell? ⟨w.heap.size, 4, none⟩ = some (.int .i64 M) ∧ w1.cell? ⟨w.heap.size, 5, none⟩ = some (.int .i64 R)) ∧ Below w.heap.size w w1 := ⟨HX.out.1, HX.out.2.2⟩
  have Z := ahide S0
  go_region_held3 (fun u => (u.cell? ⟨w.heap.size, 0, none⟩ = some (.int .i64 L) ∧ u.cell? ⟨w.heap.size, 1, none⟩ = some (.int .i64 H) ∧ u.cell? ⟨w.heap.size, 2, none⟩ = some (.int .i64 N) ∧ u.cell? ⟨w.heap.size, 3, none⟩ = some (.int .i64 P) ∧ u.cell? ⟨w.heap.size, 4, none⟩ = some (.int .i64 M) ∧ u.cell? ⟨w.heap.size, 5, none⟩ = some (.int .i64 R)) ∧ Below w.heap.size w u)
    (first
      | (with_reducible assumption)
      | (with_reducible apply keepGB; with_reducible assumption; with_reducible assumption)
      | (refine keepGB ?_ Z.out; exact (Below.refl _ _).drew))
    (fail)
  all_goals
    rename_i hH
    clear hH S0 Z q0 q1 q2 q3 q4 q5
    have S1 := ahide (HX.out.later (Below.refl _ _).drew)
    generalize w1.drew = w3 at *
    clear HX
    go_upto_region 3 with fail
    obtain ⟨⟨q0, q1, q2, q3, q4, q5⟩, ⟨z0, z1, f0, f1⟩, _⟩ := S1.out
    have S0 : (w3.cell? ⟨w.heap.size, 0, none⟩ = some (.int .i64 L) ∧ w3.cell? ⟨w.heap.size, 1, none⟩ = some (.int .i64 H) ∧ w3.cell? ⟨w.heap.size, 2, none⟩ = some (.int .i64 N) ∧ w3.cell? ⟨w.heap.size, 3, none⟩ = some (.int .i64 P) ∧ w3.cell? ⟨w.heap.size, 4, none⟩ = some (.int .i64 M) ∧ w3.cell? ⟨w.heap.size, 5, none⟩ = some (.int .i64 R)) ∧ Below w.heap.size w w3 := ⟨S1.out.1, S1.out.2.2⟩
    go_region_held3 (fun u => (u.cell? ⟨w.heap.size, 0, none⟩ = some (.int .i64 L) ∧ u.cell? ⟨w.heap.size, 1, none⟩ = some (.int .i64 H) ∧ u.cell? ⟨w.heap.size, 2, none⟩ = some (.int .i64 N) ∧ u.cell? ⟨w.heap.size, 3, none⟩ = some (.int .i64 P) ∧ u.cell? ⟨w.heap.size, 4, none⟩ = some (.int .i64 M) ∧ u.cell? ⟨w.heap.size, 5, none⟩ = some (.int .i64 R)) ∧ Below w.heap.size w u)
      (first
        | (with_reducible assumption)
        | (with_reducible apply keepGB; with_reducible assumption; with_reducible assumption)
        | (refine keepGBs (keepGBs ?_); with_reducible assumption)
        | (refine keepGB ?_ ⟨S1.out.1, S1.out.2.2⟩; exact (Below.refl _ _).drew))
      (first
        | (go_at_call_of 50 (Value.int .i64 (-hi)); refine (hA _).mono ?_; rintro e w' ⟨⟨a, rfl, ha⟩, hb⟩; have HHA := ahide ha; have va : IntKind.i64.wrap (-a) = -a := gwrap_id (by have := ha.2.1; omega) (by have := ha.1; omega); have ya0 : w'.cell? ⟨w.heap.size + 1, 0, none⟩ = some (.int .i64 0) := gcell_later hb (by first | with_reducible assumption | exact z0); have yaf0 : w'.frozen? ⟨w.heap.size + 1, 0, none⟩ = false := gfr_later hb (by first | with_reducible assumption | exact z0) (by first | with_reducible assumption | exact f0); have ya1 : w'.cell? ⟨w.heap.size + 1, 1, none⟩ = some (.int .i64 0) := gcell_later hb (by first | with_reducible assumption | exact z1); have yaf1 : w'.frozen? ⟨w.heap.size + 1, 1, none⟩ = false := gfr_later hb (by first | with_reducible assumption | exact z1) (by first | with_reducible assumption | exact f1); clear ha)
        | (go_at_call_of 50 (Value.int .i64 lo); refine (hB _).mono ?_; rintro e w' ⟨⟨b, rfl, hhb⟩, hb⟩; have HHB := ahide hhb; have yb0 : w'.cell? ⟨w.heap.size + 1, 0, none⟩ = some (.int .i64 0) := gcell_later hb (by first | with_reducible assumption | exact z0); have ybf0 : w'.frozen? ⟨w.heap.size + 1, 0, none⟩ = false := gfr_later hb (by first | with_reducible assumption | exact z0) (by first | with_reducible assumption | exact f0); have yb1 : w'.cell? ⟨w.heap.size + 1, 1, none⟩ = some (.int .i64 0) := gcell_later hb (by first | with_reducible assumption | exact z1); have ybf1 : w'.frozen? ⟨w.heap.size + 1, 1, none⟩ = false := gfr_later hb (by first | with_reducible assumption | exact z1) (by first | with_reducible assumption | exact f1); clear hhb))
    all_goals
      rename_i hH
      have HB := ahide hH.2
      clear hH
      go_wp2_with fail
      refine bodyPost_ret (v := .agg #[.int .i64 (-a), .int .i64 b]) ?_ rfl ⟨⟨a, b, rfl, HHA.out, HHB.out⟩, HB.out⟩
      simp [results, Try.results36, go_sem, yb0, yb1]

theorem GB.set2 {w w1 : World} {L H N P M R : Int} (h : GB w w1 L H N P M R) (a b : Int) : GB w (w1.alloc (.cells #[.int .i64 a, .int .i64 b] 84)) L H N P M R := h.later (abelow_alloc _ _)

set_option maxHeartbeats 2000000 in
theorem gClamp_err (L H N P M R x q wt : Int) (he : gmE L H N P M R q ≠ 0) (w : World) :
    Calls Try.prog 26 #[.agg #[.int .i64 L, .int .i64 H, .int .i64 N, .int .i64 P, .int .i64 M, .int .i64 R], .int .i64 x, .int .i64 q, .int .i64 wt] w fun e w' => e = .returned (.tuple #[.int .i64 0, .iface 42 (.int .i64 (gmE L H N P M R q))]) ∧ Below w.heap.size w w' := by
  have hc := gBounds_err L H N P M R x q he
  have HX := ahide (GB.new w L H N P M R)
  clear he
  generalize gmE L H N P M R q = y at *
  go_enter Try.func26, Try.ntmps26
  go_wp2_with (go_at_call 37; refine (hc _).mono ?_; rintro e w1 ⟨rfl, hb1⟩; have HX := ahide (HX.out.later hb1); obtain ⟨⟨q0, q1, q2, q3, q4, q5⟩, _⟩ := HX.out; clear hb1)
  go_ret2
  exact ⟨rfl, (HX.out.set2 _ _).2⟩

set_option maxHeartbeats 2000000 in
theorem gClamp_ok (L H N P M R x q wt : Int) (he : gmE L H N P M R q = 0) (w : World) :
    Calls Try.prog 26 #[.agg #[.int .i64 L, .int .i64 H, .int .i64 N, .int .i64 P, .int .i64 M, .int .i64 R], .int .i64 x, .int .i64 q, .int .i64 wt] w fun e w' => (∃ a b, e = .returned (.tuple #[.int .i64 (clipI wt (-a) b), .nilIface]) ∧ IsHi R P (-canHi M R q) (-canLo M R q) (clipI x (-2000000) 2000000 - N - L) a ∧ IsHi R P (canLo M R q) (canHi M R q) (H - N - clipI x (-2000000) 2000000) b) ∧ Below w.heap.size w w' := by
  have hc := gBounds_ok L H N P M R x q he
  have HX := ahide (GB.new w L H N P M R)
  clear he
  go_enter Try.func26, Try.ntmps26
  go_wp2_with (first
    | (go_at_call 37; refine (hc _).mono ?_; rintro e w1 ⟨⟨a, b, rfl, ha, hb⟩, hb1⟩; have HHA := ahide ha; have HHB := ahide hb; have HX := ahide (HX.out.later hb1); obtain ⟨⟨q0, q1, q2, q3, q4, q5⟩, _⟩ := HX.out; clear hb1 ha hb)
    | (go_at_call 43; refine (fixClip_any _ _ _ _).mono ?_; rintro e w' ⟨rfl, hq⟩; have hq := hq.symm; subst hq))
  go_ret2
  exact ⟨⟨a, b, rfl, HHA.out, HHB.out⟩, (HX.out.set2 _ _).2⟩

end Go.Proofs.Ytbgabomjiibphab
