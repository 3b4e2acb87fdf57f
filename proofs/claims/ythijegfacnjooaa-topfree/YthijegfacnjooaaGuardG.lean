/-
  Contract of guard.Bounds.
-/
import Derived.Test.YthijegfacnjooaaGuardF
namespace Go.Proofs.Ythijegfacnjooaa
open Go.RowKit Go.Sort Plain

/-- A rule, and the room for a span, in two boxes. -/
def GS (w u : World) (L H N P M R : Int) : Prop := (u.cell? ⟨w.heap.size, 0, none⟩ = some (.int .i64 L) ∧ u.cell? ⟨w.heap.size, 1, none⟩ = some (.int .i64 H) ∧ u.cell? ⟨w.heap.size, 2, none⟩ = some (.int .i64 N) ∧ u.cell? ⟨w.heap.size, 3, none⟩ = some (.int .i64 P) ∧ u.cell? ⟨w.heap.size, 4, none⟩ = some (.int .i64 M) ∧ u.cell? ⟨w.heap.size, 5, none⟩ = some (.int .i64 R)) ∧ (u.cell? ⟨w.heap.size + 1, 0, none⟩ = some (.int .i64 0) ∧ u.cell? ⟨w.heap.size + 1, 1, none⟩ = some (.int .i64 0) ∧ u.frozen? ⟨w.heap.size + 1, 0, none⟩ = false ∧ u.frozen? ⟨w.heap.size + 1, 1, none⟩ = false) ∧ Below w.heap.size w u
theorem gfr_later {w w' : World} {B j : Nat} {v : Value} (hb : Below w.heap.size w w') (h : w.cell? ⟨B, j, none⟩ = some v) (k : w.frozen? ⟨B, j, none⟩ = false) : w'.frozen? ⟨B, j, none⟩ = false :=
  (hb.frozen (p := ⟨B, j, none⟩) (World.block_lt_of_cell? w _ h)).trans k
theorem r2_later {w u : World} {B : Nat} (h : (w.cell? ⟨B, 0, none⟩ = some (.int .i64 0) ∧ w.cell? ⟨B, 1, none⟩ = some (.int .i64 0) ∧ w.frozen? ⟨B, 0, none⟩ = false ∧ w.frozen? ⟨B, 1, none⟩ = false)) (hb : Below w.heap.size w u) : (u.cell? ⟨B, 0, none⟩ = some (.int .i64 0) ∧ u.cell? ⟨B, 1, none⟩ = some (.int .i64 0) ∧ u.frozen? ⟨B, 0, none⟩ = false ∧ u.frozen? ⟨B, 1, none⟩ = false) :=
  ⟨gcell_later hb h.1, gcell_later hb h.2.1, gfr_later hb h.1 h.2.2.1, gfr_later hb h.2.1 h.2.2.2⟩
theorem GS.later {w u u' : World} {L H N P M R : Int} (h : GS w u L H N P M R) (hb : Below u.heap.size u u') : GS w u' L H N P M R := ⟨B6.later h.1 hb, r2_later h.2.1 hb, abelow_up h.2.2 hb⟩
theorem keepGS {w u u' : World} {L H N P M R : Int} (hb : Below u.heap.size u u') (h : (u.cell? ⟨w.heap.size, 0, none⟩ = some (.int .i64 L) ∧ u.cell? ⟨w.heap.size, 1, none⟩ = some (.int .i64 H) ∧ u.cell? ⟨w.heap.size, 2, none⟩ = some (.int .i64 N) ∧ u.cell? ⟨w.heap.size, 3, none⟩ = some (.int .i64 P) ∧ u.cell? ⟨w.heap.size, 4, none⟩ = some (.int .i64 M) ∧ u.cell? ⟨w.heap.size, 5, none⟩ = some (.int .i64 R)) ∧ (u.cell? ⟨w.heap.size + 1, 0, none⟩ = some (.int .i64 0) ∧ u.cell? ⟨w.heap.size + 1, 1, none⟩ = some (.int .i64 0) ∧ u.frozen? ⟨w.heap.size + 1, 0, none⟩ = false ∧ u.frozen? ⟨w.heap.size + 1, 1, none⟩ = false) ∧ Below w.heap.size w u) : (u'.cell? ⟨w.heap.size, 0, none⟩ = some (.int .i64 L) ∧ u'.cell? ⟨w.heap.size, 1, none⟩ = some (.int .i64 H) ∧ u'.cell? ⟨w.heap.size, 2, none⟩ = some (.int .i64 N) ∧ u'.cell? ⟨w.heap.size, 3, none⟩ = some (.int .i64 P) ∧ u'.cell? ⟨w.heap.size, 4, none⟩ = some (.int .i64 M) ∧ u'.cell? ⟨w.heap.size, 5, none⟩ = some (.int .i64 R)) ∧ (u'.cell? ⟨w.heap.size + 1, 0, none⟩ = some (.int .i64 0) ∧ u'.cell? ⟨w.heap.size + 1, 1, none⟩ = some (.int .i64 0) ∧ u'.frozen? ⟨w.heap.size + 1, 0, none⟩ = false ∧ u'.frozen? ⟨w.heap.size + 1, 1, none⟩ = false) ∧ Below w.heap.size w u' := GS.later h hb
theorem GS.new (w : World) (L H N P M R : Int) : GS w ((w.alloc (.cells #[.int .i64 L, .int .i64 H, .int .i64 N, .int .i64 P, .int .i64 M, .int .i64 R] 78)).alloc (.cells #[.int .i64 0, .int .i64 0] 93)) L H N P M R := by
  refine ⟨(B6.new w L H N P M R 78).later (abelow_alloc _ _), ⟨?_, ?_, ?_, ?_⟩, abelow_up (abelow_alloc _ _) (abelow_alloc _ _)⟩ <;> simp [go_sem]
/-- Seven numbers lie in a box. -/
def B7 (u : World) (Q : Nat) (L H N P M R x : Int) : Prop := (u.cell? ⟨Q, 0, none⟩ = some (.int .i64 L) ∧ u.cell? ⟨Q, 1, none⟩ = some (.int .i64 H) ∧ u.cell? ⟨Q, 2, none⟩ = some (.int .i64 N) ∧ u.cell? ⟨Q, 3, none⟩ = some (.int .i64 P) ∧ u.cell? ⟨Q, 4, none⟩ = some (.int .i64 M) ∧ u.cell? ⟨Q, 5, none⟩ = some (.int .i64 R) ∧ u.cell? ⟨Q, 6, none⟩ = some (.int .i64 x))
theorem B7.later {u u' : World} {Q : Nat} {L H N P M R x : Int} (h : B7 u Q L H N P M R x) (hb : Below u.heap.size u u') : B7 u' Q L H N P M R x :=
  ⟨gcell_later hb h.1, gcell_later hb h.2.1, gcell_later hb h.2.2.1, gcell_later hb h.2.2.2.1, gcell_later hb h.2.2.2.2.1, gcell_later hb h.2.2.2.2.2.1, gcell_later hb h.2.2.2.2.2.2⟩
theorem keepG8 {w u u' : World} {Q : Nat} {L H N P M R y : Int} (hb : Below u.heap.size u u') (h : (u.cell? ⟨Q, 0, none⟩ = some (.int .i64 L) ∧ u.cell? ⟨Q, 1, none⟩ = some (.int .i64 H) ∧ u.cell? ⟨Q, 2, none⟩ = some (.int .i64 N) ∧ u.cell? ⟨Q, 3, none⟩ = some (.int .i64 P) ∧ u.cell? ⟨Q, 4, none⟩ = some (.int .i64 M) ∧ u.cell? ⟨Q, 5, none⟩ = some (.int .i64 R) ∧ u.cell? ⟨Q, 6, none⟩ = some (.int .i64 y)) ∧ Below w.heap.size w u) : (u'.cell? ⟨Q, 0, none⟩ = some (.int .i64 L) ∧ u'.cell? ⟨Q, 1, none⟩ = some (.int .i64 H) ∧ u'.cell? ⟨Q, 2, none⟩ = some (.int .i64 N) ∧ u'.cell? ⟨Q, 3, none⟩ = some (.int .i64 P) ∧ u'.cell? ⟨Q, 4, none⟩ = some (.int .i64 M) ∧ u'.cell? ⟨Q, 5, none⟩ = some (.int .i64 R) ∧ u'.cell? ⟨Q, 6, none⟩ = some (.int .i64 y)) ∧ Below w.heap.size w u' := ⟨B7.later h.1 hb, abelow_up h.2 hb⟩
theorem gset_other {w : World} {B Q i j : Nat} {v c : Value} (hQ : B ≠ Q) (h : w.cell? ⟨Q, i, none⟩ = some c) : (w.setCell ⟨B, j, none⟩ v).cell? ⟨Q, i, none⟩ = some c := by
  rw [World.cell?_setCell_other _ _ _ _ (fun e => hQ (congrArg Addr.block e))]; exact h
theorem keepG8s {w u : World} {Q j : Nat} {v : Value} {L H N P M R y : Int} (hQ : w.heap.size + 1 ≠ Q) (h : (u.cell? ⟨Q, 0, none⟩ = some (.int .i64 L) ∧ u.cell? ⟨Q, 1, none⟩ = some (.int .i64 H) ∧ u.cell? ⟨Q, 2, none⟩ = some (.int .i64 N) ∧ u.cell? ⟨Q, 3, none⟩ = some (.int .i64 P) ∧ u.cell? ⟨Q, 4, none⟩ = some (.int .i64 M) ∧ u.cell? ⟨Q, 5, none⟩ = some (.int .i64 R) ∧ u.cell? ⟨Q, 6, none⟩ = some (.int .i64 y)) ∧ Below w.heap.size w u) : ((u.setCell ⟨w.heap.size + 1, j, none⟩ v).cell? ⟨Q, 0, none⟩ = some (.int .i64 L) ∧ (u.setCell ⟨w.heap.size + 1, j, none⟩ v).cell? ⟨Q, 1, none⟩ = some (.int .i64 H) ∧ (u.setCell ⟨w.heap.size + 1, j, none⟩ v).cell? ⟨Q, 2, none⟩ = some (.int .i64 N) ∧ (u.setCell ⟨w.heap.size + 1, j, none⟩ v).cell? ⟨Q, 3, none⟩ = some (.int .i64 P) ∧ (u.setCell ⟨w.heap.size + 1, j, none⟩ v).cell? ⟨Q, 4, none⟩ = some (.int .i64 M) ∧ (u.setCell ⟨w.heap.size + 1, j, none⟩ v).cell? ⟨Q, 5, none⟩ = some (.int .i64 R) ∧ (u.setCell ⟨w.heap.size + 1, j, none⟩ v).cell? ⟨Q, 6, none⟩ = some (.int .i64 y)) ∧ Below w.heap.size w (u.setCell ⟨w.heap.size + 1, j, none⟩ v) :=
  ⟨⟨gset_other hQ h.1.1, gset_other hQ h.1.2.1, gset_other hQ h.1.2.2.1, gset_other hQ h.1.2.2.2.1, gset_other hQ h.1.2.2.2.2.1, gset_other hQ h.1.2.2.2.2.2.1, gset_other hQ h.1.2.2.2.2.2.2⟩, h.2.setCell (by simp) _⟩
theorem keepG9 {w u u' : World} {Q : Nat} {L H N P M R y : Int} (hb : Below u.heap.size u u') (h : (u.cell? ⟨w.heap.size, 0, none⟩ = some (.int .i64 L) ∧ u.cell? ⟨w.heap.size, 1, none⟩ = some (.int .i64 H) ∧ u.cell? ⟨w.heap.size, 2, none⟩ = some (.int .i64 N) ∧ u.cell? ⟨w.heap.size, 3, none⟩ = some (.int .i64 P) ∧ u.cell? ⟨w.heap.size, 4, none⟩ = some (.int .i64 M) ∧ u.cell? ⟨w.heap.size, 5, none⟩ = some (.int .i64 R)) ∧ (u.cell? ⟨Q, 0, none⟩ = some (.int .i64 L) ∧ u.cell? ⟨Q, 1, none⟩ = some (.int .i64 H) ∧ u.cell? ⟨Q, 2, none⟩ = some (.int .i64 N) ∧ u.cell? ⟨Q, 3, none⟩ = some (.int .i64 P) ∧ u.cell? ⟨Q, 4, none⟩ = some (.int .i64 M) ∧ u.cell? ⟨Q, 5, none⟩ = some (.int .i64 R) ∧ u.cell? ⟨Q, 6, none⟩ = some (.int .i64 y)) ∧ (u.cell? ⟨w.heap.size + 1, 0, none⟩ = some (.int .i64 0) ∧ u.cell? ⟨w.heap.size + 1, 1, none⟩ = some (.int .i64 0) ∧ u.frozen? ⟨w.heap.size + 1, 0, none⟩ = false ∧ u.frozen? ⟨w.heap.size + 1, 1, none⟩ = false) ∧ Below w.heap.size w u) : (u'.cell? ⟨w.heap.size, 0, none⟩ = some (.int .i64 L) ∧ u'.cell? ⟨w.heap.size, 1, none⟩ = some (.int .i64 H) ∧ u'.cell? ⟨w.heap.size, 2, none⟩ = some (.int .i64 N) ∧ u'.cell? ⟨w.heap.size, 3, none⟩ = some (.int .i64 P) ∧ u'.cell? ⟨w.heap.size, 4, none⟩ = some (.int .i64 M) ∧ u'.cell? ⟨w.heap.size, 5, none⟩ = some (.int .i64 R)) ∧ (u'.cell? ⟨Q, 0, none⟩ = some (.int .i64 L) ∧ u'.cell? ⟨Q, 1, none⟩ = some (.int .i64 H) ∧ u'.cell? ⟨Q, 2, none⟩ = some (.int .i64 N) ∧ u'.cell? ⟨Q, 3, none⟩ = some (.int .i64 P) ∧ u'.cell? ⟨Q, 4, none⟩ = some (.int .i64 M) ∧ u'.cell? ⟨Q, 5, none⟩ = some (.int .i64 R) ∧ u'.cell? ⟨Q, 6, none⟩ = some (.int .i64 y)) ∧ (u'.cell? ⟨w.heap.size + 1, 0, none⟩ = some (.int .i64 0) ∧ u'.cell? ⟨w.heap.size + 1, 1, none⟩ = some (.int .i64 0) ∧ u'.frozen? ⟨w.heap.size + 1, 0, none⟩ = false ∧ u'.frozen? ⟨w.heap.size + 1, 1, none⟩ = false) ∧ Below w.heap.size w u' := ⟨B6.later h.1 hb, B7.later h.2.1 hb, r2_later h.2.2.1 hb, abelow_up h.2.2.2 hb⟩
theorem B7.new (w : World) (L H N P M R x : Int) (t : TypeId) : B7 (w.alloc (.cells #[.int .i64 L, .int .i64 H, .int .i64 N, .int .i64 P, .int .i64 M, .int .i64 R, .int .i64 x] t)) w.heap.size L H N P M R x := by
  refine ⟨?_, ?_, ?_, ?_, ?_, ?_, ?_⟩ <;> simp [go_sem]

set_option maxHeartbeats 2000000 in
theorem gBounds_err (L H N P M R x q : Int) (he : gmE L H N P M R q ≠ 0) (w : World) :
    Calls Try.prog 49 #[.agg #[.int .i64 L, .int .i64 H, .int .i64 N, .int .i64 P, .int .i64 M, .int .i64 R], .int .i64 x, .int .i64 q] w fun e w' => e = .returned (.tuple #[.agg #[.int .i64 0, .int .i64 0], .iface 26 (.int .i64 (gmE L H N P M R q))]) ∧ Below w.heap.size w w' := by
  have hc := checkMove_any L H N P M R q
  rw [errV_ne he] at hc
  have HX := ahide (GS.new w L H N P M R)
  clear he
  generalize gmE L H N P M R q = y at *
  go_enter Try.func49, Try.ntmps49
  go_wp2_with (go_at_call 50; refine (hc _).mono ?_; rintro e w1 ⟨rfl, hb1⟩; have HX := ahide (HX.out.later hb1); obtain ⟨⟨q0, q1, q2, q3, q4, q5⟩, ⟨p0, p1, f0, f1⟩, _⟩ := HX.out; clear hb1)
  exact bodyPost_ret (v := .tuple #[.agg #[.int .i64 0, .int .i64 0], .iface 26 (.int .i64 y)]) (by simp [results, Try.results49, go_sem, p0, p1]) rfl ⟨rfl, (HX.out.2.2.setCell (by simp) _).setCell (by simp) _⟩

theorem gmE_ok {L H N P M R q : Int} (he : gmE L H N P M R q = 0) : GOK L H N P M R ∧ -M ≤ q ∧ q ≤ M := by
  have he1 : grE L H N P M R = 0 := by unfold gmE at he; split at he <;> simp_all
  have hs : betw q (-M) M = true := by
    unfold gmE at he; rw [if_pos he1] at he
    by_cases h : betw q (-M) M = true
    · exact h
    · rw [if_neg h] at he; cases he
  exact ⟨grE_ok he1, (betw_true hs).1, (betw_true hs).2⟩

set_option maxHeartbeats 2000000 in
theorem gBounds_ok (L H N P M R x q : Int) (he : gmE L H N P M R q = 0) (w : World) :
    Calls Try.prog 49 #[.agg #[.int .i64 L, .int .i64 H, .int .i64 N, .int .i64 P, .int .i64 M, .int .i64 R], .int .i64 x, .int .i64 q] w fun e w' => (∃ a b, e = .returned (.tuple #[.agg #[.int .i64 (-a), .int .i64 b], .nilIface]) ∧ IsHi R P (-canHi M R q) (-canLo M R q) (clipI x (-2000000) 2000000 - N - L) a ∧ IsHi R P (canLo M R q) (canHi M R q) (H - N - clipI x (-2000000) 2000000) b) ∧ Below w.heap.size w w' := by
  have hc := checkMove_any L H N P M R q
  rw [he, errV_zero] at hc
  obtain ⟨g, k0, k1⟩ := gmE_ok he
  have HX := ahide (GS.new w L H N P M R)
  have gg := g
  obtain ⟨⟨l0, l1, h0, h1, n0, n1, p0, p1, m0, m1, r0, r1⟩, pm, pr, room⟩ := g
  have hcl := fixClip_any x (-2000000) 2000000
  have x0 : -2000000 ≤ clipI x (-2000000) 2000000 := by unfold clipI; split <;> (try split) <;> (try split) <;> omega
  have x1 : clipI x (-2000000) 2000000 ≤ 2000000 := by unfold clipI; split <;> (try split) <;> (try split) <;> omega
  have cn := can_le r0 m0 k0 k1
  have c0 := canLo_or M R q
  have mx : ∀ ts t w, (Builtin.max_ ts t #[.int .i64 (q - R), .int .i64 (-M)]).run Try.prog w = .ok (.int .i64 (canLo M R q)) w := fun ts t w => by rw [run_maxG]; congr 2; unfold canLo; split <;> split <;> congr 1 <;> omega
  have mn : ∀ ts t w, (Builtin.min_ ts t #[.int .i64 (q + R), .int .i64 M]).run Try.prog w = .ok (.int .i64 (canHi M R q)) w := fun ts t w => by rw [run_minG]; congr 2; unfold canHi; split <;> split <;> congr 1 <;> omega
  have v1 : IntKind.i64.wrap (q - R) = q - R := gwrap_id (by omega) (by omega)
  have v2 : IntKind.i64.wrap (q + R) = q + R := gwrap_id (by omega) (by omega)
  generalize clipI x (-2000000) 2000000 = y at *
  generalize canLo M R q = lo at *
  generalize canHi M R q = hi at *
  obtain ⟨cn0, cn1, cn2, cn3, cn4⟩ := cn
  have v3 : IntKind.i64.wrap (-M) = -M := gwrap_id (by omega) (by omega)
  have v4 : IntKind.i64.wrap (-hi) = -hi := gwrap_id (by omega) (by omega)
  have v5 : IntKind.i64.wrap (-lo) = -lo := gwrap_id (by omega) (by omega)
  have hA := highest_any 76 L H N P M R y (-hi) (-lo) (y - N - L) r0 (by omega) (by omega) (by omega) (enters_of Try.func76 (by kernel_rfl) rfl) (stopsLo_any L H N P M R y gg.toGR x0 x1)
  have hB := highest_any 77 L H N P M R y lo hi (H - N - y) r0 (by omega) (by omega) (by omega) (enters_of Try.func77 (by kernel_rfl) rfl) (stopsHi_any L H N P M R y gg.toGR x0 x1)
  clear he room gg c0
  go_enter Try.func49, Try.ntmps49
  go_upto_region 4 with (go_at_call 50; refine (hc _).mono ?_; rintro e w1 ⟨rfl, hb1⟩; have HX := ahide (HX.out.later hb1); obtain ⟨⟨q0, q1, q2, q3, q4, q5⟩, ⟨z0, z1, f0, f1⟩, _⟩ := HX.out; clear hb1)
  have S0 : (w1.cell? ⟨w.heap.size, 0, none⟩ = some (.int .i64 L) ∧ w1.cell? ⟨w.heap.size, 1, none⟩ = some (.int .i64 H) ∧ w1.cell? ⟨w.heap.size, 2, none⟩ = some (.int .i64 N) ∧ w1.cell? ⟨w.heap.size, 3, none⟩ = some (.int .i64 P) ∧ w1.cell? ⟨w.heap.size, 4, none⟩ = some (.int .i64 M) ∧ w1.cell? ⟨w.heap.size, 5, none⟩ = some (.int .i64 R)) ∧ (w1.cell? ⟨w.heap.size + 1, 0, none⟩ = some (.int .i64 0) ∧ w1.cell? ⟨w.heap.size + 1, 1, none⟩ = some (.int .i64 0) ∧ w1.frozen? ⟨w.heap.size + 1, 0, none⟩ = false ∧ w1.frozen? ⟨w.heap.size + 1, 1, none⟩ = false) ∧ Below w.heap.size w w1 := HX.out
  have Z := ahide S0
  go_region_held3 (fun u => (u.cell? ⟨w.heap.size, 0, none⟩ = some (.int .i64 L) ∧ u.cell? ⟨w.heap.size, 1, none⟩ = some (.int .i64 H) ∧ u.cell? ⟨w.heap.size, 2, none⟩ = some (.int .i64 N) ∧ u.cell? ⟨w.heap.size, 3, none⟩ = some (.int .i64 P) ∧ u.cell? ⟨w.heap.size, 4, none⟩ = some (.int .i64 M) ∧ u.cell? ⟨w.heap.size, 5, none⟩ = some (.int .i64 R)) ∧ (u.cell? ⟨w.heap.size + 1, 0, none⟩ = some (.int .i64 0) ∧ u.cell? ⟨w.heap.size + 1, 1, none⟩ = some (.int .i64 0) ∧ u.frozen? ⟨w.heap.size + 1, 0, none⟩ = false ∧ u.frozen? ⟨w.heap.size + 1, 1, none⟩ = false) ∧ Below w.heap.size w u)
    (first
      | (with_reducible assumption)
      | (with_reducible apply keepGS; with_reducible assumption; with_reducible assumption)
      | (refine keepGS ?_ Z.out; exact (Below.refl _ _).drew)
      | (refine keepGS ?_ Z.out; exact abelow_alloc _ _)
      | (refine keepGS ?_ Z.out; exact (abelow_alloc _ _).drew))
    (first
      | (go_at_call 44; refine (hcl _).mono ?_; rintro e w' ⟨rfl, rfl⟩))
  all_goals
    rename_i hH
    clear hH Z S0 q0 q1 q2 q3 q4 q5 z0 z1 f0 f1
    have S1 : (fun Q u => (u.cell? ⟨w.heap.size, 0, none⟩ = some (.int .i64 L) ∧ u.cell? ⟨w.heap.size, 1, none⟩ = some (.int .i64 H) ∧ u.cell? ⟨w.heap.size, 2, none⟩ = some (.int .i64 N) ∧ u.cell? ⟨w.heap.size, 3, none⟩ = some (.int .i64 P) ∧ u.cell? ⟨w.heap.size, 4, none⟩ = some (.int .i64 M) ∧ u.cell? ⟨w.heap.size, 5, none⟩ = some (.int .i64 R)) ∧ (u.cell? ⟨Q, 0, none⟩ = some (.int .i64 L) ∧ u.cell? ⟨Q, 1, none⟩ = some (.int .i64 H) ∧ u.cell? ⟨Q, 2, none⟩ = some (.int .i64 N) ∧ u.cell? ⟨Q, 3, none⟩ = some (.int .i64 P) ∧ u.cell? ⟨Q, 4, none⟩ = some (.int .i64 M) ∧ u.cell? ⟨Q, 5, none⟩ = some (.int .i64 R) ∧ u.cell? ⟨Q, 6, none⟩ = some (.int .i64 y)) ∧ (u.cell? ⟨w.heap.size + 1, 0, none⟩ = some (.int .i64 0) ∧ u.cell? ⟨w.heap.size + 1, 1, none⟩ = some (.int .i64 0) ∧ u.frozen? ⟨w.heap.size + 1, 0, none⟩ = false ∧ u.frozen? ⟨w.heap.size + 1, 1, none⟩ = false) ∧ Below w.heap.size w u) w1.heap.size (w1.alloc (.cells #[.int .i64 L, .int .i64 H, .int .i64 N, .int .i64 P, .int .i64 M, .int .i64 R, .int .i64 y] 148)).drew :=
      ⟨(HX.out.later (abelow_alloc _ _).drew).1, (B7.new w1 L H N P M R y 148).later (Below.refl _ _).drew, (HX.out.later (abelow_alloc _ _).drew).2.1, (HX.out.later (abelow_alloc _ _).drew).2.2⟩
    generalize (w1.alloc (.cells #[.int .i64 L, .int .i64 H, .int .i64 N, .int .i64 P, .int .i64 M, .int .i64 R, .int .i64 y] 148)).drew = w2 at *
    have hQ : w.heap.size + 1 ≠ w1.heap.size := by have := World.block_lt_of_cell? w1 ⟨w.heap.size + 1, 0, none⟩ HX.out.2.1.1; simp at this; omega
    generalize w1.heap.size = Q at *
    have Z := ahide S1
    clear HX S1
    go_upto_region 5 with fail
    obtain ⟨⟨q0, q1, q2, q3, q4, q5⟩, _⟩ := Z.out
    have S0 : (w2.cell? ⟨w.heap.size, 0, none⟩ = some (.int .i64 L) ∧ w2.cell? ⟨w.heap.size, 1, none⟩ = some (.int .i64 H) ∧ w2.cell? ⟨w.heap.size, 2, none⟩ = some (.int .i64 N) ∧ w2.cell? ⟨w.heap.size, 3, none⟩ = some (.int .i64 P) ∧ w2.cell? ⟨w.heap.size, 4, none⟩ = some (.int .i64 M) ∧ w2.cell? ⟨w.heap.size, 5, none⟩ = some (.int .i64 R)) ∧ (w2.cell? ⟨Q, 0, none⟩ = some (.int .i64 L) ∧ w2.cell? ⟨Q, 1, none⟩ = some (.int .i64 H) ∧ w2.cell? ⟨Q, 2, none⟩ = some (.int .i64 N) ∧ w2.cell? ⟨Q, 3, none⟩ = some (.int .i64 P) ∧ w2.cell? ⟨Q, 4, none⟩ = some (.int .i64 M) ∧ w2.cell? ⟨Q, 5, none⟩ = some (.int .i64 R) ∧ w2.cell? ⟨Q, 6, none⟩ = some (.int .i64 y)) ∧ (w2.cell? ⟨w.heap.size + 1, 0, none⟩ = some (.int .i64 0) ∧ w2.cell? ⟨w.heap.size + 1, 1, none⟩ = some (.int .i64 0) ∧ w2.frozen? ⟨w.heap.size + 1, 0, none⟩ = false ∧ w2.frozen? ⟨w.heap.size + 1, 1, none⟩ = false) ∧ Below w.heap.size w w2 := Z.out
    go_region_held3 (fun u => (u.cell? ⟨w.heap.size, 0, none⟩ = some (.int .i64 L) ∧ u.cell? ⟨w.heap.size, 1, none⟩ = some (.int .i64 H) ∧ u.cell? ⟨w.heap.size, 2, none⟩ = some (.int .i64 N) ∧ u.cell? ⟨w.heap.size, 3, none⟩ = some (.int .i64 P) ∧ u.cell? ⟨w.heap.size, 4, none⟩ = some (.int .i64 M) ∧ u.cell? ⟨w.heap.size, 5, none⟩ = some (.int .i64 R)) ∧ (u.cell? ⟨Q, 0, none⟩ = some (.int .i64 L) ∧ u.cell? ⟨Q, 1, none⟩ = some (.int .i64 H) ∧ u.cell? ⟨Q, 2, none⟩ = some (.int .i64 N) ∧ u.cell? ⟨Q, 3, none⟩ = some (.int .i64 P) ∧ u.cell? ⟨Q, 4, none⟩ = some (.int .i64 M) ∧ u.cell? ⟨Q, 5, none⟩ = some (.int .i64 R) ∧ u.cell? ⟨Q, 6, none⟩ = some (.int .i64 y)) ∧ (u.cell? ⟨w.heap.size + 1, 0, none⟩ = some (.int .i64 0) ∧ u.cell? ⟨w.heap.size + 1, 1, none⟩ = some (.int .i64 0) ∧ u.frozen? ⟨w.heap.size + 1, 0, none⟩ = false ∧ u.frozen? ⟨w.heap.size + 1, 1, none⟩ = false) ∧ Below w.heap.size w u)
      (first
        | (with_reducible assumption)
        | (with_reducible apply keepG9; with_reducible assumption; with_reducible assumption)
        | (refine keepG9 ?_ Z.out; exact (Below.refl _ _).drew))
      (fail)
    all_goals
      rename_i hH
      clear hH S0 q0 q1 q2 q3 q4 q5
      have S1 : (fun u => (u.cell? ⟨w.heap.size, 0, none⟩ = some (.int .i64 L) ∧ u.cell? ⟨w.heap.size, 1, none⟩ = some (.int .i64 H) ∧ u.cell? ⟨w.heap.size, 2, none⟩ = some (.int .i64 N) ∧ u.cell? ⟨w.heap.size, 3, none⟩ = some (.int .i64 P) ∧ u.cell? ⟨w.heap.size, 4, none⟩ = some (.int .i64 M) ∧ u.cell? ⟨w.heap.size, 5, none⟩ = some (.int .i64 R)) ∧ (u.cell? ⟨Q, 0, none⟩ = some (.int .i64 L) ∧ u.cell? ⟨Q, 1, none⟩ = some (.int .i64 H) ∧ u.cell? ⟨Q, 2, none⟩ = some (.int .i64 N) ∧ u.cell? ⟨Q, 3, none⟩ = some (.int .i64 P) ∧ u.cell? ⟨Q, 4, none⟩ = some (.int .i64 M) ∧ u.cell? ⟨Q, 5, none⟩ = some (.int .i64 R) ∧ u.cell? ⟨Q, 6, none⟩ = some (.int .i64 y)) ∧ (u.cell? ⟨w.heap.size + 1, 0, none⟩ = some (.int .i64 0) ∧ u.cell? ⟨w.heap.size + 1, 1, none⟩ = some (.int .i64 0) ∧ u.frozen? ⟨w.heap.size + 1, 0, none⟩ = false ∧ u.frozen? ⟨w.heap.size + 1, 1, none⟩ = false) ∧ Below w.heap.size w u) w2.drew := keepG9 (Below.refl _ _).drew Z.out
      generalize w2.drew = w3 at *
      clear Z
      have Z := ahide S1
      clear S1
      go_upto_region 6 with fail
      obtain ⟨_, ⟨q0, q1, q2, q3, q4, q5, q6⟩, ⟨z0, z1, f0, f1⟩, _⟩ := Z.out
      have S0 : (w3.cell? ⟨Q, 0, none⟩ = some (.int .i64 L) ∧ w3.cell? ⟨Q, 1, none⟩ = some (.int .i64 H) ∧ w3.cell? ⟨Q, 2, none⟩ = some (.int .i64 N) ∧ w3.cell? ⟨Q, 3, none⟩ = some (.int .i64 P) ∧ w3.cell? ⟨Q, 4, none⟩ = some (.int .i64 M) ∧ w3.cell? ⟨Q, 5, none⟩ = some (.int .i64 R) ∧ w3.cell? ⟨Q, 6, none⟩ = some (.int .i64 y)) ∧ Below w.heap.size w w3 := ⟨Z.out.2.1, Z.out.2.2.2⟩
      go_region_held3 (fun u => (u.cell? ⟨Q, 0, none⟩ = some (.int .i64 L) ∧ u.cell? ⟨Q, 1, none⟩ = some (.int .i64 H) ∧ u.cell? ⟨Q, 2, none⟩ = some (.int .i64 N) ∧ u.cell? ⟨Q, 3, none⟩ = some (.int .i64 P) ∧ u.cell? ⟨Q, 4, none⟩ = some (.int .i64 M) ∧ u.cell? ⟨Q, 5, none⟩ = some (.int .i64 R) ∧ u.cell? ⟨Q, 6, none⟩ = some (.int .i64 y)) ∧ Below w.heap.size w u)
        (first
          | (with_reducible assumption)
          | (with_reducible apply keepG8; with_reducible assumption; with_reducible assumption)
          | (refine keepG8s ?_ (keepG8s ?_ ?_); with_reducible assumption; with_reducible assumption; with_reducible assumption)
          | (refine keepG8 ?_ ⟨Z.out.2.1, Z.out.2.2.2⟩; exact (Below.refl _ _).drew))
        (first
          | (go_at_call_of 75 (Value.int .i64 (-hi)); refine (hA _).mono ?_; rintro e w' ⟨⟨a, rfl, ha⟩, hb⟩; have HHA := ahide ha; have va : IntKind.i64.wrap (-a) = -a := gwrap_id (by have := ha.2.1; omega) (by have := ha.1; omega); have ya0 : w'.cell? ⟨w.heap.size + 1, 0, none⟩ = some (.int .i64 0) := gcell_later hb (by first | with_reducible assumption | exact z0); have yaf0 : w'.frozen? ⟨w.heap.size + 1, 0, none⟩ = false := gfr_later hb (by first | with_reducible assumption | exact z0) (by first | with_reducible assumption | exact f0); have ya1 : w'.cell? ⟨w.heap.size + 1, 1, none⟩ = some (.int .i64 0) := gcell_later hb (by first | with_reducible assumption | exact z1); have yaf1 : w'.frozen? ⟨w.heap.size + 1, 1, none⟩ = false := gfr_later hb (by first | with_reducible assumption | exact z1) (by first | with_reducible assumption | exact f1); clear ha)
          | (go_at_call_of 75 (Value.int .i64 lo); refine (hB _).mono ?_; rintro e w' ⟨⟨b, rfl, hhb⟩, hb⟩; have HHB := ahide hhb; have yb0 : w'.cell? ⟨w.heap.size + 1, 0, none⟩ = some (.int .i64 0) := gcell_later hb (by first | with_reducible assumption | exact z0); have ybf0 : w'.frozen? ⟨w.heap.size + 1, 0, none⟩ = false := gfr_later hb (by first | with_reducible assumption | exact z0) (by first | with_reducible assumption | exact f0); have yb1 : w'.cell? ⟨w.heap.size + 1, 1, none⟩ = some (.int .i64 0) := gcell_later hb (by first | with_reducible assumption | exact z1); have ybf1 : w'.frozen? ⟨w.heap.size + 1, 1, none⟩ = false := gfr_later hb (by first | with_reducible assumption | exact z1) (by first | with_reducible assumption | exact f1); clear hhb))
      all_goals
        rename_i hH
        have HB := ahide hH.2
        clear hH
        go_wp2_with fail
        refine bodyPost_ret (v := .tuple #[.agg #[.int .i64 (-a), .int .i64 b], .nilIface]) ?_ rfl ⟨⟨a, b, rfl, HHA.out, HHB.out⟩, HB.out⟩
        simp [results, Try.results49, go_sem, yb0, yb1]

end Go.Proofs.Ythijegfacnjooaa
