/-
  The end of the walk of fulmarref.axisFrom.
-/
import Derived.Test.YthijegfacnjooaaAxisA
namespace Go.Proofs.Ythijegfacnjooaa
open Go.RowKit Plain

/-- The answer's room, as it is filled. -/
def FZ (w0 w : World) (O Z : Nat) (a : Option Addr) (l : List Int) (cap n : Nat) (x : Nat → Value) (G : List (Addr × Value)) : Prop :=
  Dc w O a l cap n ∧ AxV w Z x ∧ DK O w0 w ∧ (O < w0.heap.size ∧ w0.heap.size ≤ Z ∧ RawAt a l w0.heap.size) ∧ ∀ q ∈ G, w.cell? q.1 = some q.2 ∧ w0.heap.size ≤ q.1.block ∧ q.1.block ≠ Z
theorem FZ.put {w0 w : World} {O Z : Nat} {a l cap n x G} (h : FZ w0 w O Z a l cap n x G) (k : Nat) (y : Value) : FZ w0 (w.setCell ⟨Z, k, none⟩ y) O Z a l cap n (updV x k y) G := by
  obtain ⟨h1, h2, h3, ⟨h4, h5, h6⟩, h7⟩ := h
  exact ⟨h1.set (by omega) (fun b off e hl => by have := h6 b off e hl; omega), h2.put k y, h3.sets rfl (by omega), ⟨h4, h5, h6⟩, fun q hq => ⟨gset (h7 q hq).1 (h7 q hq).2.2, (h7 q hq).2⟩⟩
theorem below_eq {w w' : World} {o : Obj} (h : w' = w.alloc o) : Below w.heap.size w w' := by rw [h]; exact abelow_alloc _ _
theorem fin15 {w0 w : World} {O Z B : Nat} {a l cap n v G} (h : AXS w0 w O Z B a l cap n v G) : ∃ U, U = (((((((((((((((w.setCell ⟨Z, 0, none⟩ (v 0)).setCell ⟨Z, 1, none⟩ (v 1)).setCell ⟨Z, 2, none⟩ (v 2)).setCell ⟨Z, 3, none⟩ (v 3)).setCell ⟨Z, 4, none⟩ (v 4)).setCell ⟨Z, 5, none⟩ (v 5)).setCell ⟨Z, 6, none⟩ (v 6)).setCell ⟨Z, 7, none⟩ (v 7)).setCell ⟨Z, 8, none⟩ (v 8)).setCell ⟨Z, 9, none⟩ (v 9)).setCell ⟨Z, 10, none⟩ (v 10)).setCell ⟨Z, 11, none⟩ (v 11)).setCell ⟨Z, 12, none⟩ (v 12)).setCell ⟨Z, 13, none⟩ (v 13)).setCell ⟨Z, 14, none⟩ (v 14)) ∧ (∀ j, j < 15 → U.cell? ⟨Z, j, none⟩ = some (v j)) ∧ Dc U O a l cap n ∧ DK O w0 U ∧ ∀ q ∈ G, U.cell? q.1 = some q.2 ∧ w0.heap.size ≤ q.1.block ∧ q.1.block ≠ Z := by
  have k : FZ w0 ((((((((((((((((w.setCell ⟨Z, 0, none⟩ (v 0)).setCell ⟨Z, 1, none⟩ (v 1)).setCell ⟨Z, 2, none⟩ (v 2)).setCell ⟨Z, 3, none⟩ (v 3)).setCell ⟨Z, 4, none⟩ (v 4)).setCell ⟨Z, 5, none⟩ (v 5)).setCell ⟨Z, 6, none⟩ (v 6)).setCell ⟨Z, 7, none⟩ (v 7)).setCell ⟨Z, 8, none⟩ (v 8)).setCell ⟨Z, 9, none⟩ (v 9)).setCell ⟨Z, 10, none⟩ (v 10)).setCell ⟨Z, 11, none⟩ (v 11)).setCell ⟨Z, 12, none⟩ (v 12)).setCell ⟨Z, 13, none⟩ (v 13)).setCell ⟨Z, 14, none⟩ (v 14))) O Z a l cap n ((updV (updV (updV (updV (updV (updV (updV (updV (updV (updV (updV (updV (updV (updV (updV zV 0 (v 0)) 1 (v 1)) 2 (v 2)) 3 (v 3)) 4 (v 4)) 5 (v 5)) 6 (v 6)) 7 (v 7)) 8 (v 8)) 9 (v 9)) 10 (v 10)) 11 (v 11)) 12 (v 12)) 13 (v 13)) 14 (v 14))) G :=
    (FZ.put (FZ.put (FZ.put (FZ.put (FZ.put (FZ.put (FZ.put (FZ.put (FZ.put (FZ.put (FZ.put (FZ.put (FZ.put (FZ.put (FZ.put (⟨h.1, h.2.2.1, h.2.2.2.1, ⟨h.2.2.2.2.1.1, h.2.2.2.2.1.2.1, h.2.2.2.2.1.2.2.2⟩, fun q hq => ⟨(h.2.2.2.2.2 q hq).1, (h.2.2.2.2.2 q hq).2.1, (h.2.2.2.2.2 q hq).2.2.1⟩⟩ : FZ w0 w O Z a l cap n zV G) 0 (v 0)) 1 (v 1)) 2 (v 2)) 3 (v 3)) 4 (v 4)) 5 (v 5)) 6 (v 6)) 7 (v 7)) 8 (v 8)) 9 (v 9)) 10 (v 10)) 11 (v 11)) 12 (v 12)) 13 (v 13)) 14 (v 14))
  refine ⟨_, rfl, fun j hj => ?_, k.1, k.2.2.1, k.2.2.2.2⟩
  rw [(k.2.1 j hj).1]
  rcases (show j = 0 ∨ j = 1 ∨ j = 2 ∨ j = 3 ∨ j = 4 ∨ j = 5 ∨ j = 6 ∨ j = 7 ∨ j = 8 ∨ j = 9 ∨ j = 10 ∨ j = 11 ∨ j = 12 ∨ j = 13 ∨ j = 14 by omega) with rfl | rfl | rfl | rfl | rfl | rfl | rfl | rfl | rfl | rfl | rfl | rfl | rfl | rfl | rfl <;> simp [updV]
theorem fin15L {w0 w : World} {O Z B : Nat} {a l cap n v G} {x0 x1 x2 x3 x4 x5 x6 x7 x8 x9 x10 x11 x12 x13 x14 : Value} (h : AXS w0 w O Z B a l cap n v G) (hL : Ls v [x0, x1, x2, x3, x4, x5, x6, x7, x8, x9, x10, x11, x12, x13, x14]) : ∃ U, U = (((((((((((((((w.setCell ⟨Z, 0, none⟩ x0).setCell ⟨Z, 1, none⟩ x1).setCell ⟨Z, 2, none⟩ x2).setCell ⟨Z, 3, none⟩ x3).setCell ⟨Z, 4, none⟩ x4).setCell ⟨Z, 5, none⟩ x5).setCell ⟨Z, 6, none⟩ x6).setCell ⟨Z, 7, none⟩ x7).setCell ⟨Z, 8, none⟩ x8).setCell ⟨Z, 9, none⟩ x9).setCell ⟨Z, 10, none⟩ x10).setCell ⟨Z, 11, none⟩ x11).setCell ⟨Z, 12, none⟩ x12).setCell ⟨Z, 13, none⟩ x13).setCell ⟨Z, 14, none⟩ x14) ∧ (U.cell? ⟨Z, 0, none⟩ = some x0 ∧ U.cell? ⟨Z, 1, none⟩ = some x1 ∧ U.cell? ⟨Z, 2, none⟩ = some x2 ∧ U.cell? ⟨Z, 3, none⟩ = some x3 ∧ U.cell? ⟨Z, 4, none⟩ = some x4 ∧ U.cell? ⟨Z, 5, none⟩ = some x5 ∧ U.cell? ⟨Z, 6, none⟩ = some x6 ∧ U.cell? ⟨Z, 7, none⟩ = some x7 ∧ U.cell? ⟨Z, 8, none⟩ = some x8 ∧ U.cell? ⟨Z, 9, none⟩ = some x9 ∧ U.cell? ⟨Z, 10, none⟩ = some x10 ∧ U.cell? ⟨Z, 11, none⟩ = some x11 ∧ U.cell? ⟨Z, 12, none⟩ = some x12 ∧ U.cell? ⟨Z, 13, none⟩ = some x13 ∧ U.cell? ⟨Z, 14, none⟩ = some x14) ∧ Dc U O a l cap n ∧ DK O w0 U ∧ ∀ q ∈ G, U.cell? q.1 = some q.2 ∧ w0.heap.size ≤ q.1.block ∧ q.1.block ≠ Z := by
  obtain rfl : v 0 = x0 := hL.at rfl
  obtain rfl : v 1 = x1 := hL.at rfl
  obtain rfl : v 2 = x2 := hL.at rfl
  obtain rfl : v 3 = x3 := hL.at rfl
  obtain rfl : v 4 = x4 := hL.at rfl
  obtain rfl : v 5 = x5 := hL.at rfl
  obtain rfl : v 6 = x6 := hL.at rfl
  obtain rfl : v 7 = x7 := hL.at rfl
  obtain rfl : v 8 = x8 := hL.at rfl
  obtain rfl : v 9 = x9 := hL.at rfl
  obtain rfl : v 10 = x10 := hL.at rfl
  obtain rfl : v 11 = x11 := hL.at rfl
  obtain rfl : v 12 = x12 := hL.at rfl
  obtain rfl : v 13 = x13 := hL.at rfl
  obtain rfl : v 14 = x14 := hL.at rfl
  obtain ⟨U, hU, hz, r⟩ := fin15 h
  exact ⟨U, hU, ⟨hz 0 (by decide), hz 1 (by decide), hz 2 (by decide), hz 3 (by decide), hz 4 (by decide), hz 5 (by decide), hz 6 (by decide), hz 7 (by decide), hz 8 (by decide), hz 9 (by decide), hz 10 (by decide), hz 11 (by decide), hz 12 (by decide), hz 13 (by decide), hz 14 (by decide)⟩, r⟩
theorem diceMost3 (O : Nat) (a : Option Addr) (l : List Int) (cap n : Nat) (x y z lo hi : Int) (hn : n ≤ 1000000) (hl : l.length ≤ 100) (hb : (lo ≤ x ∧ x ≤ hi) ∧ (lo ≤ y ∧ y ≤ hi) ∧ lo ≤ z ∧ z ≤ hi) (w : World) (hd : Dc w O a l cap n) :
    Calls Try.prog 28 #[.pointer (some ⟨O, 0, none⟩), .slice (some ⟨w.heap.size, 0, none⟩) 3 3] (w.alloc (.cells #[.int .i64 x, .int .i64 y, .int .i64 z] 3)) fun e w' => (∃ q, e = .returned (.int .i64 q) ∧ lo ≤ q ∧ q ≤ hi) ∧ Dc w' O a l cap (n + 1) ∧ DK O w w' := by
  have hO := hd.lt
  refine (diceMost_any O w.heap.size a l cap n 3 [x, y, z] lo hi hn hl (by simp) (by simp) ?_ (by omega) _ (hd.later (abelow_alloc _ _)) ?_).mono fun e w' h => ⟨h.1, h.2.1, (DK.of_below (abelow_alloc _ _)).trans h.2.2.1⟩
  · intro k hk
    simp only [List.length_cons, List.length_nil] at hk
    rcases (show k = 0 ∨ k = 1 ∨ k = 2 by omega) with rfl | rfl | rfl
    · exact hb.1
    · exact hb.2.1
    · exact hb.2.2
  · intro k hk
    simp only [List.length_cons, List.length_nil] at hk
    rcases (show k = 0 ∨ k = 1 ∨ k = 2 by omega) with rfl | rfl | rfl <;> simp [go_sem]
theorem diceMost2 (O : Nat) (a : Option Addr) (l : List Int) (cap n : Nat) (x y lo hi : Int) (hn : n ≤ 1000000) (hl : l.length ≤ 100) (hb : (lo ≤ x ∧ x ≤ hi) ∧ lo ≤ y ∧ y ≤ hi) (w : World) (hd : Dc w O a l cap n) :
    Calls Try.prog 28 #[.pointer (some ⟨O, 0, none⟩), .slice (some ⟨w.heap.size, 0, none⟩) 2 2] (w.alloc (.cells #[.int .i64 x, .int .i64 y] 3)) fun e w' => (∃ q, e = .returned (.int .i64 q) ∧ lo ≤ q ∧ q ≤ hi) ∧ Dc w' O a l cap (n + 1) ∧ DK O w w' := by
  have hO := hd.lt
  refine (diceMost_any O w.heap.size a l cap n 2 [x, y] lo hi hn hl (by simp) (by simp) ?_ (by omega) _ (hd.later (abelow_alloc _ _)) ?_).mono fun e w' h => ⟨h.1, h.2.1, (DK.of_below (abelow_alloc _ _)).trans h.2.2.1⟩
  · intro k hk
    simp only [List.length_cons, List.length_nil] at hk
    rcases (show k = 0 ∨ k = 1 by omega) with rfl | rfl
    · exact hb.1
    · exact hb.2
  · intro k hk
    simp only [List.length_cons, List.length_nil] at hk
    rcases (show k = 0 ∨ k = 1 by omega) with rfl | rfl <;> simp [go_sem]
theorem diceMost2k (O : Nat) (a : Option Addr) (l : List Int) (cap n K : Nat) (x y lo hi : Int) (hn : n ≤ 1000000) (hl : l.length ≤ 100) (hb : (lo ≤ x ∧ x ≤ hi) ∧ lo ≤ y ∧ y ≤ hi) (w : World) (hK : w.heap.size = K) (hd : Dc w O a l cap n) :
    Calls Try.prog 28 #[.pointer (some ⟨O, 0, none⟩), .slice (some ⟨K, 0, none⟩) 2 2] (w.alloc (.cells #[.int .i64 x, .int .i64 y] 3)) fun e w' => (∃ q, e = .returned (.int .i64 q) ∧ lo ≤ q ∧ q ≤ hi) ∧ Dc w' O a l cap (n + 1) ∧ DK O w w' := by
  subst hK; exact diceMost2 O a l cap n x y lo hi hn hl hb w hd
theorem keep15 {u u' : World} {B : Nat} {x0 x1 x2 x3 x4 x5 x6 x7 x8 x9 x10 x11 x12 x13 x14 : Value} (hb : Below u.heap.size u u') (h : u.cell? ⟨B, 0, none⟩ = some x0 ∧ u.cell? ⟨B, 1, none⟩ = some x1 ∧ u.cell? ⟨B, 2, none⟩ = some x2 ∧ u.cell? ⟨B, 3, none⟩ = some x3 ∧ u.cell? ⟨B, 4, none⟩ = some x4 ∧ u.cell? ⟨B, 5, none⟩ = some x5 ∧ u.cell? ⟨B, 6, none⟩ = some x6 ∧ u.cell? ⟨B, 7, none⟩ = some x7 ∧ u.cell? ⟨B, 8, none⟩ = some x8 ∧ u.cell? ⟨B, 9, none⟩ = some x9 ∧ u.cell? ⟨B, 10, none⟩ = some x10 ∧ u.cell? ⟨B, 11, none⟩ = some x11 ∧ u.cell? ⟨B, 12, none⟩ = some x12 ∧ u.cell? ⟨B, 13, none⟩ = some x13 ∧ u.cell? ⟨B, 14, none⟩ = some x14) : u'.cell? ⟨B, 0, none⟩ = some x0 ∧ u'.cell? ⟨B, 1, none⟩ = some x1 ∧ u'.cell? ⟨B, 2, none⟩ = some x2 ∧ u'.cell? ⟨B, 3, none⟩ = some x3 ∧ u'.cell? ⟨B, 4, none⟩ = some x4 ∧ u'.cell? ⟨B, 5, none⟩ = some x5 ∧ u'.cell? ⟨B, 6, none⟩ = some x6 ∧ u'.cell? ⟨B, 7, none⟩ = some x7 ∧ u'.cell? ⟨B, 8, none⟩ = some x8 ∧ u'.cell? ⟨B, 9, none⟩ = some x9 ∧ u'.cell? ⟨B, 10, none⟩ = some x10 ∧ u'.cell? ⟨B, 11, none⟩ = some x11 ∧ u'.cell? ⟨B, 12, none⟩ = some x12 ∧ u'.cell? ⟨B, 13, none⟩ = some x13 ∧ u'.cell? ⟨B, 14, none⟩ = some x14 := by
  obtain ⟨h0, h1, h2, h3, h4, h5, h6, h7, h8, h9, h10, h11, h12, h13, h14⟩ := h
  exact ⟨cell_later hb h0, cell_later hb h1, cell_later hb h2, cell_later hb h3, cell_later hb h4, cell_later hb h5, cell_later hb h6, cell_later hb h7, cell_later hb h8, cell_later hb h9, cell_later hb h10, cell_later hb h11, cell_later hb h12, cell_later hb h13, cell_later hb h14⟩
theorem keepC {u u' : World} {B j : Nat} {x : Value} (hb : Below u.heap.size u u') (h : u.cell? ⟨B, j, none⟩ = some x) : u'.cell? ⟨B, j, none⟩ = some x := cell_later hb h
theorem keepCs {u : World} {B j k : Nat} {x y : Value} (hk : k ≠ j) (h : u.cell? ⟨B, j, none⟩ = some x) : (u.setCell ⟨B, k, none⟩ y).cell? ⟨B, j, none⟩ = some x := scell_other h (sne_off hk)
theorem diceMost3d (O : Nat) (a : Option Addr) (l : List Int) (cap n : Nat) (x y z lo hi : Int) (hn : n ≤ 1000000) (hl : l.length ≤ 100) (hb : (lo ≤ x ∧ x ≤ hi) ∧ (lo ≤ y ∧ y ≤ hi) ∧ lo ≤ z ∧ z ≤ hi) (w : World) (hd : Dc w O a l cap n) :
    Calls Try.prog 28 #[.pointer (some ⟨O, 0, none⟩), .slice (some ⟨w.heap.size, 0, none⟩) 3 3] (w.alloc (.cells #[.int .i64 x, .int .i64 y, .int .i64 z] 3)).drew fun e w' => (∃ q, e = .returned (.int .i64 q) ∧ lo ≤ q ∧ q ≤ hi) ∧ Dc w' O a l cap (n + 1) ∧ DK O w w' := by
  have hO := hd.lt
  refine (diceMost_any O w.heap.size a l cap n 3 [x, y, z] lo hi hn hl (by simp) (by simp) ?_ (by omega) _ ((hd.later (abelow_alloc _ _)).later (Below.refl _ _).drew) ?_).mono fun e w' h => ⟨h.1, h.2.1, (DK.of_below (abelow_alloc _ _).drew).trans h.2.2.1⟩
  · intro k hk
    simp only [List.length_cons, List.length_nil] at hk
    rcases (show k = 0 ∨ k = 1 ∨ k = 2 by omega) with rfl | rfl | rfl
    · exact hb.1
    · exact hb.2.1
    · exact hb.2.2
  · intro k hk
    simp only [List.length_cons, List.length_nil] at hk
    rcases (show k = 0 ∨ k = 1 ∨ k = 2 by omega) with rfl | rfl | rfl <;> simp [go_sem]
theorem mrun_min3 (ts : Array TypeId) (t : TypeId) (p q r : Int) (w : World) : (Builtin.min_ ts t #[.int .i64 p, .int .i64 q, .int .i64 r]).run Try.prog w = .ok (.int .i64 (mnA (mnA p q) r)) w := by
  unfold mnA
  by_cases h : q < p
  · rw [Int.min_eq_right (show q ≤ p by omega)]
    by_cases h2 : r < q
    · rw [Int.min_eq_right (by omega)]; simp [Builtin.min_, Builtin.min2, h, h2]
    · rw [Int.min_eq_left (by omega)]; simp [Builtin.min_, Builtin.min2, h, h2]
  · rw [Int.min_eq_left (show p ≤ q by omega)]
    by_cases h2 : r < p
    · rw [Int.min_eq_right (by omega)]; simp [Builtin.min_, Builtin.min2, h, h2]
    · rw [Int.min_eq_left (by omega)]; simp [Builtin.min_, Builtin.min2, h, h2]
theorem min3_bd {t c q : Int} (ht : 1 ≤ t) (hc : 1 ≤ c) (hq : 1 ≤ q) (ht' : t ≤ 1000) : 1 ≤ mnA (mnA t c) q + 1 ∧ mnA (mnA t c) q + 1 ≤ 1001 ∧ mnA (mnA t c) q ≤ t ∧ mnA (mnA t c) q ≤ c := by unfold mnA; omega
theorem mrun_min (ts : Array TypeId) (t : TypeId) (p q : Int) (w : World) : (Builtin.min_ ts t #[.int .i64 p, .int .i64 q]).run Try.prog w = .ok (.int .i64 (mnA p q)) w := run_minA ts t p q w

/-- What is behind the axis' second braking. -/
def adrop : Nat → Code → Code
  | n + 1, .seq _ b => adrop n b
  | _, c => c
noncomputable def axisTail : Code := adrop 14 (Try.f45.body.getD .skip)
theorem akont {K : Act → World → Prop} {P : Program} {c : Code} {Q : Exit → Act → World → Prop} {a : Act} {w : World} (h : ∀ a w, Code.wp P c Q a w → K a w) (k : Code.wp P c Q a w) : K a w := h a w k

set_option maxRecDepth 1000000 in
set_option maxHeartbeats 4000000 in
theorem axisTail_any (O : Nat) (a : Option Addr) (l : List Int) (cap n : Nat) (hn : n ≤ 900000) (hl : l.length ≤ 100) (w : World) (_hraw : RawAt a l w.heap.size) (_hO : O < w.heap.size) (ur : World) (B G1 G2 : Nat) (sf tv nz ks pu wa mo cn lm cv tu bu gx gy gz : Int) (x1 : Value) (wi rx : Int) (vr : Nat → Value)
    (bwi : 0 ≤ wi ∧ wi ≤ 150000) (hX : AXS w ur O w.heap.size B a l cap (n + 19) vr [(⟨G2, 0, none⟩, .int .i64 gx), (⟨G2, 1, none⟩, .int .i64 gy), (⟨G1, 0, none⟩, .int .i64 0), (⟨G1, 1, none⟩, .int .i64 gz)]) (hvs : Ls vr [.int .i64 0, .int .i64 0, .int .i64 nz, .int .i64 pu, .int .i64 sf, .int .i64 tv, .int .i64 rx, .int .i64 ks, .int .i64 lm, .int .i64 cv, .int .i64 wa, .int .i64 tu, .slice (some ⟨G1, 0, none⟩) 2 2, .slice (some ⟨G2, 0, none⟩) 2 2, .int .i64 bu]) (brx : 1 ≤ rx ∧ rx ≤ tv)
    (hpr : pu + ks ≤ (sf - 1) * rx) (hwi : wi = 2 * (nz + bk ((sf - 1) * rx) ((sf - 1) * tv + (pu + ks)))) (hgb : (100 ≤ gz ∧ gz ≤ 999) ∧ (0 ≤ gx ∧ gx ≤ 65536) ∧ 0 ≤ gy ∧ gy ≤ 299) (hlm : 2 * nz ≤ lm ∧ lm ≤ 2040) (hcv : 1 ≤ cv ∧ cv ≤ 10) (htb : (0 ≤ tu ∧ tu ≤ 1000) ∧ 0 ≤ bu ∧ bu ≤ 65536)
    (bs : 2 ≤ sf ∧ sf ≤ 4) (bt : 1 ≤ tv ∧ tv ≤ 1000) (bnz : 0 ≤ nz ∧ nz ≤ 1000) (bks : 0 ≤ ks ∧ ks ≤ tv) (bpu : 0 ≤ pu ∧ pu ≤ 1000) (bw : 1 ≤ wa ∧ wa ≤ 10) (u7 u8 u9 u10 u11 u12 u13 u14 u15 u16 u17 u18 u19 u20 u21 u22 u23 u24 u25 u26 u27 u28 u29 u30 u31 u32 u33 u34 u35 u36 u37 u38 u39 u40 u41 u42 u43 u44 u45 u46 u47 u48 u49 u50 u51 u52 u53 u54 u55 u56 u57 u58 u59 u60 u61 u62 u63 u64 u65 u66 u67 u68 u69 u70 u71 u72 u73 u74 u75 u76 u77 u78 u79 u80 u81 u82 u83 u84 u85 u86 u87 u88 u89 u90 u91 u92 u93 u94 u95 u96 u97 u98 u99 u100 u101 u102 u103 u104 u105 u106 u107 u108 u109 u110 u111 u112 u113 u114 u115 u116 u117 u118 u119 u120 u121 u122 u123 u124 u125 u126 u127 u128 u129 u130 u131 u132 u133 u134 u135 u136 u137 u138 u139 u140 u141 u142 u143 u144 u145 u146 u147 u148 u149 : Value) :
    Code.wp Try.prog axisTail (bodyPost Try.prog Try.f45 (fun e w' => (∃ (a0 a1 a2 a3 a4 a5 a6 a7 a8 a9 a10 a11 a14 : Int) (G1 G2 : Nat), e = .returned (.agg #[.int .i64 a0, .int .i64 a1, .int .i64 a2, .int .i64 a3, .int .i64 a4, .int .i64 a5, .int .i64 a6, .int .i64 a7, .int .i64 a8, .int .i64 a9, .int .i64 a10, .int .i64 a11, .slice (some ⟨G1, 0, none⟩) 2 2, .slice (some ⟨G2, 0, none⟩) 2 2, .int .i64 a14]) ∧ AxK a0 a1 a2 a3 a4 a5 a6 a7 a8 a9 a10 a11 a14 ∧ (∃ x y z, GL w' G1 G2 x y z) ∧ w.heap.size ≤ G1 ∧ w.heap.size ≤ G2) ∧ Dc w' O a l cap (n + 22) ∧ DK O w w')) ⟨#[.pointer (some ⟨O, 0, none⟩), x1, .pointer (some ⟨w.heap.size, 0, none⟩), .pointer (some ⟨B, 0, none⟩), .int .i64 mo, .int .i64 cn, .int .i64 wi, u7, u8, u9, u10, u11, u12, u13, u14, u15, u16, u17, u18, u19, u20, u21, u22, u23, u24, u25, u26, u27, u28, u29, u30, u31, u32, u33, u34, u35, u36, u37, u38, u39, u40, u41, u42, u43, u44, u45, u46, u47, u48, u49, u50, u51, u52, u53, u54, u55, u56, u57, u58, u59, u60, u61, u62, u63, u64, u65, u66, u67, u68, u69, u70, u71, u72, u73, u74, u75, u76, u77, u78, u79, u80, u81, u82, u83, u84, u85, u86, u87, u88, u89, u90, u91, u92, u93, u94, u95, u96, u97, u98, u99, u100, u101, u102, u103, u104, u105, u106, u107, u108, u109, u110, u111, u112, u113, u114, u115, u116, u117, u118, u119, u120, u121, u122, u123, u124, u125, u126, u127, u128, u129, u130, u131, u132, u133, u134, u135, u136, u137, u138, u139, u140, u141, u142, u143, u144, u145, u146, u147, u148, u149], []⟩ ur := by
  obtain ⟨wi0, wi1⟩ := bwi
  have HL := ahide hvs
  obtain ⟨rx0, rx1⟩ := brx
  obtain ⟨bs0, bs1⟩ := bs
  obtain ⟨bt0, bt1⟩ := bt
  obtain ⟨nz0, bz⟩ := bnz
  obtain ⟨ks0, bk0⟩ := bks
  obtain ⟨pu0, bp⟩ := bpu
  have m2 := fun ts t p q w => run_minA ts t p q w
  have x2 := fun ts t p q w => run_maxA ts t p q w
  have HX := ahide hX
  have HPR := ahide hpr
  have HWI := ahide hwi
  have HGB := ahide hgb
  have HLM := ahide hlm
  have HCV := ahide hcv
  have HTB := ahide htb
  clear hX hpr hwi hgb hlm hcv htb hvs
  conv => arg 2; whnf
  have TK40 : Hid True := trivial
  have TK41 : Hid True := trivial
  go_upto_region 17 with (first
    | (go_at_call 28; clear TK40; refine (diceMost2 O a l cap (n + 19) 3 3000 1 3000 (by omega) hl ?_ _ HX.out.1).mono ?_; (omega); rintro e y40 ⟨⟨q, rfl, q0, q1⟩, hD, hK⟩; have HX := ahide (AXS.dk HX.out hD hK); clear hD hK)
    | (go_at_call 29; clear TK41; refine (diceN_any O a l cap (n + 20) q (by omega) (by omega) (by omega) hl _ HX.out.1).mono ?_; rintro e y41 ⟨⟨wm, rfl, wm0, wm1⟩, hD, hK, hsz⟩; clear hsz; have HX := ahide (AXS.dk HX.out hD hK); clear hD hK))
  have bv : 0 ≤ wi + wm ∧ wi + wm ≤ 153000 := by omega
  have HWD := ahide (show wi ≤ wi + wm by omega)
  generalize wi + wm = wd at *
  obtain ⟨bv0, bv1⟩ := bv
  clear wi0 wi1 wm0 wm1 q0 q1
  have bmn : 1 ≤ mnA wd 100000 + 1 ∧ mnA wd 100000 + 1 ≤ 100001 := by unfold mnA; omega
  obtain ⟨bmn0, bmn1⟩ := bmn
  have TK42 : Hid True := trivial
  go_upto_region 18 with (go_at_call 29; clear TK42; refine (diceN_any O a l cap (n + 21) (mnA wd 100000 + 1) (by omega) (by omega) (by omega) hl _ HX.out.1).mono ?_; rintro e y42 ⟨⟨lx, rfl, lx0, lx1⟩, hD, hK, hsz⟩; clear hsz; have HX := ahide (AXS.dk HX.out hD hK); clear hD hK; have d0 := (HX.out.2.1 0 (by omega)).1; have f0 := (HX.out.2.1 0 (by omega)).2)
  have HX := ahide (AXS.put (HX.out) 0 (.int .i64 (mxA (-lx) (wd - 200000))))
  have HL := ahide ((HL.out).put 0 (.int .i64 (mxA (-lx) (wd - 200000))))
  generalize (updV vr 0 (.int .i64 (mxA (-lx) (wd - 200000)))) = v43 at HX HL
  generalize y42.setCell ⟨B, 0, none⟩ (.int .i64 (mxA (-lx) (wd - 200000))) = u43 at *
  have bmx : mnA wd 100000 ≤ wd ∧ mnA wd 100000 ≤ 100000 := by unfold mnA; omega
  have bl : -100000 ≤ mxA (-lx) (wd - 200000) ∧ mxA (-lx) (wd - 200000) ≤ 0 := by unfold mxA; omega
  have HLW := ahide (show 0 ≤ mxA (-lx) (wd - 200000) + wd by unfold mxA; omega)
  generalize mxA (-lx) (wd - 200000) = lo at *
  obtain ⟨bl0, bl1⟩ := bl
  clear lx0 lx1 bmn0 bmn1 bmx d0 f0
  have c0 := AXS.ld HX.out HL.out (j := 0) (x := .int .i64 lo) rfl
  have d1 := (HX.out.2.1 1 (by omega)).1
  have f1 := (HX.out.2.1 1 (by omega)).2
  go_upto_region 19 with fail
  have HX := ahide (AXS.put (HX.out) 1 (.int .i64 (lo + wd)))
  have HL := ahide ((HL.out).put 1 (.int .i64 (lo + wd)))
  generalize (updV v43 1 (.int .i64 (lo + wd))) = v45 at HX HL
  generalize u43.setCell ⟨B, 1, none⟩ (.int .i64 (lo + wd)) = u45 at *
  clear c0 d1 f1
  by_cases hh : 100000 < lo + wd
  · skip
    have c1 := AXS.ld HX.out HL.out (j := 1) (x := .int .i64 (lo + wd)) rfl
    have d0 := (HX.out.2.1 0 (by omega)).1
    have f0 := (HX.out.2.1 0 (by omega)).2
    have d1 := (HX.out.2.1 1 (by omega)).1
    have f1 := (HX.out.2.1 1 (by omega)).2
    go_upto_region 21 with fail
    have HX := ahide (AXS.put (AXS.put (HX.out) 0 (.int .i64 (100000 - wd))) 1 (.int .i64 100000))
    have HL := ahide (((HL.out).put 0 (.int .i64 (100000 - wd))).put 1 (.int .i64 100000))
    generalize (updV (updV v45 0 (.int .i64 (100000 - wd))) 1 (.int .i64 100000)) = v46 at HX HL
    generalize (u45.setCell ⟨B, 0, none⟩ (.int .i64 (100000 - wd))).setCell ⟨B, 1, none⟩ (.int .i64 100000) = u46 at *
    clear c1 d0 f0 d1 f1
    have HL : Hid (Ls v46 [.int .i64 (100000 - wd), .int .i64 100000, .int .i64 nz, .int .i64 pu, .int .i64 sf, .int .i64 tv, .int .i64 rx, .int .i64 ks, .int .i64 lm, .int .i64 cv, .int .i64 wa, .int .i64 tu, .slice (some ⟨G1, 0, none⟩) 2 2, .slice (some ⟨G2, 0, none⟩) 2 2, .int .i64 bu]) := HL
    obtain ⟨c0, c1, c2, c3, c4, c5, c6, c7, c8, c9, c10, c11, c12, c13, c14⟩ := AXS.all HX.out HL.out
    obtain ⟨⟨d0, f0⟩, ⟨d1, f1⟩, ⟨d2, f2⟩, ⟨d3, f3⟩, ⟨d4, f4⟩, ⟨d5, f5⟩, ⟨d6, f6⟩, ⟨d7, f7⟩, ⟨d8, f8⟩, ⟨d9, f9⟩, ⟨d10, f10⟩, ⟨d11, f11⟩, ⟨d12, f12⟩, ⟨d13, f13⟩, ⟨d14, f14⟩⟩ := AXS.zer HX.out
    obtain ⟨U, hU, hz, hD, hK, hG⟩ := fin15L HX.out HL.out
    have HU := ahide hU
    have HZZ := ahide hz
    have HDD := ahide hD
    have HKK := ahide hK
    have HGG := ahide hG
    clear HX hU hz hD hK hG
    go_wp2_with fail
    rw [← HU.out]
    obtain ⟨z0, z1, z2, z3, z4, z5, z6, z7, z8, z9, z10, z11, z12, z13, z14⟩ := HZZ.out
    refine bodyPost_ret (v := .agg #[.int .i64 (100000 - wd), .int .i64 100000, .int .i64 nz, .int .i64 pu, .int .i64 sf, .int .i64 tv, .int .i64 rx, .int .i64 ks, .int .i64 lm, .int .i64 cv, .int .i64 wa, .int .i64 tu, .slice (some ⟨G1, 0, none⟩) 2 2, .slice (some ⟨G2, 0, none⟩) 2 2, .int .i64 bu]) ?_ rfl ⟨⟨_, _, _, _, _, _, _, _, _, _, _, _, _, G1, G2, rfl, ?_, ⟨gz, gx, gy, ⟨(HGG.out (⟨G1, 0, none⟩, .int .i64 0) (by simp)).1, (HGG.out (⟨G1, 1, none⟩, .int .i64 gz) (by simp)).1, (HGG.out (⟨G2, 0, none⟩, .int .i64 gx) (by simp)).1, (HGG.out (⟨G2, 1, none⟩, .int .i64 gy) (by simp)).1⟩, HGB.out⟩, (HGG.out (⟨G1, 0, none⟩, .int .i64 0) (by simp)).2.1, (HGG.out (⟨G2, 0, none⟩, .int .i64 gx) (by simp)).2.1⟩, HDD.out, HKK.out⟩
    · simp [results, Try.results45, go_sem, z0, z1, z2, z3, z4, z5, z6, z7, z8, z9, z10, z11, z12, z13, z14]
    · have e1 := HLM.out; have e2 := HCV.out; have e3 := HTB.out; have e4 := HLW.out; have e5 := HWD.out; have e6 := HPR.out; have e7 := HWI.out; constructor <;> omega
  · skip
    have c1 := AXS.ld HX.out HL.out (j := 1) (x := .int .i64 (lo + wd)) rfl
    go_upto_region 21 with fail
    clear c1
    have HL : Hid (Ls v45 [.int .i64 lo, .int .i64 (lo + wd), .int .i64 nz, .int .i64 pu, .int .i64 sf, .int .i64 tv, .int .i64 rx, .int .i64 ks, .int .i64 lm, .int .i64 cv, .int .i64 wa, .int .i64 tu, .slice (some ⟨G1, 0, none⟩) 2 2, .slice (some ⟨G2, 0, none⟩) 2 2, .int .i64 bu]) := HL
    obtain ⟨c0, c1, c2, c3, c4, c5, c6, c7, c8, c9, c10, c11, c12, c13, c14⟩ := AXS.all HX.out HL.out
    obtain ⟨⟨d0, f0⟩, ⟨d1, f1⟩, ⟨d2, f2⟩, ⟨d3, f3⟩, ⟨d4, f4⟩, ⟨d5, f5⟩, ⟨d6, f6⟩, ⟨d7, f7⟩, ⟨d8, f8⟩, ⟨d9, f9⟩, ⟨d10, f10⟩, ⟨d11, f11⟩, ⟨d12, f12⟩, ⟨d13, f13⟩, ⟨d14, f14⟩⟩ := AXS.zer HX.out
    obtain ⟨U, hU, hz, hD, hK, hG⟩ := fin15L HX.out HL.out
    have HU := ahide hU
    have HZZ := ahide hz
    have HDD := ahide hD
    have HKK := ahide hK
    have HGG := ahide hG
    clear HX hU hz hD hK hG
    go_wp2_with fail
    rw [← HU.out]
    obtain ⟨z0, z1, z2, z3, z4, z5, z6, z7, z8, z9, z10, z11, z12, z13, z14⟩ := HZZ.out
    refine bodyPost_ret (v := .agg #[.int .i64 lo, .int .i64 (lo + wd), .int .i64 nz, .int .i64 pu, .int .i64 sf, .int .i64 tv, .int .i64 rx, .int .i64 ks, .int .i64 lm, .int .i64 cv, .int .i64 wa, .int .i64 tu, .slice (some ⟨G1, 0, none⟩) 2 2, .slice (some ⟨G2, 0, none⟩) 2 2, .int .i64 bu]) ?_ rfl ⟨⟨_, _, _, _, _, _, _, _, _, _, _, _, _, G1, G2, rfl, ?_, ⟨gz, gx, gy, ⟨(HGG.out (⟨G1, 0, none⟩, .int .i64 0) (by simp)).1, (HGG.out (⟨G1, 1, none⟩, .int .i64 gz) (by simp)).1, (HGG.out (⟨G2, 0, none⟩, .int .i64 gx) (by simp)).1, (HGG.out (⟨G2, 1, none⟩, .int .i64 gy) (by simp)).1⟩, HGB.out⟩, (HGG.out (⟨G1, 0, none⟩, .int .i64 0) (by simp)).2.1, (HGG.out (⟨G2, 0, none⟩, .int .i64 gx) (by simp)).2.1⟩, HDD.out, HKK.out⟩
    · simp [results, Try.results45, go_sem, z0, z1, z2, z3, z4, z5, z6, z7, z8, z9, z10, z11, z12, z13, z14]
    · have e1 := HLM.out; have e2 := HCV.out; have e3 := HTB.out; have e4 := HLW.out; have e5 := HWD.out; have e6 := HPR.out; have e7 := HWI.out; constructor <;> omega

end Go.Proofs.Ythijegfacnjooaa
