/-
  What fulmarref.axisFrom works on: the dice, the axis, the room for the answer.
-/
import Derived.Test.YthijegfacnjooaaMadeA
import Derived.Test.YthijegfacnjooaaGuardA
namespace Go.Proofs.Ythijegfacnjooaa
open Go.RowKit Plain

/-- Fifteen values lie in a block, and may be written. -/
def AxV (w : World) (B : Nat) (v : Nat → Value) : Prop := ∀ j, j < 15 → w.cell? ⟨B, j, none⟩ = some (v j) ∧ w.frozen? ⟨B, j, none⟩ = false
def updV (v : Nat → Value) (k : Nat) (x : Value) (j : Nat) : Value := if j = k then x else v j
theorem updV_same (v : Nat → Value) (k : Nat) (x : Value) : updV v k x k = x := if_pos rfl
theorem updV_other {v : Nat → Value} {k j : Nat} {x y : Value} (h : v j = y) (hj : j ≠ k) : updV v k x j = y := (if_neg hj).trans h
theorem AxV.lt {w : World} {B : Nat} {v : Nat → Value} (h : AxV w B v) : B < w.heap.size := World.block_lt_of_cell? w ⟨B, 0, none⟩ (h 0 (by omega)).1
theorem AxV.later {w w' : World} {B : Nat} {v : Nat → Value} (h : AxV w B v) (hb : Below w.heap.size w w') : AxV w' B v := fun j hj => ⟨cell_later hb (h j hj).1, (hb.frozen (p := ⟨B, j, none⟩) h.lt).trans (h j hj).2⟩
theorem AxV.dk {w w' : World} {O B : Nat} {v : Nat → Value} (h : AxV w B v) (hk : DK O w w') (hB : B ≠ O) : AxV w' B v := fun j hj =>
  ⟨hk.cell (p := ⟨B, j, none⟩) hB (h j hj).1, (World.frozen?_of_block (w := w) (a := ⟨B, j, none⟩) (hk.block B h.lt hB)).trans (h j hj).2⟩
theorem AxV.put {w : World} {B : Nat} {v : Nat → Value} (h : AxV w B v) (k : Nat) (x : Value) : AxV (w.setCell ⟨B, k, none⟩ x) B (updV v k x) := fun j hj => by
  refine ⟨?_, by simpa [go_sem] using (h j hj).2⟩
  by_cases e : j = k
  · subst e; rw [updV_same]; exact scell_same (h j hj).1
  · rw [updV_other rfl e]; exact scell_other (h j hj).1 (sne_off (Ne.symm e))
theorem AxV.set {w : World} {B C q : Nat} {v : Nat → Value} {x : Value} (h : AxV w B v) (hC : C ≠ B) : AxV (w.setCell ⟨C, q, none⟩ x) B v := fun j hj =>
  ⟨scell_other (h j hj).1 (sne_blk hC), by simpa [go_sem] using (h j hj).2⟩
theorem Dc.set {w : World} {O C q : Nat} {a : Option Addr} {l : List Int} {cap n : Nat} {x : Value} (h : Dc w O a l cap n) (hC : C ≠ O) (hl : ∀ b off, a = some ⟨b, off, none⟩ → l ≠ [] → b ≠ C) : Dc (w.setCell ⟨C, q, none⟩ x) O a l cap n :=
  ⟨⟨scell_other h.1.1 (sne_blk hC), scell_other h.1.2 (sne_blk hC)⟩, by simpa [go_sem] using h.2.1, h.2.2.1.dset hl, h.2.2.2⟩
theorem DK.sets {O C q K : Nat} {w0 w : World} {x : Value} (h : DK O w0 w) (hK : w0.heap.size = K) (hC : K ≤ C) : DK O w0 (w.setCell ⟨C, q, none⟩ x) :=
  ⟨h.os, h.tape, h.output, by simpa using h.size, fun k hk ho => (Below.heap_setCell w ⟨C, q, none⟩ x k (by simp; omega)).trans (h.block k hk ho)⟩
/-- The zero axis. -/
def zV (j : Nat) : Value := if j = 12 then .slice none 0 0 else if j = 13 then .slice none 0 0 else .int .i64 0
/-- Raw numbers lie ahead of K. -/
def RawAt (a : Option Addr) (l : List Int) (K : Nat) : Prop := ∀ b off, a = some ⟨b, off, none⟩ → l ≠ [] → b < K
/-- All of it: the dice in O, the answer's room in Z, the axis in B. -/
def Gk (w0 w : World) (Z B : Nat) (G : List (Addr × Value)) : Prop := ∀ x ∈ G, w.cell? x.1 = some x.2 ∧ w0.heap.size ≤ x.1.block ∧ x.1.block ≠ Z ∧ x.1.block ≠ B
def AXS (w0 w : World) (O Z B : Nat) (a : Option Addr) (l : List Int) (cap n : Nat) (v : Nat → Value) (G : List (Addr × Value)) : Prop :=
  Dc w O a l cap n ∧ AxV w B v ∧ AxV w Z zV ∧ DK O w0 w ∧ (O < w0.heap.size ∧ w0.heap.size ≤ Z ∧ Z < B ∧ RawAt a l w0.heap.size) ∧ Gk w0 w Z B G
theorem AXS.later {w0 w w' : World} {O Z B : Nat} {a l cap n v G} (h : AXS w0 w O Z B a l cap n v G) (hb : Below w.heap.size w w') : AXS w0 w' O Z B a l cap n v G :=
  ⟨h.1.later hb, h.2.1.later hb, h.2.2.1.later hb, h.2.2.2.1.trans (DK.of_below hb), h.2.2.2.2.1, fun x hx => ⟨cell_later hb (h.2.2.2.2.2 x hx).1, (h.2.2.2.2.2 x hx).2⟩⟩
theorem AXS.dk {w0 w w' : World} {O Z B : Nat} {a l cap n m v G} (h : AXS w0 w O Z B a l cap n v G) (hD : Dc w' O a l cap m) (hk : DK O w w') : AXS w0 w' O Z B a l cap m v G :=
  ⟨hD, h.2.1.dk hk (by have := h.2.2.2.2.1; omega), h.2.2.1.dk hk (by have := h.2.2.2.2.1; omega), h.2.2.2.1.trans hk, h.2.2.2.2.1, fun x hx => ⟨hk.cell (by have := h.2.2.2.2.1; have := (h.2.2.2.2.2 x hx).2.1; omega) (h.2.2.2.2.2 x hx).1, (h.2.2.2.2.2 x hx).2⟩⟩
theorem gset {w : World} {C q : Nat} {x : Addr} {y c : Value} (h : w.cell? x = some c) (hb : x.block ≠ C) : (w.setCell ⟨C, q, none⟩ y).cell? x = some c :=
  (World.cell?_setCell_other _ _ _ _ (fun e => hb (congrArg Addr.block e).symm)).trans h
theorem AXS.put {w0 w : World} {O Z B : Nat} {a l cap n v G} (h : AXS w0 w O Z B a l cap n v G) (k : Nat) (x : Value) : AXS w0 (w.setCell ⟨B, k, none⟩ x) O Z B a l cap n (updV v k x) G := by
  obtain ⟨h1, h2, h3, h4, ⟨h5, h6, h7, h8⟩, h9⟩ := h
  exact ⟨h1.set (by omega) (fun b off e hl => by have := h8 b off e hl; omega), h2.put k x, h3.set (by omega), h4.sets rfl (by omega), ⟨h5, h6, h7, h8⟩, fun y hy => ⟨gset (h9 y hy).1 (h9 y hy).2.2.2, (h9 y hy).2⟩⟩
/-- Two numbers more in a new block. -/
theorem AXS.grow {w0 w : World} {O Z B : Nat} {a l cap n v G} (h : AXS w0 w O Z B a l cap n v G) (x y : Int) (t : TypeId) : AXS w0 (w.alloc (.cells #[.int .i64 x, .int .i64 y] t)) O Z B a l cap n v ((⟨w.heap.size, 0, none⟩, .int .i64 x) :: (⟨w.heap.size, 1, none⟩, .int .i64 y) :: G) := by
  have k := h.later (abelow_alloc w (.cells #[.int .i64 x, .int .i64 y] t))
  have hZ := h.2.2.1.lt
  have hB := h.2.1.lt
  have hs := h.2.2.2.1.size
  refine ⟨k.1, k.2.1, k.2.2.1, k.2.2.2.1, k.2.2.2.2.1, fun q hq => ?_⟩
  rcases List.mem_cons.1 hq with rfl | hq
  · exact ⟨by simp [go_sem], hs, by simp; omega, by simp; omega⟩
  · rcases List.mem_cons.1 hq with rfl | hq
    · exact ⟨by simp [go_sem], hs, by simp; omega, by simp; omega⟩
    · exact k.2.2.2.2.2 q hq
theorem ax_new (w : World) (s t : Int) (ty : TypeId) : AxV (w.alloc (.cells #[.int .i64 0, .int .i64 0, .int .i64 0, .int .i64 0, .int .i64 s, .int .i64 t, .int .i64 0, .int .i64 0, .int .i64 0, .int .i64 0, .int .i64 0, .int .i64 0, .slice none 0 0, .slice none 0 0, .int .i64 0] ty)) w.heap.size (updV (updV zV 4 (.int .i64 s)) 5 (.int .i64 t)) := by
  intro j hj
  refine ⟨?_, by simp [go_sem]⟩
  rcases (show j = 0 ∨ j = 1 ∨ j = 2 ∨ j = 3 ∨ j = 4 ∨ j = 5 ∨ j = 6 ∨ j = 7 ∨ j = 8 ∨ j = 9 ∨ j = 10 ∨ j = 11 ∨ j = 12 ∨ j = 13 ∨ j = 14 by omega) with rfl | rfl | rfl | rfl | rfl | rfl | rfl | rfl | rfl | rfl | rfl | rfl | rfl | rfl | rfl <;> simp [go_sem, updV, zV]
theorem ax_zero (w : World) (ty : TypeId) : AxV (w.alloc (.cells #[.int .i64 0, .int .i64 0, .int .i64 0, .int .i64 0, .int .i64 0, .int .i64 0, .int .i64 0, .int .i64 0, .int .i64 0, .int .i64 0, .int .i64 0, .int .i64 0, .slice none 0 0, .slice none 0 0, .int .i64 0] ty)) w.heap.size zV := by
  intro j hj
  refine ⟨?_, by simp [go_sem]⟩
  rcases (show j = 0 ∨ j = 1 ∨ j = 2 ∨ j = 3 ∨ j = 4 ∨ j = 5 ∨ j = 6 ∨ j = 7 ∨ j = 8 ∨ j = 9 ∨ j = 10 ∨ j = 11 ∨ j = 12 ∨ j = 13 ∨ j = 14 by omega) with rfl | rfl | rfl | rfl | rfl | rfl | rfl | rfl | rfl | rfl | rfl | rfl | rfl | rfl | rfl <;> simp [go_sem, zV]
/-- All but the two of the line are numbers. -/
def IntV (v : Nat → Value) : Prop := ∀ j, j < 15 → j ≠ 12 → j ≠ 13 → ∃ x, v j = .int .i64 x
theorem IntV.zero : IntV zV := fun j _ h1 h2 => ⟨0, by unfold zV; rw [if_neg h1, if_neg h2]⟩
theorem IntV.put {v : Nat → Value} (h : IntV v) (k : Nat) (x : Int) : IntV (updV v k (.int .i64 x)) := fun j hj h1 h2 => by
  by_cases e : j = k
  · subst e; exact ⟨x, updV_same _ _ _⟩
  · obtain ⟨y, hy⟩ := h j hj h1 h2; exact ⟨y, updV_other hy e⟩
theorem IntV.line {v : Nat → Value} (h : IntV v) (x y : Value) : IntV (updV (updV v 12 x) 13 y) := fun j hj h1 h2 => by
  obtain ⟨z, hz⟩ := h j hj h1 h2; exact ⟨z, updV_other (updV_other hz h1) h2⟩
/-- How great the numbers of an axis are. -/
structure AxOK (a0 a1 a2 a3 a4 a5 a6 a7 a10 : Int) : Prop where
  lo : -140000000 ≤ a0
  lh : a0 ≤ a1
  hi : a1 ≤ 100000
  n0 : 0 ≤ a2
  n1 : a2 ≤ 1000
  p0 : 0 ≤ a3
  p1 : a3 ≤ 1000
  s0 : 2 ≤ a4
  s1 : a4 ≤ 4
  t0 : 1 ≤ a5
  t1 : a5 ≤ 1000
  r0 : 1 ≤ a6
  r1 : a6 ≤ a5
  k0 : 0 ≤ a7
  k1 : a7 ≤ a5
  w0 : 1 ≤ a10
  w1 : a10 ≤ 10
/-- An axis that may be. -/
structure AxK (a0 a1 a2 a3 a4 a5 a6 a7 a8 a9 a10 a11 a14 : Int) : Prop where
  lo : -100000 ≤ a0
  lz : a0 ≤ 0
  hz : 0 ≤ a1
  hi : a1 ≤ 100000
  n0 : 0 ≤ a2
  n1 : a2 ≤ 1000
  p0 : 0 ≤ a3
  p1 : a3 ≤ 1000
  s0 : 2 ≤ a4
  s1 : a4 ≤ 4
  t0 : 1 ≤ a5
  t1 : a5 ≤ 1000
  r0 : 1 ≤ a6
  r1 : a6 ≤ a5
  k0 : 0 ≤ a7
  k1 : a7 ≤ a5
  l0 : 2 * a2 ≤ a8
  l1 : a8 ≤ 2040
  c0 : 1 ≤ a9
  c1 : a9 ≤ 10
  w0 : 1 ≤ a10
  w1 : a10 ≤ 10
  u0 : 0 ≤ a11
  u1 : a11 ≤ 1000
  b0 : 0 ≤ a14
  b1 : a14 ≤ 65536
  pr : a3 + a7 ≤ (a4 - 1) * a6
  room : 2 * (a2 + bk ((a4 - 1) * a6) ((a4 - 1) * a5 + (a3 + a7))) ≤ a1 - a0
theorem AxK.ok {a0 a1 a2 a3 a4 a5 a6 a7 a8 a9 a10 a11 a14 : Int} (h : AxK a0 a1 a2 a3 a4 a5 a6 a7 a8 a9 a10 a11 a14) : AxOK a0 a1 a2 a3 a4 a5 a6 a7 a10 := by
  have := h.lo; have := h.lz; have := h.hz; have := h.hi
  exact ⟨by omega, by omega, by omega, h.n0, h.n1, h.p0, h.p1, h.s0, h.s1, h.t0, h.t1, h.r0, h.r1, h.k0, h.k1, h.w0, h.w1⟩
/-- The line of an axis that was made: at 0 and at x it is y and z. -/
def GL (w : World) (G1 G2 : Nat) (x y z : Int) : Prop := (w.cell? ⟨G1, 0, none⟩ = some (.int .i64 0) ∧ w.cell? ⟨G1, 1, none⟩ = some (.int .i64 x) ∧ w.cell? ⟨G2, 0, none⟩ = some (.int .i64 y) ∧ w.cell? ⟨G2, 1, none⟩ = some (.int .i64 z)) ∧ (100 ≤ x ∧ x ≤ 999) ∧ (0 ≤ y ∧ y ≤ 65536) ∧ 0 ≤ z ∧ z ≤ 299
theorem GL.later {w w' : World} {G1 G2 : Nat} {x y z : Int} (h : GL w G1 G2 x y z) (hb : Below w.heap.size w w') : GL w' G1 G2 x y z :=
  ⟨⟨cell_later hb h.1.1, cell_later hb h.1.2.1, cell_later hb h.1.2.2.1, cell_later hb h.1.2.2.2⟩, h.2⟩
theorem bk_all {R P : Int} (hR : 0 < R) (p0 : 0 ≤ P) (p1 : P ≤ R) : bk R (R + P) ≤ R + 2 * P := by
  rw [bk_pos hR (by omega), show R + P - R = P by omega]
  by_cases h : 0 < P
  · rw [bk_pos hR h, bk_none (by omega)]; omega
  · rw [bk_none (by omega)]; omega
/-- All fifteen of them, one by one. -/
def Ls (v : Nat → Value) (L : List Value) : Prop := ∀ j, j < 15 → L[j]? = some (v j)
theorem Ls.at {v : Nat → Value} {L : List Value} (h : Ls v L) {j : Nat} {x : Value} (e : L[j]? = some x) (hj : j < 15 := by decide) : v j = x := Option.some.inj ((h j hj).symm.trans e)
theorem Ls.put {v : Nat → Value} {L : List Value} (h : Ls v L) (k : Nat) (x : Value) : Ls (updV v k x) (L.set k x) := fun j hj => by
  have hl : j < L.length := (List.getElem?_eq_some_iff.1 (h j hj)).1
  by_cases e : j = k
  · subst e; rw [updV_same, List.getElem?_set_self hl]
  · rw [updV_other rfl e, List.getElem?_set_ne (Ne.symm e)]; exact h j hj
theorem ls_zero : Ls zV [.int .i64 0, .int .i64 0, .int .i64 0, .int .i64 0, .int .i64 0, .int .i64 0, .int .i64 0, .int .i64 0, .int .i64 0, .int .i64 0, .int .i64 0, .int .i64 0, .slice none 0 0, .slice none 0 0, .int .i64 0] := fun j hj => by
  rcases (show j = 0 ∨ j = 1 ∨ j = 2 ∨ j = 3 ∨ j = 4 ∨ j = 5 ∨ j = 6 ∨ j = 7 ∨ j = 8 ∨ j = 9 ∨ j = 10 ∨ j = 11 ∨ j = 12 ∨ j = 13 ∨ j = 14 by omega) with rfl | rfl | rfl | rfl | rfl | rfl | rfl | rfl | rfl | rfl | rfl | rfl | rfl | rfl | rfl <;> rfl
theorem AXS.ld {w0 w : World} {O Z B : Nat} {a l cap n v G} {L : List Value} (h : AXS w0 w O Z B a l cap n v G) (hL : Ls v L) {j : Nat} {x : Value} (e : L[j]? = some x) (hj : j < 15 := by decide) : w.cell? ⟨B, j, none⟩ = some x := by rw [(h.2.1 j hj).1, hL.at e hj]
theorem AXS.all {w0 w : World} {O Z B : Nat} {a l cap n v G} {x0 x1 x2 x3 x4 x5 x6 x7 x8 x9 x10 x11 x12 x13 x14 : Value} (h : AXS w0 w O Z B a l cap n v G) (hL : Ls v [x0, x1, x2, x3, x4, x5, x6, x7, x8, x9, x10, x11, x12, x13, x14]) : w.cell? ⟨B, 0, none⟩ = some x0 ∧ w.cell? ⟨B, 1, none⟩ = some x1 ∧ w.cell? ⟨B, 2, none⟩ = some x2 ∧ w.cell? ⟨B, 3, none⟩ = some x3 ∧ w.cell? ⟨B, 4, none⟩ = some x4 ∧ w.cell? ⟨B, 5, none⟩ = some x5 ∧ w.cell? ⟨B, 6, none⟩ = some x6 ∧ w.cell? ⟨B, 7, none⟩ = some x7 ∧ w.cell? ⟨B, 8, none⟩ = some x8 ∧ w.cell? ⟨B, 9, none⟩ = some x9 ∧ w.cell? ⟨B, 10, none⟩ = some x10 ∧ w.cell? ⟨B, 11, none⟩ = some x11 ∧ w.cell? ⟨B, 12, none⟩ = some x12 ∧ w.cell? ⟨B, 13, none⟩ = some x13 ∧ w.cell? ⟨B, 14, none⟩ = some x14 :=
  ⟨h.ld hL rfl, h.ld hL rfl, h.ld hL rfl, h.ld hL rfl, h.ld hL rfl, h.ld hL rfl, h.ld hL rfl, h.ld hL rfl, h.ld hL rfl, h.ld hL rfl, h.ld hL rfl, h.ld hL rfl, h.ld hL rfl, h.ld hL rfl, h.ld hL rfl⟩
theorem AXS.zer {w0 w : World} {O Z B : Nat} {a l cap n v G} (h : AXS w0 w O Z B a l cap n v G) : (w.cell? ⟨Z, 0, none⟩ = some (zV 0) ∧ w.frozen? ⟨Z, 0, none⟩ = false) ∧ (w.cell? ⟨Z, 1, none⟩ = some (zV 1) ∧ w.frozen? ⟨Z, 1, none⟩ = false) ∧ (w.cell? ⟨Z, 2, none⟩ = some (zV 2) ∧ w.frozen? ⟨Z, 2, none⟩ = false) ∧ (w.cell? ⟨Z, 3, none⟩ = some (zV 3) ∧ w.frozen? ⟨Z, 3, none⟩ = false) ∧ (w.cell? ⟨Z, 4, none⟩ = some (zV 4) ∧ w.frozen? ⟨Z, 4, none⟩ = false) ∧ (w.cell? ⟨Z, 5, none⟩ = some (zV 5) ∧ w.frozen? ⟨Z, 5, none⟩ = false) ∧ (w.cell? ⟨Z, 6, none⟩ = some (zV 6) ∧ w.frozen? ⟨Z, 6, none⟩ = false) ∧ (w.cell? ⟨Z, 7, none⟩ = some (zV 7) ∧ w.frozen? ⟨Z, 7, none⟩ = false) ∧ (w.cell? ⟨Z, 8, none⟩ = some (zV 8) ∧ w.frozen? ⟨Z, 8, none⟩ = false) ∧ (w.cell? ⟨Z, 9, none⟩ = some (zV 9) ∧ w.frozen? ⟨Z, 9, none⟩ = false) ∧ (w.cell? ⟨Z, 10, none⟩ = some (zV 10) ∧ w.frozen? ⟨Z, 10, none⟩ = false) ∧ (w.cell? ⟨Z, 11, none⟩ = some (zV 11) ∧ w.frozen? ⟨Z, 11, none⟩ = false) ∧ (w.cell? ⟨Z, 12, none⟩ = some (zV 12) ∧ w.frozen? ⟨Z, 12, none⟩ = false) ∧ (w.cell? ⟨Z, 13, none⟩ = some (zV 13) ∧ w.frozen? ⟨Z, 13, none⟩ = false) ∧ (w.cell? ⟨Z, 14, none⟩ = some (zV 14) ∧ w.frozen? ⟨Z, 14, none⟩ = false) :=
  ⟨h.2.2.1 0 (by decide), h.2.2.1 1 (by decide), h.2.2.1 2 (by decide), h.2.2.1 3 (by decide), h.2.2.1 4 (by decide), h.2.2.1 5 (by decide), h.2.2.1 6 (by decide), h.2.2.1 7 (by decide), h.2.2.1 8 (by decide), h.2.2.1 9 (by decide), h.2.2.1 10 (by decide), h.2.2.1 11 (by decide), h.2.2.1 12 (by decide), h.2.2.1 13 (by decide), h.2.2.1 14 (by decide)⟩
/-- The two of the line are slices. -/
def SlcV (v : Nat → Value) : Prop := (∃ p l c, v 12 = .slice p l c) ∧ ∃ p l c, v 13 = .slice p l c
theorem SlcV.put {v : Nat → Value} (h : SlcV v) (k : Nat) (x : Value) (hk : 12 ≠ k) (hk' : 13 ≠ k) : SlcV (updV v k x) := by
  obtain ⟨⟨p, l, c, e⟩, q, m, d, f⟩ := h
  exact ⟨⟨p, l, c, updV_other e hk⟩, q, m, d, updV_other f hk'⟩

end Go.Proofs.Ythijegfacnjooaa
