/-
  What HoldMade works on: a rule made of raw numbers, dice, a state, an ask.
-/
import Derived.Test.YtheihcpacpoliaaHoldY
import Derived.Test.YtheihcpacpoliaaMadeC
namespace Go.Proofs.Ytheihcpacpoliaa
open Go.RowKit Plain

theorem hmul_bd {s t : Int} (s0 : 2 ≤ s) (s1 : s ≤ 4) (t0 : 1 ≤ t) (t1 : t ≤ 1000) : 1 ≤ (s - 1) * t ∧ (s - 1) * t ≤ 3000 := by
  rcases (show s = 2 ∨ s = 3 ∨ s = 4 by omega) with rfl | rfl | rfl <;> omega
set_option maxHeartbeats 1000000 in
theorem mholdRule_any (b0 b1 b2 b3 b4 b5 b6 b7 b8 b9 b10 b11 b14 : Int) (ga gi : Value) (s0 : 2 ≤ b4) (s1 : b4 ≤ 4) (t0 : 1 ≤ b5) (t1 : b5 ≤ 1000) (x1 : ∃ p l c, ga = .slice p l c) (x2 : ∃ p l c, gi = .slice p l c) (w : World) :
    Calls Try.prog 12 #[.agg #[.int .i64 b0, .int .i64 b1, .int .i64 b2, .int .i64 b3, .int .i64 b4, .int .i64 b5, .int .i64 b6, .int .i64 b7, .int .i64 b8, .int .i64 b9, .int .i64 b10, .int .i64 b11, ga, gi, .int .i64 b14]] w
      fun e w' => e = .returned (.agg #[.int .i64 b0, .int .i64 b1, .int .i64 b11, .int .i64 b14, .int .i64 ((b4 - 1) * b5), ga, gi]) ∧ Below w.heap.size w w' := by
  have b5' := hmul_bd s0 s1 t0 t1
  obtain ⟨m0, m1⟩ := b5'
  have v5 : IntKind.i64.wrap ((b4 - 1) * b5) = (b4 - 1) * b5 := swrap_id (by omega) (by omega)
  obtain ⟨p, l, c, rfl⟩ := x1
  obtain ⟨q, m, d, rfl⟩ := x2
  go_enter Try.func12, Try.ntmps12
  go_wp2
  exact bodyPost_ret (v := .agg #[.int .i64 b0, .int .i64 b1, .int .i64 b11, .int .i64 b14, .int .i64 ((b4 - 1) * b5), .slice p l c, .slice q m d]) (by simp [results, Try.results12, go_sem]) rfl ⟨rfl, abelow_up (abelow_alloc _ _) (abelow_alloc _ _)⟩
theorem craft_second (a : Option Addr) (l : List Int) (cap : Nat) (hl : l.length ≤ 100) (w : World) (hil : ILs w a l) :
    Calls Try.prog 13 #[.slice a l.length cap] w fun e w' => (∃ (v : Nat → Value) (b0 b1 b2 b3 b4 b5 b6 b7 b8 b9 b10 b11 b14 : Int) (G1 G2 : Nat), e = .returned (.agg #[v 0, v 1, v 2, v 3, v 4, v 5, v 6, v 7, v 8, v 9, v 10, v 11, v 12, v 13, v 14, .int .i64 b0, .int .i64 b1, .int .i64 b2, .int .i64 b3, .int .i64 b4, .int .i64 b5, .int .i64 b6, .int .i64 b7, .int .i64 b8, .int .i64 b9, .int .i64 b10, .int .i64 b11, .slice (some ⟨G1, 0, none⟩) 2 2, .slice (some ⟨G2, 0, none⟩) 2 2, .int .i64 b14, v 30, v 31]) ∧ AxK b0 b1 b2 b3 b4 b5 b6 b7 b8 b9 b10 b11 b14 ∧ (∃ x y z, GL w' G1 G2 x y z) ∧ w.heap.size < G1 ∧ w.heap.size < G2) ∧ Below w.heap.size w w' := by
  refine (craftFrom_full a l cap hl w hil).mono ?_
  rintro e w' ⟨⟨v, rfl, _, ⟨b0, b1, b2, b3, b4, b5, b6, b7, b8, b9, b10, b11, b14, G1, G2, x, y, z, ⟨h0, h1, h2, h3, h4, h5, h6, h7, h8, h9, h10, h11, h12, h13, h14⟩, hax, hgl, k1, k2⟩, _⟩, hb⟩
  refine ⟨⟨v, b0, b1, b2, b3, b4, b5, b6, b7, b8, b9, b10, b11, b14, G1, G2, ?_, hax, ⟨x, y, z, hgl⟩, k1, k2⟩, hb⟩
  simp only [Nat.reduceAdd] at h0 h1 h2 h3 h4 h5 h6 h7 h8 h9 h10 h11 h12 h13 h14
  rw [h0, h1, h2, h3, h4, h5, h6, h7, h8, h9, h10, h11, h12, h13, h14]
/-- The line of an axis that was made may be. -/
theorem made_line {gz gx gy : Int} (h1 : 100 ≤ gz ∧ gz ≤ 999) (h2 : 0 ≤ gx ∧ gx ≤ 65536) (h3 : 0 ≤ gy ∧ gy ≤ 299) : lineI [0, gz] [gx, gy] = 0 ∧ gaU [gx, gy] 2 = 0 := by
  have w1 : within gz = true := by simp [within]; omega
  have w2 : within gx = true := by simp [within]; omega
  have w3 : within gy = true := by simp [within]; omega
  have w0 : within 0 = true := by simp [within]
  have b1 : betw gx 0 65536 = true := betw_mk h2.1 h2.2
  have b2 : betw gy 0 65536 = true := betw_mk h3.1 (by omega)
  have hp : worthI [0, gz] = 0 := by simp [worthI, w0, w1]
  have hq : worthI [gx, gy] = 0 := by simp [worthI, w2, w3]
  have hr : risingI [0, gz] = 0 := by
    unfold risingI
    rw [if_neg (by simp), if_neg (by simp), if_pos hp, if_neg]
    simp [fallsU, at0]; omega
  constructor
  · unfold lineI; rw [if_pos (by simp), if_pos hr, hq]
  · simp [gaU, at0, b1, b2, firstI]
theorem made_lst {w : World} {G1 G2 : Nat} {gz gx gy : Int} (h : GL w G1 G2 gz gx gy) : Lst w (some ⟨G1, 0, none⟩) [0, gz] ∧ Lst w (some ⟨G2, 0, none⟩) [gx, gy] := by
  refine ⟨.inr ⟨G1, 0, rfl, fun k hk => ?_⟩, .inr ⟨G2, 0, rfl, fun k hk => ?_⟩⟩
  · simp only [List.length_cons, List.length_nil] at hk
    rcases (show k = 0 ∨ k = 1 by omega) with rfl | rfl
    · exact h.1.1
    · exact h.1.2.1
  · simp only [List.length_cons, List.length_nil] at hk
    rcases (show k = 0 ∨ k = 1 by omega) with rfl | rfl
    · exact h.1.2.2.1
    · exact h.1.2.2.2
/-- All may be: a rule, a state and an ask that were made. -/
theorem made_may {L H U B M gz gx gy A D W k n q : Int} (l0 : -100000 ≤ L) (l1 : L ≤ H) (h1 : H ≤ 100000) (u : 0 ≤ U ∧ U ≤ 1000) (b : 0 ≤ B ∧ B ≤ 65536) (m : 1 ≤ M ∧ M ≤ 3000) (g1 : 100 ≤ gz ∧ gz ≤ 999) (g2 : 0 ≤ gx ∧ gx ≤ 65536) (g3 : 0 ≤ gy ∧ gy ≤ 299)
    (hA : L ≤ A ∧ A ≤ H) (hD : -M ≤ D ∧ D ≤ M) (hW : 0 ≤ W ∧ W ≤ 3) (hk : -100 ≤ k ∧ k ≤ 100) (hn : 0 ≤ n ∧ n ≤ 3) (hq : -M ≤ q ∧ q ≤ M) : hoE L H U B M [0, gz] [gx, gy] A D W k n q = 0 := by
  obtain ⟨x1, x2⟩ := made_line g1 g2 g3
  have hr : ruB L H U B M = true := by
    simp only [ruB, Bool.and_eq_true]
    exact ⟨⟨⟨⟨betw_mk l0 (by omega), betw_mk (by omega) h1⟩, betw_mk u.1 u.2⟩, betw_mk b.1 b.2⟩, betw_mk m.1 (by omega)⟩
  have e0 : r0E L H U B M [0, gz] [gx, gy] = 0 := by unfold r0E; rw [if_pos hr, if_neg (by omega), x1]; rfl
  have e1 : ruE L H U B M [0, gz] [gx, gy] = 0 := by unfold ruE; rw [if_pos e0]; exact x2
  have s1 : stB L H M A D W = true := by simp only [stB, Bool.and_eq_true]; exact ⟨⟨betw_mk hA.1 hA.2, betw_mk hD.1 hD.2⟩, betw_mk hW.1 hW.2⟩
  have s2 : asB M k n q = true := by simp only [asB, Bool.and_eq_true]; exact ⟨⟨betw_mk hk.1 hk.2, betw_mk hn.1 hn.2⟩, betw_mk hq.1 hq.2⟩
  unfold hoE; rw [if_pos e1, if_pos s1, if_pos s2]

/-- A rule in its box, its line, and nothing below turned. -/
def PRm (w u : World) (P G1 G2 : Nat) (L H U B M gz gx gy : Int) : Prop := (u.cell? ⟨P, 0, none⟩ = some (.int .i64 L) ∧ u.cell? ⟨P, 1, none⟩ = some (.int .i64 H) ∧ u.cell? ⟨P, 2, none⟩ = some (.int .i64 U) ∧ u.cell? ⟨P, 3, none⟩ = some (.int .i64 B) ∧ u.cell? ⟨P, 4, none⟩ = some (.int .i64 M) ∧ u.cell? ⟨P, 5, none⟩ = some (.slice (some ⟨G1, 0, none⟩) 2 2) ∧ u.cell? ⟨P, 6, none⟩ = some (.slice (some ⟨G2, 0, none⟩) 2 2)) ∧ GL u G1 G2 gz gx gy ∧ Below w.heap.size w u
section
variable {w u u' : World} {P G1 G2 O : Nat} {L H U B M gz gx gy : Int}
theorem PRm.later (h : PRm w u P G1 G2 L H U B M gz gx gy) (hb : Below u.heap.size u u') : PRm w u' P G1 G2 L H U B M gz gx gy :=
  ⟨⟨cell_later hb h.1.1, cell_later hb h.1.2.1, cell_later hb h.1.2.2.1, cell_later hb h.1.2.2.2.1, cell_later hb h.1.2.2.2.2.1, cell_later hb h.1.2.2.2.2.2.1, cell_later hb h.1.2.2.2.2.2.2⟩, h.2.1.later hb, abelow_up h.2.2 hb⟩
theorem PRm.dk (h : PRm w u P G1 G2 L H U B M gz gx gy) (k : DK O u u') (hO : P ≠ O ∧ G1 ≠ O ∧ G2 ≠ O ∧ w.heap.size ≤ O) : PRm w u' P G1 G2 L H U B M gz gx gy := by
  have c : ∀ j x, u.cell? ⟨P, j, none⟩ = some x → u'.cell? ⟨P, j, none⟩ = some x := fun j x hx => k.cell (p := ⟨P, j, none⟩) hO.1 hx
  exact ⟨⟨c _ _ h.1.1, c _ _ h.1.2.1, c _ _ h.1.2.2.1, c _ _ h.1.2.2.2.1, c _ _ h.1.2.2.2.2.1, c _ _ h.1.2.2.2.2.2.1, c _ _ h.1.2.2.2.2.2.2⟩, h.2.1.cells (fun q c hq hx => k.cell (by rcases hq with hq | hq <;> omega) hx), DK.below h.2.2 k hO.2.2.2 h.2.2.size⟩
theorem PRm.set (h : PRm w u P G1 G2 L H U B M gz gx gy) {V j : Nat} {x : Value} (hV : P ≠ V ∧ G1 ≠ V ∧ G2 ≠ V ∧ w.heap.size ≤ V) : PRm w (u.setCell ⟨V, j, none⟩ x) P G1 G2 L H U B M gz gx gy := by
  have c : ∀ i y, u.cell? ⟨P, i, none⟩ = some y → (u.setCell ⟨V, j, none⟩ x).cell? ⟨P, i, none⟩ = some y := fun i y hy => gset hy hV.1
  exact ⟨⟨c _ _ h.1.1, c _ _ h.1.2.1, c _ _ h.1.2.2.1, c _ _ h.1.2.2.2.1, c _ _ h.1.2.2.2.2.1, c _ _ h.1.2.2.2.2.2.1, c _ _ h.1.2.2.2.2.2.2⟩, h.2.1.cells (fun q c hq hx => gset hx (by rcases hq with hq | hq <;> omega)), h.2.2.setCell (by simp; exact hV.2.2.2) _⟩
end
/-- Noughts in a block of their own, that may be written. -/
def NV (O K : Nat) (w : World) (V m : Nat) : Prop := (∀ j, j < m → w.cell? ⟨V, j, none⟩ = some (.int .i64 0) ∧ w.frozen? ⟨V, j, none⟩ = false) ∧ K ≤ V ∧ V ≠ O ∧ V < w.heap.size
theorem NV.le {O K V m : Nat} {w : World} (h : NV O K w V m) : K ≤ V := h.2.1
theorem NV.later {O K V m : Nat} {w w' : World} (h : NV O K w V m) (hb : Below w.heap.size w w') : NV O K w' V m := ⟨fun j hj => ⟨cell_later hb (h.1 j hj).1, (hb.frozen (p := ⟨V, j, none⟩) h.2.2.2).trans (h.1 j hj).2⟩, h.2.1, h.2.2.1, Nat.lt_of_lt_of_le h.2.2.2 hb.size⟩
theorem NV.alloc {O K V m : Nat} {w : World} {o : Obj} (h : NV O K w V m) : NV O K (w.alloc o) V m := h.later (abelow_alloc _ _)
theorem NV.drew {O K V m : Nat} {w : World} (h : NV O K w V m) : NV O K w.drew V m := h.later (Below.refl _ _).drew
theorem NV.dk {O K V m : Nat} {w w' : World} (k : DK O w w') (h : NV O K w V m) : NV O K w' V m := ⟨fun j hj => ⟨k.cell (p := ⟨V, j, none⟩) h.2.2.1 (h.1 j hj).1, (World.frozen?_of_block (w := w) (a := ⟨V, j, none⟩) (k.block V h.2.2.2 h.2.2.1)).trans (h.1 j hj).2⟩, h.2.1, h.2.2.1, Nat.lt_of_lt_of_le h.2.2.2 k.size⟩
theorem NV.new3 {O K V : Nat} {w : World} (t : TypeId) (hV : V = w.heap.size) (hK : O < K ∧ K ≤ w.heap.size) : NV O K (w.alloc (.cells #[.int .i64 0, .int .i64 0, .int .i64 0] t)) V 3 := by
  subst hV
  refine ⟨fun j hj => ?_, hK.2, by omega, by simp [go_sem]⟩
  rcases (show j = 0 ∨ j = 1 ∨ j = 2 by omega) with rfl | rfl | rfl <;> exact ⟨by simp [go_sem], by simp [go_sem]⟩
theorem NV.new5 {O K V : Nat} {w : World} (t : TypeId) (hV : V = w.heap.size) (hK : O < K ∧ K ≤ w.heap.size) : NV O K (w.alloc (.cells #[.int .i64 0, .int .i64 0, .int .i64 0, .int .i64 0, .int .i64 0] t)) V 5 := by
  subst hV
  refine ⟨fun j hj => ?_, hK.2, by omega, by simp [go_sem]⟩
  rcases (show j = 0 ∨ j = 1 ∨ j = 2 ∨ j = 3 ∨ j = 4 by omega) with rfl | rfl | rfl | rfl | rfl <;> exact ⟨by simp [go_sem], by simp [go_sem]⟩
theorem NV.new5b {O K V : Nat} {w : World} {o : Obj} (t : TypeId) (hV : V = w.heap.size + 1) (hK : O < K ∧ K ≤ w.heap.size) : NV O K ((w.alloc o).alloc (.cells #[.int .i64 0, .int .i64 0, .int .i64 0, .int .i64 0, .int .i64 0] t)) V 5 :=
  NV.new5 t (by rw [hV]; simp) ⟨hK.1, by simp; omega⟩
/-- The laws to draw from, in a block of their own. -/
def IB (O : Nat) (w : World) (V : Nat) : Prop := V ≠ O ∧ V < w.heap.size ∧ ∀ k, k < 5 → w.cell? ⟨V, k, none⟩ = some (.int .i64 ([0, 0, 1, 2, 3].getD k 0))
theorem IB.later {O V : Nat} {w w' : World} (h : IB O w V) (hb : Below w.heap.size w w') : IB O w' V := ⟨h.1, Nat.lt_of_lt_of_le h.2.1 hb.size, fun k hk => cell_later hb (h.2.2 k hk)⟩
theorem IB.alloc {O V : Nat} {w : World} {o : Obj} (h : IB O w V) : IB O (w.alloc o) V := h.later (abelow_alloc _ _)
theorem IB.drew {O V : Nat} {w : World} (h : IB O w V) : IB O w.drew V := h.later (Below.refl _ _).drew
theorem IB.dk {O V : Nat} {w w' : World} (k : DK O w w') (h : IB O w V) : IB O w' V := ⟨h.1, Nat.lt_of_lt_of_le h.2.1 k.size, fun j hj => k.cell (p := ⟨V, j, none⟩) h.1 (h.2.2 j hj)⟩
theorem IB.new {O V : Nat} {w : World} (t : TypeId) (hV : V = w.heap.size) (hO : O < w.heap.size) : IB O (w.alloc (.cells #[.int .i64 0, .int .i64 0, .int .i64 1, .int .i64 2, .int .i64 3] t)) V := by
  subst hV
  refine ⟨by omega, by simp [go_sem], fun k hk => ?_⟩
  rcases (show k = 0 ∨ k = 1 ∨ k = 2 ∨ k = 3 ∨ k = 4 by omega) with rfl | rfl | rfl | rfl | rfl <;> simp [go_sem]
theorem diceLaw (O V : Nat) (a : Option Addr) (l : List Int) (cap n c2 : Nat) (hn : n ≤ 1000000) (hl : l.length ≤ 100) (w : World) (hd : Dc w O a l cap n) (hv : IB O w V) :
    Calls Try.prog 15 #[.pointer (some ⟨O, 0, none⟩), .slice (some ⟨V, 0, none⟩) 5 c2] w fun e w' => (∃ x, e = .returned (.int .i64 x) ∧ 0 ≤ x ∧ x ≤ 3) ∧ Dc w' O a l cap (n + 1) ∧ DK O w w' ∧ w'.heap.size = w.heap.size :=
  diceMost_any O V a l cap n c2 [0, 0, 1, 2, 3] 0 3 hn hl (by simp) (by simp) (fun k hk => by
    simp only [List.length_cons, List.length_nil] at hk
    rcases (show k = 0 ∨ k = 1 ∨ k = 2 ∨ k = 3 ∨ k = 4 by omega) with rfl | rfl | rfl | rfl | rfl <;> simp) hv.1 w hd (fun k hk => hv.2.2 k (by simpa using hk))
theorem hbw_alloc {w0 W : World} {o : Obj} (h : Below w0.heap.size w0 W) : Below w0.heap.size w0 (W.alloc o) := abelow_up h (abelow_alloc _ _)
theorem hbw_drew {w0 W : World} (h : Below w0.heap.size w0 W) : Below w0.heap.size w0 W.drew := abelow_up h (Below.refl _ _).drew
theorem hdk_chain {O : Nat} {w y X y' : World} (h : DK O w y) (hb : Below y.heap.size y X) (hk : DK O X y') : DK O w y' := h.trans ((DK.of_below hb).trans hk)
theorem Dc.hset {w : World} {O V j K : Nat} {a : Option Addr} {l : List Int} {cap n : Nat} {x : Value} (h : Dc w O a l cap n) (hV : V ≠ O) (hK : K ≤ V) (hr : RawAt a l K) : Dc (w.setCell ⟨V, j, none⟩ x) O a l cap n :=
  h.set hV (fun b off e hl => by have := hr b off e hl; omega)

end Go.Proofs.Ytheihcpacpoliaa
