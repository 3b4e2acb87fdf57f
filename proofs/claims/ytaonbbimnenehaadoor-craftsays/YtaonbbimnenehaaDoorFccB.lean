/-
  The rules of an axis, as packages fcc and fulmarref make them.
-/
import Derived.Test.YtaonbbimnenehaaDoorFccA
import Derived.Test.YtaonbbimnenehaaDoorVoteA
import Derived.Test.YtaonbbimnenehaaDoorGuardC
import Derived.Test.YtaonbbimnenehaaDoorHoldR
namespace Go.Proofs.YtaonbbimnenehaaDoor
open Go.RowKit Plain

theorem fmul_bd {s t : Int} (s0 : 2 ≤ s) (s1 : s ≤ 4) (t0 : 1 ≤ t) (t1 : t ≤ 1000) : 1 ≤ (s - 1) * t ∧ (s - 1) * t ≤ 3000 := by
  rcases (show s = 2 ∨ s = 3 ∨ s = 4 by omega) with rfl | rfl | rfl <;> omega
set_option maxHeartbeats 1000000 in
theorem fcc_voteRule_r (a0 a1 a2 a3 a4 a5 a6 a7 a8 a9 a10 a11 a14 : Int) (p q : Option Addr) (n m cn cm : Nat) (w : World) :
    Calls Tryd.prog 37 #[.agg #[.int .i64 a0, .int .i64 a1, .int .i64 a2, .int .i64 a3, .int .i64 a4, .int .i64 a5, .int .i64 a6, .int .i64 a7, .int .i64 a8, .int .i64 a9, .int .i64 a10, .int .i64 a11, .slice p n cn, .slice q m cm, .int .i64 a14]] w fun e w' => e = .returned (.agg #[.int .i64 a8, .int .i64 a9]) ∧ Below w.heap.size w w' := by
  go_enter Tryd.func37, Tryd.ntmps37
  go_wp2
  exact bodyPost_ret (v := .agg #[.int .i64 a8, .int .i64 a9]) (by simp [results, Tryd.results37, go_sem]) rfl ⟨rfl, abelow_up (abelow_alloc _ _) (abelow_alloc _ _)⟩
set_option maxHeartbeats 1000000 in
theorem fulmarref_VoteRule_r (a0 a1 a2 a3 a4 a5 a6 a7 a8 a9 a10 a11 a14 : Int) (p q : Option Addr) (n m cn cm : Nat) (w : World) :
    Calls Tryd.prog 27 #[.agg #[.int .i64 a0, .int .i64 a1, .int .i64 a2, .int .i64 a3, .int .i64 a4, .int .i64 a5, .int .i64 a6, .int .i64 a7, .int .i64 a8, .int .i64 a9, .int .i64 a10, .int .i64 a11, .slice p n cn, .slice q m cm, .int .i64 a14]] w fun e w' => e = .returned (.agg #[.int .i64 a8, .int .i64 a9]) ∧ Below w.heap.size w w' := by
  go_enter Tryd.func27, Tryd.ntmps27
  go_wp2
  exact bodyPost_ret (v := .agg #[.int .i64 a8, .int .i64 a9]) (by simp [results, Tryd.results27, go_sem]) rfl ⟨rfl, abelow_up (abelow_alloc _ _) (abelow_alloc _ _)⟩
set_option maxHeartbeats 1000000 in
theorem fcc_actRule_r (a0 a1 a2 a3 a4 a5 a6 a7 a8 a9 a10 a11 a14 : Int) (p q : Option Addr) (n m cn cm : Nat) (w : World) :
    Calls Tryd.prog 40 #[.agg #[.int .i64 a0, .int .i64 a1, .int .i64 a2, .int .i64 a3, .int .i64 a4, .int .i64 a5, .int .i64 a6, .int .i64 a7, .int .i64 a8, .int .i64 a9, .int .i64 a10, .int .i64 a11, .slice p n cn, .slice q m cm, .int .i64 a14]] w fun e w' => e = .returned (.agg #[.int .i64 a5, .int .i64 a6, .int .i64 a7, .int .i64 a10]) ∧ Below w.heap.size w w' := by
  go_enter Tryd.func40, Tryd.ntmps40
  go_wp2
  exact bodyPost_ret (v := .agg #[.int .i64 a5, .int .i64 a6, .int .i64 a7, .int .i64 a10]) (by simp [results, Tryd.results40, go_sem]) rfl ⟨rfl, abelow_up (abelow_alloc _ _) (abelow_alloc _ _)⟩
set_option maxHeartbeats 1000000 in
theorem fulmarref_ActRule_r (a0 a1 a2 a3 a4 a5 a6 a7 a8 a9 a10 a11 a14 : Int) (p q : Option Addr) (n m cn cm : Nat) (w : World) :
    Calls Tryd.prog 29 #[.agg #[.int .i64 a0, .int .i64 a1, .int .i64 a2, .int .i64 a3, .int .i64 a4, .int .i64 a5, .int .i64 a6, .int .i64 a7, .int .i64 a8, .int .i64 a9, .int .i64 a10, .int .i64 a11, .slice p n cn, .slice q m cm, .int .i64 a14]] w fun e w' => e = .returned (.agg #[.int .i64 a5, .int .i64 a6, .int .i64 a7, .int .i64 a10]) ∧ Below w.heap.size w w' := by
  go_enter Tryd.func29, Tryd.ntmps29
  go_wp2
  exact bodyPost_ret (v := .agg #[.int .i64 a5, .int .i64 a6, .int .i64 a7, .int .i64 a10]) (by simp [results, Tryd.results29, go_sem]) rfl ⟨rfl, abelow_up (abelow_alloc _ _) (abelow_alloc _ _)⟩
set_option maxHeartbeats 1000000 in
theorem fcc_guardRule_r (a0 a1 a2 a3 a4 a5 a6 a7 a8 a9 a10 a11 a14 : Int) (p q : Option Addr) (n m cn cm : Nat) (h4 : 2 ≤ a4 ∧ a4 ≤ 4) (h5 : 1 ≤ a5 ∧ a5 ≤ 1000) (h3 : 0 ≤ a3 ∧ a3 ≤ 1000) (h7 : 0 ≤ a7 ∧ a7 ≤ 1000) (h6 : 1 ≤ a6 ∧ a6 ≤ 1000) (w : World) :
    Calls Tryd.prog 43 #[.agg #[.int .i64 a0, .int .i64 a1, .int .i64 a2, .int .i64 a3, .int .i64 a4, .int .i64 a5, .int .i64 a6, .int .i64 a7, .int .i64 a8, .int .i64 a9, .int .i64 a10, .int .i64 a11, .slice p n cn, .slice q m cm, .int .i64 a14]] w fun e w' => e = .returned (.agg #[.int .i64 a0, .int .i64 a1, .int .i64 a2, .int .i64 (a3 + a7), .int .i64 ((a4 - 1) * a5), .int .i64 ((a4 - 1) * a6)]) ∧ Below w.heap.size w w' := by
  obtain ⟨x4, y4⟩ := h4
  obtain ⟨b50, b51⟩ := fmul_bd x4 y4 h5.1 h5.2
  have v5 : IntKind.i64.wrap ((a4 - 1) * a5) = (a4 - 1) * a5 := gwrap_id (by omega) (by omega)
  have v5' : IntKind.i64.wrap (a5 * (a4 - 1)) = (a4 - 1) * a5 := by rw [Int.mul_comm]; exact v5
  obtain ⟨b60, b61⟩ := fmul_bd x4 y4 h6.1 h6.2
  obtain ⟨x3, y3⟩ := h3
  obtain ⟨x7, y7⟩ := h7
  have v6 : IntKind.i64.wrap ((a4 - 1) * a6) = (a4 - 1) * a6 := gwrap_id (by omega) (by omega)
  have v6' : IntKind.i64.wrap (a6 * (a4 - 1)) = (a4 - 1) * a6 := by rw [Int.mul_comm]; exact v6
  go_enter Tryd.func43, Tryd.ntmps43
  go_wp2
  exact bodyPost_ret (v := .agg #[.int .i64 a0, .int .i64 a1, .int .i64 a2, .int .i64 (a3 + a7), .int .i64 ((a4 - 1) * a5), .int .i64 ((a4 - 1) * a6)]) (by simp [results, Tryd.results43, go_sem]) rfl ⟨rfl, abelow_up (abelow_alloc _ _) (abelow_alloc _ _)⟩
set_option maxHeartbeats 1000000 in
theorem fulmarref_GuardRule_r (a0 a1 a2 a3 a4 a5 a6 a7 a8 a9 a10 a11 a14 : Int) (p q : Option Addr) (n m cn cm : Nat) (h4 : 2 ≤ a4 ∧ a4 ≤ 4) (h5 : 1 ≤ a5 ∧ a5 ≤ 1000) (h3 : 0 ≤ a3 ∧ a3 ≤ 1000) (h7 : 0 ≤ a7 ∧ a7 ≤ 1000) (h6 : 1 ≤ a6 ∧ a6 ≤ 1000) (w : World) :
    Calls Tryd.prog 31 #[.agg #[.int .i64 a0, .int .i64 a1, .int .i64 a2, .int .i64 a3, .int .i64 a4, .int .i64 a5, .int .i64 a6, .int .i64 a7, .int .i64 a8, .int .i64 a9, .int .i64 a10, .int .i64 a11, .slice p n cn, .slice q m cm, .int .i64 a14]] w fun e w' => e = .returned (.agg #[.int .i64 a0, .int .i64 a1, .int .i64 a2, .int .i64 (a3 + a7), .int .i64 ((a4 - 1) * a5), .int .i64 ((a4 - 1) * a6)]) ∧ Below w.heap.size w w' := by
  obtain ⟨x4, y4⟩ := h4
  obtain ⟨b50, b51⟩ := fmul_bd x4 y4 h5.1 h5.2
  have v5 : IntKind.i64.wrap ((a4 - 1) * a5) = (a4 - 1) * a5 := gwrap_id (by omega) (by omega)
  have v5' : IntKind.i64.wrap (a5 * (a4 - 1)) = (a4 - 1) * a5 := by rw [Int.mul_comm]; exact v5
  obtain ⟨b60, b61⟩ := fmul_bd x4 y4 h6.1 h6.2
  obtain ⟨x3, y3⟩ := h3
  obtain ⟨x7, y7⟩ := h7
  have v6 : IntKind.i64.wrap ((a4 - 1) * a6) = (a4 - 1) * a6 := gwrap_id (by omega) (by omega)
  have v6' : IntKind.i64.wrap (a6 * (a4 - 1)) = (a4 - 1) * a6 := by rw [Int.mul_comm]; exact v6
  go_enter Tryd.func31, Tryd.ntmps31
  go_wp2
  exact bodyPost_ret (v := .agg #[.int .i64 a0, .int .i64 a1, .int .i64 a2, .int .i64 (a3 + a7), .int .i64 ((a4 - 1) * a5), .int .i64 ((a4 - 1) * a6)]) (by simp [results, Tryd.results31, go_sem]) rfl ⟨rfl, abelow_up (abelow_alloc _ _) (abelow_alloc _ _)⟩
set_option maxHeartbeats 1000000 in
theorem fulmarref_HoldRule_r (a0 a1 a2 a3 a4 a5 a6 a7 a8 a9 a10 a11 a14 : Int) (p q : Option Addr) (n m cn cm : Nat) (h4 : 2 ≤ a4 ∧ a4 ≤ 4) (h5 : 1 ≤ a5 ∧ a5 ≤ 1000) (w : World) :
    Calls Tryd.prog 33 #[.agg #[.int .i64 a0, .int .i64 a1, .int .i64 a2, .int .i64 a3, .int .i64 a4, .int .i64 a5, .int .i64 a6, .int .i64 a7, .int .i64 a8, .int .i64 a9, .int .i64 a10, .int .i64 a11, .slice p n cn, .slice q m cm, .int .i64 a14]] w fun e w' => e = .returned (.agg #[.int .i64 a0, .int .i64 a1, .int .i64 a11, .int .i64 a14, .int .i64 ((a4 - 1) * a5), .slice p n cn, .slice q m cm]) ∧ Below w.heap.size w w' := by
  obtain ⟨x4, y4⟩ := h4
  obtain ⟨b50, b51⟩ := fmul_bd x4 y4 h5.1 h5.2
  have v5 : IntKind.i64.wrap ((a4 - 1) * a5) = (a4 - 1) * a5 := gwrap_id (by omega) (by omega)
  have v5' : IntKind.i64.wrap (a5 * (a4 - 1)) = (a4 - 1) * a5 := by rw [Int.mul_comm]; exact v5
  go_enter Tryd.func33, Tryd.ntmps33
  go_wp2
  exact bodyPost_ret (v := .agg #[.int .i64 a0, .int .i64 a1, .int .i64 a11, .int .i64 a14, .int .i64 ((a4 - 1) * a5), .slice p n cn, .slice q m cm]) (by simp [results, Tryd.results33, go_sem]) rfl ⟨rfl, abelow_up (abelow_alloc _ _) (abelow_alloc _ _)⟩
/-- A room of seven cells. -/
def Room7 (w u : World) : Prop := ((u.cell? ⟨w.heap.size + 1, 0, none⟩ = some (.int .i64 0) ∧ u.frozen? ⟨w.heap.size + 1, 0, none⟩ = false) ∧ (u.cell? ⟨w.heap.size + 1, 1, none⟩ = some (.int .i64 0) ∧ u.frozen? ⟨w.heap.size + 1, 1, none⟩ = false) ∧ (u.cell? ⟨w.heap.size + 1, 2, none⟩ = some (.int .i64 0) ∧ u.frozen? ⟨w.heap.size + 1, 2, none⟩ = false) ∧ (u.cell? ⟨w.heap.size + 1, 3, none⟩ = some (.int .i64 0) ∧ u.frozen? ⟨w.heap.size + 1, 3, none⟩ = false) ∧ (u.cell? ⟨w.heap.size + 1, 4, none⟩ = some (.int .i64 0) ∧ u.frozen? ⟨w.heap.size + 1, 4, none⟩ = false) ∧ (u.cell? ⟨w.heap.size + 1, 5, none⟩ = some (.slice none 0 0) ∧ u.frozen? ⟨w.heap.size + 1, 5, none⟩ = false) ∧ (u.cell? ⟨w.heap.size + 1, 6, none⟩ = some (.slice none 0 0) ∧ u.frozen? ⟨w.heap.size + 1, 6, none⟩ = false)) ∧ w.heap.size + 1 < u.heap.size
theorem Room7.later {w u u' : World} (h : Room7 w u) (hb : Below u.heap.size u u') : Room7 w u' := by
  obtain ⟨⟨⟨a0, b0⟩, ⟨a1, b1⟩, ⟨a2, b2⟩, ⟨a3, b3⟩, ⟨a4, b4⟩, ⟨a5, b5⟩, a6, b6⟩, hl⟩ := h
  have f : ∀ j, u'.frozen? ⟨w.heap.size + 1, j, none⟩ = u.frozen? ⟨w.heap.size + 1, j, none⟩ := fun j => hb.frozen (p := ⟨w.heap.size + 1, j, none⟩) hl
  exact ⟨⟨⟨cell_later hb a0, (f 0).trans b0⟩, ⟨cell_later hb a1, (f 1).trans b1⟩, ⟨cell_later hb a2, (f 2).trans b2⟩, ⟨cell_later hb a3, (f 3).trans b3⟩, ⟨cell_later hb a4, (f 4).trans b4⟩, ⟨cell_later hb a5, (f 5).trans b5⟩, cell_later hb a6, (f 6).trans b6⟩, Nat.lt_of_lt_of_le hl hb.size⟩
/-- An axis in its box. -/
def AxB (u : World) (B : Nat) (a0 a1 a2 a3 a4 a5 a6 a7 a8 a9 a10 a11 a14 : Int) (p q : Option Addr) (n m cn cm : Nat) : Prop := (u.cell? ⟨B, 0, none⟩ = some (.int .i64 a0) ∧ u.cell? ⟨B, 1, none⟩ = some (.int .i64 a1) ∧ u.cell? ⟨B, 2, none⟩ = some (.int .i64 a2) ∧ u.cell? ⟨B, 3, none⟩ = some (.int .i64 a3) ∧ u.cell? ⟨B, 4, none⟩ = some (.int .i64 a4) ∧ u.cell? ⟨B, 5, none⟩ = some (.int .i64 a5) ∧ u.cell? ⟨B, 6, none⟩ = some (.int .i64 a6) ∧ u.cell? ⟨B, 7, none⟩ = some (.int .i64 a7) ∧ u.cell? ⟨B, 8, none⟩ = some (.int .i64 a8) ∧ u.cell? ⟨B, 9, none⟩ = some (.int .i64 a9) ∧ u.cell? ⟨B, 10, none⟩ = some (.int .i64 a10) ∧ u.cell? ⟨B, 11, none⟩ = some (.int .i64 a11) ∧ u.cell? ⟨B, 12, none⟩ = some (.slice p n cn) ∧ u.cell? ⟨B, 13, none⟩ = some (.slice q m cm) ∧ u.cell? ⟨B, 14, none⟩ = some (.int .i64 a14))
theorem AxB.later {u u' : World} {B : Nat} {a0 a1 a2 a3 a4 a5 a6 a7 a8 a9 a10 a11 a14 : Int} {p q : Option Addr} {n m cn cm : Nat} (h : AxB u B a0 a1 a2 a3 a4 a5 a6 a7 a8 a9 a10 a11 a14 p q n m cn cm) (hb : Below u.heap.size u u') : AxB u' B a0 a1 a2 a3 a4 a5 a6 a7 a8 a9 a10 a11 a14 p q n m cn cm := by
  obtain ⟨c0, c1, c2, c3, c4, c5, c6, c7, c8, c9, c10, c11, c12, c13, c14⟩ := h
  exact ⟨cell_later hb c0, cell_later hb c1, cell_later hb c2, cell_later hb c3, cell_later hb c4, cell_later hb c5, cell_later hb c6, cell_later hb c7, cell_later hb c8, cell_later hb c9, cell_later hb c10, cell_later hb c11, cell_later hb c12, cell_later hb c13, cell_later hb c14⟩
theorem AxB.new (w : World) (a0 a1 a2 a3 a4 a5 a6 a7 a8 a9 a10 a11 a14 : Int) (p q : Option Addr) (n m cn cm : Nat) : AxB (w.alloc (.cells #[.int .i64 a0, .int .i64 a1, .int .i64 a2, .int .i64 a3, .int .i64 a4, .int .i64 a5, .int .i64 a6, .int .i64 a7, .int .i64 a8, .int .i64 a9, .int .i64 a10, .int .i64 a11, .slice p n cn, .slice q m cm, .int .i64 a14] 26)) w.heap.size a0 a1 a2 a3 a4 a5 a6 a7 a8 a9 a10 a11 a14 p q n m cn cm := by
  refine ⟨?_, ?_, ?_, ?_, ?_, ?_, ?_, ?_, ?_, ?_, ?_, ?_, ?_, ?_, ?_⟩ <;> simp [go_sem]
theorem axb_set {u : World} {B V j : Nat} {x : Value} {a0 a1 a2 a3 a4 a5 a6 a7 a8 a9 a10 a11 a14 : Int} {p q : Option Addr} {n m cn cm : Nat} (hV : B ≠ V) (h : AxB u B a0 a1 a2 a3 a4 a5 a6 a7 a8 a9 a10 a11 a14 p q n m cn cm) : AxB (u.setCell ⟨V, j, none⟩ x) B a0 a1 a2 a3 a4 a5 a6 a7 a8 a9 a10 a11 a14 p q n m cn cm := by
  have f : ∀ i y, u.cell? ⟨B, i, none⟩ = some y → (u.setCell ⟨V, j, none⟩ x).cell? ⟨B, i, none⟩ = some y := fun i y hy => (World.cell?_setCell_other _ _ _ _ (fun e => hV (congrArg Addr.block e).symm)).trans hy
  obtain ⟨c0, c1, c2, c3, c4, c5, c6, c7, c8, c9, c10, c11, c12, c13, c14⟩ := h
  exact ⟨f _ _ c0, f _ _ c1, f _ _ c2, f _ _ c3, f _ _ c4, f _ _ c5, f _ _ c6, f _ _ c7, f _ _ c8, f _ _ c9, f _ _ c10, f _ _ c11, f _ _ c12, f _ _ c13, f _ _ c14⟩
theorem axb_set7 {u : World} {B V : Nat} {x0 x1 x2 x3 x4 x5 x6 : Value} {a0 a1 a2 a3 a4 a5 a6 a7 a8 a9 a10 a11 a14 : Int} {p q : Option Addr} {n m cn cm : Nat} (hV : B ≠ V) (h : (u.cell? ⟨B, 0, none⟩ = some (.int .i64 a0) ∧ u.cell? ⟨B, 1, none⟩ = some (.int .i64 a1) ∧ u.cell? ⟨B, 2, none⟩ = some (.int .i64 a2) ∧ u.cell? ⟨B, 3, none⟩ = some (.int .i64 a3) ∧ u.cell? ⟨B, 4, none⟩ = some (.int .i64 a4) ∧ u.cell? ⟨B, 5, none⟩ = some (.int .i64 a5) ∧ u.cell? ⟨B, 6, none⟩ = some (.int .i64 a6) ∧ u.cell? ⟨B, 7, none⟩ = some (.int .i64 a7) ∧ u.cell? ⟨B, 8, none⟩ = some (.int .i64 a8) ∧ u.cell? ⟨B, 9, none⟩ = some (.int .i64 a9) ∧ u.cell? ⟨B, 10, none⟩ = some (.int .i64 a10) ∧ u.cell? ⟨B, 11, none⟩ = some (.int .i64 a11) ∧ u.cell? ⟨B, 12, none⟩ = some (.slice p n cn) ∧ u.cell? ⟨B, 13, none⟩ = some (.slice q m cm) ∧ u.cell? ⟨B, 14, none⟩ = some (.int .i64 a14))) : ((((((((u.setCell ⟨V, 0, none⟩ x0).setCell ⟨V, 1, none⟩ x1).setCell ⟨V, 2, none⟩ x2).setCell ⟨V, 3, none⟩ x3).setCell ⟨V, 4, none⟩ x4).setCell ⟨V, 5, none⟩ x5).setCell ⟨V, 6, none⟩ x6).cell? ⟨B, 0, none⟩ = some (.int .i64 a0) ∧ (((((((u.setCell ⟨V, 0, none⟩ x0).setCell ⟨V, 1, none⟩ x1).setCell ⟨V, 2, none⟩ x2).setCell ⟨V, 3, none⟩ x3).setCell ⟨V, 4, none⟩ x4).setCell ⟨V, 5, none⟩ x5).setCell ⟨V, 6, none⟩ x6).cell? ⟨B, 1, none⟩ = some (.int .i64 a1) ∧ (((((((u.setCell ⟨V, 0, none⟩ x0).setCell ⟨V, 1, none⟩ x1).setCell ⟨V, 2, none⟩ x2).setCell ⟨V, 3, none⟩ x3).setCell ⟨V, 4, none⟩ x4).setCell ⟨V, 5, none⟩ x5).setCell ⟨V, 6, none⟩ x6).cell? ⟨B, 2, none⟩ = some (.int .i64 a2) ∧ (((((((u.setCell ⟨V, 0, none⟩ x0).setCell ⟨V, 1, none⟩ x1).setCell ⟨V, 2, none⟩ x2).setCell ⟨V, 3, none⟩ x3).setCell ⟨V, 4, none⟩ x4).setCell ⟨V, 5, none⟩ x5).setCell ⟨V, 6, none⟩ x6).cell? ⟨B, 3, none⟩ = some (.int .i64 a3) ∧ (((((((u.setCell ⟨V, 0, none⟩ x0).setCell ⟨V, 1, none⟩ x1).setCell ⟨V, 2, none⟩ x2).setCell ⟨V, 3, none⟩ x3).setCell ⟨V, 4, none⟩ x4).setCell ⟨V, 5, none⟩ x5).setCell ⟨V, 6, none⟩ x6).cell? ⟨B, 4, none⟩ = some (.int .i64 a4) ∧ (((((((u.setCell ⟨V, 0, none⟩ x0).setCell ⟨V, 1, none⟩ x1).setCell ⟨V, 2, none⟩ x2).setCell ⟨V, 3, none⟩ x3).setCell ⟨V, 4, none⟩ x4).setCell ⟨V, 5, none⟩ x5).setCell ⟨V, 6, none⟩ x6).cell? ⟨B, 5, none⟩ = some (.int .i64 a5) ∧ (((((((u.setCell ⟨V, 0, none⟩ x0).setCell ⟨V, 1, none⟩ x1).setCell ⟨V, 2, none⟩ x2).setCell ⟨V, 3, none⟩ x3).setCell ⟨V, 4, none⟩ x4).setCell ⟨V, 5, none⟩ x5).setCell ⟨V, 6, none⟩ x6).cell? ⟨B, 6, none⟩ = some (.int .i64 a6) ∧ (((((((u.setCell ⟨V, 0, none⟩ x0).setCell ⟨V, 1, none⟩ x1).setCell ⟨V, 2, none⟩ x2).setCell ⟨V, 3, none⟩ x3).setCell ⟨V, 4, none⟩ x4).setCell ⟨V, 5, none⟩ x5).setCell ⟨V, 6, none⟩ x6).cell? ⟨B, 7, none⟩ = some (.int .i64 a7) ∧ (((((((u.setCell ⟨V, 0, none⟩ x0).setCell ⟨V, 1, none⟩ x1).setCell ⟨V, 2, none⟩ x2).setCell ⟨V, 3, none⟩ x3).setCell ⟨V, 4, none⟩ x4).setCell ⟨V, 5, none⟩ x5).setCell ⟨V, 6, none⟩ x6).cell? ⟨B, 8, none⟩ = some (.int .i64 a8) ∧ (((((((u.setCell ⟨V, 0, none⟩ x0).setCell ⟨V, 1, none⟩ x1).setCell ⟨V, 2, none⟩ x2).setCell ⟨V, 3, none⟩ x3).setCell ⟨V, 4, none⟩ x4).setCell ⟨V, 5, none⟩ x5).setCell ⟨V, 6, none⟩ x6).cell? ⟨B, 9, none⟩ = some (.int .i64 a9) ∧ (((((((u.setCell ⟨V, 0, none⟩ x0).setCell ⟨V, 1, none⟩ x1).setCell ⟨V, 2, none⟩ x2).setCell ⟨V, 3, none⟩ x3).setCell ⟨V, 4, none⟩ x4).setCell ⟨V, 5, none⟩ x5).setCell ⟨V, 6, none⟩ x6).cell? ⟨B, 10, none⟩ = some (.int .i64 a10) ∧ (((((((u.setCell ⟨V, 0, none⟩ x0).setCell ⟨V, 1, none⟩ x1).setCell ⟨V, 2, none⟩ x2).setCell ⟨V, 3, none⟩ x3).setCell ⟨V, 4, none⟩ x4).setCell ⟨V, 5, none⟩ x5).setCell ⟨V, 6, none⟩ x6).cell? ⟨B, 11, none⟩ = some (.int .i64 a11) ∧ (((((((u.setCell ⟨V, 0, none⟩ x0).setCell ⟨V, 1, none⟩ x1).setCell ⟨V, 2, none⟩ x2).setCell ⟨V, 3, none⟩ x3).setCell ⟨V, 4, none⟩ x4).setCell ⟨V, 5, none⟩ x5).setCell ⟨V, 6, none⟩ x6).cell? ⟨B, 12, none⟩ = some (.slice p n cn) ∧ (((((((u.setCell ⟨V, 0, none⟩ x0).setCell ⟨V, 1, none⟩ x1).setCell ⟨V, 2, none⟩ x2).setCell ⟨V, 3, none⟩ x3).setCell ⟨V, 4, none⟩ x4).setCell ⟨V, 5, none⟩ x5).setCell ⟨V, 6, none⟩ x6).cell? ⟨B, 13, none⟩ = some (.slice q m cm) ∧ (((((((u.setCell ⟨V, 0, none⟩ x0).setCell ⟨V, 1, none⟩ x1).setCell ⟨V, 2, none⟩ x2).setCell ⟨V, 3, none⟩ x3).setCell ⟨V, 4, none⟩ x4).setCell ⟨V, 5, none⟩ x5).setCell ⟨V, 6, none⟩ x6).cell? ⟨B, 14, none⟩ = some (.int .i64 a14)) :=
  axb_set hV (axb_set hV (axb_set hV (axb_set hV (axb_set hV (axb_set hV (axb_set hV h))))))
theorem field_gmost (x0 x1 x2 x3 x4 x5 : Value) (w : World) : (Instr.field 81 (.agg #[x0, x1, x2, x3, x4, x5]) 4).run Tryd.prog w = .ok x4 w := by kernel_rfl
set_option maxRecDepth 100000 in
set_option maxHeartbeats 4000000 in
theorem fcc_holdRule_r (a0 a1 a2 a3 a4 a5 a6 a7 a8 a9 a10 a11 a14 : Int) (p q : Option Addr) (n m cn cm : Nat) (h4 : 2 ≤ a4 ∧ a4 ≤ 4) (h5 : 1 ≤ a5 ∧ a5 ≤ 1000) (h3 : 0 ≤ a3 ∧ a3 ≤ 1000) (h7 : 0 ≤ a7 ∧ a7 ≤ 1000) (h6 : 1 ≤ a6 ∧ a6 ≤ 1000) (w : World) :
    Calls Tryd.prog 46 #[.agg #[.int .i64 a0, .int .i64 a1, .int .i64 a2, .int .i64 a3, .int .i64 a4, .int .i64 a5, .int .i64 a6, .int .i64 a7, .int .i64 a8, .int .i64 a9, .int .i64 a10, .int .i64 a11, .slice p n cn, .slice q m cm, .int .i64 a14]] w fun e w' => e = .returned (.agg #[.int .i64 a0, .int .i64 a1, .int .i64 a11, .int .i64 a14, .int .i64 ((a4 - 1) * a5), .slice p n cn, .slice q m cm]) ∧ Below w.heap.size w w' := by
  have hgr := fun u => fcc_guardRule_r a0 a1 a2 a3 a4 a5 a6 a7 a8 a9 a10 a11 a14 p q n m cn cm h4 h5 h3 h7 h6 u
  have hfm := field_gmost
  have HZ := ahide ((AxB.new w a0 a1 a2 a3 a4 a5 a6 a7 a8 a9 a10 a11 a14 p q n m cn cm).later (abelow_alloc _ (.cells #[.int .i64 0, .int .i64 0, .int .i64 0, .int .i64 0, .int .i64 0, .slice none 0 0, .slice none 0 0] 87)))
  have HR : Hid (Room7 w ((w.alloc (.cells #[.int .i64 a0, .int .i64 a1, .int .i64 a2, .int .i64 a3, .int .i64 a4, .int .i64 a5, .int .i64 a6, .int .i64 a7, .int .i64 a8, .int .i64 a9, .int .i64 a10, .int .i64 a11, .slice p n cn, .slice q m cm, .int .i64 a14] 26)).alloc (.cells #[.int .i64 0, .int .i64 0, .int .i64 0, .int .i64 0, .int .i64 0, .slice none 0 0, .slice none 0 0] 87))) := ahide ⟨⟨⟨by simp [go_sem], by simp [go_sem]⟩, ⟨by simp [go_sem], by simp [go_sem]⟩, ⟨by simp [go_sem], by simp [go_sem]⟩, ⟨by simp [go_sem], by simp [go_sem]⟩, ⟨by simp [go_sem], by simp [go_sem]⟩, ⟨by simp [go_sem], by simp [go_sem]⟩, by simp [go_sem], by simp [go_sem]⟩, by simp [go_sem]⟩
  have HB := ahide (abelow_up (abelow_alloc w (.cells #[.int .i64 a0, .int .i64 a1, .int .i64 a2, .int .i64 a3, .int .i64 a4, .int .i64 a5, .int .i64 a6, .int .i64 a7, .int .i64 a8, .int .i64 a9, .int .i64 a10, .int .i64 a11, .slice p n cn, .slice q m cm, .int .i64 a14] 26)) (abelow_alloc _ (.cells #[.int .i64 0, .int .i64 0, .int .i64 0, .int .i64 0, .int .i64 0, .slice none 0 0, .slice none 0 0] 87)))
  go_enter Tryd.func46, Tryd.ntmps46
  go_upto_region 1 with fail
  generalize ((w.alloc (.cells #[.int .i64 a0, .int .i64 a1, .int .i64 a2, .int .i64 a3, .int .i64 a4, .int .i64 a5, .int .i64 a6, .int .i64 a7, .int .i64 a8, .int .i64 a9, .int .i64 a10, .int .i64 a11, .slice p n cn, .slice q m cm, .int .i64 a14] 26)).alloc (.cells #[.int .i64 0, .int .i64 0, .int .i64 0, .int .i64 0, .int .i64 0, .slice none 0 0, .slice none 0 0] 87)) = w1 at *
  have Z : Hid ((w1.cell? ⟨w.heap.size, 0, none⟩ = some (.int .i64 a0) ∧ w1.cell? ⟨w.heap.size, 1, none⟩ = some (.int .i64 a1) ∧ w1.cell? ⟨w.heap.size, 2, none⟩ = some (.int .i64 a2) ∧ w1.cell? ⟨w.heap.size, 3, none⟩ = some (.int .i64 a3) ∧ w1.cell? ⟨w.heap.size, 4, none⟩ = some (.int .i64 a4) ∧ w1.cell? ⟨w.heap.size, 5, none⟩ = some (.int .i64 a5) ∧ w1.cell? ⟨w.heap.size, 6, none⟩ = some (.int .i64 a6) ∧ w1.cell? ⟨w.heap.size, 7, none⟩ = some (.int .i64 a7) ∧ w1.cell? ⟨w.heap.size, 8, none⟩ = some (.int .i64 a8) ∧ w1.cell? ⟨w.heap.size, 9, none⟩ = some (.int .i64 a9) ∧ w1.cell? ⟨w.heap.size, 10, none⟩ = some (.int .i64 a10) ∧ w1.cell? ⟨w.heap.size, 11, none⟩ = some (.int .i64 a11) ∧ w1.cell? ⟨w.heap.size, 12, none⟩ = some (.slice p n cn) ∧ w1.cell? ⟨w.heap.size, 13, none⟩ = some (.slice q m cm) ∧ w1.cell? ⟨w.heap.size, 14, none⟩ = some (.int .i64 a14))) := HZ
  have Zd : Hid ((w1.drew.cell? ⟨w.heap.size, 0, none⟩ = some (.int .i64 a0) ∧ w1.drew.cell? ⟨w.heap.size, 1, none⟩ = some (.int .i64 a1) ∧ w1.drew.cell? ⟨w.heap.size, 2, none⟩ = some (.int .i64 a2) ∧ w1.drew.cell? ⟨w.heap.size, 3, none⟩ = some (.int .i64 a3) ∧ w1.drew.cell? ⟨w.heap.size, 4, none⟩ = some (.int .i64 a4) ∧ w1.drew.cell? ⟨w.heap.size, 5, none⟩ = some (.int .i64 a5) ∧ w1.drew.cell? ⟨w.heap.size, 6, none⟩ = some (.int .i64 a6) ∧ w1.drew.cell? ⟨w.heap.size, 7, none⟩ = some (.int .i64 a7) ∧ w1.drew.cell? ⟨w.heap.size, 8, none⟩ = some (.int .i64 a8) ∧ w1.drew.cell? ⟨w.heap.size, 9, none⟩ = some (.int .i64 a9) ∧ w1.drew.cell? ⟨w.heap.size, 10, none⟩ = some (.int .i64 a10) ∧ w1.drew.cell? ⟨w.heap.size, 11, none⟩ = some (.int .i64 a11) ∧ w1.drew.cell? ⟨w.heap.size, 12, none⟩ = some (.slice p n cn) ∧ w1.drew.cell? ⟨w.heap.size, 13, none⟩ = some (.slice q m cm) ∧ w1.drew.cell? ⟨w.heap.size, 14, none⟩ = some (.int .i64 a14))) := ahide (HZ.out.later (Below.refl _ _).drew)
  have HNV : Hid (w.heap.size ≠ w.heap.size + 1) := ahide (by omega)
  obtain ⟨c0, c1, c2, c3, c4, c5, c6, c7, c8, c9, c10, c11, c12, c13, c14⟩ := Z.out
  go_region_held3 (fun u => (u.cell? ⟨w.heap.size, 0, none⟩ = some (.int .i64 a0) ∧ u.cell? ⟨w.heap.size, 1, none⟩ = some (.int .i64 a1) ∧ u.cell? ⟨w.heap.size, 2, none⟩ = some (.int .i64 a2) ∧ u.cell? ⟨w.heap.size, 3, none⟩ = some (.int .i64 a3) ∧ u.cell? ⟨w.heap.size, 4, none⟩ = some (.int .i64 a4) ∧ u.cell? ⟨w.heap.size, 5, none⟩ = some (.int .i64 a5) ∧ u.cell? ⟨w.heap.size, 6, none⟩ = some (.int .i64 a6) ∧ u.cell? ⟨w.heap.size, 7, none⟩ = some (.int .i64 a7) ∧ u.cell? ⟨w.heap.size, 8, none⟩ = some (.int .i64 a8) ∧ u.cell? ⟨w.heap.size, 9, none⟩ = some (.int .i64 a9) ∧ u.cell? ⟨w.heap.size, 10, none⟩ = some (.int .i64 a10) ∧ u.cell? ⟨w.heap.size, 11, none⟩ = some (.int .i64 a11) ∧ u.cell? ⟨w.heap.size, 12, none⟩ = some (.slice p n cn) ∧ u.cell? ⟨w.heap.size, 13, none⟩ = some (.slice q m cm) ∧ u.cell? ⟨w.heap.size, 14, none⟩ = some (.int .i64 a14)))
    (first
      | (with_reducible assumption)
      | (with_reducible exact Zd.out)
      | (with_reducible exact KS.out)
      | (with_reducible exact axb_set7 HNV.out KS.out))
    (first
      | (go_at_call 43; refine (hgr _).mono ?_; rintro e w2 ⟨rfl, hb⟩; have hb := abelow_up (Below.refl _ w1).drew hb; have KS : Hid ((w2.cell? ⟨w.heap.size, 0, none⟩ = some (.int .i64 a0) ∧ w2.cell? ⟨w.heap.size, 1, none⟩ = some (.int .i64 a1) ∧ w2.cell? ⟨w.heap.size, 2, none⟩ = some (.int .i64 a2) ∧ w2.cell? ⟨w.heap.size, 3, none⟩ = some (.int .i64 a3) ∧ w2.cell? ⟨w.heap.size, 4, none⟩ = some (.int .i64 a4) ∧ w2.cell? ⟨w.heap.size, 5, none⟩ = some (.int .i64 a5) ∧ w2.cell? ⟨w.heap.size, 6, none⟩ = some (.int .i64 a6) ∧ w2.cell? ⟨w.heap.size, 7, none⟩ = some (.int .i64 a7) ∧ w2.cell? ⟨w.heap.size, 8, none⟩ = some (.int .i64 a8) ∧ w2.cell? ⟨w.heap.size, 9, none⟩ = some (.int .i64 a9) ∧ w2.cell? ⟨w.heap.size, 10, none⟩ = some (.int .i64 a10) ∧ w2.cell? ⟨w.heap.size, 11, none⟩ = some (.int .i64 a11) ∧ w2.cell? ⟨w.heap.size, 12, none⟩ = some (.slice p n cn) ∧ w2.cell? ⟨w.heap.size, 13, none⟩ = some (.slice q m cm) ∧ w2.cell? ⟨w.heap.size, 14, none⟩ = some (.int .i64 a14))) := ahide (HZ.out.later hb); have HR2 := ahide (HR.out.later hb); have HB2 := ahide (abelow_up HB.out hb); obtain ⟨⟨⟨t0, u0⟩, ⟨t1, u1⟩, ⟨t2, u2⟩, ⟨t3, u3⟩, ⟨t4, u4⟩, ⟨t5, u5⟩, t6, u6⟩, _⟩ := HR2.out; clear hb))
  all_goals
    go_wp2_with fail
    refine bodyPost_ret (v := .agg #[.int .i64 a0, .int .i64 a1, .int .i64 a11, .int .i64 a14, .int .i64 ((a4 - 1) * a5), .slice p n cn, .slice q m cm]) (by simp [results, Tryd.results46, go_sem, *]) rfl ⟨rfl, ?_⟩
    exact ((((((HB2.out.setCell (by simp) _).setCell (by simp) _).setCell (by simp) _).setCell (by simp) _).setCell (by simp) _).setCell (by simp) _).setCell (by simp) _

end Go.Proofs.YtaonbbimnenehaaDoor
