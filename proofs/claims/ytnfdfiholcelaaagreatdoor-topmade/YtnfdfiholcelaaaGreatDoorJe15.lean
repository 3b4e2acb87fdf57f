import Derived.Deep.WholeRow
import Derived.Deep.MidRow
import Derived.Test.YtnfdfiholcelaaaGreatDoorJe00
import Derived.Test.YtnfdfiholcelaaaGreatDoorJe01
import Derived.Test.YtnfdfiholcelaaaGreatDoorJe05
import Derived.Test.YtnfdfiholcelaaaGreatDoorJe08
import Derived.Test.YtnfdfiholcelaaaGreatDoorJe12
import Derived.Test.YtnfdfiholcelaaaGreatDoorJe13
import Derived.Test.YtnfdfiholcelaaaGreatDoorJe14
set_option maxRecDepth 100000
set_option maxHeartbeats 20000000
namespace Go.Proofs.YtnfdfiholcelaaaGreatDoor
open Go.RowKit Plain Tryz
theorem Zgu {s t : Int} (s0 : 2 ≤ s) (s1 : s ≤ 4) (t0 : 1 ≤ t) (t1 : t ≤ 1000) : 1 ≤ (s - 1) * t ∧ (s - 1) * t ≤ 3000 := by
 rcases (show s = 2 ∨ s = 3 ∨ s = 4 by omega) with rfl | rfl | rfl <;> omega
theorem Zdq (a0 a1 a2 a3 a4 a5 a6 a7 a8 a9 a10 a11 a14 : Int) (p q : Option Addr) (n m cn cm : Nat) (w : World) :
 Calls prog 104 #[.agg #[Vi a0, Vi a1, Vi a2, Vi a3, Vi a4, Vi a5, Vi a6, Vi a7, Vi a8, Vi a9, Vi a10, Vi a11, .slice p n cn, .slice q m cm, Vi a14]] w fun e w' => e = .returned (.agg #[Vi a8, Vi a9]) ∧ Below w.heap.size w w' := by
 go_enter func104, ntmps104
 go_wp2; exact bodyPost_ret (v := .agg #[Vi a8, Vi a9]) (by simp [results, results104, go_sem]) rfl ⟨rfl, Zac (Zaa _ _) (Zaa _ _)⟩
theorem Zgc (a0 a1 a2 a3 a4 a5 a6 a7 a8 a9 a10 a11 a14 : Int) (p q : Option Addr) (n m cn cm : Nat) (w : World) :
 Calls prog 49 #[.agg #[Vi a0, Vi a1, Vi a2, Vi a3, Vi a4, Vi a5, Vi a6, Vi a7, Vi a8, Vi a9, Vi a10, Vi a11, .slice p n cn, .slice q m cm, Vi a14]] w fun e w' => e = .returned (.agg #[Vi a8, Vi a9]) ∧ Below w.heap.size w w' := by
 go_enter func49, ntmps49
 go_wp2; exact bodyPost_ret (v := .agg #[Vi a8, Vi a9]) (by simp [results, results49, go_sem]) rfl ⟨rfl, Zac (Zaa _ _) (Zaa _ _)⟩
theorem Zdf (a0 a1 a2 a3 a4 a5 a6 a7 a8 a9 a10 a11 a14 : Int) (p q : Option Addr) (n m cn cm : Nat) (w : World) :
 Calls prog 106 #[.agg #[Vi a0, Vi a1, Vi a2, Vi a3, Vi a4, Vi a5, Vi a6, Vi a7, Vi a8, Vi a9, Vi a10, Vi a11, .slice p n cn, .slice q m cm, Vi a14]] w fun e w' => e = .returned (.agg #[Vi a5, Vi a6, Vi a7, Vi a10]) ∧ Below w.heap.size w w' := by
 go_enter func106, ntmps106
 go_wp2; exact bodyPost_ret (v := .agg #[Vi a5, Vi a6, Vi a7, Vi a10]) (by simp [results, results106, go_sem]) rfl ⟨rfl, Zac (Zaa _ _) (Zaa _ _)⟩
theorem Zgs (a0 a1 a2 a3 a4 a5 a6 a7 a8 a9 a10 a11 a14 : Int) (p q : Option Addr) (n m cn cm : Nat) (w : World) :
 Calls prog 46 #[.agg #[Vi a0, Vi a1, Vi a2, Vi a3, Vi a4, Vi a5, Vi a6, Vi a7, Vi a8, Vi a9, Vi a10, Vi a11, .slice p n cn, .slice q m cm, Vi a14]] w fun e w' => e = .returned (.agg #[Vi a5, Vi a6, Vi a7, Vi a10]) ∧ Below w.heap.size w w' := by
 go_enter func46, ntmps46
 go_wp2; exact bodyPost_ret (v := .agg #[Vi a5, Vi a6, Vi a7, Vi a10]) (by simp [results, results46, go_sem]) rfl ⟨rfl, Zac (Zaa _ _) (Zaa _ _)⟩
theorem Zck (a0 a1 a2 a3 a4 a5 a6 a7 a8 a9 a10 a11 a14 : Int) (p q : Option Addr) (n m cn cm : Nat) (h4 : 2 ≤ a4 ∧ a4 ≤ 4) (h5 : 1 ≤ a5 ∧ a5 ≤ 1000) (h3 : 0 ≤ a3 ∧ a3 ≤ 1000) (h7 : 0 ≤ a7 ∧ a7 ≤ 1000) (h6 : 1 ≤ a6 ∧ a6 ≤ 1000) (w : World) :
 Calls prog 170 #[.agg #[Vi a0, Vi a1, Vi a2, Vi a3, Vi a4, Vi a5, Vi a6, Vi a7, Vi a8, Vi a9, Vi a10, Vi a11, .slice p n cn, .slice q m cm, Vi a14]] w fun e w' => e = .returned (.agg #[Vi a0, Vi a1, Vi a2, Vi (a3 + a7), Vi ((a4 - 1) * a5), Vi ((a4 - 1) * a6)]) ∧ Below w.heap.size w w' := by
 obtain ⟨x4, y4⟩ := h4; obtain ⟨b50, b51⟩ := Zgu x4 y4 h5.1 h5.2; have v5 := Wr ((a4 - 1) * a5)
 have v5' : IntKind.i64.wrap (a5 * (a4 - 1)) = (a4 - 1) * a5 := by rw [Int.mul_comm]; exact v5
 obtain ⟨b60, b61⟩ := Zgu x4 y4 h6.1 h6.2; obtain ⟨x3, y3⟩ := h3; obtain ⟨x7, y7⟩ := h7; have v6 := Wr ((a4 - 1) * a6)
 have v6' : IntKind.i64.wrap (a6 * (a4 - 1)) = (a4 - 1) * a6 := by rw [Int.mul_comm]; exact v6
 go_enter func170, ntmps170
 go_wp2; exact bodyPost_ret (v := .agg #[Vi a0, Vi a1, Vi a2, Vi (a3 + a7), Vi ((a4 - 1) * a5), Vi ((a4 - 1) * a6)]) (by simp [results, results170, go_sem]) rfl ⟨rfl, Zac (Zaa _ _) (Zaa _ _)⟩
theorem Zcx (a0 a1 a2 a3 a4 a5 a6 a7 a8 a9 a10 a11 a14 : Int) (p q : Option Addr) (n m cn cm : Nat) (h4 : 2 ≤ a4 ∧ a4 ≤ 4) (h5 : 1 ≤ a5 ∧ a5 ≤ 1000) (h3 : 0 ≤ a3 ∧ a3 ≤ 1000) (h7 : 0 ≤ a7 ∧ a7 ≤ 1000) (h6 : 1 ≤ a6 ∧ a6 ≤ 1000) (w : World) :
 Calls prog 40 #[.agg #[Vi a0, Vi a1, Vi a2, Vi a3, Vi a4, Vi a5, Vi a6, Vi a7, Vi a8, Vi a9, Vi a10, Vi a11, .slice p n cn, .slice q m cm, Vi a14]] w fun e w' => e = .returned (.agg #[Vi a0, Vi a1, Vi a2, Vi (a3 + a7), Vi ((a4 - 1) * a5), Vi ((a4 - 1) * a6)]) ∧ Below w.heap.size w w' := by
 obtain ⟨x4, y4⟩ := h4; obtain ⟨b50, b51⟩ := Zgu x4 y4 h5.1 h5.2; have v5 := Wr ((a4 - 1) * a5)
 have v5' : IntKind.i64.wrap (a5 * (a4 - 1)) = (a4 - 1) * a5 := by rw [Int.mul_comm]; exact v5
 obtain ⟨b60, b61⟩ := Zgu x4 y4 h6.1 h6.2; obtain ⟨x3, y3⟩ := h3; obtain ⟨x7, y7⟩ := h7; have v6 := Wr ((a4 - 1) * a6)
 have v6' : IntKind.i64.wrap (a6 * (a4 - 1)) = (a4 - 1) * a6 := by rw [Int.mul_comm]; exact v6
 go_enter func40, ntmps40
 go_wp2; exact bodyPost_ret (v := .agg #[Vi a0, Vi a1, Vi a2, Vi (a3 + a7), Vi ((a4 - 1) * a5), Vi ((a4 - 1) * a6)]) (by simp [results, results40, go_sem]) rfl ⟨rfl, Zac (Zaa _ _) (Zaa _ _)⟩
theorem Zgd (a0 a1 a2 a3 a4 a5 a6 a7 a8 a9 a10 a11 a14 : Int) (p q : Option Addr) (n m cn cm : Nat) (h4 : 2 ≤ a4 ∧ a4 ≤ 4) (h5 : 1 ≤ a5 ∧ a5 ≤ 1000) (w : World) :
 Calls prog 44 #[.agg #[Vi a0, Vi a1, Vi a2, Vi a3, Vi a4, Vi a5, Vi a6, Vi a7, Vi a8, Vi a9, Vi a10, Vi a11, .slice p n cn, .slice q m cm, Vi a14]] w fun e w' => e = .returned (.agg #[Vi a0, Vi a1, Vi a11, Vi a14, Vi ((a4 - 1) * a5), .slice p n cn, .slice q m cm]) ∧ Below w.heap.size w w' := by
 obtain ⟨x4, y4⟩ := h4; obtain ⟨b50, b51⟩ := Zgu x4 y4 h5.1 h5.2; have v5 := Wr ((a4 - 1) * a5)
 have v5' : IntKind.i64.wrap (a5 * (a4 - 1)) = (a4 - 1) * a5 := by rw [Int.mul_comm]; exact v5
 go_enter func44, ntmps44
 go_wp2; exact bodyPost_ret (v := .agg #[Vi a0, Vi a1, Vi a11, Vi a14, Vi ((a4 - 1) * a5), .slice p n cn, .slice q m cm]) (by simp [results, results44, go_sem]) rfl ⟨rfl, Zac (Zaa _ _) (Zaa _ _)⟩
def Room7 (w u : World) : Prop := ((u.cell? (Ad (w.heap.size + 1) 0) = some (Vi 0) ∧ u.frozen? (Ad (w.heap.size + 1) 0) = false) ∧ (u.cell? (Ad (w.heap.size + 1) 1) = some (Vi 0) ∧ u.frozen? (Ad (w.heap.size + 1) 1) = false) ∧ (u.cell? (Ad (w.heap.size + 1) 2) = some (Vi 0) ∧ u.frozen? (Ad (w.heap.size + 1) 2) = false) ∧ (u.cell? (Ad (w.heap.size + 1) 3) = some (Vi 0) ∧ u.frozen? (Ad (w.heap.size + 1) 3) = false) ∧ (u.cell? (Ad (w.heap.size + 1) 4) = some (Vi 0) ∧ u.frozen? (Ad (w.heap.size + 1) 4) = false) ∧ (u.cell? (Ad (w.heap.size + 1) 5) = some (.slice none 0 0) ∧ u.frozen? (Ad (w.heap.size + 1) 5) = false) ∧ (u.cell? (Ad (w.heap.size + 1) 6) = some (.slice none 0 0) ∧ u.frozen? (Ad (w.heap.size + 1) 6) = false)) ∧ w.heap.size + 1 < u.heap.size
theorem Room7.later {w u u' : World} (h : Room7 w u) (hb : Below u.heap.size u u') : Room7 w u' := by
 obtain ⟨⟨⟨a0, b0⟩, ⟨a1, b1⟩, ⟨a2, b2⟩, ⟨a3, b3⟩, ⟨a4, b4⟩, ⟨a5, b5⟩, a6, b6⟩, hl⟩ := h; have f : ∀ j, u'.frozen? (Ad (w.heap.size + 1) j) = u.frozen? (Ad (w.heap.size + 1) j) := fun j => hb.frozen (p := ⟨w.heap.size + 1, j, none⟩) hl; exact ⟨⟨⟨cell_later hb a0, (f 0).trans b0⟩, ⟨cell_later hb a1, (f 1).trans b1⟩, ⟨cell_later hb a2, (f 2).trans b2⟩, ⟨cell_later hb a3, (f 3).trans b3⟩, ⟨cell_later hb a4, (f 4).trans b4⟩, ⟨cell_later hb a5, (f 5).trans b5⟩, cell_later hb a6, (f 6).trans b6⟩, Nat.lt_of_lt_of_le hl hb.size⟩
def AxB (u : World) (B : Nat) (a0 a1 a2 a3 a4 a5 a6 a7 a8 a9 a10 a11 a14 : Int) (p q : Option Addr) (n m cn cm : Nat) : Prop := (u.cell? (Ad B 0) = some (Vi a0) ∧ u.cell? (Ad B 1) = some (Vi a1) ∧ u.cell? (Ad B 2) = some (Vi a2) ∧ u.cell? (Ad B 3) = some (Vi a3) ∧ u.cell? (Ad B 4) = some (Vi a4) ∧ u.cell? (Ad B 5) = some (Vi a5) ∧ u.cell? (Ad B 6) = some (Vi a6) ∧ u.cell? (Ad B 7) = some (Vi a7) ∧ u.cell? (Ad B 8) = some (Vi a8) ∧ u.cell? (Ad B 9) = some (Vi a9) ∧ u.cell? (Ad B 10) = some (Vi a10) ∧ u.cell? (Ad B 11) = some (Vi a11) ∧ u.cell? (Ad B 12) = some (.slice p n cn) ∧ u.cell? (Ad B 13) = some (.slice q m cm) ∧ u.cell? (Ad B 14) = some (Vi a14))
theorem AxB.later {u u' : World} {B : Nat} {a0 a1 a2 a3 a4 a5 a6 a7 a8 a9 a10 a11 a14 : Int} {p q : Option Addr} {n m cn cm : Nat} (h : AxB u B a0 a1 a2 a3 a4 a5 a6 a7 a8 a9 a10 a11 a14 p q n m cn cm) (hb : Below u.heap.size u u') : AxB u' B a0 a1 a2 a3 a4 a5 a6 a7 a8 a9 a10 a11 a14 p q n m cn cm := by
 obtain ⟨c0, c1, c2, c3, c4, c5, c6, c7, c8, c9, c10, c11, c12, c13, c14⟩ := h; exact ⟨cell_later hb c0, cell_later hb c1, cell_later hb c2, cell_later hb c3, cell_later hb c4, cell_later hb c5, cell_later hb c6, cell_later hb c7, cell_later hb c8, cell_later hb c9, cell_later hb c10, cell_later hb c11, cell_later hb c12, cell_later hb c13, cell_later hb c14⟩
theorem AxB.new (w : World) (a0 a1 a2 a3 a4 a5 a6 a7 a8 a9 a10 a11 a14 : Int) (p q : Option Addr) (n m cn cm : Nat) : AxB (w.alloc (.cells #[Vi a0, Vi a1, Vi a2, Vi a3, Vi a4, Vi a5, Vi a6, Vi a7, Vi a8, Vi a9, Vi a10, Vi a11, .slice p n cn, .slice q m cm, Vi a14] 26)) w.heap.size a0 a1 a2 a3 a4 a5 a6 a7 a8 a9 a10 a11 a14 p q n m cn cm := by
 refine ⟨?_, ?_, ?_, ?_, ?_, ?_, ?_, ?_, ?_, ?_, ?_, ?_, ?_, ?_, ?_⟩ <;> simp [go_sem]
theorem Zgx {u : World} {B V j : Nat} {x : Value} {a0 a1 a2 a3 a4 a5 a6 a7 a8 a9 a10 a11 a14 : Int} {p q : Option Addr} {n m cn cm : Nat} (hV : B ≠ V) (h : AxB u B a0 a1 a2 a3 a4 a5 a6 a7 a8 a9 a10 a11 a14 p q n m cn cm) : AxB (u.setCell (Ad V j) x) B a0 a1 a2 a3 a4 a5 a6 a7 a8 a9 a10 a11 a14 p q n m cn cm := by
 have f : ∀ i y, u.cell? (Ad B i) = some y → (u.setCell (Ad V j) x).cell? (Ad B i) = some y := fun i y hy => (World.cell?_setCell_other _ _ _ _ (fun e => hV (congrArg Addr.block e).symm)).trans hy; obtain ⟨c0, c1, c2, c3, c4, c5, c6, c7, c8, c9, c10, c11, c12, c13, c14⟩ := h; exact ⟨f _ _ c0, f _ _ c1, f _ _ c2, f _ _ c3, f _ _ c4, f _ _ c5, f _ _ c6, f _ _ c7, f _ _ c8, f _ _ c9, f _ _ c10, f _ _ c11, f _ _ c12, f _ _ c13, f _ _ c14⟩
theorem axb_set7 {u : World} {B V : Nat} {x0 x1 x2 x3 x4 x5 x6 : Value} {a0 a1 a2 a3 a4 a5 a6 a7 a8 a9 a10 a11 a14 : Int} {p q : Option Addr} {n m cn cm : Nat} (hV : B ≠ V) (h : (u.cell? (Ad B 0) = some (Vi a0) ∧ u.cell? (Ad B 1) = some (Vi a1) ∧ u.cell? (Ad B 2) = some (Vi a2) ∧ u.cell? (Ad B 3) = some (Vi a3) ∧ u.cell? (Ad B 4) = some (Vi a4) ∧ u.cell? (Ad B 5) = some (Vi a5) ∧ u.cell? (Ad B 6) = some (Vi a6) ∧ u.cell? (Ad B 7) = some (Vi a7) ∧ u.cell? (Ad B 8) = some (Vi a8) ∧ u.cell? (Ad B 9) = some (Vi a9) ∧ u.cell? (Ad B 10) = some (Vi a10) ∧ u.cell? (Ad B 11) = some (Vi a11) ∧ u.cell? (Ad B 12) = some (.slice p n cn) ∧ u.cell? (Ad B 13) = some (.slice q m cm) ∧ u.cell? (Ad B 14) = some (Vi a14))) : ((((((((u.setCell (Ad V 0) x0).setCell (Ad V 1) x1).setCell (Ad V 2) x2).setCell (Ad V 3) x3).setCell (Ad V 4) x4).setCell (Ad V 5) x5).setCell (Ad V 6) x6).cell? (Ad B 0) = some (Vi a0) ∧ (((((((u.setCell (Ad V 0) x0).setCell (Ad V 1) x1).setCell (Ad V 2) x2).setCell (Ad V 3) x3).setCell (Ad V 4) x4).setCell (Ad V 5) x5).setCell (Ad V 6) x6).cell? (Ad B 1) = some (Vi a1) ∧ (((((((u.setCell (Ad V 0) x0).setCell (Ad V 1) x1).setCell (Ad V 2) x2).setCell (Ad V 3) x3).setCell (Ad V 4) x4).setCell (Ad V 5) x5).setCell (Ad V 6) x6).cell? (Ad B 2) = some (Vi a2) ∧ (((((((u.setCell (Ad V 0) x0).setCell (Ad V 1) x1).setCell (Ad V 2) x2).setCell (Ad V 3) x3).setCell (Ad V 4) x4).setCell (Ad V 5) x5).setCell (Ad V 6) x6).cell? (Ad B 3) = some (Vi a3) ∧ (((((((u.setCell (Ad V 0) x0).setCell (Ad V 1) x1).setCell (Ad V 2) x2).setCell (Ad V 3) x3).setCell (Ad V 4) x4).setCell (Ad V 5) x5).setCell (Ad V 6) x6).cell? (Ad B 4) = some (Vi a4) ∧ (((((((u.setCell (Ad V 0) x0).setCell (Ad V 1) x1).setCell (Ad V 2) x2).setCell (Ad V 3) x3).setCell (Ad V 4) x4).setCell (Ad V 5) x5).setCell (Ad V 6) x6).cell? (Ad B 5) = some (Vi a5) ∧ (((((((u.setCell (Ad V 0) x0).setCell (Ad V 1) x1).setCell (Ad V 2) x2).setCell (Ad V 3) x3).setCell (Ad V 4) x4).setCell (Ad V 5) x5).setCell (Ad V 6) x6).cell? (Ad B 6) = some (Vi a6) ∧ (((((((u.setCell (Ad V 0) x0).setCell (Ad V 1) x1).setCell (Ad V 2) x2).setCell (Ad V 3) x3).setCell (Ad V 4) x4).setCell (Ad V 5) x5).setCell (Ad V 6) x6).cell? (Ad B 7) = some (Vi a7) ∧ (((((((u.setCell (Ad V 0) x0).setCell (Ad V 1) x1).setCell (Ad V 2) x2).setCell (Ad V 3) x3).setCell (Ad V 4) x4).setCell (Ad V 5) x5).setCell (Ad V 6) x6).cell? (Ad B 8) = some (Vi a8) ∧ (((((((u.setCell (Ad V 0) x0).setCell (Ad V 1) x1).setCell (Ad V 2) x2).setCell (Ad V 3) x3).setCell (Ad V 4) x4).setCell (Ad V 5) x5).setCell (Ad V 6) x6).cell? (Ad B 9) = some (Vi a9) ∧ (((((((u.setCell (Ad V 0) x0).setCell (Ad V 1) x1).setCell (Ad V 2) x2).setCell (Ad V 3) x3).setCell (Ad V 4) x4).setCell (Ad V 5) x5).setCell (Ad V 6) x6).cell? (Ad B 10) = some (Vi a10) ∧ (((((((u.setCell (Ad V 0) x0).setCell (Ad V 1) x1).setCell (Ad V 2) x2).setCell (Ad V 3) x3).setCell (Ad V 4) x4).setCell (Ad V 5) x5).setCell (Ad V 6) x6).cell? (Ad B 11) = some (Vi a11) ∧ (((((((u.setCell (Ad V 0) x0).setCell (Ad V 1) x1).setCell (Ad V 2) x2).setCell (Ad V 3) x3).setCell (Ad V 4) x4).setCell (Ad V 5) x5).setCell (Ad V 6) x6).cell? (Ad B 12) = some (.slice p n cn) ∧ (((((((u.setCell (Ad V 0) x0).setCell (Ad V 1) x1).setCell (Ad V 2) x2).setCell (Ad V 3) x3).setCell (Ad V 4) x4).setCell (Ad V 5) x5).setCell (Ad V 6) x6).cell? (Ad B 13) = some (.slice q m cm) ∧ (((((((u.setCell (Ad V 0) x0).setCell (Ad V 1) x1).setCell (Ad V 2) x2).setCell (Ad V 3) x3).setCell (Ad V 4) x4).setCell (Ad V 5) x5).setCell (Ad V 6) x6).cell? (Ad B 14) = some (Vi a14)) :=
 Zgx hV (Zgx hV (Zgx hV (Zgx hV (Zgx hV (Zgx hV (Zgx hV h))))))
theorem field_gmost (x0 x1 x2 x3 x4 x5 : Value) (w : World) : (Instr.field 99 (.agg #[x0, x1, x2, x3, x4, x5]) 4).run prog w = .ok x4 w := by kernel_rfl
theorem Zdr (a0 a1 a2 a3 a4 a5 a6 a7 a8 a9 a10 a11 a14 : Int) (p q : Option Addr) (n m cn cm : Nat) (h4 : 2 ≤ a4 ∧ a4 ≤ 4) (h5 : 1 ≤ a5 ∧ a5 ≤ 1000) (h3 : 0 ≤ a3 ∧ a3 ≤ 1000) (h7 : 0 ≤ a7 ∧ a7 ≤ 1000) (h6 : 1 ≤ a6 ∧ a6 ≤ 1000) (w : World) :
 Calls prog 168 #[.agg #[Vi a0, Vi a1, Vi a2, Vi a3, Vi a4, Vi a5, Vi a6, Vi a7, Vi a8, Vi a9, Vi a10, Vi a11, .slice p n cn, .slice q m cm, Vi a14]] w fun e w' => e = .returned (.agg #[Vi a0, Vi a1, Vi a11, Vi a14, Vi ((a4 - 1) * a5), .slice p n cn, .slice q m cm]) ∧ Below w.heap.size w w' := by
 have hgr := fun u => Zck a0 a1 a2 a3 a4 a5 a6 a7 a8 a9 a10 a11 a14 p q n m cn cm h4 h5 h3 h7 h6 u; have hfm := field_gmost; have HZ := Zab ((AxB.new w a0 a1 a2 a3 a4 a5 a6 a7 a8 a9 a10 a11 a14 p q n m cn cm).later (Zaa _ (.cells #[Vi 0, Vi 0, Vi 0, Vi 0, Vi 0, .slice none 0 0, .slice none 0 0] 107))); have HR : Hid (Room7 w ((w.alloc (.cells #[Vi a0, Vi a1, Vi a2, Vi a3, Vi a4, Vi a5, Vi a6, Vi a7, Vi a8, Vi a9, Vi a10, Vi a11, .slice p n cn, .slice q m cm, Vi a14] 26)).alloc (.cells #[Vi 0, Vi 0, Vi 0, Vi 0, Vi 0, .slice none 0 0, .slice none 0 0] 107))) := Zab ⟨⟨⟨by simp [go_sem], by simp [go_sem]⟩, ⟨by simp [go_sem], by simp [go_sem]⟩, ⟨by simp [go_sem], by simp [go_sem]⟩, ⟨by simp [go_sem], by simp [go_sem]⟩, ⟨by simp [go_sem], by simp [go_sem]⟩, ⟨by simp [go_sem], by simp [go_sem]⟩, by simp [go_sem], by simp [go_sem]⟩, by simp [go_sem]⟩; have HB := Zab (Zac (Zaa w (.cells #[Vi a0, Vi a1, Vi a2, Vi a3, Vi a4, Vi a5, Vi a6, Vi a7, Vi a8, Vi a9, Vi a10, Vi a11, .slice p n cn, .slice q m cm, Vi a14] 26)) (Zaa _ (.cells #[Vi 0, Vi 0, Vi 0, Vi 0, Vi 0, .slice none 0 0, .slice none 0 0] 107)))
 go_enter func168, ntmps168
 go_upto_region 1 with fail; generalize ((w.alloc (.cells #[Vi a0, Vi a1, Vi a2, Vi a3, Vi a4, Vi a5, Vi a6, Vi a7, Vi a8, Vi a9, Vi a10, Vi a11, .slice p n cn, .slice q m cm, Vi a14] 26)).alloc (.cells #[Vi 0, Vi 0, Vi 0, Vi 0, Vi 0, .slice none 0 0, .slice none 0 0] 107)) = w1 at *; have Z : Hid ((w1.cell? (Ad w.heap.size 0) = some (Vi a0) ∧ w1.cell? (Ad w.heap.size 1) = some (Vi a1) ∧ w1.cell? (Ad w.heap.size 2) = some (Vi a2) ∧ w1.cell? (Ad w.heap.size 3) = some (Vi a3) ∧ w1.cell? (Ad w.heap.size 4) = some (Vi a4) ∧ w1.cell? (Ad w.heap.size 5) = some (Vi a5) ∧ w1.cell? (Ad w.heap.size 6) = some (Vi a6) ∧ w1.cell? (Ad w.heap.size 7) = some (Vi a7) ∧ w1.cell? (Ad w.heap.size 8) = some (Vi a8) ∧ w1.cell? (Ad w.heap.size 9) = some (Vi a9) ∧ w1.cell? (Ad w.heap.size 10) = some (Vi a10) ∧ w1.cell? (Ad w.heap.size 11) = some (Vi a11) ∧ w1.cell? (Ad w.heap.size 12) = some (.slice p n cn) ∧ w1.cell? (Ad w.heap.size 13) = some (.slice q m cm) ∧ w1.cell? (Ad w.heap.size 14) = some (Vi a14))) := HZ; have Zd : Hid ((w1.drew.cell? (Ad w.heap.size 0) = some (Vi a0) ∧ w1.drew.cell? (Ad w.heap.size 1) = some (Vi a1) ∧ w1.drew.cell? (Ad w.heap.size 2) = some (Vi a2) ∧ w1.drew.cell? (Ad w.heap.size 3) = some (Vi a3) ∧ w1.drew.cell? (Ad w.heap.size 4) = some (Vi a4) ∧ w1.drew.cell? (Ad w.heap.size 5) = some (Vi a5) ∧ w1.drew.cell? (Ad w.heap.size 6) = some (Vi a6) ∧ w1.drew.cell? (Ad w.heap.size 7) = some (Vi a7) ∧ w1.drew.cell? (Ad w.heap.size 8) = some (Vi a8) ∧ w1.drew.cell? (Ad w.heap.size 9) = some (Vi a9) ∧ w1.drew.cell? (Ad w.heap.size 10) = some (Vi a10) ∧ w1.drew.cell? (Ad w.heap.size 11) = some (Vi a11) ∧ w1.drew.cell? (Ad w.heap.size 12) = some (.slice p n cn) ∧ w1.drew.cell? (Ad w.heap.size 13) = some (.slice q m cm) ∧ w1.drew.cell? (Ad w.heap.size 14) = some (Vi a14))) := Zab (HZ.out.later (Below.refl _ _).drew); have HNV : Hid (w.heap.size ≠ w.heap.size + 1) := Zab (by omega); obtain ⟨c0, c1, c2, c3, c4, c5, c6, c7, c8, c9, c10, c11, c12, c13, c14⟩ := Z.out
 go_region_held3 (fun u => (u.cell? (Ad w.heap.size 0) = some (Vi a0) ∧ u.cell? (Ad w.heap.size 1) = some (Vi a1) ∧ u.cell? (Ad w.heap.size 2) = some (Vi a2) ∧ u.cell? (Ad w.heap.size 3) = some (Vi a3) ∧ u.cell? (Ad w.heap.size 4) = some (Vi a4) ∧ u.cell? (Ad w.heap.size 5) = some (Vi a5) ∧ u.cell? (Ad w.heap.size 6) = some (Vi a6) ∧ u.cell? (Ad w.heap.size 7) = some (Vi a7) ∧ u.cell? (Ad w.heap.size 8) = some (Vi a8) ∧ u.cell? (Ad w.heap.size 9) = some (Vi a9) ∧ u.cell? (Ad w.heap.size 10) = some (Vi a10) ∧ u.cell? (Ad w.heap.size 11) = some (Vi a11) ∧ u.cell? (Ad w.heap.size 12) = some (.slice p n cn) ∧ u.cell? (Ad w.heap.size 13) = some (.slice q m cm) ∧ u.cell? (Ad w.heap.size 14) = some (Vi a14)))
  (first
   | (with_reducible assumption)
   | (with_reducible exact Zd.out)
   | (with_reducible exact KS.out)
   | (with_reducible exact axb_set7 HNV.out KS.out))
  (first
   | (go_at_call 170; refine Sb (hgr _) fun w2 hb => ?_; have hb := Zac (Below.refl _ w1).drew hb; have KS : Hid ((w2.cell? (Ad w.heap.size 0) = some (Vi a0) ∧ w2.cell? (Ad w.heap.size 1) = some (Vi a1) ∧ w2.cell? (Ad w.heap.size 2) = some (Vi a2) ∧ w2.cell? (Ad w.heap.size 3) = some (Vi a3) ∧ w2.cell? (Ad w.heap.size 4) = some (Vi a4) ∧ w2.cell? (Ad w.heap.size 5) = some (Vi a5) ∧ w2.cell? (Ad w.heap.size 6) = some (Vi a6) ∧ w2.cell? (Ad w.heap.size 7) = some (Vi a7) ∧ w2.cell? (Ad w.heap.size 8) = some (Vi a8) ∧ w2.cell? (Ad w.heap.size 9) = some (Vi a9) ∧ w2.cell? (Ad w.heap.size 10) = some (Vi a10) ∧ w2.cell? (Ad w.heap.size 11) = some (Vi a11) ∧ w2.cell? (Ad w.heap.size 12) = some (.slice p n cn) ∧ w2.cell? (Ad w.heap.size 13) = some (.slice q m cm) ∧ w2.cell? (Ad w.heap.size 14) = some (Vi a14))) := Zab (HZ.out.later hb); have HR2 := Zab (HR.out.later hb); have HB2 := Zab (Zac HB.out hb); obtain ⟨⟨⟨t0, u0⟩, ⟨t1, u1⟩, ⟨t2, u2⟩, ⟨t3, u3⟩, ⟨t4, u4⟩, ⟨t5, u5⟩, t6, u6⟩, _⟩ := HR2.out; clear hb))
 all_goals
  go_wp2_with fail; refine bodyPost_ret (v := .agg #[Vi a0, Vi a1, Vi a11, Vi a14, Vi ((a4 - 1) * a5), .slice p n cn, .slice q m cm]) (by simp [results, results168, go_sem, *]) rfl ⟨rfl, ?_⟩; exact ((((((HB2.out.setCell (by simp) _).setCell (by simp) _).setCell (by simp) _).setCell (by simp) _).setCell (by simp) _).setCell (by simp) _).setCell (by simp) _
def rgE (s p : Int) : Int := if betw s 2 4 && betw p 0 1000 then 0 else 1
theorem Zdd {s p : Int} (h : rgE s p = 0) : (2 ≤ s ∧ s ≤ 4) ∧ 0 ≤ p ∧ p ≤ 1000 := by
 unfold rgE at h
 split at h
 · rename_i h'
   simp only [Bool.and_eq_true] at h'; exact ⟨Zal h'.1, Zal h'.2⟩
 · omega
def fmE (l n lo hi : Int) : Int := if l < 2 * n ∨ 0 < lo ∨ hi < 0 then 3 else 0
theorem checkRange_any (a0 a1 a2 a3 a4 a5 a6 a7 a8 a9 a10 a11 a14 : Int) (p q : Option Addr) (n m cn cm : Nat) (w : World) : Calls prog 177 #[.agg #[Vi a0, Vi a1, Vi a2, Vi a3, Vi a4, Vi a5, Vi a6, Vi a7, Vi a8, Vi a9, Vi a10, Vi a11, .slice p n cn, .slice q m cm, Vi a14]] w fun e w' => e = .returned (errV (rgE a4 a3)) ∧ Below w.heap.size w w' := by
 have f1 := Zav a4 2 4; have f2 := Zav a3 0 1000
 unfold rgE
 generalize betw a4 2 4 = x1 at *; generalize betw a3 0 1000 = x2 at *
 cases x1
 · go_enter func177, ntmps177
   go_wp2_with (first | ((first | go_at_call_of 76 (Vi a4) | go_at_call_of 76 (Value.int .i64 a4)); refine (f1 _).mono ?_; rintro e w' ⟨rfl, rfl⟩) | ((first | go_at_call_of 76 (Vi a3) | go_at_call_of 76 (Value.int .i64 a3)); refine (f2 _).mono ?_; rintro e w' ⟨rfl, rfl⟩)); go_ret; exact ⟨rfl, by repeat (first | exact Zaa _ _ | refine Zac ?_ (Zaa _ _))⟩
 · cases x2
   · go_enter func177, ntmps177
     go_wp2_with (first | ((first | go_at_call_of 76 (Vi a4) | go_at_call_of 76 (Value.int .i64 a4)); refine (f1 _).mono ?_; rintro e w' ⟨rfl, rfl⟩) | ((first | go_at_call_of 76 (Vi a3) | go_at_call_of 76 (Value.int .i64 a3)); refine (f2 _).mono ?_; rintro e w' ⟨rfl, rfl⟩)); go_ret; exact ⟨rfl, by repeat (first | exact Zaa _ _ | refine Zac ?_ (Zaa _ _))⟩
   · go_enter func177, ntmps177
     go_wp2_with (first | ((first | go_at_call_of 76 (Vi a4) | go_at_call_of 76 (Value.int .i64 a4)); refine (f1 _).mono ?_; rintro e w' ⟨rfl, rfl⟩) | ((first | go_at_call_of 76 (Vi a3) | go_at_call_of 76 (Value.int .i64 a3)); refine (f2 _).mono ?_; rintro e w' ⟨rfl, rfl⟩)); go_ret; exact ⟨rfl, by repeat (first | exact Zaa _ _ | refine Zac ?_ (Zaa _ _))⟩
theorem checkForm_any (a0 a1 a2 a3 a4 a5 a6 a7 a8 a9 a10 a11 a14 : Int) (p q : Option Addr) (n m cn cm : Nat) (hn : 0 ≤ a2 ∧ a2 ≤ 1000) (w : World) : Calls prog 186 #[.agg #[Vi a0, Vi a1, Vi a2, Vi a3, Vi a4, Vi a5, Vi a6, Vi a7, Vi a8, Vi a9, Vi a10, Vi a11, .slice p n cn, .slice q m cm, Vi a14]] w fun e w' => e = .returned (errV (fmE a8 a2 a0 a1)) ∧ Below w.heap.size w w' := by
 obtain ⟨n0, n1⟩ := hn
 unfold fmE
 by_cases h1 : a8 < 2 * a2
 · rw [if_pos (.inl h1), Zbc (by decide)]
   go_enter func186, ntmps186
   go_wp2; go_ret; exact ⟨rfl, Zaa _ _⟩
 · by_cases h2 : 0 < a0
   · rw [if_pos (.inr (.inl h2)), Zbc (by decide)]
     go_enter func186, ntmps186
     go_wp2; go_ret; exact ⟨rfl, Zaa _ _⟩
   · by_cases h3 : a1 < 0
     · rw [if_pos (.inr (.inr h3)), Zbc (by decide)]
       go_enter func186, ntmps186
       go_wp2; go_ret; exact ⟨rfl, Zaa _ _⟩
     · rw [if_neg (by omega), Zaq]
       go_enter func186, ntmps186
       go_wp2; go_ret; exact ⟨rfl, Zaa _ _⟩
theorem clo1_any (a0 a1 a2 a3 a4 a5 a6 a7 a8 a9 a10 a11 a14 : Int) (p q : Option Addr) (n m cn cm : Nat) (B : Nat) (u : World) (h : AxB u B a0 a1 a2 a3 a4 a5 a6 a7 a8 a9 a10 a11 a14 p q n m cn cm) :
 Calls prog 176 #[.pointer (some (Ad B 0))] u fun e w' => e = .returned (errV (rgE a4 a3)) ∧ Below u.heap.size u w' := by
 obtain ⟨c0, c1, c2, c3, c4, c5, c6, c7, c8, c9, c10, c11, c12, c13, c14⟩ := h
 go_enter func176, ntmps176
 go_wp2_with (first
  | (go_at_call 177; refine Sb (checkRange_any a0 a1 a2 a3 a4 a5 a6 a7 a8 a9 a10 a11 a14 p q n m cn cm _) fun w1 hb1 => ?_))
 go_ret; exact ⟨rfl, hb1⟩
theorem clo2_any (a0 a1 a2 a3 a4 a5 a6 a7 a8 a9 a10 a11 a14 : Int) (p q : Option Addr) (n m cn cm : Nat) (B : Nat) (u : World) (h : AxB u B a0 a1 a2 a3 a4 a5 a6 a7 a8 a9 a10 a11 a14 p q n m cn cm) :
 Calls prog 178 #[.pointer (some (Ad B 0))] u fun e w' => e = .returned (errV (Zcc a8 a9)) ∧ Below u.heap.size u w' := by
 obtain ⟨c0, c1, c2, c3, c4, c5, c6, c7, c8, c9, c10, c11, c12, c13, c14⟩ := h
 go_enter func178, ntmps178
 go_wp2_with (first
  | (go_at_call 104; refine Sb (Zdq a0 a1 a2 a3 a4 a5 a6 a7 a8 a9 a10 a11 a14 p q n m cn cm _) fun w1 hb1 => ?_)
  | (go_at_call 117; refine Sb (Zeq a8 a9 _) fun w2 hb2 => ?_))
 go_ret; exact ⟨rfl, Zac hb1 hb2⟩
theorem clo3_any (a0 a1 a2 a3 a4 a5 a6 a7 a8 a9 a10 a11 a14 : Int) (p q : Option Addr) (n m cn cm : Nat) (B : Nat) (u : World) (h : AxB u B a0 a1 a2 a3 a4 a5 a6 a7 a8 a9 a10 a11 a14 p q n m cn cm) :
 Calls prog 179 #[.pointer (some (Ad B 0))] u fun e w' => e = .returned (errV (arE a5 a6 a7 a10)) ∧ Below u.heap.size u w' := by
 obtain ⟨c0, c1, c2, c3, c4, c5, c6, c7, c8, c9, c10, c11, c12, c13, c14⟩ := h
 go_enter func179, ntmps179
 go_wp2_with (first
  | (go_at_call 106; refine Sb (Zdf a0 a1 a2 a3 a4 a5 a6 a7 a8 a9 a10 a11 a14 p q n m cn cm _) fun w1 hb1 => ?_)
  | (go_at_call 180; refine Sb (Zgy a5 a6 a7 a10 _) fun w2 hb2 => ?_))
 go_ret; exact ⟨rfl, Zac hb1 hb2⟩
theorem clo4_any (a0 a1 a2 a3 a4 a5 a6 a7 a8 a9 a10 a11 a14 : Int) (p q : Option Addr) (n m cn cm : Nat) (h4 : 2 ≤ a4 ∧ a4 ≤ 4) (h5 : 1 ≤ a5 ∧ a5 ≤ 1000) (h3 : 0 ≤ a3 ∧ a3 ≤ 1000) (h7 : 0 ≤ a7 ∧ a7 ≤ 1000) (h6 : 1 ≤ a6 ∧ a6 ≤ 1000) (B : Nat) (u : World) (h : AxB u B a0 a1 a2 a3 a4 a5 a6 a7 a8 a9 a10 a11 a14 p q n m cn cm) :
 Calls prog 181 #[.pointer (some (Ad B 0))] u fun e w' => e = .returned (errV (grE a0 a1 a2 (a3 + a7) ((a4 - 1) * a5) ((a4 - 1) * a6))) ∧ Below u.heap.size u w' := by
 obtain ⟨c0, c1, c2, c3, c4, c5, c6, c7, c8, c9, c10, c11, c12, c13, c14⟩ := h
 go_enter func181, ntmps181
 go_wp2_with (first
  | (go_at_call 170; refine Sb (Zck a0 a1 a2 a3 a4 a5 a6 a7 a8 a9 a10 a11 a14 p q n m cn cm h4 h5 h3 h7 h6 _) fun w1 hb1 => ?_)
  | (go_at_call 182; refine Sb (Zgh a0 a1 a2 (a3 + a7) ((a4 - 1) * a5) ((a4 - 1) * a6) _) fun w2 hb2 => ?_))
 go_ret; exact ⟨rfl, Zac hb1 hb2⟩
theorem clo5_any (a0 a1 a2 a3 a4 a5 a6 a7 a8 a9 a10 a11 a14 : Int) (p q : Option Addr) (al zl : List Int) (cn cm : Nat) (h4 : 2 ≤ a4 ∧ a4 ≤ 4) (h5 : 1 ≤ a5 ∧ a5 ≤ 1000) (h3 : 0 ≤ a3 ∧ a3 ≤ 1000) (h7 : 0 ≤ a7 ∧ a7 ≤ 1000) (h6 : 1 ≤ a6 ∧ a6 ≤ 1000) (hm : al.length ≤ 9223372036854775807) (hn : zl.length ≤ 9223372036854775807) (hca : al.length ≤ cn) (B : Nat) (u : World) (h : AxB u B a0 a1 a2 a3 a4 a5 a6 a7 a8 a9 a10 a11 a14 p q al.length zl.length cn cm) (ha : Lst u p al) (hz : Lst u q zl) :
 Calls prog 183 #[.pointer (some (Ad B 0))] u fun e w' => e = .returned (errV (ruE a0 a1 a11 a14 ((a4 - 1) * a5) al zl)) ∧ Below u.heap.size u w' := by
 have HL := Zab (And.intro ha hz); clear ha hz; obtain ⟨c0, c1, c2, c3, c4, c5, c6, c7, c8, c9, c10, c11, c12, c13, c14⟩ := h
 go_enter func183, ntmps183
 go_wp2_with (first
  | (go_at_call 168; refine Sb (Zdr a0 a1 a2 a3 a4 a5 a6 a7 a8 a9 a10 a11 a14 p q al.length zl.length cn cm h4 h5 h3 h7 h6 _) fun w1 hb1 => ?_)
  | (go_at_call 184; refine Sb (Zhl a0 a1 a11 a14 ((a4 - 1) * a5) p q cn cm al zl hm hn hca _ (HL.out.1.later hb1) (HL.out.2.later hb1)) fun w2 hb2 => ?_))
 go_ret; exact ⟨rfl, Zac hb1 hb2⟩
theorem clo6_any (a0 a1 a2 a3 a4 a5 a6 a7 a8 a9 a10 a11 a14 : Int) (p q : Option Addr) (n m cn cm : Nat) (hn : 0 ≤ a2 ∧ a2 ≤ 1000) (B : Nat) (u : World) (h : AxB u B a0 a1 a2 a3 a4 a5 a6 a7 a8 a9 a10 a11 a14 p q n m cn cm) :
 Calls prog 185 #[.pointer (some (Ad B 0))] u fun e w' => e = .returned (errV (fmE a8 a2 a0 a1)) ∧ Below u.heap.size u w' := by
 obtain ⟨c0, c1, c2, c3, c4, c5, c6, c7, c8, c9, c10, c11, c12, c13, c14⟩ := h
 go_enter func185, ntmps185
 go_wp2_with (first
  | (go_at_call 186; refine Sb (checkForm_any a0 a1 a2 a3 a4 a5 a6 a7 a8 a9 a10 a11 a14 p q n m cn cm hn _) fun w1 hb1 => ?_))
 go_ret; exact ⟨rfl, hb1⟩
theorem axisChecks_any (a0 a1 a2 a3 a4 a5 a6 a7 a8 a9 a10 a11 a14 : Int) (p q : Option Addr) (n m cn cm : Nat) (w : World) : Calls prog 115 #[.agg #[Vi a0, Vi a1, Vi a2, Vi a3, Vi a4, Vi a5, Vi a6, Vi a7, Vi a8, Vi a9, Vi a10, Vi a11, .slice p n cn, .slice q m cm, Vi a14]] w fun e w' => e = .returned (.slice (some (Ad (w.heap.size + 1) 0)) 6 6) ∧ w' = (w.alloc (.cells #[Vi a0, Vi a1, Vi a2, Vi a3, Vi a4, Vi a5, Vi a6, Vi a7, Vi a8, Vi a9, Vi a10, Vi a11, .slice p n cn, .slice q m cm, Vi a14] 26)).alloc (.cells #[.func (.func 176) #[] #[.pointer (some (Ad w.heap.size 0))], .func (.func 178) #[] #[.pointer (some (Ad w.heap.size 0))], .func (.func 179) #[] #[.pointer (some (Ad w.heap.size 0))], .func (.func 181) #[] #[.pointer (some (Ad w.heap.size 0))], .func (.func 183) #[] #[.pointer (some (Ad w.heap.size 0))], .func (.func 185) #[] #[.pointer (some (Ad w.heap.size 0))]] 142) := by
 go_enter func115, ntmps115
 go_wp2; go_ret; exact ⟨rfl, rfl⟩
theorem Zhd (x0 x1 x2 x3 x4 x5 x6 x7 x8 x9 x10 x11 x12 x13 x14 x15 x16 x17 x18 x19 x20 x21 x22 x23 x24 x25 x26 x27 x28 x29 : Value) (c0 c1 : Int) (w : World) : Calls prog 103 #[.agg #[x0, x1, x2, x3, x4, x5, x6, x7, x8, x9, x10, x11, x12, x13, x14, x15, x16, x17, x18, x19, x20, x21, x22, x23, x24, x25, x26, x27, x28, x29, Vi c0, Vi c1]] w fun e w' => e = .returned (.agg #[Vi c0, Vi c1]) ∧ Below w.heap.size w w' := by
 go_enter func103, ntmps103
 go_wp2; exact bodyPost_ret (v := .agg #[Vi c0, Vi c1]) (by simp [results, results103, go_sem]) rfl ⟨rfl, Zac (Zaa _ _) (Zaa _ _)⟩
theorem rangeAt_later {u u' : World} {B o : Nat} {cs : List Value} (h : u.rangeAt B o cs) (hb : Below u.heap.size u u') : u'.rangeAt B o cs := fun j v hv => cell_later hb (h j v hv)
theorem check1_any (x0 x1 x2 x3 x4 x5 x6 x7 x8 x9 x10 x11 x12 x13 x14 x15 x16 x17 x18 x19 x20 x21 x22 x23 x24 x25 x26 x27 x28 x29 : Value) (c0 c1 : Int) (B : Nat) (u : World) (h : u.rangeAt B 0 [x0, x1, x2, x3, x4, x5, x6, x7, x8, x9, x10, x11, x12, x13, x14, x15, x16, x17, x18, x19, x20, x21, x22, x23, x24, x25, x26, x27, x28, x29, Vi c0, Vi c1]) : Calls prog 116 #[.pointer (some (Ad B 0))] u fun e w' => e = .returned (errV (Zcc c0 c1)) ∧ Below u.heap.size u w' := by
 have HR := Zab h; clear h
 go_enter func116, ntmps116
 go_wp2_with (first
  | (refine Lq 29 _ rfl ?_; refine wpList_load_mid rfl 29 (.tmp 0) rfl B 0 rfl [x0, x1, x2, x3, x4, x5, x6, x7, x8, x9, x10, x11, x12, x13, x14, x15, x16, x17, x18, x19, x20, x21, x22, x23, x24, x25, x26, x27, x28, x29, Vi c0, Vi c1] _ HR.out underlying29 rfl Zam ?_)
  | (go_at_call 103; refine Sb (Zhd x0 x1 x2 x3 x4 x5 x6 x7 x8 x9 x10 x11 x12 x13 x14 x15 x16 x17 x18 x19 x20 x21 x22 x23 x24 x25 x26 x27 x28 x29 c0 c1 _) fun w1 hb1 => ?_)
  | (go_at_call 117; refine Sb (Zeq c0 c1 _) fun w2 hb2 => ?_))
 go_ret; exact ⟨rfl, Zac hb1 hb2⟩
theorem Zaw : (prog.info? 26).map (·.size) = some 15 := by kernel_rfl
theorem Zgq : (prog.info? 27).map (·.size) = some 30 := by kernel_rfl
theorem Zbh {ops : Array Oper} {rest : List Oper} {op : Oper} {a : Act} {w : World} {Q : Exit → Act → World → Prop} {c c' : Array Value} (x y : Operand) (hgd : op.guard = none) (ho : op.op = .store 26 x y)
 (hx : a.eval x = .pointer (some (Ad w.heap.size 0))) (hy : a.eval y = .agg c') (hs : c'.size = 15) (hc : c.size = c'.size) (h1 : c'.all (·.oneCell') = true)
 (h : wpList prog ops Q rest (a.put op.dst undef) (w.alloc (.cells c' 26))) : wpList prog ops Q (op :: rest) a (w.alloc (.cells c 26)) :=
 wpList_plain hgd fun _ hK => by
  unfold Oper.wp execOp
  simp only [ho, hx, hy, Sem.run_bind, Sem.run_pure, Result.andThen_ok, run_storeAt_new w 26 c c' (by rw [Zaw, hs]) hc h1]; exact hK _ _ h
theorem axidx0 (C : CR) (w : World) : (Instr.index 27 (.agg (axL C 0 ++ axL C 1).toArray) (Vi 0)).run prog w = .ok (.agg (axL C 0).toArray) w := by kernel_rfl
theorem axidx1 (C : CR) (w : World) : (Instr.index 27 (.agg (axL C 0 ++ axL C 1).toArray) (Vi 1)).run prog w = .ok (.agg (axL C 1).toArray) w := by kernel_rfl
theorem speedRule_c (C : CR) (w : World) : Calls prog 103 #[.agg (crL C).toArray] w fun e w' => e = .returned (.agg #[Vi C.c0, Vi C.c1]) ∧ Below w.heap.size w w' := Zhd _ _ _ _ _ _ _ _ _ _ _ _ _ _ _ _ _ _ _ _ _ _ _ _ _ _ _ _ _ _ C.c0 C.c1 w
theorem voteBanks_ok {K : Nat} {wz w : World} {B : Nat} {S : FS} {C : CR} {a : Option Addr} {cap : Nat} {l : List Rd} {sv : Nat → List Sv} {G : Nat → Nat} (hf : FR K wz w B S C a cap l sv G)
 (h2 : Zcn (S.bk 2).b (S.bk 2).l C.c0 C.c1 (tS l 8) (sS l 8) = 0) (h0 : Zcn (S.bk 0).b (S.bk 0).l (C.a 0 8) (C.a 0 9) (tS l 1) (sS l 1) = 0) (h1 : Zcn (S.bk 1).b (S.bk 1).l (C.a 1 8) (C.a 1 9) (tS l 2) (sS l 2) = 0) :
 Calls prog 58 #[.pointer (some (Ad B 0))] w fun e w' => e = .returned .nilIface ∧ FR K wz w' B ({ S with bk := upd (upd (upd S.bk 2 (vbk (S.bk 2) C.c0 C.c1 (tS l 8) (sS l 8))) 0 (vbk (S.bk 0) (C.a 0 8) (C.a 0 9) (tS l 1) (sS l 1))) 1 (vbk (S.bk 1) (C.a 1 8) (C.a 1 9) (tS l 2) (sS l 2)) } : FS) C a cap l sv G := by
 have HF := Zab hf; have HC := Zab (hf.blk.sub 30 32); rw [fr_craft] at HC; have hia := axidx0 C; have hib := axidx1 C; clear hf
 go_enter func58, ntmps58
 go_upto_region 2 with (first
  | (refine Lq 29 _ rfl ?_; refine wpList_load_mid rfl 29 (.tmp 10) rfl B 30 rfl (crL C) _ HC.out underlying29 rfl Zam ?_)
  | (go_at_call 103; refine Sb (speedRule_c C _) fun r hb => ?_; have HFr := Zab (HF.out.later hb); clear hb HF HC)
  | (go_at_call 102; refine Sb (Zgm HFr.out 2 (by omega) 8 C.c0 C.c1 h2) fun z hf => ?_; have HF0 : Hid (FR K wz z B ({ S with bk := upd S.bk 2 (vbk (S.bk 2) C.c0 C.c1 (tS l 8) (sS l 8)) } : FS) C a cap l sv G) := Zab hf; clear hf HFr))
 have HX := Zab (HF0.out.blk.sub 30 30); rw [fr_axes] at HX
 go_upto_region 5 with (first
  | (refine Lq 27 _ rfl ?_; refine wpList_load_mid rfl 27 (.tmp 20) rfl B 30 rfl (axL C 0 ++ axL C 1) _ HX.out underlying27 rfl Zgq ?_))
 clear HX; refine wp_loop_rounds 3 ?_; rw [rounds_succ]; have HA0 : Hid (Blk 26 (z.alloc (.cells (axL C 0).toArray 26)) z.heap.size (axL C 0)) := Zab (Blk.new z _ (axL C 0)); have HFa0 := Zab (HF0.out.later (Zaa z (.cells (axL C 0).toArray 26)))
 go_upto_region 7 with (first
  | (refine Sq 26 _ _ rfl ?_; refine Zbh (c' := (axL C 0).toArray) (.tmp 5) (.tmp 25) rfl rfl rfl rfl rfl rfl (Zau _ rfl) ?_))
 generalize z.alloc (.cells (axL C 0).toArray 26) = v0 at *; generalize z.heap.size = Q0 at HA0 ⊢; clear HF0
 go_wp2_with (first
  | (refine Lq 26 _ rfl ?_; refine wpList_load_mid rfl 26 (.tmp 5) rfl Q0 0 rfl (axL C 0) _ HA0.out.range underlying26 rfl Zaw ?_)
  | (go_at_call 104; refine Sb (Zdq (C.a 0 0) (C.a 0 1) (C.a 0 2) (C.a 0 3) (C.a 0 4) (C.a 0 5) (C.a 0 6) (C.a 0 7) (C.a 0 8) (C.a 0 9) (C.a 0 10) (C.a 0 11) (C.a 0 14) (C.p 0) (C.q 0) (C.al 0).length (C.zl 0).length (C.cn 0) (C.cm 0) _) fun r0 hb => ?_; have HFb0 := Zab (HFa0.out.later hb); clear hb HFa0)
  | (go_at_call 102; refine Sb (Zgm HFb0.out 0 (by omega) 1 _ _ h0) fun z0 hf => ?_; have HF1 : Hid (FR K wz z0 B ({ S with bk := upd (upd S.bk 2 (vbk (S.bk 2) C.c0 C.c1 (tS l 8) (sS l 8))) 0 (vbk (S.bk 0) (C.a 0 8) (C.a 0 9) (tS l 1) (sS l 1)) } : FS) C a cap l sv G) := Zab hf; clear hf HFb0))
 clear HA0; rw [rounds_succ]; have HA1 : Hid (Blk 26 (z0.alloc (.cells (axL C 1).toArray 26)) z0.heap.size (axL C 1)) := Zab (Blk.new z0 _ (axL C 1)); have HFa1 := Zab (HF1.out.later (Zaa z0 (.cells (axL C 1).toArray 26)))
 go_upto_region 7 with (first
  | (refine Sq 26 _ _ rfl ?_; refine Zbh (c' := (axL C 1).toArray) (.tmp 5) (.tmp 25) rfl rfl rfl rfl rfl rfl (Zau _ rfl) ?_))
 generalize z0.alloc (.cells (axL C 1).toArray 26) = v1 at *; generalize z0.heap.size = Q1 at HA1 ⊢; clear HF1
 go_wp2_with (first
  | (refine Lq 26 _ rfl ?_; refine wpList_load_mid rfl 26 (.tmp 5) rfl Q1 0 rfl (axL C 1) _ HA1.out.range underlying26 rfl Zaw ?_)
  | (go_at_call 104; refine Sb (Zdq (C.a 1 0) (C.a 1 1) (C.a 1 2) (C.a 1 3) (C.a 1 4) (C.a 1 5) (C.a 1 6) (C.a 1 7) (C.a 1 8) (C.a 1 9) (C.a 1 10) (C.a 1 11) (C.a 1 14) (C.p 1) (C.q 1) (C.al 1).length (C.zl 1).length (C.cn 1) (C.cm 1) _) fun r1 hb => ?_; have HFb1 := Zab (HFa1.out.later hb); clear hb HFa1)
  | (go_at_call 102; refine Sb (Zgm HFb1.out 1 (by omega) 2 _ _ h1) fun z1 hf => ?_; have HF2 : Hid (FR K wz z1 B ({ S with bk := upd (upd (upd S.bk 2 (vbk (S.bk 2) C.c0 C.c1 (tS l 8) (sS l 8))) 0 (vbk (S.bk 0) (C.a 0 8) (C.a 0 9) (tS l 1) (sS l 1))) 1 (vbk (S.bk 1) (C.a 1 8) (C.a 1 9) (tS l 2) (sS l 2)) } : FS) C a cap l sv G) := Zab hf; clear hf HFb1))
 clear HA1; rw [rounds_succ]; go_wp2_with fail; go_ret; exact ⟨rfl, HF2.out⟩
theorem Zek (v : Int) (w : World) :
 Calls prog 322 #[.agg #[], Vi v] w fun e w' => e = .returned (Vi 0) ∧ Below w.heap.size w w' := by
 go_enter func322, ntmps322
 go_wp2; go_ret; exact ⟨rfl, Zaa _ _⟩
theorem Zeo (lo hi v : Int) (w : World) :
 Calls prog 323 #[.agg #[Vi lo, Vi hi], Vi v] w fun e w' => e = .returned (Vi (Zar v lo hi)) ∧ Below w.heap.size w w' := by
 go_enter func323, ntmps323
 go_wp2_with (go_at_call 172; refine Sm (Zat _ _ _ _) ?_); go_ret; exact ⟨rfl, Zaa _ _⟩
theorem Zgt (x x' : Value) (w : World) : Sem.run prog (method 521 343 (.agg #[x, x']) "fulmar/share.takes") w = .ok (323, .agg #[x, x']) w := by kernel_rfl
theorem lost_method (w : World) : Sem.run prog (method 521 342 (.agg #[]) "fulmar/share.takes") w = .ok (322, .agg #[]) w := by kernel_rfl
def tv (T R : Int) (s : Sv) : Value := if s.2.2 then .iface 342 (.agg #[]) else .iface 343 (.agg #[Vi (loR T R s.1 s.2.2), Vi (hiR T R s.1 s.2.2)])
theorem tk_lost {T R v : Int} {s : Sv} (h : s.2.2 = true) : tk T R s v = 0 := by
 unfold tk loR hiR Zar; rw [h]; simp only [if_true]; split
 · rfl
 · split
   · rfl
   · split <;> omega
def WLs (w : World) (a : Option Addr) (T R : Int) (l : List Sv) : Prop := l = [] ∨ ∃ b off, a = some (Ad b off) ∧ ∀ k, k < l.length → w.cell? (Ad b (off + k)) = some (tv T R (svAt l k))
theorem WLs.later {w w' : World} {a : Option Addr} {T R : Int} {l : List Sv} (h : WLs w a T R l) (hb : Below w.heap.size w w') : WLs w' a T R l := by
 rcases h with h | ⟨b, off, h, hc⟩
 · exact .inl h
 · exact .inr ⟨b, off, h, fun k hk => cell_later hb (hc k hk)⟩
theorem WLs.at {w : World} {a : Option Addr} {T R : Int} {l : List Sv} (h : WLs w a T R l) {k : Nat} (hk : k < l.length) : ∃ b off, a = some (Ad b off) ∧ w.cell? (Ad b (off + k)) = some (tv T R (svAt l k)) := by
 rcases h with h | ⟨b, off, h, hc⟩
 · subst h; simp at hk
 · exact ⟨b, off, h, hc k hk⟩
theorem Zdl (T R S C : Int) (l : List Sv) (v : Int) (a : Option Addr) (cap : Nat) (hok : AllOk T R S C l) (hl : l.length ≤ 9) (w : World) (hw : WLs w a T R l) :
 Calls prog 221 #[.slice a l.length cap, Vi v] w fun e w' => e = .returned (Vi (tot T R l v)) ∧ Below w.heap.size w w' := by
 have HW := Zab hw; have HOK := Zab hok; have hme := Zgt; have hml := lost_method; clear hw hok
 go_enter func221, ntmps221
 go_wp2
 go_loopw [5, 10] (fun s i wr => ∃ k : Nat, k ≤ l.length ∧ i = Vi k ∧ s = Vi (totU T R l v k) ∧ Below w.heap.size w wr) (fun _ i _ => l.length - (intOf i).toNat)
 case atStart => exact ⟨0, Nat.zero_le _, rfl, rfl, Below.refl _ _⟩
 case round =>
  obtain ⟨k, hk, rfl, rfl, hb⟩ := hrel; have HB := Zab hb; have hbd := totU_bd HOK.out v k hk; clear hb
  by_cases hlt : k < l.length
  · obtain ⟨bb, off, rfl, hc⟩ := (HW.out.later HB.out).at hlt; have htb := tk_bd HOK.out hlt v; have HS := Zab (show totU T R l v (k + 1) = totU T R l v k + tk T R (svAt l k) v from rfl); have htk : tk T R (svAt l k) v = Zar v (loR T R (svAt l k).1 (svAt l k).2.2) (hiR T R (svAt l k).1 (svAt l k).2.2) := rfl
    have j0 : (0 : Int) ≤ (k : Int) := by omega
    have j1 : (k : Int) < (l.length : Int) := by omega
    generalize totU T R l v k = s at *
    cases ho : (svAt l k).2.2
    · have hf := Zeo (loR T R (svAt l k).1 (svAt l k).2.2) (hiR T R (svAt l k).1 (svAt l k).2.2) v; rw [← htk] at hf
      unfold tv at hc
      rw [if_neg (by simp [ho])] at hc; clear htk ho; generalize tk T R (svAt l k) v = t at *; generalize loR T R (svAt l k).1 (svAt l k).2.2 = lo at *; generalize hiR T R (svAt l k).1 (svAt l k).2.2 = hi at *
      go_wp2_with (go_at_call 323; refine Sb (hf _) fun w1 hb1 => ?_); go_roundw
      case rel => exact ⟨k + 1, by omega, by go_num, by rw [HS.out], Zac HB.out hb1⟩
      case measure => simp [intOf]; omega
    · have hf := Zek v; rw [← tk_lost (T := T) (R := R) (v := v) ho] at hf
      unfold tv at hc
      rw [if_pos ho] at hc; clear htk ho; generalize tk T R (svAt l k) v = t at *
      go_wp2_with (go_at_call 322; refine Sb (hf _) fun w1 hb1 => ?_); go_roundw
      case rel => exact ⟨k + 1, by omega, by go_num, by rw [HS.out], Zac HB.out hb1⟩
      case measure => simp [intOf]; omega
  · have e : k = l.length := by omega
    subst e; go_wp2; go_ret; exact ⟨rfl, HB.out⟩
def VLs (w : World) (a : Option Addr) (l : List Sv) : Prop := l = [] ∨ ∃ b off, a = some (Ad b off) ∧ ∀ k, k < l.length → w.cell? (Ad b (off + k * 3)) = some (Vi (svAt l k).1) ∧ w.cell? (Ad b (off + k * 3 + 1)) = some (Vi (svAt l k).2.1) ∧ w.cell? (Ad b (off + k * 3 + 2)) = some (.bool (svAt l k).2.2)
theorem VLs.later {w w' : World} {a : Option Addr} {l : List Sv} (h : VLs w a l) (hb : Below w.heap.size w w') : VLs w' a l := by
 rcases h with h | ⟨b, off, h, hc⟩
 · exact .inl h
 · exact .inr ⟨b, off, h, fun k hk => ⟨cell_later hb (hc k hk).1, cell_later hb (hc k hk).2.1, cell_later hb (hc k hk).2.2⟩⟩
theorem VLs.at {w : World} {a : Option Addr} {l : List Sv} (h : VLs w a l) {k : Nat} (hk : k < l.length) : ∃ b off, a = some (Ad b off) ∧ w.cell? (Ad b (off + k * 3)) = some (Vi (svAt l k).1) ∧ w.cell? (Ad b (off + k * 3 + 1)) = some (Vi (svAt l k).2.1) ∧ w.cell? (Ad b (off + k * 3 + 2)) = some (.bool (svAt l k).2.2) := by
 rcases h with h | ⟨b, off, h, hc⟩
 · subst h; simp at hk
 · exact ⟨b, off, h, hc k hk⟩
def RB (w0 w : World) (T R S C : Int) : Prop := B4 w w0.heap.size (Vi T) (Vi R) (Vi S) (Vi C) ∧ Below w0.heap.size w0 w
theorem RB.later {w0 w w' : World} {T R S C : Int} (h : RB w0 w T R S C) (hb : Below w.heap.size w w') : RB w0 w' T R S C := ⟨h.1.later hb, Zac h.2 hb⟩
theorem RB.new (w : World) (T R S C : Int) : RB w (w.alloc (.cells #[Vi T, Vi R, Vi S, Vi C] 113)) T R S C := ⟨B4.new _ _ _ _ _ _, Zaa _ _⟩
def smU (l : List Sv) : Nat → Int
 | 0 => 0
 | k + 1 => smU l k + (svAt l k).1
theorem smU_bd {l : List Sv} (h : ∀ k, k < l.length → -2147483647 ≤ (svAt l k).1 ∧ (svAt l k).1 ≤ 2147483647) : ∀ k : Nat, k ≤ l.length → -2147483647 * (k : Int) ≤ smU l k ∧ smU l k ≤ 2147483647 * (k : Int)
 | 0, _ => by simp [smU]
 | k + 1, hk => by
  have a := smU_bd h k (by omega); have c := h k (by omega); simp only [smU]; omega
theorem shareSum_any (l : List Sv) (a : Option Addr) (cap : Nat) (hl : l.length ≤ 9) (hi : ∀ k, k < l.length → -2147483647 ≤ (svAt l k).1 ∧ (svAt l k).1 ≤ 2147483647) (w : World) (hv : VLs w a l) :
 Calls prog 174 #[.slice a l.length cap] w fun e w' => e = .returned (Vi (smU l l.length)) ∧ Below w.heap.size w w' := by
 have HV := Zab hv; have HI := Zab hi; clear hv hi
 go_enter func174, ntmps174
 go_wp2
 go_loopw [3, 8] (fun s i wr => ∃ k : Nat, k ≤ l.length ∧ i = Vi k ∧ s = Vi (smU l k) ∧ Below w.heap.size w wr) (fun _ i _ => l.length - (intOf i).toNat)
 case atStart => exact ⟨0, Nat.zero_le _, rfl, rfl, Below.refl _ _⟩
 case round =>
  obtain ⟨k, hk, rfl, rfl, hb⟩ := hrel; have hbd := smU_bd HI.out k hk
  by_cases hlt : k < l.length
  · obtain ⟨bl, ol, rfl, d0, d1, d2⟩ := (HV.out.later hb).at hlt; have hb1 := HI.out k hlt; have HS := Zab (show smU l (k + 1) = smU l k + (svAt l k).1 from rfl); have HB := Zab hb
    have j0 : (0 : Int) ≤ (k : Int) := by omega
    have j1 : (k : Int) < (l.length : Int) := by omega
    clear hb; generalize smU l k = s at *; generalize (svAt l k).1 = i at *; go_wp2; go_roundw
    case rel => exact ⟨k + 1, by omega, by go_num, by rw [HS.out], Zac HB.out (Zaa _ _)⟩
    case measure => simp [intOf]; omega
  · have e : k = l.length := by omega
    subst e; go_wp2; go_ret; exact ⟨rfl, hb⟩
end Go.Proofs.YtnfdfiholcelaaaGreatDoor
