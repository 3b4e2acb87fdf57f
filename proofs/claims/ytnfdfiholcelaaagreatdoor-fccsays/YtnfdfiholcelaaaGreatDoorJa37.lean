import Derived.Deep.CutRange
import Derived.WalkKit
import Derived.ProofKit
import Derived.OpenShut
import Derived.ChangeOld
import Derived.Below
import Derived.Lib.SmallJoins
import Derived.Deep.SlicePairs
import Derived.Deep.Slices
import Derived.Test.YtnfdfiholcelaaaGreatDoorJa00
import Derived.Test.YtnfdfiholcelaaaGreatDoorJa01
import Derived.Test.YtnfdfiholcelaaaGreatDoorJa03
import Derived.Test.YtnfdfiholcelaaaGreatDoorJa16
import Derived.Test.YtnfdfiholcelaaaGreatDoorJa24
import Derived.Test.YtnfdfiholcelaaaGreatDoorJa36
set_option maxRecDepth 100000
set_option maxHeartbeats 20000000
namespace Go.Proofs.YtnfdfiholcelaaaGreatDoor
open Go.ChangeShapes Go.WideShapes Go.ChangeAt Go.RowKit Go.Joins Go.Deep Plain
set_option linter.unusedVariables false
theorem cellsKAxis : Tryz.prog.cellsOf 26 = 15 := by kernel_rfl
theorem cellsKCraft : Tryz.prog.cellsOf 29 = 32 := by kernel_rfl
theorem cellsKAxes : Tryz.prog.cellsOf 27 = 30 := by kernel_rfl
theorem Zgy {P : Program} {w : World} {base : Nat} {spare : Nat → Bool} {held : Bool} {H : Type} {enc : TypeId × Value → H} {t : TypeId} {f0 f1 f2 : Field} {fuel : Nat} {cs : List Value} {x : DataW H × List MemPlace} (ht : P.underlying t = some (.struct #[f0, f1, f2])) (h : DataW.trod enc P w base spare held fuel t cs = some x) :
 cs.length = P.cellsOf t ∧ ∃ y0 y1 y2 n, DataW.trod enc P w base spare held n f0.type ((cs.drop f0.offset).take (P.cellsOf f0.type)) = some y0 ∧ DataW.trod enc P w base spare held n f1.type ((cs.drop f1.offset).take (P.cellsOf f1.type)) = some y1 ∧ DataW.trod enc P w base spare held n f2.type ((cs.drop f2.offset).take (P.cellsOf f2.type)) = some y2 := by
 obtain ⟨xs, n, _, rfl, hl, hlen, hf⟩ := DataW.trod_struct ht h
 match xs, hlen with
 | [y0, y1, y2], _ => exact ⟨hl, y0, y1, y2, n, by simpa using hf 0 f0 rfl, by simpa using hf 1 f1 rfl, by simpa using hf 2 f2 rfl⟩
theorem trod_fields14 {P : Program} {w : World} {base : Nat} {spare : Nat → Bool} {held : Bool} {H : Type} {enc : TypeId × Value → H} {t : TypeId} {f0 f1 f2 f3 f4 f5 f6 f7 f8 f9 f10 f11 f12 f13 : Field} {fuel : Nat} {cs : List Value} {x : DataW H × List MemPlace} (ht : P.underlying t = some (.struct #[f0, f1, f2, f3, f4, f5, f6, f7, f8, f9, f10, f11, f12, f13])) (h : DataW.trod enc P w base spare held fuel t cs = some x) :
 cs.length = P.cellsOf t ∧ ∃ y0 y1 y2 y3 y4 y5 y6 y7 y8 y9 y10 y11 y12 y13 n, DataW.trod enc P w base spare held n f0.type ((cs.drop f0.offset).take (P.cellsOf f0.type)) = some y0 ∧ DataW.trod enc P w base spare held n f1.type ((cs.drop f1.offset).take (P.cellsOf f1.type)) = some y1 ∧ DataW.trod enc P w base spare held n f2.type ((cs.drop f2.offset).take (P.cellsOf f2.type)) = some y2 ∧ DataW.trod enc P w base spare held n f3.type ((cs.drop f3.offset).take (P.cellsOf f3.type)) = some y3 ∧ DataW.trod enc P w base spare held n f4.type ((cs.drop f4.offset).take (P.cellsOf f4.type)) = some y4 ∧ DataW.trod enc P w base spare held n f5.type ((cs.drop f5.offset).take (P.cellsOf f5.type)) = some y5 ∧ DataW.trod enc P w base spare held n f6.type ((cs.drop f6.offset).take (P.cellsOf f6.type)) = some y6 ∧ DataW.trod enc P w base spare held n f7.type ((cs.drop f7.offset).take (P.cellsOf f7.type)) = some y7 ∧ DataW.trod enc P w base spare held n f8.type ((cs.drop f8.offset).take (P.cellsOf f8.type)) = some y8 ∧ DataW.trod enc P w base spare held n f9.type ((cs.drop f9.offset).take (P.cellsOf f9.type)) = some y9 ∧ DataW.trod enc P w base spare held n f10.type ((cs.drop f10.offset).take (P.cellsOf f10.type)) = some y10 ∧ DataW.trod enc P w base spare held n f11.type ((cs.drop f11.offset).take (P.cellsOf f11.type)) = some y11 ∧ DataW.trod enc P w base spare held n f12.type ((cs.drop f12.offset).take (P.cellsOf f12.type)) = some y12 ∧ DataW.trod enc P w base spare held n f13.type ((cs.drop f13.offset).take (P.cellsOf f13.type)) = some y13 := by
 obtain ⟨xs, n, _, rfl, hl, hlen, hf⟩ := DataW.trod_struct ht h
 match xs, hlen with
 | [y0, y1, y2, y3, y4, y5, y6, y7, y8, y9, y10, y11, y12, y13], _ => exact ⟨hl, y0, y1, y2, y3, y4, y5, y6, y7, y8, y9, y10, y11, y12, y13, n, by simpa using hf 0 f0 rfl, by simpa using hf 1 f1 rfl, by simpa using hf 2 f2 rfl, by simpa using hf 3 f3 rfl, by simpa using hf 4 f4 rfl, by simpa using hf 5 f5 rfl, by simpa using hf 6 f6 rfl, by simpa using hf 7 f7 rfl, by simpa using hf 8 f8 rfl, by simpa using hf 9 f9 rfl, by simpa using hf 10 f10 rfl, by simpa using hf 11 f11 rfl, by simpa using hf 12 f12 rfl, by simpa using hf 13 f13 rfl⟩
theorem open_axis {H : Type} {enc : TypeId × Value → H} {w : World} {base : Nat} {n : Nat} {cs : List Value} {y : DataW H × List MemPlace} (h : DataW.trod enc Tryz.prog w base (fun _ => true) true n 26 cs = some y) :
 ∃ (a0 a1 a2 a3 a4 a5 a6 a7 a8 a9 a10 a11 a14 : Int) (p q : Option Addr) (al zl : List Int) (cn cm : Nat), cs = [Vi a0, Vi a1, Vi a2, Vi a3, Vi a4, Vi a5, Vi a6, Vi a7, Vi a8, Vi a9, Vi a10, Vi a11, .slice p al.length cn, .slice q zl.length cm, Vi a14] ∧ (al.length ≤ 9223372036854775807 ∧ zl.length ≤ 9223372036854775807 ∧ al.length ≤ cn ∧ Lst w p al ∧ Lst w q zl) := by
 obtain ⟨hl, y0, y1, y2, y3, y4, y5, y6, y7, y8, y9, y10, y11, y12, y13, n, h0, h1, h2, h3, h4, h5, h6, h7, h8, h9, h10, h11, h12, h13⟩ := trod_fields14 Tryz.underlying26 h; rw [cellsKAxis] at hl
 obtain ⟨c0, c1, c2, c3, c4, c5, c6, c7, c8, c9, c10, c11, c12, c13, c14, rfl⟩ : ∃ c0 c1 c2 c3 c4 c5 c6 c7 c8 c9 c10 c11 c12 c13 c14, cs = [c0, c1, c2, c3, c4, c5, c6, c7, c8, c9, c10, c11, c12, c13, c14] := by
  match cs, hl with
  | [c0, c1, c2, c3, c4, c5, c6, c7, c8, c9, c10, c11, c12, c13, c14], _ => exact ⟨c0, c1, c2, c3, c4, c5, c6, c7, c8, c9, c10, c11, c12, c13, c14, rfl⟩
 simp [cellsHLine, cellsHInt] at h0 h1 h2 h3 h4 h5 h6 h7 h8 h9 h10 h11 h12 h13
 obtain ⟨a0, e0, _⟩ := DataW.trod_int Tryz.underlying3 h0; obtain ⟨a1, e1, _⟩ := DataW.trod_int Tryz.underlying3 h1; obtain ⟨a2, e2, _⟩ := DataW.trod_int Tryz.underlying3 h2; obtain ⟨a3, e3, _⟩ := DataW.trod_int Tryz.underlying3 h3; obtain ⟨a4, e4, _⟩ := DataW.trod_int Tryz.underlying3 h4; obtain ⟨a5, e5, _⟩ := DataW.trod_int Tryz.underlying3 h5; obtain ⟨a6, e6, _⟩ := DataW.trod_int Tryz.underlying3 h6; obtain ⟨a7, e7, _⟩ := DataW.trod_int Tryz.underlying3 h7; obtain ⟨a8, e8, _⟩ := DataW.trod_int Tryz.underlying3 h8; obtain ⟨a9, e9, _⟩ := DataW.trod_int Tryz.underlying3 h9; obtain ⟨a10, e10, _⟩ := DataW.trod_int Tryz.underlying3 h10; obtain ⟨a11, e11, _⟩ := DataW.trod_int Tryz.underlying3 h11; obtain ⟨a14, e14, _⟩ := DataW.trod_int Tryz.underlying3 h13; obtain ⟨v0, v1, m', _, _, k0, k1⟩ := trod_struct2 Tryz.underlying24 h12
 simp [cellsHInts] at k0 k1
 obtain ⟨p, al, cn, rfl, hca, la, ma⟩ := open_lst k0; obtain ⟨q, zl, cm, rfl, hcz, lz, mz⟩ := open_lst k1
 simp at e0 e1 e2 e3 e4 e5 e6 e7 e8 e9 e10 e11 e14
 subst e0 e1 e2 e3 e4 e5 e6 e7 e8 e9 e10 e11 e14; exact ⟨a0, a1, a2, a3, a4, a5, a6, a7, a8, a9, a10, a11, a14, p, q, al, zl, cn, cm, rfl, ma, mz, hca, la, lz⟩
theorem open_craft {H : Type} {enc : TypeId × Value → H} {w : World} {base : Nat} {r : Reach} {b0 : Nat} {v : Value} {d : DataW H} {p : List MemPlace} (hv : Value.okWide Tryz.prog w r b0 29 v) (h : DataW.Trod enc Tryz.prog w base (fun _ => true) true 29 v d p) :
 ∃ (a0 a1 a2 a3 a4 a5 a6 a7 a8 a9 a10 a11 a14 : Int) (p q : Option Addr) (al zl : List Int) (cn cm : Nat) (b0 b1 b2 b3 b4 b5 b6 b7 b8 b9 b10 b11 b14 : Int) (r s : Option Addr) (bl yl : List Int) (dn dm : Nat) (c0 c1 : Int), v = .agg #[Vi a0, Vi a1, Vi a2, Vi a3, Vi a4, Vi a5, Vi a6, Vi a7, Vi a8, Vi a9, Vi a10, Vi a11, .slice p al.length cn, .slice q zl.length cm, Vi a14, Vi b0, Vi b1, Vi b2, Vi b3, Vi b4, Vi b5, Vi b6, Vi b7, Vi b8, Vi b9, Vi b10, Vi b11, .slice r bl.length dn, .slice s yl.length dm, Vi b14, Vi c0, Vi c1] ∧ (al.length ≤ 9223372036854775807 ∧ zl.length ≤ 9223372036854775807 ∧ al.length ≤ cn ∧ Lst w p al ∧ Lst w q zl) ∧ (bl.length ≤ 9223372036854775807 ∧ yl.length ≤ 9223372036854775807 ∧ bl.length ≤ dn ∧ Lst w r bl ∧ Lst w s yl) := by
 obtain ⟨cs, rfl, hsz⟩ := okWide_struct Tryz.underlying29 hv; rw [cellsKCraft] at hsz; obtain ⟨fuel, hf⟩ := h; obtain ⟨_, y0, y1, y2, n, h0, h1, h2⟩ := Zgy Tryz.underlying29 hf; obtain ⟨l⟩ := cs
 simp [Value.cells, cellsKAxes, cellsHInt] at h0 h1 h2
 obtain ⟨xs, m, _, _, _, hxl, hx⟩ := DataW.trod_array Tryz.underlying27 h0; have g0 := hx 0 (by omega); have g1 := hx 1 (by omega); rw [List.getElem?_eq_getElem (by omega)] at g0 g1; obtain ⟨a0, a1, a2, a3, a4, a5, a6, a7, a8, a9, a10, a11, a14, p', q', al, zl, cn, cm, e0, k0⟩ := open_axis g0; obtain ⟨b0, b1, b2, b3, b4, b5, b6, b7, b8, b9, b10, b11, b14, r', s', bl, yl, dn, dm, e1, k1⟩ := open_axis g1; obtain ⟨x0, e2, _⟩ := DataW.trod_int Tryz.underlying3 h1; obtain ⟨x1, e3, _⟩ := DataW.trod_int Tryz.underlying3 h2; refine ⟨a0, a1, a2, a3, a4, a5, a6, a7, a8, a9, a10, a11, a14, p', q', al, zl, cn, cm, b0, b1, b2, b3, b4, b5, b6, b7, b8, b9, b10, b11, b14, r', s', bl, yl, dn, dm, x0, x1, ?_, k0, k1⟩
 obtain ⟨c0, c1, c2, c3, c4, c5, c6, c7, c8, c9, c10, c11, c12, c13, c14, c15, c16, c17, c18, c19, c20, c21, c22, c23, c24, c25, c26, c27, c28, c29, c30, c31, rfl⟩ : ∃ c0 c1 c2 c3 c4 c5 c6 c7 c8 c9 c10 c11 c12 c13 c14 c15 c16 c17 c18 c19 c20 c21 c22 c23 c24 c25 c26 c27 c28 c29 c30 c31, l = [c0, c1, c2, c3, c4, c5, c6, c7, c8, c9, c10, c11, c12, c13, c14, c15, c16, c17, c18, c19, c20, c21, c22, c23, c24, c25, c26, c27, c28, c29, c30, c31] := by
  match l, hsz with
  | [c0, c1, c2, c3, c4, c5, c6, c7, c8, c9, c10, c11, c12, c13, c14, c15, c16, c17, c18, c19, c20, c21, c22, c23, c24, c25, c26, c27, c28, c29, c30, c31], _ => exact ⟨c0, c1, c2, c3, c4, c5, c6, c7, c8, c9, c10, c11, c12, c13, c14, c15, c16, c17, c18, c19, c20, c21, c22, c23, c24, c25, c26, c27, c28, c29, c30, c31, rfl⟩
 rw [cellsKAxis] at e0 e1
 simp at e0 e1 e2 e3
 simp [e0, e1, e2, e3]
end Go.Proofs.YtnfdfiholcelaaaGreatDoor
namespace Go.Proofs.YtnfdfiholcelaaaGreatDoor
open Go.ChangeShapes Go.WideShapes Go.ChangeAt Go.RowKit Go.Joins Go.Deep
set_option linter.unusedVariables false
theorem cellsServo : Tryz.prog.cellsOf 116 = 3 := by kernel_rfl
end Go.Proofs.YtnfdfiholcelaaaGreatDoor
namespace Go.Proofs.YtnfdfiholcelaaaGreatDoor
open Go.ChangeShapes Go.WideShapes Go.ChangeAt Go.RowKit Go.Joins Go.Deep
set_option linter.unusedVariables false
theorem cellsSInt : Tryz.prog.cellsOf 3 = 1 := by kernel_rfl
theorem cellsSBool : Tryz.prog.cellsOf 4 = 1 := by kernel_rfl
theorem saddr_add (b off n : Nat) : (⟨b, off, none⟩ : Addr).add n = ⟨b, off + n, none⟩ := by unfold Addr.add; split <;> simp_all
end Go.Proofs.YtnfdfiholcelaaaGreatDoor
namespace Go.Proofs.YtnfdfiholcelaaaGreatDoor
open Go.ChangeShapes Go.WideShapes Go.ChangeAt Go.RowKit Go.Joins Go.Deep
set_option linter.unusedVariables false
theorem open_vls {H : Type} {enc : TypeId × Value → H} {w : World} {base : Nat} {sp : Nat → Bool} {held : Bool} {n : Nat} {v : Value} {y : DataW H × List MemPlace} (h : DataW.trod enc Tryz.prog w base sp held n 35 [v] = some y) :
 ∃ (a : Option Addr) (l : List Sv) (cap : Nat), v = .slice a l.length cap ∧ l.length ≤ 9223372036854775807 ∧ VLs w a l := by
 rcases open_slice Tryz.underlying35 h with ⟨hcs, _⟩ | ⟨x, len, cap, m, n, D, Pl, hcs, _, hl, hm, hmm, _, hx⟩
 · simp at hcs
   exact ⟨none, [], 0, by simpa using hcs, by simp, .inl rfl⟩
 · simp at hcs
   have hlm : len ≤ m := by rw [hmm]; split <;> omega
   have each : ∀ i, i < len → ∃ s : Sv, w.cell? (x.add (i * 3)) = some (Vi s.1) ∧ w.cell? (x.add (i * 3 + 1)) = some (Vi s.2.1) ∧ w.cell? (x.add (i * 3 + 2)) = some (.bool s.2.2) := by
    intro i hi; obtain ⟨cs', h1, h2⟩ := hx i (by omega); rw [cellsServo] at h1; obtain ⟨_, hlen, hcell⟩ := World.cells?_some h1
    match cs', hlen with
    | [c0, c1, c2], _ =>
     obtain ⟨y0, y1, y2, k, _, _, g0, g1, g2⟩ := trod_struct3 Tryz.underlying116 h2
     simp [cellsSInt, cellsSBool] at g0 g1 g2
     obtain ⟨p, e0, _⟩ := DataW.trod_int Tryz.underlying3 g0; obtain ⟨q, e1, _⟩ := DataW.trod_int Tryz.underlying3 g1; obtain ⟨r, e2, _⟩ := DataW.trod_bool Tryz.underlying4 g2
     simp at e0 e1 e2
     subst e0 e1 e2; have d0 := hcell 0 (by omega); have d1 := hcell 1 (by omega); have d2 := hcell 2 (by omega); rw [add_add] at d0 d1 d2; exact ⟨(p, q, r), by simpa using d0, by simpa using d1, by simpa using d2⟩
   let f : Nat → Sv := fun i => if h : i < len then Classical.choose (each i h) else svD
   have hf : ∀ i (h : i < len), w.cell? (x.add (i * 3)) = some (Vi (f i).1) ∧ w.cell? (x.add (i * 3 + 1)) = some (Vi (f i).2.1) ∧ w.cell? (x.add (i * 3 + 2)) = some (.bool (f i).2.2) := by
    intro i h; have e : f i = Classical.choose (each i h) := dif_pos h; rw [e]; exact Classical.choose_spec (each i h)
   refine ⟨some x, (List.range len).map f, cap, by simpa using hcs, by simp; unfold maxLen at hm; omega, ?_⟩
   by_cases h0 : len = 0
   · left; subst h0; rfl
   · right
     obtain ⟨b, off, spot⟩ := x; have hc := (hf 0 (by omega)).1
     have hspot : spot = none := by simpa [Addr.add] using World.cell?_spot hc
     subst hspot; refine ⟨b, off, rfl, fun k hk => ?_⟩; simp only [List.length_map, List.length_range] at hk
     have e : svAt ((List.range len).map f) k = f k := by
      unfold svAt; rw [List.getD_eq_getElem?_getD, List.getElem?_map, List.getElem?_range hk]; rfl
     rw [e]; obtain ⟨q0, q1, q2⟩ := hf k hk; rw [saddr_add] at q0 q1 q2; exact ⟨q0, by rw [Nat.add_assoc]; exact q1, by rw [Nat.add_assoc]; exact q2⟩
end Go.Proofs.YtnfdfiholcelaaaGreatDoor
namespace Go.Proofs.YtnfdfiholcelaaaGreatDoor
open Go.ChangeShapes Go.WideShapes Go.ChangeAt Go.RowKit Go.Joins Go.Deep Plain
set_option linter.unusedVariables false
theorem cellsTState : Tryz.prog.cellsOf 41 = 30 := by kernel_rfl
theorem cellsTBank : Tryz.prog.cellsOf 33 = 7 := by kernel_rfl
theorem cellsTBanks : Tryz.prog.cellsOf 34 = 21 := by kernel_rfl
theorem cellsTHold : Tryz.prog.cellsOf 38 = 3 := by kernel_rfl
theorem cellsTHolds : Tryz.prog.cellsOf 39 = 6 := by kernel_rfl
theorem cellsTServos : Tryz.prog.cellsOf 36 = 2 := by kernel_rfl
theorem cellsTSv : Tryz.prog.cellsOf 35 = 1 := by kernel_rfl
theorem cellsTI3 : Tryz.prog.cellsOf 30 = 3 := by kernel_rfl
theorem cellsTB3 : Tryz.prog.cellsOf 31 = 3 := by kernel_rfl
theorem Zjl : Tryz.prog.cellsOf 3 = 1 := by kernel_rfl
theorem cellsTBool : Tryz.prog.cellsOf 4 = 1 := by kernel_rfl
theorem trod_fields4 {P : Program} {w : World} {base : Nat} {spare : Nat → Bool} {held : Bool} {H : Type} {enc : TypeId × Value → H} {t : TypeId} {f0 f1 f2 f3 : Field} {fuel : Nat} {cs : List Value} {x : DataW H × List MemPlace} (ht : P.underlying t = some (.struct #[f0, f1, f2, f3])) (h : DataW.trod enc P w base spare held fuel t cs = some x) :
 cs.length = P.cellsOf t ∧ ∃ y0 y1 y2 y3 n, DataW.trod enc P w base spare held n f0.type ((cs.drop f0.offset).take (P.cellsOf f0.type)) = some y0 ∧ DataW.trod enc P w base spare held n f1.type ((cs.drop f1.offset).take (P.cellsOf f1.type)) = some y1 ∧ DataW.trod enc P w base spare held n f2.type ((cs.drop f2.offset).take (P.cellsOf f2.type)) = some y2 ∧ DataW.trod enc P w base spare held n f3.type ((cs.drop f3.offset).take (P.cellsOf f3.type)) = some y3 := by
 obtain ⟨xs, n, _, rfl, hl, hlen, hf⟩ := DataW.trod_struct ht h
 match xs, hlen with
 | [y0, y1, y2, y3], _ => exact ⟨hl, y0, y1, y2, y3, n, by simpa using hf 0 f0 rfl, by simpa using hf 1 f1 rfl, by simpa using hf 2 f2 rfl, by simpa using hf 3 f3 rfl⟩
theorem open_three {H : Type} {enc : TypeId × Value → H} {w : World} {base : Nat} {n : Nat} {sp : Nat → Bool} {held : Bool} {x : DataW H × List MemPlace} {c0 c1 c2 : Value} (h : DataW.trod enc Tryz.prog w base sp held n 30 [c0, c1, c2] = some x) :
 ∃ a b c, c0 = Vi a ∧ c1 = Vi b ∧ c2 = Vi c := by
 obtain ⟨xs, m, _, _, _, hl, hi⟩ := DataW.trod_array Tryz.underlying30 h; have i0 := hi 0 (by omega); have i1 := hi 1 (by omega); have i2 := hi 2 (by omega); rw [Zjl, List.getElem?_eq_getElem (by omega)] at i0 i1 i2; obtain ⟨a, e0, _⟩ := DataW.trod_int Tryz.underlying3 i0; obtain ⟨b, e1, _⟩ := DataW.trod_int Tryz.underlying3 i1; obtain ⟨c, e2, _⟩ := DataW.trod_int Tryz.underlying3 i2; exact ⟨a, b, c, by simpa using e0, by simpa using e1, by simpa using e2⟩
theorem open_threeB {H : Type} {enc : TypeId × Value → H} {w : World} {base : Nat} {n : Nat} {sp : Nat → Bool} {held : Bool} {x : DataW H × List MemPlace} {c0 c1 c2 : Value} (h : DataW.trod enc Tryz.prog w base sp held n 31 [c0, c1, c2] = some x) :
 ∃ a b c, c0 = .bool a ∧ c1 = .bool b ∧ c2 = .bool c := by
 obtain ⟨xs, m, _, _, _, hl, hi⟩ := DataW.trod_array Tryz.underlying31 h; have i0 := hi 0 (by omega); have i1 := hi 1 (by omega); have i2 := hi 2 (by omega); rw [cellsTBool, List.getElem?_eq_getElem (by omega)] at i0 i1 i2; obtain ⟨a, e0, _⟩ := DataW.trod_bool Tryz.underlying4 i0; obtain ⟨b, e1, _⟩ := DataW.trod_bool Tryz.underlying4 i1; obtain ⟨c, e2, _⟩ := DataW.trod_bool Tryz.underlying4 i2; exact ⟨a, b, c, by simpa using e0, by simpa using e1, by simpa using e2⟩
def mk3 {α : Type} (a b c : α) (i : Nat) : α := if i = 0 then a else if i = 1 then b else c
def mk2 {α : Type} (a b : α) (i : Nat) : α := if i = 0 then a else b
theorem open_bk {H : Type} {enc : TypeId × Value → H} {w : World} {base : Nat} {n : Nat} {cs : List Value} {y : DataW H × List MemPlace} (h : DataW.trod enc Tryz.prog w base (fun _ => true) true n 33 cs = some y) : ∃ k : Bk, cs = bkL k := by
 obtain ⟨hl, y0, y1, y2, n, h0, h1, h2⟩ := Zgy Tryz.underlying33 h; rw [cellsTBank] at hl
 obtain ⟨c0, c1, c2, c3, c4, c5, c6, rfl⟩ : ∃ c0 c1 c2 c3 c4 c5 c6, cs = [c0, c1, c2, c3, c4, c5, c6] := by
  match cs, hl with
  | [c0, c1, c2, c3, c4, c5, c6], _ => exact ⟨c0, c1, c2, c3, c4, c5, c6, rfl⟩
 simp [cellsTI3, cellsTB3, Zjl] at h0 h1 h2
 obtain ⟨a, b, c, rfl, rfl, rfl⟩ := open_three h0; obtain ⟨d, e, f, rfl, rfl, rfl⟩ := open_threeB h1; obtain ⟨g, e2, _⟩ := DataW.trod_int Tryz.underlying3 h2
 simp at e2
 subst e2; exact ⟨⟨mk3 a b c, mk3 d e f, g⟩, rfl⟩
theorem open_hd {H : Type} {enc : TypeId × Value → H} {w : World} {base : Nat} {n : Nat} {cs : List Value} {y : DataW H × List MemPlace} (h : DataW.trod enc Tryz.prog w base (fun _ => true) true n 38 cs = some y) : ∃ k : Int × Int × Int, cs = hdL k := by
 obtain ⟨hl, y0, y1, y2, n, h0, h1, h2⟩ := Zgy Tryz.underlying38 h; rw [cellsTHold] at hl
 obtain ⟨c0, c1, c2, rfl⟩ : ∃ c0 c1 c2, cs = [c0, c1, c2] := by
  match cs, hl with
  | [c0, c1, c2], _ => exact ⟨c0, c1, c2, rfl⟩
 simp [Zjl] at h0 h1 h2
 obtain ⟨a, e0, _⟩ := DataW.trod_int Tryz.underlying3 h0; obtain ⟨b, e1, _⟩ := DataW.trod_int Tryz.underlying3 h1; obtain ⟨c, e2, _⟩ := DataW.trod_int Tryz.underlying3 h2
 simp at e0 e1 e2
 subst e0 e1 e2; exact ⟨(a, b, c), rfl⟩
theorem open_state {H : Type} {enc : TypeId × Value → H} {w : World} {base : Nat} {r : Reach} {b0 : Nat} {v : Value} {d : DataW H} {p : List MemPlace} (hv : Value.okWide Tryz.prog w r b0 41 v) (h : DataW.Trod enc Tryz.prog w base (fun _ => true) true 41 v d p) :
 ∃ (S : FS) (sv : Nat → List Sv), v = .agg (stL S).toArray ∧ ∀ i, i < 2 → S.sn i = (sv i).length ∧ (sv i).length ≤ 9223372036854775807 ∧ VLs w (S.sp i) (sv i) := by
 obtain ⟨cs, rfl, hsz⟩ := okWide_struct Tryz.underlying41 hv; rw [cellsTState] at hsz; obtain ⟨fuel, hf⟩ := h; obtain ⟨_, y0, y1, y2, y3, n, h0, h1, h2, h3⟩ := trod_fields4 Tryz.underlying41 hf; obtain ⟨l⟩ := cs
 obtain ⟨c0, c1, c2, c3, c4, c5, c6, c7, c8, c9, c10, c11, c12, c13, c14, c15, c16, c17, c18, c19, c20, c21, c22, c23, c24, c25, c26, c27, c28, c29, rfl⟩ : ∃ c0 c1 c2 c3 c4 c5 c6 c7 c8 c9 c10 c11 c12 c13 c14 c15 c16 c17 c18 c19 c20 c21 c22 c23 c24 c25 c26 c27 c28 c29, l = [c0, c1, c2, c3, c4, c5, c6, c7, c8, c9, c10, c11, c12, c13, c14, c15, c16, c17, c18, c19, c20, c21, c22, c23, c24, c25, c26, c27, c28, c29] := by
  match l, hsz with
  | [c0, c1, c2, c3, c4, c5, c6, c7, c8, c9, c10, c11, c12, c13, c14, c15, c16, c17, c18, c19, c20, c21, c22, c23, c24, c25, c26, c27, c28, c29], _ => exact ⟨c0, c1, c2, c3, c4, c5, c6, c7, c8, c9, c10, c11, c12, c13, c14, c15, c16, c17, c18, c19, c20, c21, c22, c23, c24, c25, c26, c27, c28, c29, rfl⟩
 simp [Value.cells, cellsTBanks, cellsTServos, cellsTHolds, Zjl] at h0 h1 h2 h3
 obtain ⟨xs, m, _, _, _, hxl, hx⟩ := DataW.trod_array Tryz.underlying34 h0; have g0 := hx 0 (by omega); have g1 := hx 1 (by omega); have g2 := hx 2 (by omega); rw [List.getElem?_eq_getElem (by omega), cellsTBank] at g0 g1 g2; obtain ⟨k0, e0⟩ := open_bk g0; obtain ⟨k1, e1⟩ := open_bk g1; obtain ⟨k2, e2⟩ := open_bk g2; obtain ⟨xs', m', _, _, _, hxl', hx'⟩ := DataW.trod_array Tryz.underlying39 h2; have g3 := hx' 0 (by omega); have g4 := hx' 1 (by omega); rw [List.getElem?_eq_getElem (by omega), cellsTHold] at g3 g4; obtain ⟨k3, e3⟩ := open_hd g3; obtain ⟨k4, e4⟩ := open_hd g4; obtain ⟨xs2, m2, _, _, _, hxl2, hx2⟩ := DataW.trod_array Tryz.underlying36 h1; have g5 := hx2 0 (by omega); have g6 := hx2 1 (by omega); rw [List.getElem?_eq_getElem (by omega), cellsTSv] at g5 g6
 simp at g5 g6
 obtain ⟨p0, l0, q0, e5, m0, v0⟩ := open_vls g5; obtain ⟨p1, l1, q1, e6, m1, v1⟩ := open_vls g6; obtain ⟨x, e7, _⟩ := DataW.trod_int Tryz.underlying3 h3
 simp [bkL, hdL] at e0 e1 e2 e3 e4 e7
 refine ⟨⟨mk3 k0 k1 k2, mk2 p0 p1, mk2 l0.length l1.length, mk2 q0 q1, mk2 k3 k4, x⟩, mk2 l0 l1, ?_, fun i hi => ?_⟩
 · show _ = Value.agg (bkL k0 ++ bkL k1 ++ bkL k2 ++ [Value.slice p0 l0.length q0, Value.slice p1 l1.length q1] ++ hdL k3 ++ hdL k4 ++ [Vi x]).toArray
   simp [bkL, hdL, e0, e1, e2, e3, e4, e5, e6, e7]
 · rcases (show i = 0 ∨ i = 1 by omega) with rfl | rfl
   · exact ⟨rfl, m0, v0⟩
   · exact ⟨rfl, m1, v1⟩
end Go.Proofs.YtnfdfiholcelaaaGreatDoor
namespace Go.Proofs.YtnfdfiholcelaaaGreatDoor
open Go.ChangeShapes Go.WideShapes Go.ChangeAt Go.RowKit Go.Joins Plain
set_option linter.unusedVariables false
theorem waddr_add (b off n : Nat) : (⟨b, off, none⟩ : Addr).add n = ⟨b, off + n, none⟩ := by unfold Addr.add; split <;> simp_all
theorem open_words {H : Type} {enc : TypeId × Value → H} {w : World} {base : Nat} {n : Nat} {v : Value} {y : DataW H × List MemPlace} (h : DataW.trod enc Tryz.prog w base (fun _ => true) true n 42 [v] = some y) :
 ∃ (a : Option Addr) (l : List Int) (cap : Nat), v = .slice a l.length cap ∧ l.length ≤ 9223372036854775807 ∧ Wds w a l := by
 rcases open_ints Tryz.underlying42 Tryz.underlying136 (by kernel_rfl) h with ⟨hcs, _⟩ | ⟨x, len, cap, zs, hcs, _, hl, hm, hz, _, hcell, hwz⟩
 · simp at hcs
   exact ⟨none, [], 0, by simpa using hcs, by simp, .inl rfl, by simp⟩
 · simp at hcs hz
   have hlen : (zs.take len).length = len := by simp; omega
   refine ⟨some x, zs.take len, cap, by rw [hlen]; exact hcs, by rw [hlen]; unfold maxLen at hm; omega, ?_, fun z hzm => ?_⟩
   · by_cases h0 : len = 0
     · left; subst h0; rfl
     · right
       obtain ⟨b, off, spot⟩ := x; have hc := hcell 0 (by omega)
       have hspot : spot = none := by simpa [Addr.add] using World.cell?_spot hc
       subst hspot; refine ⟨b, off, rfl, fun k hk => ?_⟩; rw [hlen] at hk; have q := hcell k (by omega); rw [waddr_add] at q; rw [q, at0, List.getD_eq_getElem?_getD, List.getD_eq_getElem?_getD, List.getElem?_take, if_pos hk]
   · have := bounds_u32 (hwz z (List.mem_of_mem_take hzm))
     omega
end Go.Proofs.YtnfdfiholcelaaaGreatDoor
namespace Go.Proofs.YtnfdfiholcelaaaGreatDoor
open Go.ChangeShapes Go.WideShapes Go.ChangeAt Go.RowKit Go.Joins Go.Deep Plain
set_option linter.unusedVariables false
theorem open_cr {H : Type} {enc : TypeId × Value → H} {w : World} {base : Nat} {r : Reach} {b0 : Nat} {v : Value} {d : DataW H} {p : List MemPlace} (hv : Value.okWide Tryz.prog w r b0 29 v) (h : DataW.Trod enc Tryz.prog w base (fun _ => true) true 29 v d p) :
 ∃ C : CR, v = .agg (crL C).toArray ∧ CrL w C := by
 obtain ⟨a0, a1, a2, a3, a4, a5, a6, a7, a8, a9, a10, a11, a14, p, q, al, zl, cn, cm, b0, b1, b2, b3, b4, b5, b6, b7, b8, b9, b10, b11, b14, r, s, bl, yl, dn, dm, c0, c1, rfl, hla, hlb⟩ := open_craft hv h; refine ⟨⟨mk2 (fun j => [a0, a1, a2, a3, a4, a5, a6, a7, a8, a9, a10, a11, 0, 0, a14].getD j 0) (fun j => [b0, b1, b2, b3, b4, b5, b6, b7, b8, b9, b10, b11, 0, 0, b14].getD j 0), mk2 p r, mk2 q s, mk2 al bl, mk2 zl yl, mk2 cn dn, mk2 cm dm, c0, c1⟩, rfl, fun i hi => ?_⟩
 rcases (show i = 0 ∨ i = 1 by omega) with rfl | rfl
 · exact hla
 · exact hlb
theorem open_wds {H : Type} {enc : TypeId × Value → H} {w : World} {base : Nat} {r : Reach} {b0 : Nat} {v : Value} {d : DataW H} {p : List MemPlace} (hv : Value.okWide Tryz.prog w r b0 42 v) (h : DataW.Trod enc Tryz.prog w base (fun _ => true) true 42 v d p) :
 ∃ (a : Option Addr) (l : List Int) (cap : Nat), v = .slice a l.length cap ∧ l.length ≤ 9223372036854775807 ∧ Wds w a l := by
 obtain ⟨fuel, hf⟩ := h; obtain ⟨a, n, c, rfl⟩ := okWide_slice Tryz.underlying42 hv; exact open_words hf
end Go.Proofs.YtnfdfiholcelaaaGreatDoor
