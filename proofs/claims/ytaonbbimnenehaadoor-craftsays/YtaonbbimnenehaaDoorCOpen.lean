/-
  A craft that came in, as the walks take it.
-/
import Derived.Test.YtaonbbimnenehaaDoorHOpen
import Derived.Deep.CutRange
namespace Go.Proofs.YtaonbbimnenehaaDoor
open Go.ChangeShapes Go.WideShapes Go.ChangeAt Go.RowKit Go.Joins Go.Deep Plain
set_option linter.unusedVariables false

theorem cellsKAxis : Tryd.prog.cellsOf 26 = 15 := by kernel_rfl
theorem cellsKCraft : Tryd.prog.cellsOf 29 = 32 := by kernel_rfl
theorem cellsKAxes : Tryd.prog.cellsOf 27 = 30 := by kernel_rfl
theorem trod_fields3 {P : Program} {w : World} {base : Nat} {spare : Nat → Bool} {held : Bool} {H : Type} {enc : TypeId × Value → H} {t : TypeId} {f0 f1 f2 : Field} {fuel : Nat} {cs : List Value} {x : DataW H × List MemPlace} (ht : P.underlying t = some (.struct #[f0, f1, f2])) (h : DataW.trod enc P w base spare held fuel t cs = some x) :
    cs.length = P.cellsOf t ∧ ∃ y0 y1 y2 n, DataW.trod enc P w base spare held n f0.type ((cs.drop f0.offset).take (P.cellsOf f0.type)) = some y0 ∧ DataW.trod enc P w base spare held n f1.type ((cs.drop f1.offset).take (P.cellsOf f1.type)) = some y1 ∧ DataW.trod enc P w base spare held n f2.type ((cs.drop f2.offset).take (P.cellsOf f2.type)) = some y2 := by
  obtain ⟨xs, n, _, rfl, hl, hlen, hf⟩ := DataW.trod_struct ht h
  match xs, hlen with
  | [y0, y1, y2], _ => exact ⟨hl, y0, y1, y2, n, by simpa using hf 0 f0 rfl, by simpa using hf 1 f1 rfl, by simpa using hf 2 f2 rfl⟩
theorem trod_fields14 {P : Program} {w : World} {base : Nat} {spare : Nat → Bool} {held : Bool} {H : Type} {enc : TypeId × Value → H} {t : TypeId} {f0 f1 f2 f3 f4 f5 f6 f7 f8 f9 f10 f11 f12 f13 : Field} {fuel : Nat} {cs : List Value} {x : DataW H × List MemPlace} (ht : P.underlying t = some (.struct #[f0, f1, f2, f3, f4, f5, f6, f7, f8, f9, f10, f11, f12, f13])) (h : DataW.trod enc P w base spare held fuel t cs = some x) :
    cs.length = P.cellsOf t ∧ ∃ y0 y1 y2 y3 y4 y5 y6 y7 y8 y9 y10 y11 y12 y13 n, DataW.trod enc P w base spare held n f0.type ((cs.drop f0.offset).take (P.cellsOf f0.type)) = some y0 ∧ DataW.trod enc P w base spare held n f1.type ((cs.drop f1.offset).take (P.cellsOf f1.type)) = some y1 ∧ DataW.trod enc P w base spare held n f2.type ((cs.drop f2.offset).take (P.cellsOf f2.type)) = some y2 ∧ DataW.trod enc P w base spare held n f3.type ((cs.drop f3.offset).take (P.cellsOf f3.type)) = some y3 ∧ DataW.trod enc P w base spare held n f4.type ((cs.drop f4.offset).take (P.cellsOf f4.type)) = some y4 ∧ DataW.trod enc P w base spare held n f5.type ((cs.drop f5.offset).take (P.cellsOf f5.type)) = some y5 ∧ DataW.trod enc P w base spare held n f6.type ((cs.drop f6.offset).take (P.cellsOf f6.type)) = some y6 ∧ DataW.trod enc P w base spare held n f7.type ((cs.drop f7.offset).take (P.cellsOf f7.type)) = some y7 ∧ DataW.trod enc P w base spare held n f8.type ((cs.drop f8.offset).take (P.cellsOf f8.type)) = some y8 ∧ DataW.trod enc P w base spare held n f9.type ((cs.drop f9.offset).take (P.cellsOf f9.type)) = some y9 ∧ DataW.trod enc P w base spare held n f10.type ((cs.drop f10.offset).take (P.cellsOf f10.type)) = some y10 ∧ DataW.trod enc P w base spare held n f11.type ((cs.drop f11.offset).take (P.cellsOf f11.type)) = some y11 ∧ DataW.trod enc P w base spare held n f12.type ((cs.drop f12.offset).take (P.cellsOf f12.type)) = some y12 ∧ DataW.trod enc P w base spare held n f13.type ((cs.drop f13.offset).take (P.cellsOf f13.type)) = some y13 := by
  obtain ⟨xs, n, _, rfl, hl, hlen, hf⟩ := DataW.trod_struct ht h
  match xs, hlen with
  | [y0, y1, y2, y3, y4, y5, y6, y7, y8, y9, y10, y11, y12, y13], _ => exact ⟨hl, y0, y1, y2, y3, y4, y5, y6, y7, y8, y9, y10, y11, y12, y13, n, by simpa using hf 0 f0 rfl, by simpa using hf 1 f1 rfl, by simpa using hf 2 f2 rfl, by simpa using hf 3 f3 rfl, by simpa using hf 4 f4 rfl, by simpa using hf 5 f5 rfl, by simpa using hf 6 f6 rfl, by simpa using hf 7 f7 rfl, by simpa using hf 8 f8 rfl, by simpa using hf 9 f9 rfl, by simpa using hf 10 f10 rfl, by simpa using hf 11 f11 rfl, by simpa using hf 12 f12 rfl, by simpa using hf 13 f13 rfl⟩

set_option maxRecDepth 100000 in
/-- An axis that came in. -/
theorem open_axis {H : Type} {enc : TypeId × Value → H} {w : World} {base : Nat} {n : Nat} {cs : List Value} {y : DataW H × List MemPlace} (h : DataW.trod enc Tryd.prog w base (fun _ => true) true n 26 cs = some y) :
    ∃ (a0 a1 a2 a3 a4 a5 a6 a7 a8 a9 a10 a11 a14 : Int) (p q : Option Addr) (al zl : List Int) (cn cm : Nat), cs = [.int .i64 a0, .int .i64 a1, .int .i64 a2, .int .i64 a3, .int .i64 a4, .int .i64 a5, .int .i64 a6, .int .i64 a7, .int .i64 a8, .int .i64 a9, .int .i64 a10, .int .i64 a11, .slice p al.length cn, .slice q zl.length cm, .int .i64 a14] ∧ (al.length ≤ 9223372036854775807 ∧ zl.length ≤ 9223372036854775807 ∧ al.length ≤ cn ∧ Lst w p al ∧ Lst w q zl) := by
  obtain ⟨hl, y0, y1, y2, y3, y4, y5, y6, y7, y8, y9, y10, y11, y12, y13, n, h0, h1, h2, h3, h4, h5, h6, h7, h8, h9, h10, h11, h12, h13⟩ := trod_fields14 Tryd.underlying26 h
  rw [cellsKAxis] at hl
  obtain ⟨c0, c1, c2, c3, c4, c5, c6, c7, c8, c9, c10, c11, c12, c13, c14, rfl⟩ : ∃ c0 c1 c2 c3 c4 c5 c6 c7 c8 c9 c10 c11 c12 c13 c14, cs = [c0, c1, c2, c3, c4, c5, c6, c7, c8, c9, c10, c11, c12, c13, c14] := by
    match cs, hl with
    | [c0, c1, c2, c3, c4, c5, c6, c7, c8, c9, c10, c11, c12, c13, c14], _ => exact ⟨c0, c1, c2, c3, c4, c5, c6, c7, c8, c9, c10, c11, c12, c13, c14, rfl⟩
  simp [cellsHLine, cellsHInt] at h0 h1 h2 h3 h4 h5 h6 h7 h8 h9 h10 h11 h12 h13
  obtain ⟨a0, e0, _⟩ := DataW.trod_int Tryd.underlying3 h0
  obtain ⟨a1, e1, _⟩ := DataW.trod_int Tryd.underlying3 h1
  obtain ⟨a2, e2, _⟩ := DataW.trod_int Tryd.underlying3 h2
  obtain ⟨a3, e3, _⟩ := DataW.trod_int Tryd.underlying3 h3
  obtain ⟨a4, e4, _⟩ := DataW.trod_int Tryd.underlying3 h4
  obtain ⟨a5, e5, _⟩ := DataW.trod_int Tryd.underlying3 h5
  obtain ⟨a6, e6, _⟩ := DataW.trod_int Tryd.underlying3 h6
  obtain ⟨a7, e7, _⟩ := DataW.trod_int Tryd.underlying3 h7
  obtain ⟨a8, e8, _⟩ := DataW.trod_int Tryd.underlying3 h8
  obtain ⟨a9, e9, _⟩ := DataW.trod_int Tryd.underlying3 h9
  obtain ⟨a10, e10, _⟩ := DataW.trod_int Tryd.underlying3 h10
  obtain ⟨a11, e11, _⟩ := DataW.trod_int Tryd.underlying3 h11
  obtain ⟨a14, e14, _⟩ := DataW.trod_int Tryd.underlying3 h13
  obtain ⟨v0, v1, m', _, _, k0, k1⟩ := trod_struct2 Tryd.underlying24 h12
  simp [cellsHInts] at k0 k1
  obtain ⟨p, al, cn, rfl, hca, la, ma⟩ := open_lst k0
  obtain ⟨q, zl, cm, rfl, hcz, lz, mz⟩ := open_lst k1
  simp at e0 e1 e2 e3 e4 e5 e6 e7 e8 e9 e10 e11 e14
  subst e0 e1 e2 e3 e4 e5 e6 e7 e8 e9 e10 e11 e14
  exact ⟨a0, a1, a2, a3, a4, a5, a6, a7, a8, a9, a10, a11, a14, p, q, al, zl, cn, cm, rfl, ma, mz, hca, la, lz⟩
set_option maxRecDepth 100000 in
/-- A craft that came in. -/
theorem open_craft {H : Type} {enc : TypeId × Value → H} {w : World} {base : Nat} {r : Reach} {b0 : Nat} {v : Value} {d : DataW H} {p : List MemPlace} (hv : Value.okWide Tryd.prog w r b0 29 v) (h : DataW.Trod enc Tryd.prog w base (fun _ => true) true 29 v d p) :
    ∃ (a0 a1 a2 a3 a4 a5 a6 a7 a8 a9 a10 a11 a14 : Int) (p q : Option Addr) (al zl : List Int) (cn cm : Nat) (b0 b1 b2 b3 b4 b5 b6 b7 b8 b9 b10 b11 b14 : Int) (r s : Option Addr) (bl yl : List Int) (dn dm : Nat) (c0 c1 : Int), v = .agg #[.int .i64 a0, .int .i64 a1, .int .i64 a2, .int .i64 a3, .int .i64 a4, .int .i64 a5, .int .i64 a6, .int .i64 a7, .int .i64 a8, .int .i64 a9, .int .i64 a10, .int .i64 a11, .slice p al.length cn, .slice q zl.length cm, .int .i64 a14, .int .i64 b0, .int .i64 b1, .int .i64 b2, .int .i64 b3, .int .i64 b4, .int .i64 b5, .int .i64 b6, .int .i64 b7, .int .i64 b8, .int .i64 b9, .int .i64 b10, .int .i64 b11, .slice r bl.length dn, .slice s yl.length dm, .int .i64 b14, .int .i64 c0, .int .i64 c1] ∧ (al.length ≤ 9223372036854775807 ∧ zl.length ≤ 9223372036854775807 ∧ al.length ≤ cn ∧ Lst w p al ∧ Lst w q zl) ∧ (bl.length ≤ 9223372036854775807 ∧ yl.length ≤ 9223372036854775807 ∧ bl.length ≤ dn ∧ Lst w r bl ∧ Lst w s yl) := by
  obtain ⟨cs, rfl, hsz⟩ := okWide_struct Tryd.underlying29 hv
  rw [cellsKCraft] at hsz
  obtain ⟨fuel, hf⟩ := h
  obtain ⟨_, y0, y1, y2, n, h0, h1, h2⟩ := trod_fields3 Tryd.underlying29 hf
  obtain ⟨l⟩ := cs
  simp [Value.cells, cellsKAxes, cellsHInt] at h0 h1 h2
  obtain ⟨xs, m, _, _, _, hxl, hx⟩ := DataW.trod_array Tryd.underlying27 h0
  have g0 := hx 0 (by omega)
  have g1 := hx 1 (by omega)
  rw [List.getElem?_eq_getElem (by omega)] at g0 g1
  obtain ⟨a0, a1, a2, a3, a4, a5, a6, a7, a8, a9, a10, a11, a14, p', q', al, zl, cn, cm, e0, k0⟩ := open_axis g0
  obtain ⟨b0, b1, b2, b3, b4, b5, b6, b7, b8, b9, b10, b11, b14, r', s', bl, yl, dn, dm, e1, k1⟩ := open_axis g1
  obtain ⟨x0, e2, _⟩ := DataW.trod_int Tryd.underlying3 h1
  obtain ⟨x1, e3, _⟩ := DataW.trod_int Tryd.underlying3 h2
  refine ⟨a0, a1, a2, a3, a4, a5, a6, a7, a8, a9, a10, a11, a14, p', q', al, zl, cn, cm, b0, b1, b2, b3, b4, b5, b6, b7, b8, b9, b10, b11, b14, r', s', bl, yl, dn, dm, x0, x1, ?_, k0, k1⟩
  obtain ⟨c0, c1, c2, c3, c4, c5, c6, c7, c8, c9, c10, c11, c12, c13, c14, c15, c16, c17, c18, c19, c20, c21, c22, c23, c24, c25, c26, c27, c28, c29, c30, c31, rfl⟩ : ∃ c0 c1 c2 c3 c4 c5 c6 c7 c8 c9 c10 c11 c12 c13 c14 c15 c16 c17 c18 c19 c20 c21 c22 c23 c24 c25 c26 c27 c28 c29 c30 c31, l = [c0, c1, c2, c3, c4, c5, c6, c7, c8, c9, c10, c11, c12, c13, c14, c15, c16, c17, c18, c19, c20, c21, c22, c23, c24, c25, c26, c27, c28, c29, c30, c31] := by
    match l, hsz with
    | [c0, c1, c2, c3, c4, c5, c6, c7, c8, c9, c10, c11, c12, c13, c14, c15, c16, c17, c18, c19, c20, c21, c22, c23, c24, c25, c26, c27, c28, c29, c30, c31], _ => exact ⟨c0, c1, c2, c3, c4, c5, c6, c7, c8, c9, c10, c11, c12, c13, c14, c15, c16, c17, c18, c19, c20, c21, c22, c23, c24, c25, c26, c27, c28, c29, c30, c31, rfl⟩
  rw [cellsKAxis] at e0 e1
  simp at e0 e1 e2 e3
  simp [e0, e1, e2, e3]

end Go.Proofs.YtaonbbimnenehaaDoor
