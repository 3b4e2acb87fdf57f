/-
  A rule, a state and an ask of what is held that came in, as the walks take them.
-/
import Derived.Test.YthijegfacnjooaaLineB
import Derived.WalkKit
import Derived.ProofKit
import Derived.OpenShut
import Derived.ChangeOld
import Derived.Below
import Derived.Lib.SmallJoins
namespace Go.Proofs.Ythijegfacnjooaa
open Go.ChangeShapes Go.WideShapes Go.ChangeAt Go.RowKit Go.Joins Go.Deep Plain
set_option linter.unusedVariables false

theorem cellsHRule : Try.prog.cellsOf 95 = 7 := by kernel_rfl
theorem cellsHState : Try.prog.cellsOf 97 = 3 := by kernel_rfl
theorem cellsHAsk : Try.prog.cellsOf 99 = 5 := by kernel_rfl
theorem cellsHSpan : Try.prog.cellsOf 93 = 2 := by kernel_rfl
theorem cellsHLine : Try.prog.cellsOf 63 = 2 := by kernel_rfl
theorem cellsHInt : Try.prog.cellsOf 3 = 1 := by kernel_rfl
theorem cellsHInts : Try.prog.cellsOf 50 = 1 := by kernel_rfl

theorem hrow_list {w : World} {a : Option Addr} {len cap : Nat} (hl : len ≤ cap) {zs : List Int} (hz : zs.length = cap) (h : ∀ x, a = some x → ∀ i, i < zs.length → w.cell? (x.add i) = some (.int .i64 (zs.getD i 0))) (hn : a = none → zs = []) :
    (zs.take len).length = len ∧ Lst w a (zs.take len) := by
  have e : (zs.take len).length = len := by rw [List.length_take]; omega
  refine ⟨e, ?_⟩
  by_cases h0 : len = 0
  · left; subst h0; simp
  · cases a with
    | none => have := hn rfl; subst this; simp at hz; omega
    | some x =>
      obtain ⟨b, off, spot⟩ := x
      have hc := h _ rfl 0 (by omega)
      have hspot : spot = none := by simpa [Addr.add] using World.cell?_spot hc
      subst hspot
      right
      refine ⟨b, off, rfl, fun k hk => ?_⟩
      rw [e] at hk
      have := h _ rfl k (by omega)
      rw [show at0 (zs.take len) k = zs.getD k 0 by simp [at0, List.getD_eq_getElem?_getD, hk]]
      by_cases k0 : k = 0
      · subst k0; simpa [Addr.add] using this
      · simpa [Addr.add, k0] using this
/-- A slice of numbers that came in, as a list. -/
theorem open_lst {H : Type} {enc : TypeId × Value → H} {w : World} {base : Nat} {n : Nat} {v : Value} {y : DataW H × List MemPlace} (h : DataW.trod enc Try.prog w base (fun _ => true) true n 50 [v] = some y) :
    ∃ (a : Option Addr) (l : List Int) (cap : Nat), v = .slice a l.length cap ∧ l.length ≤ cap ∧ Lst w a l ∧ l.length ≤ 9223372036854775807 := by
  rcases open_ints Try.underlying50 Try.underlying3 (by kernel_rfl) h with ⟨hcs, _⟩ | ⟨x, len, cap, zs, hcs, _, hl, hm, hz, _, hcell, hwz⟩
  · simp at hcs
    exact ⟨none, [], 0, by simpa using hcs, Nat.le_refl _, .inl rfl, by simp⟩
  · simp at hcs hz
    obtain ⟨e, hr⟩ := hrow_list (w := w) (a := some x) hl hz (fun x' hx' => by cases hx'; exact hcell) (fun h => by cases h)
    exact ⟨some x, zs.take len, cap, by rw [e]; exact hcs, by omega, hr, by rw [e]; unfold maxLen at hm; omega⟩

theorem trod_struct5 {P : Program} {w : World} {base : Nat} {spare : Nat → Bool} {held : Bool} {H : Type} {enc : TypeId × Value → H} {t : TypeId} {f0 f1 f2 f3 f4 : Field} {fuel : Nat} {cs : List Value} {x : DataW H × List MemPlace} (ht : P.underlying t = some (.struct #[f0, f1, f2, f3, f4])) (h : DataW.trod enc P w base spare held fuel t cs = some x) :
    ∃ y0 y1 y2 y3 y4 n, DataW.trod enc P w base spare held n f0.type ((cs.drop f0.offset).take (P.cellsOf f0.type)) = some y0 ∧ DataW.trod enc P w base spare held n f1.type ((cs.drop f1.offset).take (P.cellsOf f1.type)) = some y1 ∧
      DataW.trod enc P w base spare held n f2.type ((cs.drop f2.offset).take (P.cellsOf f2.type)) = some y2 ∧ DataW.trod enc P w base spare held n f3.type ((cs.drop f3.offset).take (P.cellsOf f3.type)) = some y3 ∧
      DataW.trod enc P w base spare held n f4.type ((cs.drop f4.offset).take (P.cellsOf f4.type)) = some y4 := by
  obtain ⟨xs, n, _, rfl, hl, hlen, hf⟩ := DataW.trod_struct ht h
  match xs, hlen with
  | [y0, y1, y2, y3, y4], _ => exact ⟨y0, y1, y2, y3, y4, n, by simpa using hf 0 f0 rfl, by simpa using hf 1 f1 rfl, by simpa using hf 2 f2 rfl, by simpa using hf 3 f3 rfl, by simpa using hf 4 f4 rfl⟩

set_option maxRecDepth 100000 in
theorem open_hrule {H : Type} {enc : TypeId × Value → H} {w : World} {base : Nat} {r : Reach} {b0 : Nat} {v : Value} {d : DataW H} {p : List MemPlace} (hv : Value.okWide Try.prog w r b0 95 v) (h : DataW.Trod enc Try.prog w base (fun _ => true) true 95 v d p) :
    ∃ (L H U B M : Int) (a z : Option Addr) (ca cz : Nat) (al zl : List Int), v = .agg #[.int .i64 L, .int .i64 H, .int .i64 U, .int .i64 B, .int .i64 M, .slice a al.length ca, .slice z zl.length cz] ∧ al.length ≤ ca ∧ Lst w a al ∧ Lst w z zl ∧ al.length ≤ 9223372036854775807 ∧ zl.length ≤ 9223372036854775807 := by
  obtain ⟨cs, rfl, hsz⟩ := okWide_struct Try.underlying95 hv
  rw [cellsHRule] at hsz
  obtain ⟨c0, c1, c2, c3, c4, c5, c6, rfl⟩ : ∃ c0 c1 c2 c3 c4 c5 c6, cs = #[c0, c1, c2, c3, c4, c5, c6] := by
    match cs, hsz with
    | ⟨[c0, c1, c2, c3, c4, c5, c6]⟩, _ => exact ⟨c0, c1, c2, c3, c4, c5, c6, rfl⟩
  obtain ⟨fuel, hf⟩ := h
  obtain ⟨y0, y1, y2, y3, y4, n, h0, h1, h2, h3, h4⟩ := trod_struct5 Try.underlying95 hf
  simp [Value.cells, cellsHSpan, cellsHLine, cellsHInt] at h0 h1 h2 h3 h4
  obtain ⟨u0, u1, m, _, _, g0, g1⟩ := trod_struct2 Try.underlying93 h0
  simp [cellsHInt] at g0 g1
  obtain ⟨L, e0, _⟩ := DataW.trod_int Try.underlying3 g0
  obtain ⟨H', e1, _⟩ := DataW.trod_int Try.underlying3 g1
  obtain ⟨U, e2, _⟩ := DataW.trod_int Try.underlying3 h1
  obtain ⟨B, e3, _⟩ := DataW.trod_int Try.underlying3 h2
  obtain ⟨M, e4, _⟩ := DataW.trod_int Try.underlying3 h3
  obtain ⟨v0, v1, m', _, _, k0, k1⟩ := trod_struct2 Try.underlying63 h4
  simp [cellsHInts] at k0 k1
  obtain ⟨a, al, ca, rfl, hca, la, ma⟩ := open_lst k0
  obtain ⟨z, zl, cz, rfl, hcz, lz, mz⟩ := open_lst k1
  simp at e0 e1 e2 e3 e4
  subst e0 e1 e2 e3 e4
  exact ⟨L, H', U, B, M, a, z, ca, cz, al, zl, rfl, hca, la, lz, ma, mz⟩
set_option maxRecDepth 100000 in
theorem open_hstate {H : Type} {enc : TypeId × Value → H} {w : World} {base : Nat} {sp : Nat → Bool} {held : Bool} {r : Reach} {b0 : Nat} {v : Value} {d : DataW H} {p : List MemPlace} (hv : Value.okWide Try.prog w r b0 97 v) (h : DataW.Trod enc Try.prog w base sp held 97 v d p) :
    ∃ (A D W : Int), v = .agg #[.int .i64 A, .int .i64 D, .int .i64 W] := by
  obtain ⟨m0, m1, m2, y0, y1, y2, n, rfl, rfl, rfl, t0, t1, t2⟩ := open_agg3 Try.underlying97 (by kernel_rfl) cellsHState hv h
  obtain ⟨a, f0, _, _⟩ := DataW.trod_int Try.underlying3 t0
  obtain ⟨b, f1, _, _⟩ := DataW.trod_int Try.underlying3 t1
  obtain ⟨c, f2, _, _⟩ := DataW.trod_int Try.underlying3 t2
  simp at f0 f1 f2
  subst f0 f1 f2
  exact ⟨a, b, c, rfl⟩
set_option maxRecDepth 100000 in
theorem open_hask {H : Type} {enc : TypeId × Value → H} {w : World} {base : Nat} {sp : Nat → Bool} {held : Bool} {r : Reach} {b0 : Nat} {v : Value} {d : DataW H} {p : List MemPlace} (hv : Value.okWide Try.prog w r b0 99 v) (h : DataW.Trod enc Try.prog w base sp held 99 v d p) :
    ∃ (k p v' n q : Int), v = .agg #[.int .i64 k, .int .i64 p, .int .i64 v', .int .i64 n, .int .i64 q] := by
  obtain ⟨cs, rfl, hsz⟩ := okWide_struct Try.underlying99 hv
  rw [cellsHAsk] at hsz
  obtain ⟨c0, c1, c2, c3, c4, rfl⟩ : ∃ c0 c1 c2 c3 c4, cs = #[c0, c1, c2, c3, c4] := by
    match cs, hsz with
    | ⟨[c0, c1, c2, c3, c4]⟩, _ => exact ⟨c0, c1, c2, c3, c4, rfl⟩
  obtain ⟨fuel, hf⟩ := h
  obtain ⟨y0, y1, y2, y3, y4, n, h0, h1, h2, h3, h4⟩ := trod_struct5 Try.underlying99 hf
  simp [Value.cells, cellsHInt] at h0 h1 h2 h3 h4
  obtain ⟨k, e0, _⟩ := DataW.trod_int Try.underlying3 h0
  obtain ⟨p', e1, _⟩ := DataW.trod_int Try.underlying3 h1
  obtain ⟨v', e2, _⟩ := DataW.trod_int Try.underlying3 h2
  obtain ⟨n', e3, _⟩ := DataW.trod_int Try.underlying3 h3
  obtain ⟨q, e4, _⟩ := DataW.trod_int Try.underlying3 h4
  simp at e0 e1 e2 e3 e4
  subst e0 e1 e2 e3 e4
  exact ⟨k, p', v', n', q, rfl⟩

end Go.Proofs.Ythijegfacnjooaa
