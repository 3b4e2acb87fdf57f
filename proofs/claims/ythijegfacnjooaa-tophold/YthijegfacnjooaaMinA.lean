/-
  Short words for the walks of regions that draw their order.
-/
import Derived.Deep.RegionHeld3
import Derived.Deep.MidRow
import Derived.WalkKit
import Derived.KernelRfl
namespace Go.Proofs.Ythijegfacnjooaa
open Go.RowKit

abbrev Vi (x : Int) : Value := .int .i64 x
abbrev Ad (b o : Nat) : Addr := ⟨b, o, none⟩
theorem Sm {P : Program} {f : Nat} {vs : Array Value} {w u : World} {V : Ending} {Q : Ending → World → Prop} (h : Calls P f vs w fun e w' => e = V ∧ w' = u) (k : Q V u) : Calls P f vs w Q := h.mono (by rintro e w' ⟨rfl, rfl⟩; exact k)
theorem Sb {P : Program} {f : Nat} {vs : Array Value} {w : World} {V : Ending} {R : World → Prop} {Q : Ending → World → Prop} (h : Calls P f vs w fun e w' => e = V ∧ R w') (k : ∀ w', R w' → Q V w') : Calls P f vs w Q := h.mono (by rintro e w' ⟨rfl, h2⟩; exact k w' h2)
theorem Lq {P : Program} {ops : Array Oper} {rest : List Oper} {op : Oper} {a : Act} {w : World} {Q : Exit → Act → World → Prop} (t : TypeId) (x : Operand) (_ho : op.op = .load t x) (h : wpList P ops Q (op :: rest) a w) : wpList P ops Q (op :: rest) a w := h
theorem Sq {P : Program} {ops : Array Oper} {rest : List Oper} {op : Oper} {a : Act} {w : World} {Q : Exit → Act → World → Prop} (t : TypeId) (x y : Operand) (_ho : op.op = .store t x y) (h : wpList P ops Q (op :: rest) a w) : wpList P ops Q (op :: rest) a w := h
theorem Wr (x : Int) (h0 : -9223372036854775808 ≤ x := by omega) (h1 : x ≤ 9223372036854775807 := by omega) : IntKind.i64.wrap x = x := by rw [IntKind.wrap_i64]; omega
def okT (md : Region.Mode) (ops : Array Oper) (listed : Array Bool) (i : Nat) : Bool := Region.noSelect ops && (Region.free md ops listed i && (Region.ready md ops listed).contains i)
theorem okT_and {a b c : Bool} (h : (a && (b && c)) = true) : a = true ∧ b = true ∧ c = true := by simpa using h
section
variable {P : Program} {ops : Array Oper} {Q : Exit → Act → World → Prop} {md : Region.Mode} {S : World → Prop} {fuel : Nat} {listed : Array Bool} {a : Act} {w : World}
theorem Tk {oi : Oper} {v : Value} (i : Nat) (hi : ops[i]? = some oi) (hy : YieldsIf P ops S oi v a) (hS : S w) (h : wpAnyH P md ops Q S fuel (listed.setIfInBounds i true) (a.put oi.dst v) w)
    (hf : okT md ops listed i = true := by kernel_rfl) (hQ : ∀ c a w, Q (.panic c) (a.put oi.dst v) w → Q (.panic c) a w := by exact fun _ _ _ h => h) : wpAnyH P md ops Q S (fuel + 1) listed a w :=
  wpAnyH_take hi (okT_and hf).1 (okT_and hf).2.1 (okT_and hf).2.2 hQ hy hS h
theorem Tq {oi : Oper} {v : Value} (i : Nat) (hS : S w) (h : wpAnyH P md ops Q S fuel (listed.setIfInBounds i true) (a.put oi.dst v) w)
    (hi : ops[i]? = some oi := by rfl) (hf : okT md ops listed i = true := by kernel_rfl) (hQ : ∀ c a w, Q (.panic c) (a.put oi.dst v) w → Q (.panic c) a w := by exact fun _ _ _ h => h)
    (hw : Region.wanted oi (yielded ops a.tmps) = true := by rfl) (hy : ∀ w, S w → (execOp a.eval oi).run P w = .ok (.value v) w := by intro w hSw; clear hSw; go_simp; (try with_reducible rfl)) : wpAnyH P md ops Q S (fuel + 1) listed a w :=
  wpAnyH_take hi (okT_and hf).1 (okT_and hf).2.1 (okT_and hf).2.2 hQ (.inl ⟨hw, hy⟩) hS h
theorem Tp {oi : Oper} {v : Value} (i : Nat) (hS : S w) (h : wpAnyH P md ops Q S fuel (listed.setIfInBounds i true) (a.put oi.dst v) w)
    (hi : ops[i]? = some oi := by rfl) (hf : okT md ops listed i = true := by kernel_rfl) (hQ : ∀ c a w, Q (.panic c) (a.put oi.dst v) w → Q (.panic c) a w := by exact fun _ _ _ h => h)
    (hw : Region.wanted oi (yielded ops a.tmps) = true := by rfl) (hy : ∀ w, S w → (execOp a.eval oi).run P w = .ok (.value v) w := by intro w hSw; (try dsimp only at hSw); go_simp; (try with_reducible rfl)) : wpAnyH P md ops Q S (fuel + 1) listed a w :=
  wpAnyH_take hi (okT_and hf).1 (okT_and hf).2.1 (okT_and hf).2.2 hQ (.inl ⟨hw, hy⟩) hS h
theorem Th {oi : Oper} {v : Value} (i : Nat) (hi : ops[i]? = some oi) (hy : ∀ w, S w → (execOp a.eval oi).run P w = .ok (.value v) w) (hS : S w) (h : wpAnyH P md ops Q S fuel (listed.setIfInBounds i true) (a.put oi.dst v) w)
    (hf : okT md ops listed i = true := by kernel_rfl) (hQ : ∀ c a w, Q (.panic c) (a.put oi.dst v) w → Q (.panic c) a w := by exact fun _ _ _ h => h)
    (hw : Region.wanted oi (yielded ops a.tmps) = true := by rfl) : wpAnyH P md ops Q S (fuel + 1) listed a w :=
  wpAnyH_take hi (okT_and hf).1 (okT_and hf).2.1 (okT_and hf).2.2 hQ (.inl ⟨hw, hy⟩) hS h
theorem Ts {oi : Oper} (i : Nat) (hS : S w) (h : wpAnyH P md ops Q S fuel (listed.setIfInBounds i true) (a.put oi.dst undef) w)
    (hi : ops[i]? = some oi := by rfl) (hf : okT md ops listed i = true := by kernel_rfl) (hQ : ∀ c a w, Q (.panic c) (a.put oi.dst undef) w → Q (.panic c) a w := by exact fun _ _ _ h => h)
    (hw : Region.wanted oi (yielded ops a.tmps) = false := by rfl) : wpAnyH P md ops Q S (fuel + 1) listed a w :=
  wpAnyH_take hi (okT_and hf).1 (okT_and hf).2.1 (okT_and hf).2.2 hQ (.inr ⟨hw, rfl⟩) hS h
theorem Ra {o : Oper} (i : Nat) (h : ∀ K' : Act → World → Prop, Shut (∀ a w, S w → (S w → wpAnyH P md ops Q S fuel (listed.setIfInBounds i true) a w) → K' a w) → if Region.wanted o (yielded ops a.tmps) = true then Oper.wp P o a w K' Q else K' (a.put o.dst undef) w)
    (hi : ops[i]? = some o := by rfl) (hr : Region.ready md ops listed = [i] := by kernel_rfl) : wpAnyH P md ops Q S (fuel + 1) listed a w :=
  wpAnyH_ready hr (by simp) (AllReadyH.cons hi h AllReadyH.nil)
theorem Rb {o p : Oper} (i j : Nat) (h : ∀ K' : Act → World → Prop, Shut (∀ a w, S w → (S w → wpAnyH P md ops Q S fuel (listed.setIfInBounds i true) a w) → K' a w) → if Region.wanted o (yielded ops a.tmps) = true then Oper.wp P o a w K' Q else K' (a.put o.dst undef) w)
    (k : ∀ K' : Act → World → Prop, Shut (∀ a w, S w → (S w → wpAnyH P md ops Q S fuel (listed.setIfInBounds j true) a w) → K' a w) → if Region.wanted p (yielded ops a.tmps) = true then Oper.wp P p a w K' Q else K' (a.put p.dst undef) w)
    (hi : ops[i]? = some o := by rfl) (hj : ops[j]? = some p := by rfl) (hr : Region.ready md ops listed = [i, j] := by kernel_rfl) : wpAnyH P md ops Q S (fuel + 1) listed a w :=
  wpAnyH_ready hr (by simp) (AllReadyH.cons hi h (AllReadyH.cons hj k AllReadyH.nil))
end
/-- A list's rows, laid out. -/
theorem Ly {α : Type} : (∀ (xs : List α) (i : Nat) (h : i < xs.toArray.size), xs.toArray[i] = xs[i]'(by simpa using h)) ∧ (∀ (x : α) (xs : List α) (i : Nat) (h : i + 1 < (x :: xs).length), (x :: xs)[i + 1] = xs[i]'(by simpa using h)) ∧ (∀ (x : α) (xs : List α) (h : 0 < (x :: xs).length), (x :: xs)[0] = x) ∧
    (∀ (xs : List α) (i : Nat) (x : α), xs.toArray.setIfInBounds i x = (xs.set i x).toArray) ∧ (∀ (x : α) (xs : List α) (i : Nat) (y : α), (x :: xs).set (i + 1) y = x :: xs.set i y) ∧ (∀ (x : α) (xs : List α) (y : α), (x :: xs).set 0 y = y :: xs) :=
  ⟨fun _ _ _ => rfl, fun _ _ _ _ => rfl, fun _ _ _ => rfl, fun _ _ _ => by simp, fun _ _ _ _ => rfl, fun _ _ _ => rfl⟩

end Go.Proofs.Ythijegfacnjooaa
