/-
  Contracts of fcc.speedRule and of the closure of fcc.Check.
-/
import Derived.Test.YtaonbbimnenehaaDoorFccC
import Derived.Deep.WholeRow
import Derived.Deep.MidRow
namespace Go.Proofs.YtaonbbimnenehaaDoor
open Go.RowKit Plain

set_option maxRecDepth 100000 in
set_option maxHeartbeats 4000000 in
theorem speedRule_any (x0 x1 x2 x3 x4 x5 x6 x7 x8 x9 x10 x11 x12 x13 x14 x15 x16 x17 x18 x19 x20 x21 x22 x23 x24 x25 x26 x27 x28 x29 : Value) (c0 c1 : Int) (w : World) : Calls Tryd.prog 21 #[.agg #[x0, x1, x2, x3, x4, x5, x6, x7, x8, x9, x10, x11, x12, x13, x14, x15, x16, x17, x18, x19, x20, x21, x22, x23, x24, x25, x26, x27, x28, x29, .int .i64 c0, .int .i64 c1]] w fun e w' => e = .returned (.agg #[.int .i64 c0, .int .i64 c1]) ∧ Below w.heap.size w w' := by
  go_enter Tryd.func21, Tryd.ntmps21
  go_wp2
  exact bodyPost_ret (v := .agg #[.int .i64 c0, .int .i64 c1]) (by simp [results, Tryd.results21, go_sem]) rfl ⟨rfl, abelow_up (abelow_alloc _ _) (abelow_alloc _ _)⟩
/-- A craft in its box. -/
def CrB (u : World) (B : Nat) (cs : List Value) : Prop := u.rangeAt B 0 cs
theorem rangeAt_later {u u' : World} {B o : Nat} {cs : List Value} (h : u.rangeAt B o cs) (hb : Below u.heap.size u u') : u'.rangeAt B o cs := fun j v hv => cell_later hb (h j v hv)
theorem infoK : (Tryd.prog.info? 29).map (·.size) = some 32 := by kernel_rfl
theorem isLoadK {P : Program} {ops : Array Oper} {rest : List Oper} {op : Oper} {a : Act} {w : World} {Q : Exit → Act → World → Prop} (x : Operand) (_ho : op.op = .load 29 x) (h : wpList P ops Q (op :: rest) a w) : wpList P ops Q (op :: rest) a w := h
set_option maxRecDepth 100000 in
set_option maxHeartbeats 4000000 in
theorem check1_any (x0 x1 x2 x3 x4 x5 x6 x7 x8 x9 x10 x11 x12 x13 x14 x15 x16 x17 x18 x19 x20 x21 x22 x23 x24 x25 x26 x27 x28 x29 : Value) (c0 c1 : Int) (B : Nat) (u : World) (h : u.rangeAt B 0 [x0, x1, x2, x3, x4, x5, x6, x7, x8, x9, x10, x11, x12, x13, x14, x15, x16, x17, x18, x19, x20, x21, x22, x23, x24, x25, x26, x27, x28, x29, .int .i64 c0, .int .i64 c1]) : Calls Tryd.prog 19 #[.pointer (some ⟨B, 0, none⟩)] u fun e w' => e = .returned (errV (ruleE c0 c1)) ∧ Below u.heap.size u w' := by
  have HR := ahide h
  clear h
  go_enter Tryd.func19, Tryd.ntmps19
  go_wp2_with (first
    | (refine isLoadK _ rfl ?_; refine wpList_load_mid rfl 29 (.tmp 0) rfl B 0 rfl [x0, x1, x2, x3, x4, x5, x6, x7, x8, x9, x10, x11, x12, x13, x14, x15, x16, x17, x18, x19, x20, x21, x22, x23, x24, x25, x26, x27, x28, x29, .int .i64 c0, .int .i64 c1] _ HR.out Tryd.underlying29 rfl infoK ?_)
    | (go_at_call 21; refine (speedRule_any x0 x1 x2 x3 x4 x5 x6 x7 x8 x9 x10 x11 x12 x13 x14 x15 x16 x17 x18 x19 x20 x21 x22 x23 x24 x25 x26 x27 x28 x29 c0 c1 _).mono ?_; rintro e w1 ⟨rfl, hb1⟩)
    | (go_at_call 20; refine (checkRule_any c0 c1 _).mono ?_; rintro e w2 ⟨rfl, hb2⟩))
  go_ret
  exact ⟨rfl, abelow_up hb1 hb2⟩

end Go.Proofs.YtaonbbimnenehaaDoor
