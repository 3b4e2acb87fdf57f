/-
  The contract of fulmarref.New.
-/
import Derived.Test.YtaonbbimnenehaaDoorFccI
import Derived.OwnWalk
namespace Go.Proofs.YtaonbbimnenehaaDoor
open Go.RowKit Plain

/-- A state in a block of its own. -/
def StH (u : World) (B : Nat) (cs : List Value) : Prop := u.heap[B]? = some (.cells cs.toArray 44 (0, 0))
theorem StH.lt {u : World} {B : Nat} {cs : List Value} (h : StH u B cs) : B < u.heap.size := (Array.getElem?_eq_some_iff.1 h).1
theorem StH.later {u u' : World} {B : Nat} {cs : List Value} (h : StH u B cs) (hb : Below u.heap.size u u') : StH u' B cs := (hb.block B h.lt).trans h
theorem StH.cell {u : World} {B : Nat} {cs : List Value} (h : StH u B cs) {j : Nat} {v : Value} (hv : cs[j]? = some v) : u.cell? ⟨B, j, none⟩ = some v ∧ u.frozen? ⟨B, j, none⟩ = false := by
  unfold StH at h
  constructor
  · simp only [World.cell?, h]
    simp only [Option.isSome_none, Bool.false_eq_true, if_false]
    simpa using hv
  · simp [World.frozen?, h]
theorem StH.range {u : World} {B : Nat} {cs : List Value} (h : StH u B cs) : u.rangeAt B 0 cs := fun j v hv => by rw [Nat.zero_add]; exact (h.cell hv).1
theorem StH.there {u : World} {B : Nat} {cs : List Value} (h : StH u B cs) {n : Nat} (hn : n = cs.length) : u.there B 0 n := fun j hj => by
  subst hn
  have := h.cell (List.getElem?_eq_getElem hj)
  rw [Nat.zero_add]
  exact ⟨by rw [this.1]; rfl, this.2⟩
theorem StH.set {u : World} {B : Nat} {cs : List Value} (h : StH u B cs) (j : Nat) (v : Value) : StH (u.setCell ⟨B, j, none⟩ v) B (cs.set j v) := by
  unfold StH at h ⊢
  rw [heap_setCell_same u B j cs.toArray 44 v h]
  simp
theorem StH.far {u : World} {B V : Nat} {cs : List Value} (h : StH u B cs) (hV : B ≠ V) (j : Nat) (v : Value) : StH (u.setCell ⟨V, j, none⟩ v) B cs := (heap_setCell_other u ⟨V, j, none⟩ B v hV).trans h
theorem CrH.far {u : World} {B V : Nat} {cs : List Value} (h : CrH u B cs) (hV : B ≠ V) (j : Nat) (v : Value) : CrH (u.setCell ⟨V, j, none⟩ v) B cs := (heap_setCell_other u ⟨V, j, none⟩ B v hV).trans h
theorem ZS.far {u : World} {a : Option Addr} {n V j : Nat} {v : Value} (h : ZS u a n) (hV : ∀ b off, a = some ⟨b, off, none⟩ → b ≠ V) : ZS (u.setCell ⟨V, j, none⟩ v) a n := by
  rcases h with h | ⟨b, off, h, hc⟩
  · exact .inl h
  · have f : ∀ o y, u.cell? ⟨b, o, none⟩ = some y → (u.setCell ⟨V, j, none⟩ v).cell? ⟨b, o, none⟩ = some y := fun o y hy => (World.cell?_setCell_other _ _ _ _ (fun e => hV b off h (congrArg Addr.block e).symm)).trans hy
    exact .inr ⟨b, off, h, fun k hk => ⟨f _ _ (hc k hk).1, f _ _ (hc k hk).2.1, f _ _ (hc k hk).2.2⟩⟩
theorem infoS : (Tryd.prog.info? 44).map (·.size) = some 30 := by kernel_rfl
theorem isStoreS {P : Program} {ops : Array Oper} {rest : List Oper} {op : Oper} {a : Act} {w : World} {Q : Exit → Act → World → Prop} (x y : Operand) (_ho : op.op = .store 44 x y) (h : wpList P ops Q (op :: rest) a w) : wpList P ops Q (op :: rest) a w := h
theorem isLoadS {P : Program} {ops : Array Oper} {rest : List Oper} {op : Oper} {a : Act} {w : World} {Q : Exit → Act → World → Prop} (x : Operand) (_ho : op.op = .load 44 x) (h : wpList P ops Q (op :: rest) a w) : wpList P ops Q (op :: rest) a w := h
theorem sone_all (cs : List Value) (h : cs.all (·.oneCell') = true) : cs.toArray.all (·.oneCell') = true := by simpa using h
set_option maxRecDepth 100000 in
/-- A whole state goes into the block that was made last. -/
theorem wpList_newS {ops : Array Oper} {rest : List Oper} {op : Oper} {a : Act} {w : World} {Q : Exit → Act → World → Prop} {c c' : Array Value} (x y : Operand) (hgd : op.guard = none) (ho : op.op = .store 44 x y)
    (hx : a.eval x = .pointer (some ⟨w.heap.size, 0, none⟩)) (hy : a.eval y = .agg c') (hs : c'.size = 30) (hc : c.size = c'.size) (h1 : c'.all (·.oneCell') = true)
    (h : wpList Tryd.prog ops Q rest (a.put op.dst undef) (w.alloc (.cells c' 44))) : wpList Tryd.prog ops Q (op :: rest) a (w.alloc (.cells c 44)) :=
  wpList_plain hgd fun _ hK => by
    unfold Oper.wp execOp
    simp only [ho, hx, hy, Sem.run_bind, Sem.run_pure, Result.andThen_ok, run_storeAt_new w 44 c c' (by rw [infoS, hs]) hc h1]
    exact hK _ _ h
theorem infoV : (Tryd.prog.info? 97).map (fun i => (i.zero, i.size, i.bytes)) = some (some (.agg #[.int .i64 0, .int .i64 0, .bool false]), 3, 24) := by kernel_rfl
theorem make_servos (n : Nat) (hn : n ≤ 9) (w : World) : (Instr.makeSlice 38 (.int .i64 (n : Int)) (.int .i64 (n : Int))).run Tryd.prog w = .ok (.slice (some ⟨w.heap.size, 0, none⟩) n n) (w.alloc (.cells (madeCells #[.int .i64 0, .int .i64 0, .bool false] (n * 3)) 97)) := by
  cases hh : Tryd.prog.info? 97 with
  | none => have h := infoV; rw [hh] at h; cases h
  | some i0 =>
    have h := infoV
    rw [hh] at h
    simp only [Option.map_some, Option.some.injEq, Prod.mk.injEq] at h
    have g := run_make (P := Tryd.prog) (w := w) 38 97 i0 (.agg #[.int .i64 0, .int .i64 0, .bool false]) Tryd.underlying38 hh h.1 .i64 .i64 (n : Int) (n : Int) (by omega) (by omega) (by rw [h.2.2]; omega) (by omega)
    rw [h.2.1, Int.toNat_natCast] at g
    exact g
theorem made_at (n k j : Nat) (hk : k < n) (hj : j < 3) : (madeCells #[.int .i64 0, .int .i64 0, .bool false] (n * 3))[k * 3 + j]? = (#[.int .i64 0, .int .i64 0, .bool false] : Array Value)[j]? := by
  have h : k * 3 + j < n * 3 := by omega
  unfold madeCells
  rw [Array.getElem?_map, Array.getElem?_eq_getElem (by simpa using h)]
  simp only [Array.getElem_range, Option.map_some]
  have e : (k * 3 + j) % 3 = j := by omega
  show some ((#[.int .i64 0, .int .i64 0, .bool false] : Array Value)[(k * 3 + j) % 3]!) = _
  rw [e]
  rcases (show j = 0 ∨ j = 1 ∨ j = 2 by omega) with rfl | rfl | rfl <;> rfl
theorem zs_made (n : Nat) (w : World) : ZS (w.alloc (.cells (madeCells #[.int .i64 0, .int .i64 0, .bool false] (n * 3)) 97)) (some ⟨w.heap.size, 0, none⟩) n := by
  refine .inr ⟨w.heap.size, 0, rfl, fun k hk => ?_⟩
  have hh := World.alloc_heap_new w (.cells (madeCells #[.int .i64 0, .int .i64 0, .bool false] (n * 3)) 97)
  have f : ∀ j v, j < 3 → (#[.int .i64 0, .int .i64 0, .bool false] : Array Value)[j]? = some v → (w.alloc (.cells (madeCells #[.int .i64 0, .int .i64 0, .bool false] (n * 3)) 97)).cell? ⟨w.heap.size, 0 + k * 3 + j, none⟩ = some v := fun j v hj hv => by
    simp only [World.cell?, hh, Nat.zero_add]
    simp only [Option.isSome_none, Bool.false_eq_true, if_false]
    rw [made_at n k j hk hj]; exact hv
  exact ⟨f 0 _ (by omega) rfl, f 1 _ (by omega) rfl, f 2 _ (by omega) rfl⟩

theorem res_new (tmps : Array Value) (U : World) (Y : Nat) (cs : List Value) (h2 : tmps.getD 2 undef = .pointer (some ⟨Y, 0, none⟩)) (hR : U.rangeAt Y 0 cs) (hn : cs.length = 30) :
    (results Tryd.f6 tmps).run Tryd.prog U = .ok (.agg cs.toArray) U := by
  have h3 : tmps[2]?.getD undef = .pointer (some ⟨Y, 0, none⟩) := by simpa using h2
  simp [results, Tryd.results6, h3, asAddr, run_loadVar_mid U Y 0 44 cs _ hR Tryd.underlying44 rfl (by rw [infoS, hn])]
theorem nbelow_setCells {K b : Nat} {w0 : World} : ∀ (vs : List Value) (o : Nat) (w : World), Below K w0 w → K ≤ b → Below K w0 (w.setCells b o vs)
  | [], _, _, h, _ => h
  | v :: r, o, w, h, hb => nbelow_setCells r (o + 1) (w.setCell ⟨b, o, none⟩ v) (h.setCell (by simpa using hb) v) hb
theorem nzs_setCells {a : Option Addr} {n V : Nat} (hV : ∀ b off, a = some ⟨b, off, none⟩ → b ≠ V) : ∀ (vs : List Value) (o : Nat) (w : World), ZS w a n → ZS (w.setCells V o vs) a n
  | [], _, _, h => h
  | v :: r, o, w, h => nzs_setCells hV r (o + 1) (w.setCell ⟨V, o, none⟩ v) (h.far hV)

end Go.Proofs.YtaonbbimnenehaaDoor
