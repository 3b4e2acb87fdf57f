/-
  The walk of fulmarref.CraftFrom.
-/
import Derived.Test.YthijegfacnjooaaCraftA
import Derived.Deep.WholeRow
import Derived.Deep.MidRow
namespace Go.Proofs.Ythijegfacnjooaa
open Go.RowKit Plain

theorem cells0 {w : World} {B : Nat} {v : Nat → Value} (h : CxV w B v) : (w.cell? ⟨B, 0, none⟩ = some (v 0) ∧ w.frozen? ⟨B, 0, none⟩ = false) ∧ (w.cell? ⟨B, 1, none⟩ = some (v 1) ∧ w.frozen? ⟨B, 1, none⟩ = false) ∧ (w.cell? ⟨B, 2, none⟩ = some (v 2) ∧ w.frozen? ⟨B, 2, none⟩ = false) ∧ (w.cell? ⟨B, 3, none⟩ = some (v 3) ∧ w.frozen? ⟨B, 3, none⟩ = false) ∧ (w.cell? ⟨B, 4, none⟩ = some (v 4) ∧ w.frozen? ⟨B, 4, none⟩ = false) ∧ (w.cell? ⟨B, 5, none⟩ = some (v 5) ∧ w.frozen? ⟨B, 5, none⟩ = false) ∧ (w.cell? ⟨B, 6, none⟩ = some (v 6) ∧ w.frozen? ⟨B, 6, none⟩ = false) ∧ (w.cell? ⟨B, 7, none⟩ = some (v 7) ∧ w.frozen? ⟨B, 7, none⟩ = false) ∧ (w.cell? ⟨B, 8, none⟩ = some (v 8) ∧ w.frozen? ⟨B, 8, none⟩ = false) ∧ (w.cell? ⟨B, 9, none⟩ = some (v 9) ∧ w.frozen? ⟨B, 9, none⟩ = false) ∧ (w.cell? ⟨B, 10, none⟩ = some (v 10) ∧ w.frozen? ⟨B, 10, none⟩ = false) ∧ (w.cell? ⟨B, 11, none⟩ = some (v 11) ∧ w.frozen? ⟨B, 11, none⟩ = false) ∧ (w.cell? ⟨B, 12, none⟩ = some (v 12) ∧ w.frozen? ⟨B, 12, none⟩ = false) ∧ (w.cell? ⟨B, 13, none⟩ = some (v 13) ∧ w.frozen? ⟨B, 13, none⟩ = false) ∧ (w.cell? ⟨B, 14, none⟩ = some (v 14) ∧ w.frozen? ⟨B, 14, none⟩ = false) :=
  ⟨h 0 (by omega), h 1 (by omega), h 2 (by omega), h 3 (by omega), h 4 (by omega), h 5 (by omega), h 6 (by omega), h 7 (by omega), h 8 (by omega), h 9 (by omega), h 10 (by omega), h 11 (by omega), h 12 (by omega), h 13 (by omega), h 14 (by omega)⟩
theorem cells15 {w : World} {B : Nat} {v : Nat → Value} (h : CxV w B v) : (w.cell? ⟨B, 15, none⟩ = some (v 15) ∧ w.frozen? ⟨B, 15, none⟩ = false) ∧ (w.cell? ⟨B, 16, none⟩ = some (v 16) ∧ w.frozen? ⟨B, 16, none⟩ = false) ∧ (w.cell? ⟨B, 17, none⟩ = some (v 17) ∧ w.frozen? ⟨B, 17, none⟩ = false) ∧ (w.cell? ⟨B, 18, none⟩ = some (v 18) ∧ w.frozen? ⟨B, 18, none⟩ = false) ∧ (w.cell? ⟨B, 19, none⟩ = some (v 19) ∧ w.frozen? ⟨B, 19, none⟩ = false) ∧ (w.cell? ⟨B, 20, none⟩ = some (v 20) ∧ w.frozen? ⟨B, 20, none⟩ = false) ∧ (w.cell? ⟨B, 21, none⟩ = some (v 21) ∧ w.frozen? ⟨B, 21, none⟩ = false) ∧ (w.cell? ⟨B, 22, none⟩ = some (v 22) ∧ w.frozen? ⟨B, 22, none⟩ = false) ∧ (w.cell? ⟨B, 23, none⟩ = some (v 23) ∧ w.frozen? ⟨B, 23, none⟩ = false) ∧ (w.cell? ⟨B, 24, none⟩ = some (v 24) ∧ w.frozen? ⟨B, 24, none⟩ = false) ∧ (w.cell? ⟨B, 25, none⟩ = some (v 25) ∧ w.frozen? ⟨B, 25, none⟩ = false) ∧ (w.cell? ⟨B, 26, none⟩ = some (v 26) ∧ w.frozen? ⟨B, 26, none⟩ = false) ∧ (w.cell? ⟨B, 27, none⟩ = some (v 27) ∧ w.frozen? ⟨B, 27, none⟩ = false) ∧ (w.cell? ⟨B, 28, none⟩ = some (v 28) ∧ w.frozen? ⟨B, 28, none⟩ = false) ∧ (w.cell? ⟨B, 29, none⟩ = some (v 29) ∧ w.frozen? ⟨B, 29, none⟩ = false) :=
  ⟨h 15 (by omega), h 16 (by omega), h 17 (by omega), h 18 (by omega), h 19 (by omega), h 20 (by omega), h 21 (by omega), h 22 (by omega), h 23 (by omega), h 24 (by omega), h 25 (by omega), h 26 (by omega), h 27 (by omega), h 28 (by omega), h 29 (by omega)⟩

/-- How far the loop is. -/
def CrLp (w : World) (O B : Nat) (a : Option Addr) (l : List Int) (cap : Nat) (ix : Value) (wr : World) : Prop :=
  ∃ v : Nat → Value, (∃ x, v 30 = .int .i64 x ∧ 0 ≤ x ∧ x ≤ 99) ∧ (∃ x, v 31 = .int .i64 x ∧ 1 ≤ x ∧ x ≤ 10) ∧
    ((ix = .int .i64 0 ∧ CXS w wr O w.heap.size B a l cap 2 v) ∨ (ix = .int .i64 1 ∧ CXS w wr O w.heap.size B a l cap 24 v ∧ AxFt wr B v 0) ∨ (ix = .int .i64 2 ∧ CXS w wr O w.heap.size B a l cap 46 v ∧ AxFt wr B v 0 ∧ AxFt wr B v 15))

theorem below_setCells {K b : Nat} {w0 : World} : ∀ (vs : List Value) (o : Nat) (w : World), Below K w0 w → K ≤ b → Below K w0 (w.setCells b o vs)
  | [], _, _, h, _ => h
  | v :: r, o, w, h, hb => below_setCells r (o + 1) (w.setCell ⟨b, o, none⟩ v) (h.setCell (by simpa using hb) v) hb
theorem gsets {b : Nat} {x : Addr} {c : Value} (hb : x.block ≠ b) : ∀ (vs : List Value) (o : Nat) (w : World), w.cell? x = some c → (w.setCells b o vs).cell? x = some c
  | [], _, _, h => h
  | v :: r, o, w, h => gsets hb r (o + 1) (w.setCell ⟨b, o, none⟩ v) (gset h hb)
theorem range32 {w : World} {B : Nat} {v : Nat → Value} (h : CxV w B v) : w.rangeAt B 0 [v 0, v 1, v 2, v 3, v 4, v 5, v 6, v 7, v 8, v 9, v 10, v 11, v 12, v 13, v 14, v 15, v 16, v 17, v 18, v 19, v 20, v 21, v 22, v 23, v 24, v 25, v 26, v 27, v 28, v 29, v 30, v 31] := by
  intro j x hx
  have hj : j < 32 := (List.getElem?_eq_some_iff.1 hx).1
  rw [Nat.zero_add]
  rcases (show j = 0 ∨ j = 1 ∨ j = 2 ∨ j = 3 ∨ j = 4 ∨ j = 5 ∨ j = 6 ∨ j = 7 ∨ j = 8 ∨ j = 9 ∨ j = 10 ∨ j = 11 ∨ j = 12 ∨ j = 13 ∨ j = 14 ∨ j = 15 ∨ j = 16 ∨ j = 17 ∨ j = 18 ∨ j = 19 ∨ j = 20 ∨ j = 21 ∨ j = 22 ∨ j = 23 ∨ j = 24 ∨ j = 25 ∨ j = 26 ∨ j = 27 ∨ j = 28 ∨ j = 29 ∨ j = 30 ∨ j = 31 by omega) with rfl | rfl | rfl | rfl | rfl | rfl | rfl | rfl | rfl | rfl | rfl | rfl | rfl | rfl | rfl | rfl | rfl | rfl | rfl | rfl | rfl | rfl | rfl | rfl | rfl | rfl | rfl | rfl | rfl | rfl | rfl | rfl <;> (obtain rfl := Option.some.inj hx; exact (h _ (by omega)).1)
theorem infoCraft : (Try.prog.info? 68).map (·.size) = some 32 := by kernel_rfl
theorem infoAxis : (Try.prog.info? 65).map (·.size) = some 15 := by kernel_rfl
theorem res_craft (tmps : Array Value) (U : World) (Z : Nat) (cs : List Value) (h2 : tmps.getD 2 undef = .pointer (some ⟨Z, 0, none⟩)) (hR : U.rangeAt Z 0 cs) (hn : cs.length = 32) :
    (results Try.f20 tmps).run Try.prog U = .ok (.agg cs.toArray) U := by
  have h3 : tmps[2]?.getD undef = .pointer (some ⟨Z, 0, none⟩) := by simpa using h2
  simp [results, Try.results20, h3, asAddr, run_loadVar_mid U Z 0 68 cs _ hR Try.underlying68 rfl (by rw [infoCraft, hn])]
theorem isLoadC {P : Program} {ops : Array Oper} {rest : List Oper} {op : Oper} {a : Act} {w : World} {Q : Exit → Act → World → Prop} (x : Operand) (_ho : op.op = .load 68 x) (h : wpList P ops Q (op :: rest) a w) : wpList P ops Q (op :: rest) a w := h
theorem isStoreC {P : Program} {ops : Array Oper} {rest : List Oper} {op : Oper} {a : Act} {w : World} {Q : Exit → Act → World → Prop} (x y : Operand) (_ho : op.op = .store 68 x y) (h : wpList P ops Q (op :: rest) a w) : wpList P ops Q (op :: rest) a w := h
theorem isStoreA {P : Program} {ops : Array Oper} {rest : List Oper} {op : Oper} {a : Act} {w : World} {Q : Exit → Act → World → Prop} (x y : Operand) (_ho : op.op = .store 65 x y) (h : wpList P ops Q (op :: rest) a w) : wpList P ops Q (op :: rest) a w := h
theorem one_all (cs : List Value) (h : cs.all (·.oneCell') = true) : cs.toArray.all (·.oneCell') = true := by simpa using h
set_option maxRecDepth 100000 in
/-- A whole craft goes into the block that was made last. -/
theorem wpList_new {ops : Array Oper} {rest : List Oper} {op : Oper} {a : Act} {w : World} {Q : Exit → Act → World → Prop} {c c' : Array Value} (x y : Operand) (hgd : op.guard = none) (ho : op.op = .store 68 x y)
    (hx : a.eval x = .pointer (some ⟨w.heap.size, 0, none⟩)) (hy : a.eval y = .agg c') (hs : c'.size = 32) (hc : c.size = c'.size) (h1 : c'.all (·.oneCell') = true)
    (h : wpList Try.prog ops Q rest (a.put op.dst undef) (w.alloc (.cells c' 68))) : wpList Try.prog ops Q (op :: rest) a (w.alloc (.cells c 68)) :=
  wpList_plain hgd fun _ hK => by
    unfold Oper.wp execOp
    simp only [ho, hx, hy, Sem.run_bind, Sem.run_pure, Result.andThen_ok, run_storeAt_new w 68 c c' (by rw [infoCraft, hs]) hc h1]
    exact hK _ _ h

set_option maxRecDepth 100000 in
set_option maxHeartbeats 4000000 in
theorem craftFrom_full (a : Option Addr) (l : List Int) (cap : Nat) (hl : l.length ≤ 100) (w : World) (hil : ILs w a l) :
    Calls Try.prog 20 #[.slice a l.length cap] w fun e w' => (∃ v : Nat → Value, e = .returned (.agg #[v 0, v 1, v 2, v 3, v 4, v 5, v 6, v 7, v 8, v 9, v 10, v 11, v 12, v 13, v 14, v 15, v 16, v 17, v 18, v 19, v 20, v 21, v 22, v 23, v 24, v 25, v 26, v 27, v 28, v 29, v 30, v 31]) ∧ AxFt w' w.heap.size v 0 ∧ AxFt w' w.heap.size v 15 ∧ (∃ x, v 30 = .int .i64 x ∧ 0 ≤ x ∧ x ≤ 99) ∧ ∃ x, v 31 = .int .i64 x ∧ 1 ≤ x ∧ x ≤ 10) ∧ Below w.heap.size w w' := by
  have hraw := raw_of hil
  have HD : Hid (Dc ((w.alloc (.cells #[.int .i64 0, .int .i64 0, .int .i64 0, .int .i64 0, .int .i64 0, .int .i64 0, .int .i64 0, .int .i64 0, .int .i64 0, .int .i64 0, .int .i64 0, .int .i64 0, .slice none 0 0, .slice none 0 0, .int .i64 0, .int .i64 0, .int .i64 0, .int .i64 0, .int .i64 0, .int .i64 0, .int .i64 0, .int .i64 0, .int .i64 0, .int .i64 0, .int .i64 0, .int .i64 0, .int .i64 0, .slice none 0 0, .slice none 0 0, .int .i64 0, .int .i64 0, .int .i64 0] 68)).alloc (.cells #[.slice a l.length cap, .int .i64 0] 60)) (w.heap.size + 1) a l cap 0) := by
    refine ahide ⟨⟨by simp [go_sem], by simp [go_sem]⟩, by simp [go_sem], hil.later (abelow_up (abelow_alloc _ _) (abelow_alloc _ _)), fun b off e hne => ?_⟩
    have := hraw b off e hne
    omega
  have HZ : Hid (CxV ((w.alloc (.cells #[.int .i64 0, .int .i64 0, .int .i64 0, .int .i64 0, .int .i64 0, .int .i64 0, .int .i64 0, .int .i64 0, .int .i64 0, .int .i64 0, .int .i64 0, .int .i64 0, .slice none 0 0, .slice none 0 0, .int .i64 0, .int .i64 0, .int .i64 0, .int .i64 0, .int .i64 0, .int .i64 0, .int .i64 0, .int .i64 0, .int .i64 0, .int .i64 0, .int .i64 0, .int .i64 0, .int .i64 0, .slice none 0 0, .slice none 0 0, .int .i64 0, .int .i64 0, .int .i64 0] 68)).alloc (.cells #[.slice a l.length cap, .int .i64 0] 60)) w.heap.size zC) := ahide ((cx_zero w 68).later (abelow_alloc _ _))
  have HB : Hid (Below w.heap.size w ((w.alloc (.cells #[.int .i64 0, .int .i64 0, .int .i64 0, .int .i64 0, .int .i64 0, .int .i64 0, .int .i64 0, .int .i64 0, .int .i64 0, .int .i64 0, .int .i64 0, .int .i64 0, .slice none 0 0, .slice none 0 0, .int .i64 0, .int .i64 0, .int .i64 0, .int .i64 0, .int .i64 0, .int .i64 0, .int .i64 0, .int .i64 0, .int .i64 0, .int .i64 0, .int .i64 0, .int .i64 0, .int .i64 0, .slice none 0 0, .slice none 0 0, .int .i64 0, .int .i64 0, .int .i64 0] 68)).alloc (.cells #[.slice a l.length cap, .int .i64 0] 60))) := ahide (abelow_up (abelow_alloc _ _) (abelow_alloc _ _))
  go_enter Try.func20, Try.ntmps20
  go_upto_region 2 with fail
  generalize (w.alloc (.cells #[.int .i64 0, .int .i64 0, .int .i64 0, .int .i64 0, .int .i64 0, .int .i64 0, .int .i64 0, .int .i64 0, .int .i64 0, .int .i64 0, .int .i64 0, .int .i64 0, .slice none 0 0, .slice none 0 0, .int .i64 0, .int .i64 0, .int .i64 0, .int .i64 0, .int .i64 0, .int .i64 0, .int .i64 0, .int .i64 0, .int .i64 0, .int .i64 0, .int .i64 0, .int .i64 0, .int .i64 0, .slice none 0 0, .slice none 0 0, .int .i64 0, .int .i64 0, .int .i64 0] 68)).alloc (.cells #[.slice a l.length cap, .int .i64 0] 60) = u1 at *
  have hO : w.heap.size < w.heap.size + 1 := by omega
  obtain ⟨O, hOO⟩ : ∃ O, w.heap.size + 1 = O := ⟨_, rfl⟩
  rw [hOO] at HD hO ⊢
  have hb0 : w.heap.size ≤ O := by omega
  clear hOO
  have TK1 : Hid True := trivial
  have TK2 : Hid True := trivial
  go_upto_region 3 with (first
    | (refine isStoreC _ _ rfl ?_; refine wpList_new (c' := #[.int .i64 0, .int .i64 0, .int .i64 0, .int .i64 0, .int .i64 0, .int .i64 0, .int .i64 0, .int .i64 0, .int .i64 0, .int .i64 0, .int .i64 0, .int .i64 0, .slice none 0 0, .slice none 0 0, .int .i64 0, .int .i64 0, .int .i64 0, .int .i64 0, .int .i64 0, .int .i64 0, .int .i64 0, .int .i64 0, .int .i64 0, .int .i64 0, .int .i64 0, .int .i64 0, .int .i64 0, .slice none 0 0, .slice none 0 0, .int .i64 0, .int .i64 x, .int .i64 (1 + y)]) (.tmp 4) (.tmp 14) rfl rfl rfl rfl rfl rfl (one_all _ rfl) ?_)
    | (go_at_call_of 29 (Value.int .i64 100); clear TK1; refine (diceN_any O a l cap 0 100 (by omega) (by omega) (by omega) hl _ HD.out).mono ?_; rintro e y0 ⟨⟨x, rfl, x0, x1⟩, hD, hK, hsz⟩; clear hsz; have HD := ahide hD; have HZ := ahide (HZ.out.dk hK (by omega)); have HB := ahide (DK.below HB.out hK hb0 HB.out.size); clear hD hK)
    | (go_at_call_of 29 (Value.int .i64 10); clear TK2; refine (diceN_any O a l cap 1 10 (by omega) (by omega) (by omega) hl _ HD.out).mono ?_; rintro e y1 ⟨⟨y, rfl, y0', y1'⟩, hD, hK, hsz⟩; clear hsz; have HD := ahide hD; have HZ := ahide (HZ.out.dk hK (by omega)); have HB := ahide (DK.below HB.out hK hb0 HB.out.size); clear hD hK))
  have HX : Hid (CXS w (y1.alloc (.cells #[.int .i64 0, .int .i64 0, .int .i64 0, .int .i64 0, .int .i64 0, .int .i64 0, .int .i64 0, .int .i64 0, .int .i64 0, .int .i64 0, .int .i64 0, .int .i64 0, .slice none 0 0, .slice none 0 0, .int .i64 0, .int .i64 0, .int .i64 0, .int .i64 0, .int .i64 0, .int .i64 0, .int .i64 0, .int .i64 0, .int .i64 0, .int .i64 0, .int .i64 0, .int .i64 0, .int .i64 0, .slice none 0 0, .slice none 0 0, .int .i64 0, .int .i64 x, .int .i64 (1 + y)] 68)) O w.heap.size y1.heap.size a l cap 2 (updV (updV zC 30 (.int .i64 x)) 31 (.int .i64 (1 + y)))) :=
    ahide ⟨HD.out.later (abelow_alloc _ _), cx_new y1 x (1 + y) 68, HZ.out.later (abelow_alloc _ _), abelow_up HB.out (abelow_alloc _ _), Nat.le_refl _, hO, HD.out.lt, hraw⟩
  have HV : Hid ((updV (updV zC 30 (.int .i64 x)) 31 (.int .i64 (1 + y))) 30 = .int .i64 x ∧ (updV (updV zC 30 (.int .i64 x)) 31 (.int .i64 (1 + y))) 31 = .int .i64 (1 + y)) := ahide ⟨rfl, rfl⟩
  generalize (updV (updV zC 30 (.int .i64 x)) 31 (.int .i64 (1 + y))) = v0 at *
  generalize y1.alloc (.cells #[.int .i64 0, .int .i64 0, .int .i64 0, .int .i64 0, .int .i64 0, .int .i64 0, .int .i64 0, .int .i64 0, .int .i64 0, .int .i64 0, .int .i64 0, .int .i64 0, .slice none 0 0, .slice none 0 0, .int .i64 0, .int .i64 0, .int .i64 0, .int .i64 0, .int .i64 0, .int .i64 0, .int .i64 0, .int .i64 0, .int .i64 0, .int .i64 0, .int .i64 0, .int .i64 0, .int .i64 0, .slice none 0 0, .slice none 0 0, .int .i64 0, .int .i64 x, .int .i64 (1 + y)] 68) = u2 at *
  generalize y1.heap.size = B at *
  have HXY := ahide (show (0 ≤ x ∧ x ≤ 99) ∧ 1 ≤ 1 + y ∧ 1 + y ≤ 10 by omega)
  clear HD HZ HB x0 x1 y0' y1'
  go_wp2
  go_loopw [5] (fun ix wr => CrLp w O B a l cap ix wr) (fun ix _ => 2 - (intOf ix).toNat)
  case atStart => exact ⟨v0, ⟨_, HV.out.1, HXY.out.1⟩, ⟨_, HV.out.2, HXY.out.2⟩, Or.inl ⟨rfl, HX.out⟩⟩
  case round =>
    clear HX HV HXY
    obtain ⟨v, ⟨l30, hv30, hl30⟩, ⟨l31, hv31, hl31⟩, hrel⟩ := hrel
    have HL30 := ahide hl30
    have HL31 := ahide hl31
    clear hl30 hl31
    have H30 := ahide hv30
    have H31 := ahide hv31
    clear hv30 hv31
    rename World => wr
    rcases hrel with ⟨rfl, hX⟩ | ⟨rfl, hX, hA⟩ | ⟨rfl, hX, hA, hA2⟩
    · have HX := ahide hX
      clear hX
      have hraw2 : RawAt a l wr.heap.size := fun b off e hne => Nat.lt_of_lt_of_le (hraw b off e hne) HX.out.2.2.2.1.size
      go_wp2_with (go_at_call 45; refine (axisFrom_any O a l cap 2 (by omega) hl _ HX.out.1 hraw2).mono ?_; rintro e y2 ⟨⟨a0, a1, a2, a3, a4, a5, a6, a7, a8, a9, a10, a11, a14, G1, G2, rfl, hax, ⟨gz, gx, gy, hgl⟩, g1, g2⟩, hD, hK⟩; have HG := ahide (show GL y2 G1 G2 gz gx gy ∧ B < G1 ∧ B < G2 from ⟨hgl, Nat.lt_of_lt_of_le HX.out.2.1.lt g1, Nat.lt_of_lt_of_le HX.out.2.1.lt g2⟩); have HKK := ahide hK; have HX := ahide (CXS.dk HX.out hD hK); clear hD hK hgl g1 g2; (obtain ⟨⟨c0, f0⟩, ⟨c1, f1⟩, ⟨c2, f2⟩, ⟨c3, f3⟩, ⟨c4, f4⟩, ⟨c5, f5⟩, ⟨c6, f6⟩, ⟨c7, f7⟩, ⟨c8, f8⟩, ⟨c9, f9⟩, ⟨c10, f10⟩, ⟨c11, f11⟩, ⟨c12, f12⟩, ⟨c13, f13⟩, ⟨c14, f14⟩⟩ := cells0 HX.out.2.1))
      obtain ⟨U, v', hU, hXU, hv, hw, hoth⟩ := puts0 HX.out (.int .i64 a0) (.int .i64 a1) (.int .i64 a2) (.int .i64 a3) (.int .i64 a4) (.int .i64 a5) (.int .i64 a6) (.int .i64 a7) (.int .i64 a8) (.int .i64 a9) (.int .i64 a10) (.int .i64 a11) (.slice (some ⟨G1, 0, none⟩) 2 2) (.slice (some ⟨G2, 0, none⟩) 2 2) (.int .i64 a14)
      rw [← hU]
      go_roundw
      case rel => exact ⟨v', ⟨l30, (hw 30 (by omega)).trans H30.out, HL30.out⟩, ⟨l31, (hw 31 (by omega)).trans H31.out, HL31.out⟩, Or.inr (Or.inl ⟨rfl, hXU, ⟨a0, a1, a2, a3, a4, a5, a6, a7, a8, a9, a10, a11, a14, G1, G2, gz, gx, gy, hv, hax, HG.out.1.cells (fun q c hq h => hoth q c (by have := HG.out.2; rcases hq with hq | hq <;> omega) h), HG.out.2⟩⟩)⟩
      case measure => simp [intOf]
    · have HX := ahide hX
      have HA := ahide hA
      clear hX hA
      have hraw2 : RawAt a l wr.heap.size := fun b off e hne => Nat.lt_of_lt_of_le (hraw b off e hne) HX.out.2.2.2.1.size
      go_wp2_with (go_at_call 45; refine (axisFrom_any O a l cap 24 (by omega) hl _ HX.out.1 hraw2).mono ?_; rintro e y2 ⟨⟨a0, a1, a2, a3, a4, a5, a6, a7, a8, a9, a10, a11, a14, G1, G2, rfl, hax, ⟨gz, gx, gy, hgl⟩, g1, g2⟩, hD, hK⟩; have HG := ahide (show GL y2 G1 G2 gz gx gy ∧ B < G1 ∧ B < G2 from ⟨hgl, Nat.lt_of_lt_of_le HX.out.2.1.lt g1, Nat.lt_of_lt_of_le HX.out.2.1.lt g2⟩); have HKK := ahide hK; have HX := ahide (CXS.dk HX.out hD hK); clear hD hK hgl g1 g2; (obtain ⟨⟨c0, f0⟩, ⟨c1, f1⟩, ⟨c2, f2⟩, ⟨c3, f3⟩, ⟨c4, f4⟩, ⟨c5, f5⟩, ⟨c6, f6⟩, ⟨c7, f7⟩, ⟨c8, f8⟩, ⟨c9, f9⟩, ⟨c10, f10⟩, ⟨c11, f11⟩, ⟨c12, f12⟩, ⟨c13, f13⟩, ⟨c14, f14⟩⟩ := cells15 HX.out.2.1))
      obtain ⟨U, v', hU, hXU, hv, hw, hoth⟩ := puts15 HX.out (.int .i64 a0) (.int .i64 a1) (.int .i64 a2) (.int .i64 a3) (.int .i64 a4) (.int .i64 a5) (.int .i64 a6) (.int .i64 a7) (.int .i64 a8) (.int .i64 a9) (.int .i64 a10) (.int .i64 a11) (.slice (some ⟨G1, 0, none⟩) 2 2) (.slice (some ⟨G2, 0, none⟩) 2 2) (.int .i64 a14)
      rw [← hU]
      go_roundw
      case rel => exact ⟨v', ⟨l30, (hw 30 (by omega)).trans H30.out, HL30.out⟩, ⟨l31, (hw 31 (by omega)).trans H31.out, HL31.out⟩, Or.inr (Or.inr ⟨rfl, hXU, HA.out.low (fun j _ hj => hw j (by omega)) (fun q c hq h => hoth q c (by omega) (HKK.out.cell (by have := HX.out.2.2.2.2; omega) h)), ⟨a0, a1, a2, a3, a4, a5, a6, a7, a8, a9, a10, a11, a14, G1, G2, gz, gx, gy, hv, hax, HG.out.1.cells (fun q c hq h => hoth q c (by have := HG.out.2; rcases hq with hq | hq <;> omega) h), HG.out.2⟩⟩)⟩
      case measure => simp [intOf]
    · have HX := ahide hX
      have HA := ahide hA
      have HA2 := ahide hA2
      clear hX hA hA2
      obtain ⟨a0, a1, a2, a3, a4, a5, a6, a7, a8, a9, a10, a11, a14, p, q, m1, m2, k1, k2, ⟨h0, h1, h2, h3, h4, h5, h6, h7, h8, h9, h10, h11, h12, h13, h14⟩, _⟩ := HA.out.at
      obtain ⟨b0, b1, b2, b3, b4, b5, b6, b7, b8, b9, b10, b11, b14, pp, qq, n1, n2, j1, j2, ⟨h15, h16, h17, h18, h19, h20, h21, h22, h23, h24, h25, h26, h27, h28, h29⟩, _⟩ := HA2.out.at
      simp only [Nat.zero_add] at h0 h1 h2 h3 h4 h5 h6 h7 h8 h9 h10 h11 h12 h13 h14
      have h30 := H30.out
      have h31 := H31.out
      have hRB := range32 HX.out.2.1
      rw [h0, h1, h2, h3, h4, h5, h6, h7, h8, h9, h10, h11, h12, h13, h14, h15, h16, h17, h18, h19, h20, h21, h22, h23, h24, h25, h26, h27, h28, h29, h30, h31] at hRB
      have ht : wr.there w.heap.size 0 32 := fun j hj => by
        have := HX.out.2.2.1 j hj
        rw [Nat.zero_add]
        exact ⟨by rw [this.1]; rfl, this.2⟩
      have HR := ahide (World.rangeAt_setCells_same wr w.heap.size 0 [.int .i64 a0, .int .i64 a1, .int .i64 a2, .int .i64 a3, .int .i64 a4, .int .i64 a5, .int .i64 a6, .int .i64 a7, .int .i64 a8, .int .i64 a9, .int .i64 a10, .int .i64 a11, .slice p m1 k1, .slice q m2 k2, .int .i64 a14, .int .i64 b0, .int .i64 b1, .int .i64 b2, .int .i64 b3, .int .i64 b4, .int .i64 b5, .int .i64 b6, .int .i64 b7, .int .i64 b8, .int .i64 b9, .int .i64 b10, .int .i64 b11, .slice pp n1 j1, .slice qq n2 j2, .int .i64 b14, .int .i64 l30, .int .i64 l31] ht)
      have HBU := ahide (below_setCells (b := w.heap.size) [.int .i64 a0, .int .i64 a1, .int .i64 a2, .int .i64 a3, .int .i64 a4, .int .i64 a5, .int .i64 a6, .int .i64 a7, .int .i64 a8, .int .i64 a9, .int .i64 a10, .int .i64 a11, .slice p m1 k1, .slice q m2 k2, .int .i64 a14, .int .i64 b0, .int .i64 b1, .int .i64 b2, .int .i64 b3, .int .i64 b4, .int .i64 b5, .int .i64 b6, .int .i64 b7, .int .i64 b8, .int .i64 b9, .int .i64 b10, .int .i64 b11, .slice pp n1 j1, .slice qq n2 j2, .int .i64 b14, .int .i64 l30, .int .i64 l31] 0 wr HX.out.2.2.2.1 (Nat.le_refl _))
      have hWB : w.heap.size < B := by have := HX.out.2.2.2.2; omega
      have HGS : ∀ (qa : Addr) (ca : Value), B < qa.block → wr.cell? qa = some ca → (wr.setCells w.heap.size 0 [.int .i64 a0, .int .i64 a1, .int .i64 a2, .int .i64 a3, .int .i64 a4, .int .i64 a5, .int .i64 a6, .int .i64 a7, .int .i64 a8, .int .i64 a9, .int .i64 a10, .int .i64 a11, .slice p m1 k1, .slice q m2 k2, .int .i64 a14, .int .i64 b0, .int .i64 b1, .int .i64 b2, .int .i64 b3, .int .i64 b4, .int .i64 b5, .int .i64 b6, .int .i64 b7, .int .i64 b8, .int .i64 b9, .int .i64 b10, .int .i64 b11, .slice pp n1 j1, .slice qq n2 j2, .int .i64 b14, .int .i64 l30, .int .i64 l31]).cell? qa = some ca := fun qa ca hq => gsets (b := w.heap.size) (x := qa) (c := ca) (by omega) [.int .i64 a0, .int .i64 a1, .int .i64 a2, .int .i64 a3, .int .i64 a4, .int .i64 a5, .int .i64 a6, .int .i64 a7, .int .i64 a8, .int .i64 a9, .int .i64 a10, .int .i64 a11, .slice p m1 k1, .slice q m2 k2, .int .i64 a14, .int .i64 b0, .int .i64 b1, .int .i64 b2, .int .i64 b3, .int .i64 b4, .int .i64 b5, .int .i64 b6, .int .i64 b7, .int .i64 b8, .int .i64 b9, .int .i64 b10, .int .i64 b11, .slice pp n1 j1, .slice qq n2 j2, .int .i64 b14, .int .i64 l30, .int .i64 l31] 0 wr
      generalize hU1 : wr.setCells w.heap.size 0 [.int .i64 a0, .int .i64 a1, .int .i64 a2, .int .i64 a3, .int .i64 a4, .int .i64 a5, .int .i64 a6, .int .i64 a7, .int .i64 a8, .int .i64 a9, .int .i64 a10, .int .i64 a11, .slice p m1 k1, .slice q m2 k2, .int .i64 a14, .int .i64 b0, .int .i64 b1, .int .i64 b2, .int .i64 b3, .int .i64 b4, .int .i64 b5, .int .i64 b6, .int .i64 b7, .int .i64 b8, .int .i64 b9, .int .i64 b10, .int .i64 b11, .slice pp n1 j1, .slice qq n2 j2, .int .i64 b14, .int .i64 l30, .int .i64 l31] = U1 at HGS
      have HU1 := ahide hU1
      clear hU1
      have hAF : AxFt U1 B v 0 := AxFt.low (w := wr) (w' := U1) (K := B) (s := 0) (v := v) (v' := v) HA.out (fun j _ _ => Eq.refl (v j)) HGS
      have HAF := ahide (AxFt.mono hAF (Nat.le_of_lt hWB))
      clear hAF
      have hAG : AxFt U1 B v 15 := AxFt.low (w := wr) (w' := U1) (K := B) (s := 15) (v := v) (v' := v) HA2.out (fun j _ _ => Eq.refl (v j)) HGS
      have HAG := ahide (AxFt.mono hAG (Nat.le_of_lt hWB))
      clear hAG
      clear HGS
      have HH := ahide (show (Value.agg #[.int .i64 a0, .int .i64 a1, .int .i64 a2, .int .i64 a3, .int .i64 a4, .int .i64 a5, .int .i64 a6, .int .i64 a7, .int .i64 a8, .int .i64 a9, .int .i64 a10, .int .i64 a11, .slice p m1 k1, .slice q m2 k2, .int .i64 a14, .int .i64 b0, .int .i64 b1, .int .i64 b2, .int .i64 b3, .int .i64 b4, .int .i64 b5, .int .i64 b6, .int .i64 b7, .int .i64 b8, .int .i64 b9, .int .i64 b10, .int .i64 b11, .slice pp n1 j1, .slice qq n2 j2, .int .i64 b14, .int .i64 l30, .int .i64 l31]) = .agg #[v 0, v 1, v 2, v 3, v 4, v 5, v 6, v 7, v 8, v 9, v 10, v 11, v 12, v 13, v 14, v 15, v 16, v 17, v 18, v 19, v 20, v 21, v 22, v 23, v 24, v 25, v 26, v 27, v 28, v 29, v 30, v 31] by rw [h0, h1, h2, h3, h4, h5, h6, h7, h8, h9, h10, h11, h12, h13, h14, h15, h16, h17, h18, h19, h20, h21, h22, h23, h24, h25, h26, h27, h28, h29, h30, h31])
      clear h0 h1 h2 h3 h4 h5 h6 h7 h8 h9 h10 h11 h12 h13 h14 h15 h16 h17 h18 h19 h20 h21 h22 h23 h24 h25 h26 h27 h28 h29 h30 h31
      go_wp2_with (first
        | (refine isLoadC _ rfl ?_; refine wpList_load_mid rfl 68 (.tmp 4) rfl B 0 rfl [.int .i64 a0, .int .i64 a1, .int .i64 a2, .int .i64 a3, .int .i64 a4, .int .i64 a5, .int .i64 a6, .int .i64 a7, .int .i64 a8, .int .i64 a9, .int .i64 a10, .int .i64 a11, .slice p m1 k1, .slice q m2 k2, .int .i64 a14, .int .i64 b0, .int .i64 b1, .int .i64 b2, .int .i64 b3, .int .i64 b4, .int .i64 b5, .int .i64 b6, .int .i64 b7, .int .i64 b8, .int .i64 b9, .int .i64 b10, .int .i64 b11, .slice pp n1 j1, .slice qq n2 j2, .int .i64 b14, .int .i64 l30, .int .i64 l31] _ hRB Try.underlying68 rfl infoCraft ?_)
        | (refine isStoreC _ _ rfl ?_; refine wpList_store_mid rfl 68 (.tmp 2) (.tmp 24) rfl w.heap.size 0 #[.int .i64 a0, .int .i64 a1, .int .i64 a2, .int .i64 a3, .int .i64 a4, .int .i64 a5, .int .i64 a6, .int .i64 a7, .int .i64 a8, .int .i64 a9, .int .i64 a10, .int .i64 a11, .slice p m1 k1, .slice q m2 k2, .int .i64 a14, .int .i64 b0, .int .i64 b1, .int .i64 b2, .int .i64 b3, .int .i64 b4, .int .i64 b5, .int .i64 b6, .int .i64 b7, .int .i64 b8, .int .i64 b9, .int .i64 b10, .int .i64 b11, .slice pp n1 j1, .slice qq n2 j2, .int .i64 b14, .int .i64 l30, .int .i64 l31] rfl rfl ht infoCraft (one_all _ rfl) ?_))
      generalize wr.setCells w.heap.size 0 [.int .i64 a0, .int .i64 a1, .int .i64 a2, .int .i64 a3, .int .i64 a4, .int .i64 a5, .int .i64 a6, .int .i64 a7, .int .i64 a8, .int .i64 a9, .int .i64 a10, .int .i64 a11, .slice p m1 k1, .slice q m2 k2, .int .i64 a14, .int .i64 b0, .int .i64 b1, .int .i64 b2, .int .i64 b3, .int .i64 b4, .int .i64 b5, .int .i64 b6, .int .i64 b7, .int .i64 b8, .int .i64 b9, .int .i64 b10, .int .i64 b11, .slice pp n1 j1, .slice qq n2 j2, .int .i64 b14, .int .i64 l30, .int .i64 l31] = U at *
      obtain rfl := HU1.out
      refine bodyPost_ret (v := .agg #[.int .i64 a0, .int .i64 a1, .int .i64 a2, .int .i64 a3, .int .i64 a4, .int .i64 a5, .int .i64 a6, .int .i64 a7, .int .i64 a8, .int .i64 a9, .int .i64 a10, .int .i64 a11, .slice p m1 k1, .slice q m2 k2, .int .i64 a14, .int .i64 b0, .int .i64 b1, .int .i64 b2, .int .i64 b3, .int .i64 b4, .int .i64 b5, .int .i64 b6, .int .i64 b7, .int .i64 b8, .int .i64 b9, .int .i64 b10, .int .i64 b11, .slice pp n1 j1, .slice qq n2 j2, .int .i64 b14, .int .i64 l30, .int .i64 l31]) ?_ rfl ⟨⟨v, by rw [HH.out], HAF.out, HAG.out, ⟨_, H30.out, HL30.out⟩, _, H31.out, HL31.out⟩, HBU.out⟩
      exact res_craft _ U w.heap.size [.int .i64 a0, .int .i64 a1, .int .i64 a2, .int .i64 a3, .int .i64 a4, .int .i64 a5, .int .i64 a6, .int .i64 a7, .int .i64 a8, .int .i64 a9, .int .i64 a10, .int .i64 a11, .slice p m1 k1, .slice q m2 k2, .int .i64 a14, .int .i64 b0, .int .i64 b1, .int .i64 b2, .int .i64 b3, .int .i64 b4, .int .i64 b5, .int .i64 b6, .int .i64 b7, .int .i64 b8, .int .i64 b9, .int .i64 b10, .int .i64 b11, .slice pp n1 j1, .slice qq n2 j2, .int .i64 b14, .int .i64 l30, .int .i64 l31] rfl HR.out rfl

theorem craftFrom_any (a : Option Addr) (l : List Int) (cap : Nat) (hl : l.length ≤ 100) (w : World) (hil : ILs w a l) :
    Calls Try.prog 20 #[.slice a l.length cap] w fun e w' => (∃ v : Nat → Value, e = .returned (.agg #[v 0, v 1, v 2, v 3, v 4, v 5, v 6, v 7, v 8, v 9, v 10, v 11, v 12, v 13, v 14, v 15, v 16, v 17, v 18, v 19, v 20, v 21, v 22, v 23, v 24, v 25, v 26, v 27, v 28, v 29, v 30, v 31]) ∧ AxAt v 0 ∧ AxAt v 15 ∧ (∃ x, v 30 = .int .i64 x) ∧ ∃ x, v 31 = .int .i64 x) ∧ Below w.heap.size w w' :=
  (craftFrom_full a l cap hl w hil).mono fun _ _ ⟨⟨v, h, h0, h1, ⟨x, hx, _⟩, y, hy, _⟩, hb⟩ => ⟨⟨v, h, h0.at, h1.at, ⟨x, hx⟩, y, hy⟩, hb⟩

end Go.Proofs.Ythijegfacnjooaa
