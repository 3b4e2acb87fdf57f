/-
  The contract of fcc.Check.
-/
import Derived.Test.YtaonbbimnenehaaDoorFccD
import Derived.Maps.AppendAt
import Derived.Shelf.SlIter.Collect
namespace Go.Proofs.YtaonbbimnenehaaDoor
open Go.RowKit Plain

theorem grE_noise {L H N P M R : Int} (h : grE L H N P M R = 0) : 0 ≤ N ∧ N ≤ 1000 := by
  have : grB L H N P M R = true := by
    unfold grE at h
    split at h
    · assumption
    · omega
  have g := grB_true this
  exact ⟨g.n0, g.n1⟩
/-- What is wrong with an axis, check by check. -/
def eAx (a0 a1 a2 a3 a4 a5 a6 a7 a8 a9 a10 a11 a14 : Int) (al zl : List Int) : Nat → Int
  | 0 => rgE a4 a3
  | 1 => ruleE a8 a9
  | 2 => arE a5 a6 a7 a10
  | 3 => grE a0 a1 a2 (a3 + a7) ((a4 - 1) * a5) ((a4 - 1) * a6)
  | 4 => ruE a0 a1 a11 a14 ((a4 - 1) * a5) al zl
  | _ => fmE a8 a2 a0 a1
/-- What is wrong with a craft, check by check. -/
def eCr (a0 a1 a2 a3 a4 a5 a6 a7 a8 a9 a10 a11 a14 : Int) (al zl : List Int) (b0 b1 b2 b3 b4 b5 b6 b7 b8 b9 b10 b11 b14 : Int) (bl yl : List Int) (c0 c1 : Int) (k : Nat) : Int := if k < 6 then eAx a0 a1 a2 a3 a4 a5 a6 a7 a8 a9 a10 a11 a14 al zl k else if k < 12 then eAx b0 b1 b2 b3 b4 b5 b6 b7 b8 b9 b10 b11 b14 bl yl (k - 6) else ruleE c0 c1
def gCr (k : Nat) : Nat := if k < 12 then [34, 36, 38, 41, 44, 47].getD (k % 6) 0 else 19
def cbCr (B0 B1 B : Nat) (k : Nat) : Array Value := if k < 6 then #[.pointer (some ⟨B0, 0, none⟩)] else if k < 12 then #[.pointer (some ⟨B1, 0, none⟩)] else #[.pointer (some ⟨B, 0, none⟩)]
/-- An axis in a block of its own. -/
def AxH (u : World) (B : Nat) (a0 a1 a2 a3 a4 a5 a6 a7 a8 a9 a10 a11 a14 : Int) (p q : Option Addr) (n m cn cm : Nat) : Prop := u.heap[B]? = some (.cells #[.int .i64 a0, .int .i64 a1, .int .i64 a2, .int .i64 a3, .int .i64 a4, .int .i64 a5, .int .i64 a6, .int .i64 a7, .int .i64 a8, .int .i64 a9, .int .i64 a10, .int .i64 a11, .slice p n cn, .slice q m cm, .int .i64 a14] 26 (0, 0))
section
variable {u u' : World} {B : Nat} {a0 a1 a2 a3 a4 a5 a6 a7 a8 a9 a10 a11 a14 : Int} {p q : Option Addr} {n m cn cm : Nat}
theorem AxH.axb (h : AxH u B a0 a1 a2 a3 a4 a5 a6 a7 a8 a9 a10 a11 a14 p q n m cn cm) : AxB u B a0 a1 a2 a3 a4 a5 a6 a7 a8 a9 a10 a11 a14 p q n m cn cm := by
  unfold AxH at h
  refine ⟨?_, ?_, ?_, ?_, ?_, ?_, ?_, ?_, ?_, ?_, ?_, ?_, ?_, ?_, ?_⟩ <;> simp [World.cell?, h]
theorem AxH.lt (h : AxH u B a0 a1 a2 a3 a4 a5 a6 a7 a8 a9 a10 a11 a14 p q n m cn cm) : B < u.heap.size := (Array.getElem?_eq_some_iff.1 h).1
theorem AxH.later (h : AxH u B a0 a1 a2 a3 a4 a5 a6 a7 a8 a9 a10 a11 a14 p q n m cn cm) (hb : Below u.heap.size u u') : AxH u' B a0 a1 a2 a3 a4 a5 a6 a7 a8 a9 a10 a11 a14 p q n m cn cm := (hb.block B h.lt).trans h
theorem AxH.grown {base k : Nat} {v : Value} {xs : List Value} (h : AxH u B a0 a1 a2 a3 a4 a5 a6 a7 a8 a9 a10 a11 a14 p q n m cn cm) (ho : u.ownsRow base 65 1 v k xs) (hg : u.grownBy u' v.ownBlock) : AxH u' B a0 a1 a2 a3 a4 a5 a6 a7 a8 a9 a10 a11 a14 p q n m cn cm := by
  refine (hg.block B h.lt ?_).trans h
  rcases ownsRow_ne_a ho h (fun cur e => absurd (Obj.cells.inj e).2.1 (by decide)) with e | e
  · rw [e]; simp
  · exact fun e' => e e'.symm
end
/-- A craft in a block of its own. -/
def CrH (u : World) (B : Nat) (cs : List Value) : Prop := u.heap[B]? = some (.cells cs.toArray 29 (0, 0))
theorem CrH.lt {u : World} {B : Nat} {cs : List Value} (h : CrH u B cs) : B < u.heap.size := (Array.getElem?_eq_some_iff.1 h).1
theorem CrH.later {u u' : World} {B : Nat} {cs : List Value} (h : CrH u B cs) (hb : Below u.heap.size u u') : CrH u' B cs := (hb.block B h.lt).trans h
theorem CrH.range {u : World} {B : Nat} {cs : List Value} (h : CrH u B cs) : u.rangeAt B 0 cs := fun j v hv => by
  unfold CrH at h
  simp only [World.cell?, h, Nat.zero_add]
  simp only [Option.isSome_none, Bool.false_eq_true, if_false]
  simpa using hv
theorem CrH.grown {u u' : World} {B base k : Nat} {v : Value} {xs cs : List Value} (h : CrH u B cs) (ho : u.ownsRow base 65 1 v k xs) (hg : u.grownBy u' v.ownBlock) : CrH u' B cs := by
  refine (hg.block B h.lt ?_).trans h
  rcases ownsRow_ne_a ho h (fun cur e => absurd (Obj.cells.inj e).2.1 (by decide)) with e | e
  · rw [e]; simp
  · exact fun e' => e e'.symm
theorem func_one (l : List Value) (h : ∀ v ∈ l, ∃ g cb, v = .func (.func g) #[] cb) : ∀ v ∈ l, v.oneCell' = true := fun v hv => by obtain ⟨g, cb, rfl⟩ := h v hv; rfl
theorem axisChecks_ab (a0 a1 a2 a3 a4 a5 a6 a7 a8 a9 a10 a11 a14 : Int) (p q : Option Addr) (n m cn cm : Nat) (w : World) : Calls Tryd.prog 18 #[.agg #[.int .i64 a0, .int .i64 a1, .int .i64 a2, .int .i64 a3, .int .i64 a4, .int .i64 a5, .int .i64 a6, .int .i64 a7, .int .i64 a8, .int .i64 a9, .int .i64 a10, .int .i64 a11, .slice p n cn, .slice q m cm, .int .i64 a14]] w fun e w' => ∃ B0 G, e = .returned (.slice (some ⟨G, 0, none⟩) 6 6) ∧ AxH w' B0 a0 a1 a2 a3 a4 a5 a6 a7 a8 a9 a10 a11 a14 p q n m cn cm ∧ (∀ j v, ([.func (.func 34) #[] #[.pointer (some ⟨B0, 0, none⟩)], .func (.func 36) #[] #[.pointer (some ⟨B0, 0, none⟩)], .func (.func 38) #[] #[.pointer (some ⟨B0, 0, none⟩)], .func (.func 41) #[] #[.pointer (some ⟨B0, 0, none⟩)], .func (.func 44) #[] #[.pointer (some ⟨B0, 0, none⟩)], .func (.func 47) #[] #[.pointer (some ⟨B0, 0, none⟩)]] : List Value)[j]? = some v → w'.cell? ((⟨G, 0, none⟩ : Addr).add j) = some v) ∧ Below w.heap.size w w' := by
  refine (axisChecks_any a0 a1 a2 a3 a4 a5 a6 a7 a8 a9 a10 a11 a14 p q n m cn cm w).mono ?_
  rintro e w' ⟨rfl, rfl⟩
  refine ⟨w.heap.size, w.heap.size + 1, rfl, ?_, ?_, abelow_up (abelow_alloc _ _) (abelow_alloc _ _)⟩
  · exact (Below.heap_alloc _ _ _ (by simp)).trans (World.alloc_heap_new w _)
  · intro j v hj
    rw [Addr.add_lit]
    have hh := World.alloc_heap_new (w.alloc (.cells #[.int .i64 a0, .int .i64 a1, .int .i64 a2, .int .i64 a3, .int .i64 a4, .int .i64 a5, .int .i64 a6, .int .i64 a7, .int .i64 a8, .int .i64 a9, .int .i64 a10, .int .i64 a11, .slice p n cn, .slice q m cm, .int .i64 a14] 26)) (.cells #[.func (.func 34) #[] #[.pointer (some ⟨w.heap.size, 0, none⟩)], .func (.func 36) #[] #[.pointer (some ⟨w.heap.size, 0, none⟩)], .func (.func 38) #[] #[.pointer (some ⟨w.heap.size, 0, none⟩)], .func (.func 41) #[] #[.pointer (some ⟨w.heap.size, 0, none⟩)], .func (.func 44) #[] #[.pointer (some ⟨w.heap.size, 0, none⟩)], .func (.func 47) #[] #[.pointer (some ⟨w.heap.size, 0, none⟩)]] 65)
    rw [World.size_alloc] at hh
    simp only [World.cell?, hh, Nat.zero_add]
    simp only [Option.isSome_none, Bool.false_eq_true, if_false]
    simpa using hj
theorem nilf_own (Bs : Nat) (w : World) : w.ownsRow Bs 65 1 (.slice none 0 0) 0 [] := ⟨rfl, .inl ⟨rfl, rfl⟩⟩
theorem infoF : (Tryd.prog.info? 65).map (fun i => (i.zero, i.size, i.bytes)) = some (some Value.nilFunc, 1, 8) := by kernel_rfl
theorem infoX : (Tryd.prog.info? 27).map (·.size) = some 30 := by kernel_rfl
theorem isLoadX {P : Program} {ops : Array Oper} {rest : List Oper} {op : Oper} {a : Act} {w : World} {Q : Exit → Act → World → Prop} (x : Operand) (_ho : op.op = .load 27 x) (h : wpList P ops Q (op :: rest) a w) : wpList P ops Q (op :: rest) a w := h
theorem idx_a (y0 y1 y2 y3 y4 y5 y6 y7 y8 y9 y10 y11 y12 y13 y14 y15 y16 y17 y18 y19 y20 y21 y22 y23 y24 y25 y26 y27 y28 y29 : Value) (w : World) : (Instr.index 27 (.agg #[y0, y1, y2, y3, y4, y5, y6, y7, y8, y9, y10, y11, y12, y13, y14, y15, y16, y17, y18, y19, y20, y21, y22, y23, y24, y25, y26, y27, y28, y29]) (.int .i64 0)).run Tryd.prog w = .ok (.agg #[y0, y1, y2, y3, y4, y5, y6, y7, y8, y9, y10, y11, y12, y13, y14]) w := by kernel_rfl
theorem idx_b (y0 y1 y2 y3 y4 y5 y6 y7 y8 y9 y10 y11 y12 y13 y14 y15 y16 y17 y18 y19 y20 y21 y22 y23 y24 y25 y26 y27 y28 y29 : Value) (w : World) : (Instr.index 27 (.agg #[y0, y1, y2, y3, y4, y5, y6, y7, y8, y9, y10, y11, y12, y13, y14, y15, y16, y17, y18, y19, y20, y21, y22, y23, y24, y25, y26, y27, y28, y29]) (.int .i64 1)).run Tryd.prog w = .ok (.agg #[y15, y16, y17, y18, y19, y20, y21, y22, y23, y24, y25, y26, y27, y28, y29]) w := by kernel_rfl
theorem range_sub {u : World} {B n : Nat} {cs : List Value} (h : u.rangeAt B 0 cs) (k : Nat) : u.rangeAt B k ((cs.drop k).take n) := fun j v hv => by
  rw [List.getElem?_take] at hv
  split at hv
  · have := h (k + j) v (by simpa using hv)
    simpa using this
  · cases hv
/-- What the closures say, each where those ahead of it found nothing. -/
theorem closures_say (a0 a1 a2 a3 a4 a5 a6 a7 a8 a9 a10 a11 a14 : Int) (p q : Option Addr) (al zl : List Int) (cn cm : Nat) (b0 b1 b2 b3 b4 b5 b6 b7 b8 b9 b10 b11 b14 : Int) (r s : Option Addr) (bl yl : List Int) (dn dm : Nat) (c0 c1 : Int) (B0 B1 B : Nat) (w x : World) (hbw : Below w.heap.size w x) (hA : AxH x B0 a0 a1 a2 a3 a4 a5 a6 a7 a8 a9 a10 a11 a14 p q al.length zl.length cn cm) (hB : AxH x B1 b0 b1 b2 b3 b4 b5 b6 b7 b8 b9 b10 b11 b14 r s bl.length yl.length dn dm) (hC : CrH x B [.int .i64 a0, .int .i64 a1, .int .i64 a2, .int .i64 a3, .int .i64 a4, .int .i64 a5, .int .i64 a6, .int .i64 a7, .int .i64 a8, .int .i64 a9, .int .i64 a10, .int .i64 a11, .slice p al.length cn, .slice q zl.length cm, .int .i64 a14, .int .i64 b0, .int .i64 b1, .int .i64 b2, .int .i64 b3, .int .i64 b4, .int .i64 b5, .int .i64 b6, .int .i64 b7, .int .i64 b8, .int .i64 b9, .int .i64 b10, .int .i64 b11, .slice r bl.length dn, .slice s yl.length dm, .int .i64 b14, .int .i64 c0, .int .i64 c1])
    (hla : al.length ≤ 9223372036854775807 ∧ zl.length ≤ 9223372036854775807 ∧ al.length ≤ cn ∧ Lst w p al ∧ Lst w q zl) (hlb : bl.length ≤ 9223372036854775807 ∧ yl.length ≤ 9223372036854775807 ∧ bl.length ≤ dn ∧ Lst w r bl ∧ Lst w s yl) :
    ∀ k, k < 13 → (∀ j, j < k → eCr a0 a1 a2 a3 a4 a5 a6 a7 a8 a9 a10 a11 a14 al zl b0 b1 b2 b3 b4 b5 b6 b7 b8 b9 b10 b11 b14 bl yl c0 c1 j = 0) → ∀ u, Below x.heap.size x u → Calls Tryd.prog (gCr k) (cbCr B0 B1 B k) u fun r u' => r = .returned (errV (eCr a0 a1 a2 a3 a4 a5 a6 a7 a8 a9 a10 a11 a14 al zl b0 b1 b2 b3 b4 b5 b6 b7 b8 b9 b10 b11 b14 bl yl c0 c1 k)) ∧ Below u.heap.size u u' := by
  have HBW := ahide hbw
  have HLA := ahide hla
  have HLB := ahide hlb
  have HXa : Hid (∀ u, Below x.heap.size x u → AxB u B0 a0 a1 a2 a3 a4 a5 a6 a7 a8 a9 a10 a11 a14 p q al.length zl.length cn cm) := ahide (fun u hu => (hA.later hu).axb)
  have HXb : Hid (∀ u, Below x.heap.size x u → AxB u B1 b0 b1 b2 b3 b4 b5 b6 b7 b8 b9 b10 b11 b14 r s bl.length yl.length dn dm) := ahide (fun u hu => (hB.later hu).axb)
  intro k hk hz u hu
  rcases (show k = 0 ∨ k = 1 ∨ k = 2 ∨ k = 3 ∨ k = 4 ∨ k = 5 ∨ k = 6 ∨ k = 7 ∨ k = 8 ∨ k = 9 ∨ k = 10 ∨ k = 11 ∨ k = 12 by omega) with rfl | rfl | rfl | rfl | rfl | rfl | rfl | rfl | rfl | rfl | rfl | rfl | rfl
  · exact clo1_any a0 a1 a2 a3 a4 a5 a6 a7 a8 a9 a10 a11 a14 p q al.length zl.length cn cm _ u (HXa.out u hu)
  · exact clo2_any a0 a1 a2 a3 a4 a5 a6 a7 a8 a9 a10 a11 a14 p q al.length zl.length cn cm _ u (HXa.out u hu)
  · exact clo3_any a0 a1 a2 a3 a4 a5 a6 a7 a8 a9 a10 a11 a14 p q al.length zl.length cn cm _ u (HXa.out u hu)
  · have hz := hz
    have z0 := rgE_zero (hz 0 (by omega))
    have z2 := arB_true (arE_zero (hz 2 (by omega)))
    exact clo4_any a0 a1 a2 a3 a4 a5 a6 a7 a8 a9 a10 a11 a14 p q al.length zl.length cn cm z0.1 z2.1 z0.2 ⟨z2.2.2.1.1, by omega⟩ ⟨z2.2.1.1, by omega⟩ _ u (HXa.out u hu)
  · have hz := hz
    have z0 := rgE_zero (hz 0 (by omega))
    have z2 := arB_true (arE_zero (hz 2 (by omega)))
    exact clo5_any a0 a1 a2 a3 a4 a5 a6 a7 a8 a9 a10 a11 a14 p q al zl cn cm z0.1 z2.1 z0.2 ⟨z2.2.2.1.1, by omega⟩ ⟨z2.2.1.1, by omega⟩ HLA.out.1 HLA.out.2.1 HLA.out.2.2.1 _ u (HXa.out u hu) (HLA.out.2.2.2.1.later (HBW.out.trans (hu.mono HBW.out.size))) (HLA.out.2.2.2.2.later (HBW.out.trans (hu.mono HBW.out.size)))
  · have hz := hz
    have z3 := grE_noise (hz 3 (by omega))
    exact clo6_any a0 a1 a2 a3 a4 a5 a6 a7 a8 a9 a10 a11 a14 p q al.length zl.length cn cm z3 _ u (HXa.out u hu)
  · exact clo1_any b0 b1 b2 b3 b4 b5 b6 b7 b8 b9 b10 b11 b14 r s bl.length yl.length dn dm _ u (HXb.out u hu)
  · exact clo2_any b0 b1 b2 b3 b4 b5 b6 b7 b8 b9 b10 b11 b14 r s bl.length yl.length dn dm _ u (HXb.out u hu)
  · exact clo3_any b0 b1 b2 b3 b4 b5 b6 b7 b8 b9 b10 b11 b14 r s bl.length yl.length dn dm _ u (HXb.out u hu)
  · have hz := hz
    have z0 := rgE_zero (hz 6 (by omega))
    have z2 := arB_true (arE_zero (hz 8 (by omega)))
    exact clo4_any b0 b1 b2 b3 b4 b5 b6 b7 b8 b9 b10 b11 b14 r s bl.length yl.length dn dm z0.1 z2.1 z0.2 ⟨z2.2.2.1.1, by omega⟩ ⟨z2.2.1.1, by omega⟩ _ u (HXb.out u hu)
  · have hz := hz
    have z0 := rgE_zero (hz 6 (by omega))
    have z2 := arB_true (arE_zero (hz 8 (by omega)))
    exact clo5_any b0 b1 b2 b3 b4 b5 b6 b7 b8 b9 b10 b11 b14 r s bl yl dn dm z0.1 z2.1 z0.2 ⟨z2.2.2.1.1, by omega⟩ ⟨z2.2.1.1, by omega⟩ HLB.out.1 HLB.out.2.1 HLB.out.2.2.1 _ u (HXb.out u hu) (HLB.out.2.2.2.1.later (HBW.out.trans (hu.mono HBW.out.size))) (HLB.out.2.2.2.2.later (HBW.out.trans (hu.mono HBW.out.size)))
  · have hz := hz
    have z3 := grE_noise (hz 9 (by omega))
    exact clo6_any b0 b1 b2 b3 b4 b5 b6 b7 b8 b9 b10 b11 b14 r s bl.length yl.length dn dm z3 _ u (HXb.out u hu)
  · exact check1_any (.int .i64 a0) (.int .i64 a1) (.int .i64 a2) (.int .i64 a3) (.int .i64 a4) (.int .i64 a5) (.int .i64 a6) (.int .i64 a7) (.int .i64 a8) (.int .i64 a9) (.int .i64 a10) (.int .i64 a11) (.slice p al.length cn) (.slice q zl.length cm) (.int .i64 a14) (.int .i64 b0) (.int .i64 b1) (.int .i64 b2) (.int .i64 b3) (.int .i64 b4) (.int .i64 b5) (.int .i64 b6) (.int .i64 b7) (.int .i64 b8) (.int .i64 b9) (.int .i64 b10) (.int .i64 b11) (.slice r bl.length dn) (.slice s yl.length dm) (.int .i64 b14) c0 c1 B u (rangeAt_later hC.range hu)

end Go.Proofs.YtaonbbimnenehaaDoor
