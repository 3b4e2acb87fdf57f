import Derived.Deep.RegionHeld3
import Derived.Deep.CutRange
import Derived.Deep.DeepCutAuto
import Derived.BigRegion
import Derived.Test.YtnfdfiholcelaaaGreatDoorJd00
import Derived.Test.YtnfdfiholcelaaaGreatDoorJd03
set_option maxRecDepth 100000
set_option maxHeartbeats 20000000
namespace Go.Proofs.YtnfdfiholcelaaaGreatDoor
open Go.RowKit Plain
def mnA (x y : Int) : Int := min x y
def mxA (x y : Int) : Int := max x y
theorem run_minA (ts : Array TypeId) (t : TypeId) (p q : Int) (w : World) : (Builtin.min_ ts t #[Vi p, Vi q]).run Tryz.prog w = .ok (Vi (mnA p q)) w := by
 unfold mnA; by_cases h : q < p
 · rw [Int.min_eq_right (by omega)]; simp [Builtin.min_, Builtin.min2, h]
 · rw [Int.min_eq_left (by omega)]; simp [Builtin.min_, Builtin.min2, h]
theorem run_maxA (ts : Array TypeId) (t : TypeId) (p q : Int) (w : World) : (Builtin.max_ ts t #[Vi p, Vi q]).run Tryz.prog w = .ok (Vi (mxA p q)) w := by
 unfold mxA; by_cases h : p < q
 · rw [Int.max_eq_right (by omega)]; simp [Builtin.max_, Builtin.max2, h]
 · rw [Int.max_eq_left (by omega)]; simp [Builtin.max_, Builtin.max2, h]
def loR (T R i : Int) (o : Bool) : Int := if o then 0 else mxA (i - R) (-T)
def hiR (T R i : Int) (o : Bool) : Int := if o then 0 else mnA (i + R) T
def FrA (w : World) (B n : Nat) : Prop := (∀ j, j < n → w.frozen? (Ad B j) = false) ∧ B < w.heap.size
theorem FrA.later {w w' : World} {B n : Nat} (h : FrA w B n) (hb : Below w.heap.size w w') : FrA w' B n :=
 ⟨fun j hj => (hb.frozen (p := ⟨B, j, none⟩) h.2).trans (h.1 j hj), Nat.lt_of_lt_of_le h.2 hb.size⟩
theorem FrA.new {w : World} {cs : Array Value} {T : TypeId} {n : Nat} : FrA (w.alloc (.cells cs T)) w.heap.size n :=
 ⟨fun j _ => by simp [go_sem], by simp [go_sem]⟩
theorem FrA.set {w : World} {B n : Nat} {a : Addr} {v : Value} (h : FrA w B n) : FrA (w.setCell a v) B n :=
 ⟨fun j hj => by simpa [go_sem] using h.1 j hj, by simpa [go_sem] using h.2⟩
def RSP (w0 w : World) (T R S C i b : Int) (o : Bool) : Prop := RS w0 w T R S C i b o ∧ B2 w (w0.heap.size + 1 + 1) (Vi 0) (Vi 0) ∧ FrA w (w0.heap.size + 1 + 1) 2
theorem RSP.later {w0 w w' : World} {T R S C i b : Int} {o : Bool} (h : RSP w0 w T R S C i b o) (hb : Below w.heap.size w w') : RSP w0 w' T R S C i b o := ⟨h.1.later hb, h.2.1.later hb, h.2.2.later hb⟩
theorem RSP.new (w : World) (T R S C i b : Int) (o : Bool) : RSP w (((w.alloc (.cells #[Vi T, Vi R, Vi S, Vi C] 113)).alloc (.cells #[Vi i, Vi b, .bool o] 116)).alloc (.cells #[Vi 0, Vi 0] 105)) T R S C i b o := by
 refine ⟨(RS.new w T R S C i b o).later (Zaa _ _), ?_, ?_⟩
 · rw [← size_alloc w (.cells #[Vi T, Vi R, Vi S, Vi C] 113), ← size_alloc (w.alloc (.cells #[Vi T, Vi R, Vi S, Vi C] 113)) (.cells #[Vi i, Vi b, .bool o] 116)]; exact B2.new _ _ _ _
 · rw [← size_alloc w (.cells #[Vi T, Vi R, Vi S, Vi C] 113), ← size_alloc (w.alloc (.cells #[Vi T, Vi R, Vi S, Vi C] 113)) (.cells #[Vi i, Vi b, .bool o] 116)]; exact FrA.new
theorem reach_ok (T R S C i b : Int) (o : Bool) (h0 : svE T R S C i b o = 0) (w : World) :
 Calls Tryz.prog 245 #[.agg #[Vi T, Vi R, Vi S, Vi C], .agg #[Vi i, Vi b, .bool o]] w fun e w' => e = .returned (.tuple #[.agg #[Vi (loR T R i o), Vi (hiR T R i o)], .nilIface]) ∧ Below w.heap.size w w' := by
 obtain ⟨hr, hs⟩ := Zgc h0; obtain ⟨⟨t0, t1⟩, ⟨r0, r1⟩, _, _, _⟩ := Zau hr; have i0 := (Zbi hs).1.1; have i1 := (Zbi hs).1.2; have m2 := fun ts t p q w => run_minA ts t p q w; have x2 := fun ts t p q w => run_maxA ts t p q w; have hck := Zcz T R S C i b o; rw [h0, Zaq] at hck; have HX := Zab (RSP.new w T R S C i b o); clear hr hs h0
 unfold loR hiR
 cases o
 · simp only [Bool.false_eq_true, if_false]
   go_enter Tryz.func245, Tryz.ntmps245
   go_wp2_with (go_at_call 159; refine Sb (hck _) fun w1 hb1 => ?_; have HX := Zab (HX.out.later hb1); obtain ⟨⟨⟨q0, q1, q2, q3⟩, ⟨s0, s1, s2⟩, _⟩, ⟨p0, p1⟩, pf, _⟩ := HX.out; have f0 := pf 0 (by omega); have f1 := pf 1 (by omega); clear hb1 pf); exact bodyPost_ret (v := .tuple #[.agg #[Vi (mxA (i - R) (-T)), Vi (mnA (i + R) T)], .nilIface]) (by simp [results, Tryz.results245, go_sem, p0, p1]) rfl ⟨rfl, (HX.out.1.2.2.setCell (by simp; omega) _).setCell (by simp; omega) _⟩
 · simp only [if_true]
   go_enter Tryz.func245, Tryz.ntmps245
   go_wp2_with (go_at_call 159; refine Sb (hck _) fun w1 hb1 => ?_; have HX := Zab (HX.out.later hb1); obtain ⟨⟨⟨q0, q1, q2, q3⟩, ⟨s0, s1, s2⟩, _⟩, ⟨p0, p1⟩, pf, _⟩ := HX.out; have f0 := pf 0 (by omega); have f1 := pf 1 (by omega); clear hb1 pf); exact bodyPost_ret (v := .tuple #[.agg #[Vi 0, Vi 0], .nilIface]) (by simp [results, Tryz.results245, go_sem, p0, p1]) rfl ⟨rfl, (HX.out.1.2.2.setCell (by simp; omega) _).setCell (by simp; omega) _⟩
theorem reach_err (T R S C i b : Int) (o : Bool) (h0 : svE T R S C i b o ≠ 0) (w : World) :
 Calls Tryz.prog 245 #[.agg #[Vi T, Vi R, Vi S, Vi C], .agg #[Vi i, Vi b, .bool o]] w fun e w' => e = .returned (.tuple #[.agg #[Vi 0, Vi 0], .iface 44 (Vi (svE T R S C i b o))]) ∧ Below w.heap.size w w' := by
 have hck := Zcz T R S C i b o; rw [Zbe h0] at hck; have HX := Zab (RSP.new w T R S C i b o); clear h0; generalize svE T R S C i b o = x at *
 go_enter Tryz.func245, Tryz.ntmps245
 go_wp2_with (go_at_call 159; refine Sb (hck _) fun w1 hb1 => ?_; have HX := Zab (HX.out.later hb1); obtain ⟨⟨⟨q0, q1, q2, q3⟩, ⟨s0, s1, s2⟩, _⟩, ⟨p0, p1⟩, pf, _⟩ := HX.out; have f0 := pf 0 (by omega); have f1 := pf 1 (by omega); clear hb1 pf); exact bodyPost_ret (v := .tuple #[.agg #[Vi 0, Vi 0], .iface 44 (Vi x)]) (by simp [results, Tryz.results245, go_sem, p0, p1]) rfl ⟨rfl, (HX.out.1.2.2.setCell (by simp; omega) _).setCell (by simp; omega) _⟩
def RSQ (w0 w : World) (Q : Nat) (T R S C i b : Int) (o : Bool) : Prop := RS w0 w T R S C i b o ∧ FrA w (w0.heap.size + 1) 3 ∧ B3 w Q (Vi 0) (Vi 0) (.bool false) ∧ FrA w Q 3
theorem RSQ.later {w0 w w' : World} {Q : Nat} {T R S C i b : Int} {o : Bool} (h : RSQ w0 w Q T R S C i b o) (hb : Below w.heap.size w w') : RSQ w0 w' Q T R S C i b o := ⟨h.1.later hb, h.2.1.later hb, h.2.2.1.later hb, h.2.2.2.later hb⟩
theorem frS (w : World) (T R S C i b : Int) (o : Bool) : FrA ((w.alloc (.cells #[Vi T, Vi R, Vi S, Vi C] 113)).alloc (.cells #[Vi i, Vi b, .bool o] 116)) (w.heap.size + 1) 3 := by
 rw [← size_alloc w (.cells #[Vi T, Vi R, Vi S, Vi C] 113)]; exact FrA.new
theorem RSQ.new3 (w : World) (T R S C i b : Int) (o y : Bool) (z : Int) : RSQ w ((((w.alloc (.cells #[Vi T, Vi R, Vi S, Vi C] 113)).alloc (.cells #[Vi i, Vi b, .bool o] 116)).alloc (.cells #[.bool y, Vi z] 131)).alloc (.cells #[Vi 0, Vi 0, .bool false] 116)) (w.heap.size + 1 + 1 + 1) T R S C i b o ∧ B2 ((((w.alloc (.cells #[Vi T, Vi R, Vi S, Vi C] 113)).alloc (.cells #[Vi i, Vi b, .bool o] 116)).alloc (.cells #[.bool y, Vi z] 131)).alloc (.cells #[Vi 0, Vi 0, .bool false] 116)) (w.heap.size + 1 + 1) (.bool y) (Vi z) := by
 have e : (((w.alloc (.cells #[Vi T, Vi R, Vi S, Vi C] 113)).alloc (.cells #[Vi i, Vi b, .bool o] 116)).alloc (.cells #[.bool y, Vi z] 131)).heap.size = w.heap.size + 1 + 1 + 1 := by simp [go_sem]
 have e2 : ((w.alloc (.cells #[Vi T, Vi R, Vi S, Vi C] 113)).alloc (.cells #[Vi i, Vi b, .bool o] 116)).heap.size = w.heap.size + 1 + 1 := by simp [go_sem]
 refine ⟨⟨((RS.new w T R S C i b o).later (Zaa _ _)).later (Zaa _ _), ((frS w T R S C i b o).later (Zaa _ _)).later (Zaa _ _), ?_, ?_⟩, ?_⟩
 · rw [← e]; exact B3.new _ _ _ _ _
 · rw [← e]; exact FrA.new
 · rw [← e2]; exact (B2.new _ _ _ _).later (Zaa _ _)
def atB (S i z : Int) (y : Bool) : Bool := y && betw z (i - S) (i + S)
def Zgs (S i z : Int) (o y : Bool) : Bool := o || atB S i z y
def wI (S C i b z : Int) (o y : Bool) : Int := if Zgs S i z o y then i else if b + 1 = C then 0 else i
def wB (S i b z : Int) (o y : Bool) : Int := if Zgs S i z o y then b else b + 1
def wO (S C i b z : Int) (o y : Bool) : Bool := if Zgs S i z o y then o else decide (b + 1 = C)
theorem w_fine {S C i b z : Int} {o y : Bool} (h : Zgs S i z o y = true) : wI S C i b z o y = i ∧ wB S i b z o y = b ∧ wO S C i b z o y = o := by
 unfold wI wB wO; rw [if_pos h, if_pos h, if_pos h]; exact ⟨rfl, rfl, rfl⟩
theorem w_last {S C i b z : Int} {o y : Bool} (h : Zgs S i z o y = false) (hq : b + 1 = C) : wI S C i b z o y = 0 ∧ wB S i b z o y = b + 1 ∧ wO S C i b z o y = true := by
 unfold wI wB wO; rw [h]; simp [hq]
theorem w_more {S C i b z : Int} {o y : Bool} (h : Zgs S i z o y = false) (hq : b + 1 ≠ C) : wI S C i b z o y = i ∧ wB S i b z o y = b + 1 ∧ wO S C i b z o y = false := by
 unfold wI wB wO; rw [h]; simp [hq]
theorem atPlace_any (T R S C i b : Int) (o y : Bool) (z : Int) (i0 : -1000 ≤ i) (i1 : i ≤ 1000) (s0 : 0 ≤ S) (s1 : S ≤ 1000) (w : World) :
 Calls Tryz.prog 160 #[.agg #[Vi T, Vi R, Vi S, Vi C], .agg #[Vi i, Vi b, .bool o], .agg #[.bool y, Vi z]] w fun e w' => e = .returned (.bool (atB S i z y)) ∧ Below w.heap.size w w' := by
 have f1 := Zgi z (i - S) (i + S); have HN := Zab (Zac (RS.new w T R S C i b o).2.2 (Zaa _ (.cells #[.bool y, Vi z] 131)))
 unfold atB
 generalize betw z (i - S) (i + S) = x at *
 cases y
 · go_enter Tryz.func160, Tryz.ntmps160
   go_wp2; go_ret; exact ⟨rfl, HN.out⟩
 · go_enter Tryz.func160, Tryz.ntmps160
   go_wp2_with (go_at_call 76; refine Sb (f1 _) fun w1 hb1 => ?_); go_ret; exact ⟨by simp, Zac HN.out hb1⟩
theorem watch_ok (T R S C i b : Int) (o y : Bool) (z : Int) (h0 : svE T R S C i b o = 0) (w : World) :
 Calls Tryz.prog 105 #[.agg #[Vi T, Vi R, Vi S, Vi C], .agg #[Vi i, Vi b, .bool o], .agg #[.bool y, Vi z]] w fun e w' => e = .returned (.tuple #[.agg #[Vi (wI S C i b z o y), Vi (wB S i b z o y), .bool (wO S C i b z o y)], .nilIface]) ∧ Below w.heap.size w w' := by
 have hck := Zcz T R S C i b o; rw [h0, Zaq] at hck; have HX := Zab (RSQ.new3 w T R S C i b o y z); obtain ⟨hr, hs⟩ := Zgc h0; have ⟨⟨t0, t1⟩, _, ⟨k0, k1⟩, c0, c1⟩ := Zau hr; have i0 := (Zbi hs).1.1; have i1 := (Zbi hs).1.2; have b0 := (Zbi hs).2.1.1; have b1 := (Zbi hs).2.1.2; have hap := atPlace_any T R S C i b o y z (by omega) (by omega) (by omega) (by omega); clear hr hs h0; have hfi : Zgs S i z o y = (o || atB S i z y) := rfl; generalize atB S i z y = a at *
 cases o
 · cases a
   · by_cases hq : b + 1 = C
     · obtain ⟨e1, e2, e3⟩ := w_last (C := C) (b := b) hfi hq; rw [e1, e2, e3]; clear hfi e1 e2 e3
       have hq' : (b + 1 == C) = true := by simpa using hq
       clear hq
       go_enter Tryz.func105, Tryz.ntmps105
       go_wp2_with (first
        | (go_at_call 159; refine Sb (hck _) fun w1 hb1 => ?_; have HX := Zab (⟨HX.out.1.later hb1, HX.out.2.later hb1⟩ : RSQ w w1 (w.heap.size + 1 + 1 + 1) T R S C i b false ∧ B2 w1 (w.heap.size + 1 + 1) (.bool y) (Vi z)); obtain ⟨⟨⟨⟨q0, q1, q2, q3⟩, ⟨s0, s1, s2⟩, _⟩, ⟨sf, _⟩, ⟨p0, p1, p2⟩, pf, _⟩, m0, m1⟩ := HX.out; have g0 := sf 0 (by omega); have g1 := sf 1 (by omega); have g2 := sf 2 (by omega); have f0 := pf 0 (by omega); have f1 := pf 1 (by omega); have f2 := pf 2 (by omega); clear hb1 sf pf)
        | (go_at_call 160; refine Sb (hap _) fun w2 hb2 => ?_; have HX := Zab (⟨HX.out.1.later hb2, HX.out.2.later hb2⟩ : RSQ w w2 (w.heap.size + 1 + 1 + 1) T R S C i b false ∧ B2 w2 (w.heap.size + 1 + 1) (.bool y) (Vi z)); obtain ⟨⟨⟨⟨q0, q1, q2, q3⟩, ⟨s0, s1, s2⟩, _⟩, ⟨sf, _⟩, ⟨p0, p1, p2⟩, pf, _⟩, m0, m1⟩ := HX.out; have g0 := sf 0 (by omega); have g1 := sf 1 (by omega); have g2 := sf 2 (by omega); have f0 := pf 0 (by omega); have f1 := pf 1 (by omega); have f2 := pf 2 (by omega); clear hb2 sf pf))
       exact bodyPost_ret (v := .tuple #[.agg #[Vi 0, Vi (b + 1), .bool true], .nilIface]) (by simp [results, Tryz.results105, go_sem, p0, p1, p2]) rfl ⟨rfl, (((((HX.out.1.1.2.2.setCell (by simp) _).setCell (by simp) _).setCell (by simp) _).setCell (by simp; omega) _).setCell (by simp; omega) _).setCell (by simp; omega) _⟩
     · obtain ⟨e1, e2, e3⟩ := w_more (C := C) (b := b) hfi hq; rw [e1, e2, e3]; clear hfi e1 e2 e3
       have hq' : (b + 1 == C) = false := by simpa using hq
       clear hq
       go_enter Tryz.func105, Tryz.ntmps105
       go_wp2_with (first
        | (go_at_call 159; refine Sb (hck _) fun w1 hb1 => ?_; have HX := Zab (⟨HX.out.1.later hb1, HX.out.2.later hb1⟩ : RSQ w w1 (w.heap.size + 1 + 1 + 1) T R S C i b false ∧ B2 w1 (w.heap.size + 1 + 1) (.bool y) (Vi z)); obtain ⟨⟨⟨⟨q0, q1, q2, q3⟩, ⟨s0, s1, s2⟩, _⟩, ⟨sf, _⟩, ⟨p0, p1, p2⟩, pf, _⟩, m0, m1⟩ := HX.out; have g0 := sf 0 (by omega); have g1 := sf 1 (by omega); have g2 := sf 2 (by omega); have f0 := pf 0 (by omega); have f1 := pf 1 (by omega); have f2 := pf 2 (by omega); clear hb1 sf pf)
        | (go_at_call 160; refine Sb (hap _) fun w2 hb2 => ?_; have HX := Zab (⟨HX.out.1.later hb2, HX.out.2.later hb2⟩ : RSQ w w2 (w.heap.size + 1 + 1 + 1) T R S C i b false ∧ B2 w2 (w.heap.size + 1 + 1) (.bool y) (Vi z)); obtain ⟨⟨⟨⟨q0, q1, q2, q3⟩, ⟨s0, s1, s2⟩, _⟩, ⟨sf, _⟩, ⟨p0, p1, p2⟩, pf, _⟩, m0, m1⟩ := HX.out; have g0 := sf 0 (by omega); have g1 := sf 1 (by omega); have g2 := sf 2 (by omega); have f0 := pf 0 (by omega); have f1 := pf 1 (by omega); have f2 := pf 2 (by omega); clear hb2 sf pf))
       exact bodyPost_ret (v := .tuple #[.agg #[Vi i, Vi (b + 1), .bool false], .nilIface]) (by simp [results, Tryz.results105, go_sem, p0, p1, p2]) rfl ⟨rfl, (((HX.out.1.1.2.2.setCell (by simp) _).setCell (by simp; omega) _).setCell (by simp; omega) _).setCell (by simp; omega) _⟩
   · obtain ⟨e1, e2, e3⟩ := w_fine (C := C) (b := b) hfi; rw [e1, e2, e3]; clear hfi e1 e2 e3
     go_enter Tryz.func105, Tryz.ntmps105
     go_wp2_with (first
      | (go_at_call 159; refine Sb (hck _) fun w1 hb1 => ?_; have HX := Zab (⟨HX.out.1.later hb1, HX.out.2.later hb1⟩ : RSQ w w1 (w.heap.size + 1 + 1 + 1) T R S C i b false ∧ B2 w1 (w.heap.size + 1 + 1) (.bool y) (Vi z)); obtain ⟨⟨⟨⟨q0, q1, q2, q3⟩, ⟨s0, s1, s2⟩, _⟩, ⟨sf, _⟩, ⟨p0, p1, p2⟩, pf, _⟩, m0, m1⟩ := HX.out; have g0 := sf 0 (by omega); have g1 := sf 1 (by omega); have g2 := sf 2 (by omega); have f0 := pf 0 (by omega); have f1 := pf 1 (by omega); have f2 := pf 2 (by omega); clear hb1 sf pf)
      | (go_at_call 160; refine Sb (hap _) fun w2 hb2 => ?_; have HX := Zab (⟨HX.out.1.later hb2, HX.out.2.later hb2⟩ : RSQ w w2 (w.heap.size + 1 + 1 + 1) T R S C i b false ∧ B2 w2 (w.heap.size + 1 + 1) (.bool y) (Vi z)); obtain ⟨⟨⟨⟨q0, q1, q2, q3⟩, ⟨s0, s1, s2⟩, _⟩, ⟨sf, _⟩, ⟨p0, p1, p2⟩, pf, _⟩, m0, m1⟩ := HX.out; have g0 := sf 0 (by omega); have g1 := sf 1 (by omega); have g2 := sf 2 (by omega); have f0 := pf 0 (by omega); have f1 := pf 1 (by omega); have f2 := pf 2 (by omega); clear hb2 sf pf))
     exact bodyPost_ret (v := .tuple #[.agg #[Vi i, Vi b, .bool false], .nilIface]) (by simp [results, Tryz.results105, go_sem, p0, p1, p2]) rfl ⟨rfl, ((HX.out.1.1.2.2.setCell (by simp; omega) _).setCell (by simp; omega) _).setCell (by simp; omega) _⟩
 · obtain ⟨e1, e2, e3⟩ := w_fine (C := C) (b := b) hfi; rw [e1, e2, e3]; clear hfi e1 e2 e3
   go_enter Tryz.func105, Tryz.ntmps105
   go_wp2_with (first
    | (go_at_call 159; refine Sb (hck _) fun w1 hb1 => ?_; have HX := Zab (⟨HX.out.1.later hb1, HX.out.2.later hb1⟩ : RSQ w w1 (w.heap.size + 1 + 1 + 1) T R S C i b true ∧ B2 w1 (w.heap.size + 1 + 1) (.bool y) (Vi z)); obtain ⟨⟨⟨⟨q0, q1, q2, q3⟩, ⟨s0, s1, s2⟩, _⟩, ⟨sf, _⟩, ⟨p0, p1, p2⟩, pf, _⟩, m0, m1⟩ := HX.out; have g0 := sf 0 (by omega); have g1 := sf 1 (by omega); have g2 := sf 2 (by omega); have f0 := pf 0 (by omega); have f1 := pf 1 (by omega); have f2 := pf 2 (by omega); clear hb1 sf pf))
   exact bodyPost_ret (v := .tuple #[.agg #[Vi i, Vi b, .bool true], .nilIface]) (by simp [results, Tryz.results105, go_sem, p0, p1, p2]) rfl ⟨rfl, ((HX.out.1.1.2.2.setCell (by simp; omega) _).setCell (by simp; omega) _).setCell (by simp; omega) _⟩
theorem Zax {w : World} {a c : Addr} {v u : Value} (h : w.cell? a = some u) (hc : c ≠ a) : (w.setCell c v).cell? a = some u := (World.cell?_setCell_other _ _ _ _ hc).trans h
theorem Zdo {w : World} {a : Addr} {v u : Value} (h : w.cell? a = some u) : (w.setCell a v).cell? a = some v := by simp [go_sem, h]
theorem Zff {C B q j : Nat} (hc : C ≠ B) : (⟨C, q, none⟩ : Addr) ≠ ⟨B, j, none⟩ := fun e => hc (congrArg Addr.block e)
theorem Zed {B q j : Nat} (hc : q ≠ j) : (⟨B, q, none⟩ : Addr) ≠ ⟨B, j, none⟩ := fun e => hc (congrArg Addr.off e)
theorem B2.set {w : World} {B C q : Nat} {a b v : Value} (h : B2 w B a b) (hc : C ≠ B) : B2 (w.setCell (Ad C q) v) B a b := ⟨Zax h.1 (Zff hc), Zax h.2 (Zff hc)⟩
theorem B3.set {w : World} {B C q : Nat} {a b c v : Value} (h : B3 w B a b c) (hc : C ≠ B) : B3 (w.setCell (Ad C q) v) B a b c := ⟨Zax h.1 (Zff hc), Zax h.2.1 (Zff hc), Zax h.2.2 (Zff hc)⟩
theorem B4.set {w : World} {B C q : Nat} {a b c d v : Value} (h : B4 w B a b c d) (hc : C ≠ B) : B4 (w.setCell (Ad C q) v) B a b c d := ⟨Zax h.1 (Zff hc), Zax h.2.1 (Zff hc), Zax h.2.2.1 (Zff hc), Zax h.2.2.2 (Zff hc)⟩
theorem B2.put {w : World} {B : Nat} {a b : Value} (h : B2 w B a b) (p q : Value) : B2 ((w.setCell (Ad B 0) p).setCell (Ad B 1) q) B p q :=
 ⟨Zax (Zdo h.1) (Zed (by decide)), Zdo (Zax h.2 (Zed (by decide)))⟩
theorem B3.put {w : World} {B : Nat} {a b c : Value} (h : B3 w B a b c) (p q r : Value) : B3 (((w.setCell (Ad B 0) p).setCell (Ad B 1) q).setCell (Ad B 2) r) B p q r :=
 ⟨Zax (Zax (Zdo h.1) (Zed (by decide))) (Zed (by decide)), Zax (Zdo (Zax h.2.1 (Zed (by decide)))) (Zed (by decide)), Zdo (Zax (Zax h.2.2 (Zed (by decide))) (Zed (by decide)))⟩
theorem B3.put0 {w : World} {B : Nat} {a b c : Value} (h : B3 w B a b c) (p : Value) : B3 (w.setCell (Ad B 0) p) B p b c :=
 ⟨Zdo h.1, Zax h.2.1 (Zed (by decide)), Zax h.2.2 (Zed (by decide))⟩
theorem RS.set {w0 w : World} {T R S C i b : Int} {o : Bool} {A q : Nat} {v : Value} (h : RS w0 w T R S C i b o) (hA : w0.heap.size + 1 < A) : RS w0 (w.setCell (Ad A q) v) T R S C i b o :=
 ⟨h.1.set (by omega), h.2.1.set (by omega), h.2.2.setCell (by simp; omega) _⟩
def AS (w0 w : World) (P : Nat) (T R S C i b : Int) (o y : Bool) (z : Int) (lo hi mi mb xi xb : Int) (mo xo : Bool) : Prop :=
 RS w0 w T R S C i b o ∧ B2 w (w0.heap.size + 1 + 1) (.bool y) (Vi z) ∧ (B2 w P (Vi lo) (Vi hi) ∧ FrA w P 2) ∧ (B3 w (P + 1) (Vi mi) (Vi mb) (.bool mo) ∧ FrA w (P + 1) 3) ∧ (B3 w (P + 1 + 1) (Vi xi) (Vi xb) (.bool xo) ∧ FrA w (P + 1 + 1) 3) ∧ w0.heap.size + 1 + 1 < P
theorem AS.later {w0 w w' : World} {P : Nat} {T R S C i b : Int} {o y : Bool} {z : Int} {lo hi mi mb xi xb : Int} {mo xo : Bool} (h : AS w0 w P T R S C i b o y z lo hi mi mb xi xb mo xo) (hb : Below w.heap.size w w') : AS w0 w' P T R S C i b o y z lo hi mi mb xi xb mo xo :=
 ⟨h.1.later hb, h.2.1.later hb, ⟨h.2.2.1.1.later hb, h.2.2.1.2.later hb⟩, ⟨h.2.2.2.1.1.later hb, h.2.2.2.1.2.later hb⟩, ⟨h.2.2.2.2.1.1.later hb, h.2.2.2.2.1.2.later hb⟩, h.2.2.2.2.2⟩
def stW (w : World) (P : Nat) (lo hi i b xi xb : Int) (o xo : Bool) : World :=
 (((((((w.setCell (Ad P 0) (Vi lo)).setCell (Ad P 1) (Vi hi)).setCell (Ad (P + 1) 0) (Vi i)).setCell (Ad (P + 1) 1) (Vi b)).setCell (Ad (P + 1) 2) (.bool o)).setCell (Ad (P + 1 + 1) 0) (Vi xi)).setCell (Ad (P + 1 + 1) 1) (Vi xb)).setCell (Ad (P + 1 + 1) 2) (.bool xo)
theorem AS.store {w0 w : World} {P : Nat} {T R S C i b : Int} {o y : Bool} {z : Int} {lo hi mi mb xi xb : Int} {mo xo : Bool} (h : AS w0 w P T R S C i b o y z lo hi mi mb xi xb mo xo) (lo' hi' xi' xb' : Int) (xo' : Bool) : AS w0 (stW w P lo' hi' i b xi' xb' o xo') P T R S C i b o y z lo' hi' i b xi' xb' o xo' := by
 obtain ⟨h1, h2, ⟨h3, h4⟩, ⟨h5, h6⟩, ⟨h7, h8⟩, h9⟩ := h
 unfold stW
 refine ⟨?_, ?_, ⟨?_, ?_⟩, ⟨?_, ?_⟩, ⟨?_, ?_⟩, h9⟩
 · exact (((((((h1.set (by omega)).set (by omega)).set (by omega)).set (by omega)).set (by omega)).set (by omega)).set (by omega)).set (by omega)
 · exact (((((((h2.set (by omega)).set (by omega)).set (by omega)).set (by omega)).set (by omega)).set (by omega)).set (by omega)).set (by omega)
 · exact ((((((h3.put _ _).set (by omega)).set (by omega)).set (by omega)).set (by omega)).set (by omega)).set (by omega)
 · exact h4.set.set.set.set.set.set.set.set
 · exact (((((h5.set (by omega)).set (by omega)).put _ _ _).set (by omega)).set (by omega)).set (by omega)
 · exact h6.set.set.set.set.set.set.set.set
 · exact (((((h7.set (by omega)).set (by omega)).set (by omega)).set (by omega)).set (by omega)).put _ _ _
 · exact h8.set.set.set.set.set.set.set.set
theorem AS.move {w0 w : World} {P : Nat} {T R S C i b : Int} {o y : Bool} {z : Int} {lo hi mi mb xi xb : Int} {mo xo : Bool} (h : AS w0 w P T R S C i b o y z lo hi mi mb xi xb mo xo) (v : Int) : AS w0 (w.setCell (Ad (P + 1) 0) (Vi v)) P T R S C i b o y z lo hi v mb xi xb mo xo := by
 obtain ⟨h1, h2, ⟨h3, h4⟩, ⟨h5, h6⟩, ⟨h7, h8⟩, h9⟩ := h; exact ⟨h1.set (by omega), h2.set (by omega), ⟨h3.set (by omega), h4.set⟩, ⟨h5.put0 _, h6.set⟩, ⟨h7.set (by omega), h8.set⟩, h9⟩
theorem AS.new {w0 w1 : World} {T R S C i b : Int} {o y : Bool} {z : Int} (h : RS w0 w1 T R S C i b o) (h' : B2 w1 (w0.heap.size + 1 + 1) (.bool y) (Vi z)) : AS w0 (((w1.alloc (.cells #[Vi 0, Vi 0] 105)).alloc (.cells #[Vi 0, Vi 0, .bool false] 116)).alloc (.cells #[Vi 0, Vi 0, .bool false] 116)) w1.heap.size T R S C i b o y z 0 0 0 0 0 0 false false := by
 have hl := World.block_lt_of_cell? w1 ⟨w0.heap.size + 1 + 1, 0, none⟩ h'.1; have e1 := size_alloc w1 (.cells #[Vi 0, Vi 0] 105); have e2 := size_alloc (w1.alloc (.cells #[Vi 0, Vi 0] 105)) (.cells #[Vi 0, Vi 0, .bool false] 116); refine ⟨((h.later (Zaa _ _)).later (Zaa _ _)).later (Zaa _ _), ((h'.later (Zaa _ _)).later (Zaa _ _)).later (Zaa _ _), ⟨((B2.new _ _ _ _).later (Zaa _ _)).later (Zaa _ _), (FrA.new.later (Zaa _ _)).later (Zaa _ _)⟩, ⟨?_, ?_⟩, ⟨?_, ?_⟩, hl⟩
 · rw [← e1]; exact (B3.new _ _ _ _ _).later (Zaa _ _)
 · rw [← e1]; exact FrA.new.later (Zaa _ _)
 · rw [← e1, ← e2]; exact B3.new _ _ _ _ _
 · rw [← e1, ← e2]; exact FrA.new
theorem lo_le_hi {T R S C i b : Int} {o : Bool} (h : svE T R S C i b o = 0) : loR T R i o ≤ hiR T R i o := by
 obtain ⟨hr, hs⟩ := Zgc h; have a := Zau hr; have c := Zbi hs
 unfold loR hiR mxA mnA
 cases o
 · simp only [Bool.false_eq_true, if_false]; omega
 · simp
abbrev Sv := Int × Int × Bool
def svD : Sv := (0, 0, false)
def svAt (l : List Sv) (k : Nat) : Sv := l.getD k svD
def tk (T R : Int) (s : Sv) (v : Int) : Int := Zar v (loR T R s.1 s.2.2) (hiR T R s.1 s.2.2)
def totU (T R : Int) (l : List Sv) (v : Int) : Nat → Int
 | 0 => 0
 | k + 1 => totU T R l v k + tk T R (svAt l k) v
def tot (T R : Int) (l : List Sv) (v : Int) : Int := totU T R l v l.length
def AllOk (T R S C : Int) (l : List Sv) : Prop := arB T R S C = true ∧ ∀ k, k < l.length → svB T C (svAt l k).1 (svAt l k).2.1 (svAt l k).2.2 = true
theorem AllOk.le {T R S C : Int} {l : List Sv} (h : AllOk T R S C l) {k : Nat} (hk : k < l.length) : loR T R (svAt l k).1 (svAt l k).2.2 ≤ hiR T R (svAt l k).1 (svAt l k).2.2 := lo_le_hi (svE_mk h.1 (h.2 k hk))
theorem reach_bd {T R S C i b : Int} {o : Bool} (hr : arB T R S C = true) (hs : svB T C i b o = true) : -1000 ≤ loR T R i o ∧ loR T R i o ≤ 1000 ∧ -1000 ≤ hiR T R i o ∧ hiR T R i o ≤ 1000 := by
 have a := Zau hr; have c := Zbi hs
 unfold loR hiR mxA mnA
 cases o
 · simp only [Bool.false_eq_true, if_false]; omega
 · simp
theorem Zbr {v lo hi : Int} (h : lo ≤ hi) : lo ≤ Zar v lo hi ∧ Zar v lo hi ≤ hi := by
 unfold Zar; split
 · omega
 · split
   · omega
   · split <;> omega
theorem clip_mono {v u lo hi : Int} (h : v ≤ u) : Zar v lo hi ≤ Zar u lo hi := by
 unfold Zar; split <;> (try split) <;> (try split) <;> (try split) <;> (try split) <;> (try split) <;> omega
theorem tk_bd {T R S C : Int} {l : List Sv} (h : AllOk T R S C l) {k : Nat} (hk : k < l.length) (v : Int) : -1000 ≤ tk T R (svAt l k) v ∧ tk T R (svAt l k) v ≤ 1000 := by
 have a := Zbr (v := v) (h.le hk); have c := reach_bd h.1 (h.2 k hk)
 unfold tk; omega
theorem tk_mono (T R : Int) (s : Sv) {v u : Int} (h : v ≤ u) : tk T R s v ≤ tk T R s u := clip_mono h
theorem totU_bd {T R S C : Int} {l : List Sv} (h : AllOk T R S C l) (v : Int) : ∀ k : Nat, k ≤ l.length → -1000 * (k : Int) ≤ totU T R l v k ∧ totU T R l v k ≤ 1000 * (k : Int)
 | 0, _ => by simp [totU]
 | k + 1, hk => by
  have a := totU_bd h v k (by omega); have c := tk_bd h (show k < l.length by omega) v; simp only [totU]; omega
theorem totU_mono (T R : Int) (l : List Sv) {v u : Int} (h : v ≤ u) : ∀ k : Nat, totU T R l v k ≤ totU T R l u k
 | 0 => by simp [totU]
 | k + 1 => by have a := totU_mono T R l h k; have c := tk_mono T R (svAt l k) h; simp only [totU]; omega
theorem Zel (T R : Int) (l : List Sv) {v u : Int} (h : v ≤ u) : tot T R l v ≤ tot T R l u := totU_mono T R l h _
theorem tot_bd {T R S C : Int} {l : List Sv} (h : AllOk T R S C l) (hl : l.length ≤ 9) (v : Int) : -9000 ≤ tot T R l v ∧ tot T R l v ≤ 9000 := by
 have a := totU_bd h v l.length (Nat.le_refl _)
 unfold tot; omega
def IsLev (T R : Int) (l : List Sv) (s v : Int) : Prop := -T ≤ v ∧ v ≤ T ∧ tot T R l v ≤ s ∧ (v < T → s < tot T R l (v + 1))
theorem IsLev.unique {T R : Int} {l : List Sv} {s v u : Int} (h : IsLev T R l s v) (g : IsLev T R l s u) : v = u := by
 obtain ⟨h1, h2, h3, h4⟩ := h; obtain ⟨g1, g2, g3, g4⟩ := g
 rcases Int.lt_trichotomy v u with h | h | h
 · have := h4 (by omega); have := Zel T R l (show v + 1 ≤ u by omega); omega
 · exact h
 · have := g4 (by omega); have := Zel T R l (show u + 1 ≤ v by omega); omega
def lfU (T R : Int) (l : List Sv) (v s : Int) : Nat → Int
 | 0 => s
 | k + 1 => if 0 < lfU T R l v s k ∧ tk T R (svAt l k) v < tk T R (svAt l k) (v + 1) then lfU T R l v s k - 1 else lfU T R l v s k
def dlI (T R : Int) (l : List Sv) (v s : Int) (k : Nat) : Int := if 0 < lfU T R l v s k ∧ tk T R (svAt l k) v < tk T R (svAt l k) (v + 1) then tk T R (svAt l k) v + 1 else tk T R (svAt l k) v
def dlU (T R : Int) (l : List Sv) (v s : Int) : Nat → List Int
 | 0 => []
 | k + 1 => dlU T R l v s k ++ [dlI T R l v s k]
theorem Zcg (T R : Int) (l : List Sv) (v s : Int) : ∀ k : Nat, (dlU T R l v s k).length = k
 | 0 => rfl
 | k + 1 => by simp [dlU, Zcg T R l v s k]
theorem lfU_bd (T R : Int) (l : List Sv) (v s : Int) : ∀ k : Nat, s - k ≤ lfU T R l v s k ∧ lfU T R l v s k ≤ s
 | 0 => by simp [lfU]
 | k + 1 => by have := lfU_bd T R l v s k; simp only [lfU]; split <;> omega
theorem hide {p : Prop} (h : p) : Hid p := h
theorem Zaf (w : World) (o : Obj) : Below w.heap.size w (w.alloc o) := (Below.refl _ _).alloc (Nat.le_refl _) o
theorem Zcd {w w1 w2 : World} (h : Below w.heap.size w w1) (k : Below w1.heap.size w1 w2) : Below w.heap.size w w2 := h.trans (k.mono h.size)
def ruleB (m c : Int) : Bool := (decide (0 ≤ m) && decide (m ≤ 1000000)) && (decide (1 ≤ c) && decide (c ≤ 10))
theorem Zge {m c : Int} (h : ruleB m c = true) : (0 ≤ m ∧ m ≤ 1000000) ∧ 1 ≤ c ∧ c ≤ 10 := by simp [ruleB] at h; omega
theorem ruleB_false {m c : Int} (h : ruleB m c = false) : m < 0 ∨ 1000000 < m ∨ c < 1 ∨ 10 < c := by simp [ruleB] at h; omega
def Zcj (m c : Int) : Int := if ruleB m c then 0 else 1
theorem Zfb (m c : Int) (w : World) :
 Calls Tryz.prog 117 #[.agg #[Vi m, Vi c]] w fun e w' => e = .returned (errV (Zcj m c)) ∧ Below w.heap.size w w' := by
 unfold Zcj
 by_cases h : ruleB m c = true
 · rw [if_pos h, Zaq]; obtain ⟨⟨h1, h2⟩, h3, h4⟩ := Zge h; clear h
   go_enter Tryz.func117, Tryz.ntmps117
   go_wp2; go_ret; exact ⟨rfl, Zaf _ _⟩
 · rw [if_neg h, Zbe (by decide)]; have h' := ruleB_false (by simpa using h); clear h
   by_cases g1 : m < 0
   · clear h'
     go_enter Tryz.func117, Tryz.ntmps117
     go_wp2; go_ret; exact ⟨rfl, Zaf _ _⟩
   · by_cases g2 : 1000000 < m
     · clear h'
       go_enter Tryz.func117, Tryz.ntmps117
       go_wp2; go_ret; exact ⟨rfl, Zaf _ _⟩
     · by_cases g3 : c < 1
       · clear h'
         go_enter Tryz.func117, Tryz.ntmps117
         go_wp2; go_ret; exact ⟨rfl, Zaf _ _⟩
       · have g4 : 10 < c := by omega
         clear h'
         go_enter Tryz.func117, Tryz.ntmps117
         go_wp2; go_ret; exact ⟨rfl, Zaf _ _⟩
theorem ruleMay_any (m c : Int) (w : World) :
 Calls Tryz.prog 87 #[.agg #[Vi m, Vi c]] w fun e w' => e = .returned (Vi (Zcj m c)) ∧ Below w.heap.size w w' := by
 have f1 := Zds m 0 1000000; have f2 := Zds c 1 10
 unfold Zcj ruleB
 generalize (decide (0 ≤ m) && decide (m ≤ 1000000)) = x1 at *; generalize (decide (1 ≤ c) && decide (c ≤ 10)) = x2 at *
 rcases (show x1 = false ∨ (x1 = true ∧ x2 = false) ∨ (x1 = true ∧ x2 = true) by cases x1 <;> cases x2 <;> simp) with rfl | ⟨rfl, rfl⟩ | ⟨rfl, rfl⟩
 all_goals
  go_enter Tryz.func87, Tryz.ntmps87
  go_wp2_with (first | ((first | go_at_call_of 38 (Vi m) | go_at_call_of 38 (Value.int .i64 m)); refine (f1 _).mono ?_; rintro e w' ⟨rfl, rfl⟩) | ((first | go_at_call_of 38 (Vi c) | go_at_call_of 38 (Value.int .i64 c)); refine (f2 _).mono ?_; rintro e w' ⟨rfl, rfl⟩) | (go_at_call 14; refine (Zek _ _ _).mono ?_; rintro e w' ⟨rfl, rfl⟩)); go_ret; exact ⟨rfl, Zaf _ _⟩
theorem beyond_any (x : Int) (w : World) :
 Calls Tryz.prog 187 #[Vi x] w fun e w' => e = .returned (.bool (!Zbb x)) ∧ w' = w := by
 by_cases g1 : 1000000 < x
 · have e : Zbb x = false := by simp [Zbb]; omega
   rw [e]
   go_enter Tryz.func187, Tryz.ntmps187
   go_wp2; go_ret; exact ⟨rfl, rfl⟩
 · by_cases g2 : x < -1000000
   · have e : Zbb x = false := by simp [Zbb]; omega
     rw [e]
     go_enter Tryz.func187, Tryz.ntmps187
     go_wp2; go_ret; exact ⟨by simp, rfl⟩
   · have e : Zbb x = true := by simp [Zbb]; omega
     rw [e]
     go_enter Tryz.func187, Tryz.ntmps187
     go_wp2; go_ret; exact ⟨by simp, rfl⟩
def Zid (t : Bool) (s v m : Int) : Bool := t && (decide (v - m ≤ s) && decide (s ≤ v + m))
theorem isFine_any (t : Bool) (s v m : Int) (hv0 : -2000000 ≤ v) (hv1 : v ≤ 2000000) (hm0 : 0 ≤ m) (hm1 : m ≤ 1000000) (w : World) :
 Calls Tryz.prog 214 #[.agg #[.bool t, Vi s], Vi v, Vi m] w fun e w' => e = .returned (.bool (Zid t s v m)) ∧ Below w.heap.size w w' := by
 unfold Zid
 cases t
 · go_enter Tryz.func214, Tryz.ntmps214
   go_wp2; go_ret; exact ⟨rfl, Zaf _ _⟩
 · by_cases g1 : v - m ≤ s
   · by_cases g2 : s ≤ v + m
     · rw [decide_eq_true g1, decide_eq_true g2]
       go_enter Tryz.func214, Tryz.ntmps214
       go_wp2; go_ret; exact ⟨by simp, Zaf _ _⟩
     · rw [decide_eq_true g1, decide_eq_false g2]
       go_enter Tryz.func214, Tryz.ntmps214
       go_wp2; go_ret; exact ⟨by simp, Zaf _ _⟩
   · rw [decide_eq_false g1]
     go_enter Tryz.func214, Tryz.ntmps214
     go_wp2; go_ret; exact ⟨by simp, Zaf _ _⟩
def badI (b : Int) (f : Bool) : Int := if f then 0 else if b + 1 ≤ 10 then b + 1 else 10
def outB (b : Int) (f : Bool) (c : Int) : Bool := !f && decide (c ≤ badI b f)
theorem judge_any (b c : Int) (f : Bool) (h0 : 0 ≤ b) (h1 : b ≤ 10) (w : World) :
 Calls Tryz.prog 213 #[Vi b, .bool f, Vi c] w fun e w' => e = .returned (.tuple #[Vi (badI b f), .bool (outB b f c)]) ∧ w' = w := by
 unfold outB badI
 cases f
 · by_cases g1 : b + 1 ≤ 10
   · rw [if_neg (by simp), if_pos g1]
     go_enter Tryz.func213, Tryz.ntmps213
     go_wp2; go_ret2; exact ⟨by first | (simp; done) | (simp; omega), rfl⟩
   · rw [if_neg (by simp), if_neg g1]
     go_enter Tryz.func213, Tryz.ntmps213
     go_wp2; go_ret2; exact ⟨by first | (simp; done) | (simp; omega), rfl⟩
 · go_enter Tryz.func213, Tryz.ntmps213
   go_wp2; go_ret2; exact ⟨rfl, rfl⟩
def gb (x : Int) : Bool := decide (0 ≤ x) && decide (x ≤ 10)
theorem gb_true {x : Int} (h : gb x = true) : 0 ≤ x ∧ x ≤ 10 := by simp [gb] at h; omega
def okU (b : Nat → Int) : Nat → Bool
 | 0 => true
 | k + 1 => okU b k && gb (b k)
theorem okU_false {b : Nat → Int} {k : Nat} (hk : k < 3) (h : gb (b k) = false) : okU b 3 = false := by
 rcases (show k = 0 ∨ k = 1 ∨ k = 2 by omega) with rfl | rfl | rfl <;> simp [okU, h]
theorem okU_true {b : Nat → Int} (h : okU b 3 = true) : ∀ k, k < 3 → 0 ≤ b k ∧ b k ≤ 10 := by
 intro k hk; simp only [okU, Bool.true_and, Bool.and_eq_true] at h
 rcases (show k = 0 ∨ k = 1 ∨ k = 2 by omega) with rfl | rfl | rfl
 · exact gb_true h.1.1
 · exact gb_true h.1.2
 · exact gb_true h.2
def Zdf (b : Nat → Int) (l : Int) : Int := if okU b 3 && Zbb l then 0 else 3
theorem idxI (b : Nat → Int) (k : Nat) (h : k < 3) (w : World) : (Instr.index 30 (.agg #[Vi (b 0), Vi (b 1), Vi (b 2)]) (Vi k)).run Tryz.prog w = .ok (Vi (b k)) w := by
 rcases (show k = 0 ∨ k = 1 ∨ k = 2 by omega) with rfl | rfl | rfl <;> kernel_rfl
theorem idxB (o : Nat → Bool) (k : Nat) (h : k < 3) (w : World) : (Instr.index 31 (.agg #[.bool (o 0), .bool (o 1), .bool (o 2)]) (Vi k)).run Tryz.prog w = .ok (.bool (o k)) w := by
 rcases (show k = 0 ∨ k = 1 ∨ k = 2 by omega) with rfl | rfl | rfl <;> kernel_rfl
theorem idxS (t : Nat → Bool) (s : Nat → Int) (k : Nat) (h : k < 3) (w : World) : (Instr.index 185 (.agg #[.bool (t 0), Vi (s 0), .bool (t 1), Vi (s 1), .bool (t 2), Vi (s 2)]) (Vi k)).run Tryz.prog w = .ok (.agg #[.bool (t k), Vi (s k)]) w := by
 rcases (show k = 0 ∨ k = 1 ∨ k = 2 by omega) with rfl | rfl | rfl <;> kernel_rfl
theorem Zig (b : Nat → Int) (o : Nat → Bool) (l : Int) (w : World) :
 Calls Tryz.prog 121 #[.agg #[Vi (b 0), Vi (b 1), Vi (b 2), .bool (o 0), .bool (o 1), .bool (o 2), Vi l]] w fun e w' => e = .returned (errV (Zdf b l)) ∧ Below w.heap.size w w' := by
 have HW : Hid (Zdf b l = if okU b 3 && Zbb l then 0 else 3) := rfl
 go_enter Tryz.func121, Tryz.ntmps121
 go_wp2
 go_loop [7] (fun i => ∃ k : Nat, k ≤ 3 ∧ i = Vi k ∧ Hid (okU b k = true)) (fun i => 3 - (intOf i).toNat)
 case atStart => exact ⟨0, by omega, rfl, rfl⟩
 case round =>
  obtain ⟨k, hk, rfl, hok⟩ := hrel
  by_cases hlt : k < 3
  · have hix := idxI b k hlt
    by_cases hg : gb (b k) = true
    · have HS : Hid (okU b (k + 1) = true) := by show (okU b k && gb (b k)) = true; rw [hok.out, hg]; rfl
      obtain ⟨g0, g1⟩ := gb_true hg; clear hg; generalize b k = z at *; go_wp2
      go_round
      case rel => exact ⟨k + 1, by omega, by go_num, HS⟩
      case measure => simp [intOf]; omega
    · have HS : Hid (okU b 3 = false) := okU_false hlt (by simpa using hg)
      have hg' : b k < 0 ∨ 10 < b k := by simp [gb] at hg; omega
      clear hg; generalize b k = z at *
      rcases hg' with g | g
      · go_wp2; go_ret; exact ⟨by rw [HW.out, HS.out]; rfl, Zaf _ _⟩
      · go_wp2; go_ret; exact ⟨by rw [HW.out, HS.out]; rfl, Zaf _ _⟩
  · have e : k = 3 := by omega
    subst e; have hby := beyond_any l
    have HL : Hid (Zdf b l = if Zbb l then 0 else 3) := by show Zdf b l = _; rw [HW.out, hok.out, Bool.true_and]
    generalize Zbb l = x at *
    cases x
    · go_wp2_with (go_at_call 187; refine Sm (hby _) ?_); go_ret; exact ⟨by rw [HL.out]; rfl, Zaf _ _⟩
    · go_wp2_with (go_at_call 187; refine Sm (hby _) ?_); go_ret; exact ⟨by rw [HL.out]; rfl, Zaf _ _⟩
def Zbz (o : Nat → Bool) : Nat → Int
 | 0 => 0
 | k + 1 => Zbz o k + if o k then 0 else 1
theorem leftU_bd (o : Nat → Bool) : ∀ k : Nat, 0 ≤ Zbz o k ∧ Zbz o k ≤ k
 | 0 => by simp [Zbz]
 | k + 1 => by have := leftU_bd o k; simp only [Zbz]; split <;> omega
theorem left_any (b : Nat → Int) (o : Nat → Bool) (l : Int) (w : World) :
 Calls Tryz.prog 131 #[.agg #[Vi (b 0), Vi (b 1), Vi (b 2), .bool (o 0), .bool (o 1), .bool (o 2), Vi l]] w fun e w' => e = .returned (Vi (Zbz o 3)) ∧ Below w.heap.size w w' := by
 go_enter Tryz.func131, Tryz.ntmps131
 go_wp2
 go_loop [3, 8] (fun n i => ∃ k : Nat, k ≤ 3 ∧ i = Vi k ∧ n = Vi (Zbz o k)) (fun n i => 3 - (intOf i).toNat)
 case atStart => exact ⟨0, by omega, rfl, rfl⟩
 case round =>
  obtain ⟨k, hk, rfl, rfl⟩ := hrel
  by_cases hlt : k < 3
  · have hix := idxB o k hlt; have hbd := leftU_bd o k; have HS : Hid (Zbz o (k + 1) = Zbz o k + if o k then 0 else 1) := rfl; generalize Zbz o k = n at *; generalize o k = x at *
    cases x
    · go_wp2
      go_round
      case rel => exact ⟨k + 1, by omega, by go_num, by rw [HS.out]; rfl⟩
      case measure => simp [intOf]; omega
    · go_wp2
      go_round
      case rel => exact ⟨k + 1, by omega, by go_num, by rw [HS.out]; simp⟩
      case measure => simp [intOf]; omega
  · have e : k = 3 := by omega
    subst e; go_wp2; go_ret; exact ⟨rfl, Zaf _ _⟩
end Go.Proofs.YtnfdfiholcelaaaGreatDoor
