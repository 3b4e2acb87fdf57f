/-
  The law FixSpans walked: the sums and products of what two spans have are what the document says.
-/
import Derived.Test.YtmdpoeelddchcaaSpansE
import Derived.Deep.DeepCutAuto
namespace Go.Proofs.Ytmdpoeelddchcaa
open Go.RowKit Plain

theorem low4_eq (p q r s : Int) : lowL p [p, q, r, s] 4 = (if s < (if r < (if q < p then q else p) then r else (if q < p then q else p)) then s else (if r < (if q < p then q else p) then r else (if q < p then q else p))) := by
  have e : lowL p [p, q, r, s] 4 = mnI (mnI (mnI (mnI p p) q) r) s := rfl
  rw [e, mnI_ge (Int.lt_irrefl p)]; rfl
theorem high4_eq (p q r s : Int) : highL p [p, q, r, s] 4 = (if s > (if r > (if q > p then q else p) then r else (if q > p then q else p)) then s else (if r > (if q > p then q else p) then r else (if q > p then q else p))) := by
  have e : highL p [p, q, r, s] 4 = mxI (mxI (mxI (mxI p p) q) r) s := rfl
  rw [e, mxI_ge (Int.lt_irrefl p)]; rfl
theorem run_min4 (ts : Array TypeId) (t : TypeId) (p q r s : Int) (w : World) : (Builtin.min_ ts t #[.int .i64 p, .int .i64 q, .int .i64 r, .int .i64 s]).run Try.prog w = .ok (.int .i64 (lowL p [p, q, r, s] 4)) w := by
  rw [low4_eq]; simp [Builtin.min_, Builtin.min2]
theorem run_max4 (ts : Array TypeId) (t : TypeId) (p q r s : Int) (w : World) : (Builtin.max_ ts t #[.int .i64 p, .int .i64 q, .int .i64 r, .int .i64 s]).run Try.prog w = .ok (.int .i64 (highL p [p, q, r, s] 4)) w := by
  rw [high4_eq]; simp [Builtin.max_, Builtin.max2]

theorem mnI_le_l (x y : Int) : mnI x y ≤ x := by unfold mnI; split <;> omega
theorem mnI_le_r (x y : Int) : mnI x y ≤ y := by unfold mnI; split <;> omega
theorem mnI_glb {x y z : Int} (h1 : z ≤ x) (h2 : z ≤ y) : z ≤ mnI x y := by unfold mnI; split <;> omega
theorem mxI_ge_l (x y : Int) : x ≤ mxI x y := by unfold mxI; split <;> omega
theorem mxI_ge_r (x y : Int) : y ≤ mxI x y := by unfold mxI; split <;> omega
theorem mxI_lub {x y z : Int} (h1 : x ≤ z) (h2 : y ≤ z) : mxI x y ≤ z := by unfold mxI; split <;> omega

theorem sum_low {a b c d : Int} (h1 : mayB a b = true) (h2 : mayB c d = true) : lowL (addG a c) [addG a c, addG a d, addG b c, addG b d] 4 = ofI (a + c) := by
  obtain ⟨x1, x2, x3⟩ := may_true h1
  obtain ⟨y1, y2, y3⟩ := may_true h2
  have ea : ofI a = a := ofI_id (by omega) (by omega)
  have eb : ofI b = b := ofI_id (by omega) (by omega)
  have ec : ofI c = c := ofI_id (by omega) (by omega)
  have ed : ofI d = d := ofI_id (by omega) (by omega)
  unfold addG
  rw [ea, eb, ec, ed]
  have e : lowL (ofI (a + c)) [ofI (a + c), ofI (a + d), ofI (b + c), ofI (b + d)] 4 = mnI (mnI (mnI (mnI (ofI (a + c)) (ofI (a + c))) (ofI (a + d))) (ofI (b + c))) (ofI (b + d)) := rfl
  rw [e, mnI_ge (Int.lt_irrefl _)]
  have m1 : ofI (a + c) ≤ ofI (a + d) := ofI_mono (by omega)
  have m2 : ofI (a + c) ≤ ofI (b + c) := ofI_mono (by omega)
  have m3 : ofI (a + c) ≤ ofI (b + d) := ofI_mono (by omega)
  rw [mnI_ge (show ¬ ofI (a + d) < ofI (a + c) by omega), mnI_ge (show ¬ ofI (b + c) < ofI (a + c) by omega), mnI_ge (show ¬ ofI (b + d) < ofI (a + c) by omega)]
theorem sum_high {a b c d : Int} (h1 : mayB a b = true) (h2 : mayB c d = true) : highL (addG a c) [addG a c, addG a d, addG b c, addG b d] 4 = ofI (b + d) := by
  obtain ⟨x1, x2, x3⟩ := may_true h1
  obtain ⟨y1, y2, y3⟩ := may_true h2
  have ea : ofI a = a := ofI_id (by omega) (by omega)
  have eb : ofI b = b := ofI_id (by omega) (by omega)
  have ec : ofI c = c := ofI_id (by omega) (by omega)
  have ed : ofI d = d := ofI_id (by omega) (by omega)
  unfold addG
  rw [ea, eb, ec, ed]
  have e : highL (ofI (a + c)) [ofI (a + c), ofI (a + d), ofI (b + c), ofI (b + d)] 4 = mxI (mxI (mxI (mxI (ofI (a + c)) (ofI (a + c))) (ofI (a + d))) (ofI (b + c))) (ofI (b + d)) := rfl
  rw [e]
  have m1 : ofI (a + c) ≤ ofI (b + d) := ofI_mono (by omega)
  have m2 : ofI (a + d) ≤ ofI (b + d) := ofI_mono (by omega)
  have m3 : ofI (b + c) ≤ ofI (b + d) := ofI_mono (by omega)
  have g := mxI_lub (mxI_lub (mxI_lub m1 m1) m2) m3
  generalize mxI (mxI (mxI (ofI (a + c)) (ofI (a + c))) (ofI (a + d))) (ofI (b + c)) = t at g ⊢
  unfold mxI; split <;> omega

theorem spanMay_yes_ex (lo hi : Int) (h : mayB lo hi = true) (w : World) :
    Calls Try.prog 22 #[.agg #[.int .i64 lo, .int .i64 hi]] w fun e w' => e = .returned (.int .i64 0) ∧ w' = w.alloc (.cells #[.int .i64 lo, .int .i64 hi] 37) := by
  obtain ⟨h1, h2, h3⟩ := may_true h
  clear h
  have g1 : ¬ hi < lo := by omega
  have g2 : ¬ lo < -2147483647 := by omega
  have g3 : ¬ 2147483647 < hi := by omega
  go_enter Try.func22, Try.ntmps22
  go_wp2_with (go_at_call 9; refine (when_false _ _).mono ?_; rintro e w' ⟨rfl, rfl⟩)
  go_ret
  exact ⟨rfl, rfl⟩
theorem spanMay_no_ex (lo hi : Int) (h : mayB lo hi = false) (w : World) :
    Calls Try.prog 22 #[.agg #[.int .i64 lo, .int .i64 hi]] w fun e w' => e = .returned (.int .i64 3) ∧ w' = w.alloc (.cells #[.int .i64 lo, .int .i64 hi] 37) := by
  have hh := may_false h
  clear h
  by_cases g1 : hi < lo
  · clear hh
    go_enter Try.func22, Try.ntmps22
    go_wp2_with (go_at_call 9; refine (when_true _ _).mono ?_; rintro e w' ⟨rfl, rfl⟩)
    go_ret
    exact ⟨rfl, rfl⟩
  · by_cases g2 : lo < -2147483647
    · clear hh
      go_enter Try.func22, Try.ntmps22
      go_wp2_with (go_at_call 9; refine (when_true _ _).mono ?_; rintro e w' ⟨rfl, rfl⟩)
      go_ret
      exact ⟨rfl, rfl⟩
    · have g3 : 2147483647 < hi := by omega
      clear hh
      go_enter Try.func22, Try.ntmps22
      go_wp2_with (go_at_call 9; refine (when_true _ _).mono ?_; rintro e w' ⟨rfl, rfl⟩)
      go_ret
      exact ⟨rfl, rfl⟩

theorem spanAdd_ok (a b c d : Int) (h1 : mayB a b = true) (h2 : mayB c d = true) (w : World) :
    Calls Try.prog 23 #[.agg #[.int .i64 a, .int .i64 b], .agg #[.int .i64 c, .int .i64 d]] w
      fun e w' => e = .returned (.tuple #[.agg #[.int .i64 (ofI (a + c)), .int .i64 (ofI (b + d))], .nilIface]) ∧ Below w.heap.size w w' := by
  have := spanAdd_yes a b c d h1 h2 w
  rwa [sum_low h1 h2, sum_high h1 h2] at this

/-- Two numbers at each of five blocks, and nothing below B turned. -/
theorem keep9 {B n1 n2 n3 n4 : Nat} {W u u' : World} {a b s1 s2 p1 p2 o1 o2 t1 t2 : Int} (hb : Below u.heap.size u u')
    (h : (u.cell? ⟨B, 0, none⟩ = some (.int .i64 a) ∧ u.cell? ⟨B, 1, none⟩ = some (.int .i64 b) ∧ u.cell? ⟨n1, 0, none⟩ = some (.int .i64 s1) ∧ u.cell? ⟨n1, 1, none⟩ = some (.int .i64 s2) ∧ u.cell? ⟨n2, 0, none⟩ = some (.int .i64 p1) ∧ u.cell? ⟨n2, 1, none⟩ = some (.int .i64 p2) ∧
      u.cell? ⟨n3, 0, none⟩ = some (.int .i64 o1) ∧ u.cell? ⟨n3, 1, none⟩ = some (.int .i64 o2) ∧ u.cell? ⟨n4, 0, none⟩ = some (.int .i64 t1) ∧ u.cell? ⟨n4, 1, none⟩ = some (.int .i64 t2)) ∧ Below B W u) :
    (u'.cell? ⟨B, 0, none⟩ = some (.int .i64 a) ∧ u'.cell? ⟨B, 1, none⟩ = some (.int .i64 b) ∧ u'.cell? ⟨n1, 0, none⟩ = some (.int .i64 s1) ∧ u'.cell? ⟨n1, 1, none⟩ = some (.int .i64 s2) ∧ u'.cell? ⟨n2, 0, none⟩ = some (.int .i64 p1) ∧ u'.cell? ⟨n2, 1, none⟩ = some (.int .i64 p2) ∧
      u'.cell? ⟨n3, 0, none⟩ = some (.int .i64 o1) ∧ u'.cell? ⟨n3, 1, none⟩ = some (.int .i64 o2) ∧ u'.cell? ⟨n4, 0, none⟩ = some (.int .i64 t1) ∧ u'.cell? ⟨n4, 1, none⟩ = some (.int .i64 t2)) ∧ Below B W u' := by
  obtain ⟨⟨h1, h2, h3, h4, h5, h6, h7, h8, h9, h10⟩, hB⟩ := h
  have hs := World.block_lt_of_cell? u ⟨B, 0, none⟩ h1
  exact ⟨⟨cell_later hb h1, cell_later hb h2, cell_later hb h3, cell_later hb h4, cell_later hb h5, cell_later hb h6, cell_later hb h7, cell_later hb h8, cell_later hb h9, cell_later hb h10⟩, hB.trans (hb.mono (Nat.le_of_lt hs))⟩
theorem below_alloc (w : World) (o : Obj) : Below w.heap.size w (w.alloc o) := (Below.refl _ _).alloc (Nat.le_refl _) o

theorem cell3 {w : World} {a : Addr} {v : Value} (h : w.cell? a = some v) (o1 o2 o3 : Obj) : (((w.alloc o1).alloc o2).alloc o3).drew.cell? a = some v := cell_later (below3 w o1 o2 o3).drew h

theorem start9 {B n1 n2 n3 n4 nq : Nat} {W wc : World} {a b s1 s2 p1 p2 o1 o2 t1 t2 : Int} (la : Lies wc B a b) (ls : Lies wc n1 s1 s2) (lp : Lies wc n2 p1 p2) (lo : Lies wc n3 o1 o2) (lt : Lies wc n4 0 0) (hB : Below B W wc)
    (d1 : n4 ≠ B) (d2 : n4 ≠ n1) (d3 : n4 ≠ n2) (d4 : n4 ≠ n3) (d5 : B ≤ n4) :
    let u := (((wc.drewN nq).setCell ⟨n4, 0, none⟩ (.int .i64 t1)).setCell ⟨n4, 1, none⟩ (.int .i64 t2)).drew
    (u.cell? ⟨B, 0, none⟩ = some (.int .i64 a) ∧ u.cell? ⟨B, 1, none⟩ = some (.int .i64 b) ∧ u.cell? ⟨n1, 0, none⟩ = some (.int .i64 s1) ∧ u.cell? ⟨n1, 1, none⟩ = some (.int .i64 s2) ∧ u.cell? ⟨n2, 0, none⟩ = some (.int .i64 p1) ∧ u.cell? ⟨n2, 1, none⟩ = some (.int .i64 p2) ∧
      u.cell? ⟨n3, 0, none⟩ = some (.int .i64 o1) ∧ u.cell? ⟨n3, 1, none⟩ = some (.int .i64 o2) ∧ u.cell? ⟨n4, 0, none⟩ = some (.int .i64 t1) ∧ u.cell? ⟨n4, 1, none⟩ = some (.int .i64 t2)) ∧ Below B W u := by
  intro u
  have hq : Below wc.heap.size wc (wc.drewN nq) := below_drewN (Below.refl _ _) _
  have hd : ∀ v : World, Below v.heap.size v v.drew := fun v => (Below.refl _ _).drew
  have e1 := (((la.later hq).setElse (o := 0) (v := .int .i64 t1) d1).setElse (o := 1) (v := .int .i64 t2) d1).later (hd _)
  have e2 := (((ls.later hq).setElse (o := 0) (v := .int .i64 t1) d2).setElse (o := 1) (v := .int .i64 t2) d2).later (hd _)
  have e3 := (((lp.later hq).setElse (o := 0) (v := .int .i64 t1) d3).setElse (o := 1) (v := .int .i64 t2) d3).later (hd _)
  have e4 := (((lo.later hq).setElse (o := 0) (v := .int .i64 t1) d4).setElse (o := 1) (v := .int .i64 t2) d4).later (hd _)
  have e5 := ((lt.later hq).setSame t1 t2).later (hd _)
  exact ⟨⟨e1.1, e1.2.1, e2.1, e2.2.1, e3.1, e3.2.1, e4.1, e4.2.1, e5.1, e5.2.1⟩, (((below_drewN hB nq).setCell d5 _).setCell d5 _).drew⟩

theorem wrap_id {x : Int} (h1 : -9223372036854775808 ≤ x) (h2 : x ≤ 9223372036854775807) : IntKind.i64.wrap x = x := by
  rw [IntKind.wrap_i64]; omega

set_option maxRecDepth 100000 in
set_option maxHeartbeats 8000000 in
theorem fixSpans_ok (a b c d x : Int) (h1 : mayB a b = true) (h2 : mayB c d = true) (w : World) :
    Calls Try.prog 6 #[.agg #[.int .i64 a, .int .i64 b], .agg #[.int .i64 c, .int .i64 d], .int .i64 x] w fun e w' => e = .returned (.bool true) ∧ Below w.heap.size w w' := by
  have f0 : firstI [0, 0] = 0 := rfl
  have i1 := (may_true h1).2.1
  have i2 := (may_true h1).2.2
  have i3 := (may_true h1).1
  have j1 := (may_true h2).2.1
  have j2 := (may_true h2).2.2
  have j3 := (may_true h2).1
  go_enter Try.func6, Try.ntmps6
  go_upto_region 1 with fail
  go_region_held3 (fun w' => w'.cell? ⟨w.heap.size, 0, none⟩ = some (.int .i64 a) ∧ w'.cell? ⟨w.heap.size, 1, none⟩ = some (.int .i64 b) ∧ w'.cell? ⟨w.heap.size + 1, 0, none⟩ = some (.int .i64 c) ∧ w'.cell? ⟨w.heap.size + 1, 1, none⟩ = some (.int .i64 d))
    (simp [go_sem, World.cell?_alloc_past])
    (first
      | (go_at_call_of 22 (a); refine (spanMay_yes_ex a b h1 _).mono ?_; rintro e w' ⟨rfl, rfl⟩)
      | (go_at_call_of 22 (c); refine (spanMay_yes_ex c d h2 _).mono ?_; rintro e w' ⟨rfl, rfl⟩)
      | (go_at_call 21; refine (first_two _ _ 0 0 _ (by simp [go_sem]) (by simp [go_sem])).mono ?_; rintro e w' ⟨rfl, rfl⟩))
  go_wp2_with fail
  refine (spanAdd_ok a b c d h1 h2 _).mono ?_
  rintro e w1 ⟨rfl, hb⟩
  have la : Lies w1 w.heap.size a b := by
    refine Lies.later ?_ hb
    exact ⟨by simp [go_sem], by simp [go_sem], by simp [go_sem], by simp [go_sem], by simp [go_sem]⟩
  have lb : Lies w1 (w.heap.size + 1) c d := by
    refine Lies.later ?_ hb
    exact ⟨by simp [go_sem], by simp [go_sem], by simp [go_sem], by simp [go_sem], by simp [go_sem]⟩
  have hB : Below w.heap.size w w1 := by
    refine Below.trans ?_ (hb.mono (by simp [go_sem]; omega))
    exact (((((((Below.refl _ _).alloc (Nat.le_refl _) _).alloc (by simp) _).alloc (by simp; omega) _).alloc (by simp; omega) _).alloc (by simp; omega) _)).drew
  clear hb
  have LA : Hid (Lies w1 w.heap.size a b ∧ Lies w1 (w.heap.size + 1) c d) := ⟨la, lb⟩
  obtain ⟨la1, la2, la3, la4, la5⟩ := la
  obtain ⟨lb1, lb2, lb3, lb4, lb5⟩ := lb
  go_wp2_with fail
  refine (spanMul_yes a b c d h1 h2 _).mono ?_
  rintro e w2 ⟨rfl, hb⟩
  clear la1 la2 la3 la4 lb1 lb2 lb3 lb4
  have HP : ∃ p q, Hid (lowL (mulI a c) [mulI a c, mulI a d, mulI b c, mulI b d] 4 = p ∧ highL (mulI a c) [mulI a c, mulI a d, mulI b c, mulI b d] 4 = q) := ⟨_, _, rfl, rfl⟩
  obtain ⟨p, q, HP⟩ := HP
  rw [HP.out.1, HP.out.2]
  have ea : Below w1.heap.size w1 w2 := (below_alloc _ _).trans (hb.mono (by simp))
  have la := LA.out.1.later ea
  have lb := LA.out.2.later ea
  have ls : Lies w2 w1.heap.size (ofI (a + c)) (ofI (b + d)) := by
    refine Lies.later ?_ hb
    exact ⟨by simp [go_sem], by simp [go_sem], by simp [go_sem], by simp [go_sem], by simp [go_sem]⟩
  have hB2 : Below w.heap.size w w2 := hB.trans (ea.mono hB.size)
  clear hb ea LA hB
  have L3 : Hid (Lies w2 w.heap.size a b ∧ Lies w2 (w.heap.size + 1) c d ∧ Lies w2 w1.heap.size (ofI (a + c)) (ofI (b + d))) := ⟨la, lb, ls⟩
  have la5 := la.2.2.2.2
  have lb5 := lb.2.2.2.2
  have ls5 := ls.2.2.2.2
  clear la lb ls
  go_upto_region 6 with fail
  go_cut [] (fun w' => Lies w' w.heap.size a b ∧ Lies w' (w.heap.size + 1) c d ∧ Lies w' w1.heap.size (ofI (a + c)) (ofI (b + d)) ∧ Lies w' w2.heap.size p q ∧ Lies w' (w2.heap.size + 1) (ofI (a + c)) (ofI (b + d)) ∧ Lies w' (w2.heap.size + 1 + 1) 0 0 ∧ Below w.heap.size w w')
  case first =>
    have ca := L3.out.1
    have cb := L3.out.2.1
    obtain ⟨ca1, ca2, ca3, ca4, ca5⟩ := ca
    obtain ⟨cb1, cb2, cb3, cb4, cb5⟩ := cb
    go_region_held3 (fun w' => w'.cell? ⟨w.heap.size, 0, none⟩ = some (.int .i64 a) ∧ w'.cell? ⟨w.heap.size, 1, none⟩ = some (.int .i64 b) ∧ w'.cell? ⟨w.heap.size + 1, 0, none⟩ = some (.int .i64 c) ∧ w'.cell? ⟨w.heap.size + 1, 1, none⟩ = some (.int .i64 d))
      (exact ⟨cell3 ca1 _ _ _, cell3 ca2 _ _ _, cell3 cb1 _ _ _, cell3 cb2 _ _ _⟩)
      (first
        | (go_at_call 11; refine (refOf_any _ _).mono ?_; rintro e w' ⟨rfl, rfl⟩))
    go_wp2_with fail
    go_meet
    case rel =>
      rw [wrap_id (x := a + c) (by omega) (by omega), wrap_id (x := b + d) (by omega) (by omega)]
      have e3 := below3 w2 (.cells #[.int .i64 p, .int .i64 q] 37) (.cells #[.int .i64 (ofI (a + c)), .int .i64 (ofI (b + d))] 37) (.cells #[.int .i64 0, .int .i64 0] 37)
      refine ⟨L3.out.1.later e3.drew, L3.out.2.1.later e3.drew, L3.out.2.2.later e3.drew, ?_, ?_, ?_, (hB2.trans (e3.mono hB2.size)).drew⟩
      · exact ⟨by simp [go_sem], by simp [go_sem], by simp [go_sem], by simp [go_sem], by simp [go_sem]⟩
      · exact ⟨by simp [go_sem], by simp [go_sem], by simp [go_sem], by simp [go_sem], by simp [go_sem]⟩
      · exact ⟨by simp [go_sem], by simp [go_sem], by simp [go_sem], by simp [go_sem], by simp [go_sem]⟩
  case rest =>
    obtain ⟨la, lb, ls, lp, lo, lt, hB3⟩ := hcut
    have hB4 : Hid (Below w.heap.size w wc) := hB3
    have LL : Hid (Lies wc w.heap.size a b ∧ Lies wc w1.heap.size (ofI (a + c)) (ofI (b + d)) ∧ Lies wc w2.heap.size p q ∧ Lies wc (w2.heap.size + 1) (ofI (a + c)) (ofI (b + d)) ∧ Lies wc (w2.heap.size + 1 + 1) 0 0) := ⟨la, ls, lp, lo, lt⟩
    obtain ⟨la1, la2, la3, la4, la5⟩ := la
    obtain ⟨lb1, lb2, lb3, lb4, lb5⟩ := lb
    obtain ⟨lt1, lt2, lt3, lt4, lt5⟩ := lt
    clear ls lp lo hB3 L3 hB2
    have m4 := fun ts t => run_min4 ts t (mulI a c) (mulI a d) (mulI b c) (mulI b d)
    have x4 := fun ts t => run_max4 ts t (mulI a c) (mulI a d) (mulI b c) (mulI b d)
    rw [HP.out.1] at m4
    rw [HP.out.2] at x4
    go_upto_region 7 with fail
    go_quiet ((go_at_call 17; exact Calls.quiet_of_same (refMul_any _ _ _)))
    go_upto_region 9 with fail
    have st := fun n => start9 (nq := n) (t1 := p) (t2 := q) LL.out.1 LL.out.2.1 LL.out.2.2.1 LL.out.2.2.2.1 LL.out.2.2.2.2 hB4.out (by omega) (by omega) (by omega) (by omega) (by omega)
    have ST : Hid (∀ n, _) := st
    clear st LL hB4 la1 la2 la3 la4 lb1 lb2 lb3 lb4 lt1 lt2 lt3 lt4 m4 x4
    go_region_held3 (fun u => (u.cell? ⟨w.heap.size, 0, none⟩ = some (.int .i64 a) ∧ u.cell? ⟨w.heap.size, 1, none⟩ = some (.int .i64 b) ∧ u.cell? ⟨w1.heap.size, 0, none⟩ = some (.int .i64 (ofI (a + c))) ∧ u.cell? ⟨w1.heap.size, 1, none⟩ = some (.int .i64 (ofI (b + d))) ∧ u.cell? ⟨w2.heap.size, 0, none⟩ = some (.int .i64 p) ∧ u.cell? ⟨w2.heap.size, 1, none⟩ = some (.int .i64 q) ∧
      u.cell? ⟨w2.heap.size + 1, 0, none⟩ = some (.int .i64 (ofI (a + c))) ∧ u.cell? ⟨w2.heap.size + 1, 1, none⟩ = some (.int .i64 (ofI (b + d))) ∧ u.cell? ⟨w2.heap.size + 1 + 1, 0, none⟩ = some (.int .i64 p) ∧ u.cell? ⟨w2.heap.size + 1 + 1, 1, none⟩ = some (.int .i64 q)) ∧ Below w.heap.size w u)
      (first
        | (with_reducible assumption)
        | (with_reducible refine keep9 (below_alloc _ _) ?_; with_reducible assumption)
        | (with_reducible apply keep9; with_reducible assumption; with_reducible assumption)
        | exact ST.out _)
      (first
        | (go_at_call 25; refine (check_yes _ _ h1 _).mono ?_; rintro e w' ⟨rfl, hb⟩)
        | (go_at_call 22; refine (spanMay_yes_ex _ _ h1 _).mono ?_; rintro e w' ⟨rfl, rfl⟩)
        | (go_at_call 12; refine (is_nil _ _).mono ?_; rintro e w' ⟨rfl, rfl⟩)
        | (go_at_call 26; refine (in_any _ _ _ _).mono ?_; rintro e w' ⟨rfl, hb⟩)
        | (go_at_call 27; refine (between_any _ _ _ _).mono ?_; rintro e w' ⟨rfl, rfl⟩))
    rename_i hH
    have hBf := hH.2
    clear hH ST
    go_wp2
    go_ret
    exact ⟨rfl, hBf⟩

theorem start_no {B n1 : Nat} {W w : World} {a b : Int} (la : Lies w B a b) (ls : Lies w n1 0 0) (hB : Below B W w) (o : Obj) (ho : o = .cells #[.int .i64 0, .int .i64 0] 37) :
    let u := (((w.alloc o).alloc o).alloc o).drew
    (u.cell? ⟨B, 0, none⟩ = some (.int .i64 a) ∧ u.cell? ⟨B, 1, none⟩ = some (.int .i64 b) ∧ u.cell? ⟨n1, 0, none⟩ = some (.int .i64 0) ∧ u.cell? ⟨n1, 1, none⟩ = some (.int .i64 0) ∧ u.cell? ⟨w.heap.size, 0, none⟩ = some (.int .i64 0) ∧ u.cell? ⟨w.heap.size, 1, none⟩ = some (.int .i64 0) ∧
      u.cell? ⟨w.heap.size + 1, 0, none⟩ = some (.int .i64 0) ∧ u.cell? ⟨w.heap.size + 1, 1, none⟩ = some (.int .i64 0) ∧ u.cell? ⟨w.heap.size + 1 + 1, 0, none⟩ = some (.int .i64 0) ∧ u.cell? ⟨w.heap.size + 1 + 1, 1, none⟩ = some (.int .i64 0)) ∧ Below B W u := by
  intro u
  subst ho
  have hs := la.2.2.2.2
  exact ⟨⟨cell3 la.1 _ _ _, cell3 la.2.1 _ _ _, cell3 ls.1 _ _ _, cell3 ls.2.1 _ _ _, by simp [u, go_sem], by simp [u, go_sem], by simp [u, go_sem], by simp [u, go_sem], by simp [u, go_sem], by simp [u, go_sem]⟩, (hB.trans ((below3 w _ _ _).mono (Nat.le_of_lt hs))).drew⟩

set_option maxRecDepth 100000 in
set_option maxHeartbeats 8000000 in
theorem fixSpans_no (a b c d x : Int) (h1 : mayB a b = false) (h2 : mayB c d = false) (w : World) :
    Calls Try.prog 6 #[.agg #[.int .i64 a, .int .i64 b], .agg #[.int .i64 c, .int .i64 d], .int .i64 x] w fun e w' => e = .returned (.bool true) ∧ Below w.heap.size w w' := by
  have f0 : firstI [3, 3] = 3 := rfl
  go_enter Try.func6, Try.ntmps6
  go_upto_region 1 with fail
  go_region_held3 (fun w' => w'.cell? ⟨w.heap.size, 0, none⟩ = some (.int .i64 a) ∧ w'.cell? ⟨w.heap.size, 1, none⟩ = some (.int .i64 b) ∧ w'.cell? ⟨w.heap.size + 1, 0, none⟩ = some (.int .i64 c) ∧ w'.cell? ⟨w.heap.size + 1, 1, none⟩ = some (.int .i64 d))
    (simp [go_sem, World.cell?_alloc_past])
    (first
      | (go_at_call_of 22 (a); refine (spanMay_no_ex a b h1 _).mono ?_; rintro e w' ⟨rfl, rfl⟩)
      | (go_at_call_of 22 (c); refine (spanMay_no_ex c d h2 _).mono ?_; rintro e w' ⟨rfl, rfl⟩)
      | (go_at_call 21; refine (first_two _ _ 3 3 _ (by simp [go_sem]) (by simp [go_sem])).mono ?_; rintro e w' ⟨rfl, rfl⟩))
  go_wp2_with fail
  refine (spanAdd_no a b c d (.inl h1) _).mono ?_
  rintro e w1 ⟨rfl, hb⟩
  have la : Lies w1 w.heap.size a b := by
    refine Lies.later ?_ hb
    exact ⟨by simp [go_sem], by simp [go_sem], by simp [go_sem], by simp [go_sem], by simp [go_sem]⟩
  have lb : Lies w1 (w.heap.size + 1) c d := by
    refine Lies.later ?_ hb
    exact ⟨by simp [go_sem], by simp [go_sem], by simp [go_sem], by simp [go_sem], by simp [go_sem]⟩
  have hB : Below w.heap.size w w1 := by
    refine Below.trans ?_ (hb.mono (by simp [go_sem]; omega))
    exact (((((((Below.refl _ _).alloc (Nat.le_refl _) _).alloc (by simp) _).alloc (by simp; omega) _).alloc (by simp; omega) _).alloc (by simp; omega) _)).drew
  clear hb
  have LA : Hid (Lies w1 w.heap.size a b) := la
  obtain ⟨la1, la2, la3, la4, la5⟩ := la
  obtain ⟨lb1, lb2, lb3, lb4, lb5⟩ := lb
  go_wp2_with fail
  refine (spanMul_no a b c d (.inl h1) _).mono ?_
  rintro e w2 ⟨rfl, hb⟩
  clear la1 la2 la3 la4 lb1 lb2 lb3 lb4
  have ea : Below w1.heap.size w1 w2 := (below_alloc _ _).trans (hb.mono (by simp))
  have la := LA.out.later ea
  have ls : Lies w2 w1.heap.size 0 0 := by
    refine Lies.later ?_ hb
    exact ⟨by simp [go_sem], by simp [go_sem], by simp [go_sem], by simp [go_sem], by simp [go_sem]⟩
  have hB2 : Below w.heap.size w w2 := hB.trans (ea.mono hB.size)
  clear hb ea LA hB
  have ST : Hid _ := start_no la ls hB2 (.cells #[.int .i64 0, .int .i64 0] 37) rfl
  clear la ls hB2
  go_upto_region 9 with fail
  go_region_held3 (fun u => (u.cell? ⟨w.heap.size, 0, none⟩ = some (.int .i64 a) ∧ u.cell? ⟨w.heap.size, 1, none⟩ = some (.int .i64 b) ∧ u.cell? ⟨w1.heap.size, 0, none⟩ = some (.int .i64 0) ∧ u.cell? ⟨w1.heap.size, 1, none⟩ = some (.int .i64 0) ∧ u.cell? ⟨w2.heap.size, 0, none⟩ = some (.int .i64 0) ∧ u.cell? ⟨w2.heap.size, 1, none⟩ = some (.int .i64 0) ∧
      u.cell? ⟨w2.heap.size + 1, 0, none⟩ = some (.int .i64 0) ∧ u.cell? ⟨w2.heap.size + 1, 1, none⟩ = some (.int .i64 0) ∧ u.cell? ⟨w2.heap.size + 1 + 1, 0, none⟩ = some (.int .i64 0) ∧ u.cell? ⟨w2.heap.size + 1 + 1, 1, none⟩ = some (.int .i64 0)) ∧ Below w.heap.size w u)
    (first
      | (with_reducible assumption)
      | (with_reducible refine keep9 (below_alloc _ _) ?_; with_reducible assumption)
      | (with_reducible apply keep9; with_reducible assumption; with_reducible assumption)
      | exact ST.out)
    (first
      | (go_at_call 25; refine (check_no _ _ h1 _).mono ?_; rintro e w' ⟨rfl, hb⟩)
      | (go_at_call 22; refine (spanMay_no_ex _ _ h1 _).mono ?_; rintro e w' ⟨rfl, rfl⟩)
      | (go_at_call 12; refine (is_errno _ _ _).mono ?_; rintro e w' ⟨rfl, rfl⟩)
      | (go_at_call 26; refine (in_any _ _ _ _).mono ?_; rintro e w' ⟨rfl, hb⟩)
      | (go_at_call 27; refine (between_any _ _ _ _).mono ?_; rintro e w' ⟨rfl, rfl⟩))
  rename_i hH
  have hBf := hH.2
  clear hH ST
  go_wp2
  go_ret
  exact ⟨rfl, hBf⟩

set_option maxRecDepth 100000 in
set_option maxHeartbeats 8000000 in
theorem fixSpans_no' (a b c d x : Int) (h1 : mayB a b = false) (h2 : mayB c d = true) (w : World) :
    Calls Try.prog 6 #[.agg #[.int .i64 a, .int .i64 b], .agg #[.int .i64 c, .int .i64 d], .int .i64 x] w fun e w' => e = .returned (.bool true) ∧ Below w.heap.size w w' := by
  have f0 : firstI [3, 0] = 3 := rfl
  go_enter Try.func6, Try.ntmps6
  go_upto_region 1 with fail
  go_region_held3 (fun w' => w'.cell? ⟨w.heap.size, 0, none⟩ = some (.int .i64 a) ∧ w'.cell? ⟨w.heap.size, 1, none⟩ = some (.int .i64 b) ∧ w'.cell? ⟨w.heap.size + 1, 0, none⟩ = some (.int .i64 c) ∧ w'.cell? ⟨w.heap.size + 1, 1, none⟩ = some (.int .i64 d))
    (simp [go_sem, World.cell?_alloc_past])
    (first
      | (go_at_call_of 22 (a); refine (spanMay_no_ex a b h1 _).mono ?_; rintro e w' ⟨rfl, rfl⟩)
      | (go_at_call_of 22 (c); refine (spanMay_yes_ex c d h2 _).mono ?_; rintro e w' ⟨rfl, rfl⟩)
      | (go_at_call 21; refine (first_two _ _ 3 0 _ (by simp [go_sem]) (by simp [go_sem])).mono ?_; rintro e w' ⟨rfl, rfl⟩))
  go_wp2_with fail
  refine (spanAdd_no a b c d (.inl h1) _).mono ?_
  rintro e w1 ⟨rfl, hb⟩
  have la : Lies w1 w.heap.size a b := by
    refine Lies.later ?_ hb
    exact ⟨by simp [go_sem], by simp [go_sem], by simp [go_sem], by simp [go_sem], by simp [go_sem]⟩
  have lb : Lies w1 (w.heap.size + 1) c d := by
    refine Lies.later ?_ hb
    exact ⟨by simp [go_sem], by simp [go_sem], by simp [go_sem], by simp [go_sem], by simp [go_sem]⟩
  have hB : Below w.heap.size w w1 := by
    refine Below.trans ?_ (hb.mono (by simp [go_sem]; omega))
    exact (((((((Below.refl _ _).alloc (Nat.le_refl _) _).alloc (by simp) _).alloc (by simp; omega) _).alloc (by simp; omega) _).alloc (by simp; omega) _)).drew
  clear hb
  have LA : Hid (Lies w1 w.heap.size a b) := la
  obtain ⟨la1, la2, la3, la4, la5⟩ := la
  obtain ⟨lb1, lb2, lb3, lb4, lb5⟩ := lb
  go_wp2_with fail
  refine (spanMul_no a b c d (.inl h1) _).mono ?_
  rintro e w2 ⟨rfl, hb⟩
  clear la1 la2 la3 la4 lb1 lb2 lb3 lb4
  have ea : Below w1.heap.size w1 w2 := (below_alloc _ _).trans (hb.mono (by simp))
  have la := LA.out.later ea
  have ls : Lies w2 w1.heap.size 0 0 := by
    refine Lies.later ?_ hb
    exact ⟨by simp [go_sem], by simp [go_sem], by simp [go_sem], by simp [go_sem], by simp [go_sem]⟩
  have hB2 : Below w.heap.size w w2 := hB.trans (ea.mono hB.size)
  clear hb ea LA hB
  have ST : Hid _ := start_no la ls hB2 (.cells #[.int .i64 0, .int .i64 0] 37) rfl
  clear la ls hB2
  go_upto_region 9 with fail
  go_region_held3 (fun u => (u.cell? ⟨w.heap.size, 0, none⟩ = some (.int .i64 a) ∧ u.cell? ⟨w.heap.size, 1, none⟩ = some (.int .i64 b) ∧ u.cell? ⟨w1.heap.size, 0, none⟩ = some (.int .i64 0) ∧ u.cell? ⟨w1.heap.size, 1, none⟩ = some (.int .i64 0) ∧ u.cell? ⟨w2.heap.size, 0, none⟩ = some (.int .i64 0) ∧ u.cell? ⟨w2.heap.size, 1, none⟩ = some (.int .i64 0) ∧
      u.cell? ⟨w2.heap.size + 1, 0, none⟩ = some (.int .i64 0) ∧ u.cell? ⟨w2.heap.size + 1, 1, none⟩ = some (.int .i64 0) ∧ u.cell? ⟨w2.heap.size + 1 + 1, 0, none⟩ = some (.int .i64 0) ∧ u.cell? ⟨w2.heap.size + 1 + 1, 1, none⟩ = some (.int .i64 0)) ∧ Below w.heap.size w u)
    (first
      | (with_reducible assumption)
      | (with_reducible refine keep9 (below_alloc _ _) ?_; with_reducible assumption)
      | (with_reducible apply keep9; with_reducible assumption; with_reducible assumption)
      | exact ST.out)
    (first
      | (go_at_call 25; refine (check_no _ _ h1 _).mono ?_; rintro e w' ⟨rfl, hb⟩)
      | (go_at_call 22; refine (spanMay_no_ex _ _ h1 _).mono ?_; rintro e w' ⟨rfl, rfl⟩)
      | (go_at_call 12; refine (is_errno _ _ _).mono ?_; rintro e w' ⟨rfl, rfl⟩)
      | (go_at_call 26; refine (in_any _ _ _ _).mono ?_; rintro e w' ⟨rfl, hb⟩)
      | (go_at_call 27; refine (between_any _ _ _ _).mono ?_; rintro e w' ⟨rfl, rfl⟩))
  rename_i hH
  have hBf := hH.2
  clear hH ST
  go_wp2
  go_ret
  exact ⟨rfl, hBf⟩

set_option maxRecDepth 100000 in
set_option maxHeartbeats 8000000 in
theorem fixSpans_no2 (a b c d x : Int) (h1 : mayB a b = true) (h2 : mayB c d = false) (w : World) :
    Calls Try.prog 6 #[.agg #[.int .i64 a, .int .i64 b], .agg #[.int .i64 c, .int .i64 d], .int .i64 x] w fun e w' => e = .returned (.bool true) ∧ Below w.heap.size w w' := by
  have f0 : firstI [0, 3] = 3 := rfl
  go_enter Try.func6, Try.ntmps6
  go_upto_region 1 with fail
  go_region_held3 (fun w' => w'.cell? ⟨w.heap.size, 0, none⟩ = some (.int .i64 a) ∧ w'.cell? ⟨w.heap.size, 1, none⟩ = some (.int .i64 b) ∧ w'.cell? ⟨w.heap.size + 1, 0, none⟩ = some (.int .i64 c) ∧ w'.cell? ⟨w.heap.size + 1, 1, none⟩ = some (.int .i64 d))
    (simp [go_sem, World.cell?_alloc_past])
    (first
      | (go_at_call_of 22 (a); refine (spanMay_yes_ex a b h1 _).mono ?_; rintro e w' ⟨rfl, rfl⟩)
      | (go_at_call_of 22 (c); refine (spanMay_no_ex c d h2 _).mono ?_; rintro e w' ⟨rfl, rfl⟩)
      | (go_at_call 21; refine (first_two _ _ 0 3 _ (by simp [go_sem]) (by simp [go_sem])).mono ?_; rintro e w' ⟨rfl, rfl⟩))
  go_wp2_with fail
  refine (spanAdd_no a b c d (.inr ⟨h1, h2⟩) _).mono ?_
  rintro e w1 ⟨rfl, hb⟩
  have la : Lies w1 w.heap.size a b := by
    refine Lies.later ?_ hb
    exact ⟨by simp [go_sem], by simp [go_sem], by simp [go_sem], by simp [go_sem], by simp [go_sem]⟩
  have lb : Lies w1 (w.heap.size + 1) c d := by
    refine Lies.later ?_ hb
    exact ⟨by simp [go_sem], by simp [go_sem], by simp [go_sem], by simp [go_sem], by simp [go_sem]⟩
  have hB : Below w.heap.size w w1 := by
    refine Below.trans ?_ (hb.mono (by simp [go_sem]; omega))
    exact (((((((Below.refl _ _).alloc (Nat.le_refl _) _).alloc (by simp) _).alloc (by simp; omega) _).alloc (by simp; omega) _).alloc (by simp; omega) _)).drew
  clear hb
  have LA : Hid (Lies w1 w.heap.size a b) := la
  obtain ⟨la1, la2, la3, la4, la5⟩ := la
  obtain ⟨lb1, lb2, lb3, lb4, lb5⟩ := lb
  go_wp2_with fail
  refine (spanMul_no a b c d (.inr ⟨h1, h2⟩) _).mono ?_
  rintro e w2 ⟨rfl, hb⟩
  clear la1 la2 la3 la4 lb1 lb2 lb3 lb4
  have ea : Below w1.heap.size w1 w2 := (below_alloc _ _).trans (hb.mono (by simp))
  have la := LA.out.later ea
  have ls : Lies w2 w1.heap.size 0 0 := by
    refine Lies.later ?_ hb
    exact ⟨by simp [go_sem], by simp [go_sem], by simp [go_sem], by simp [go_sem], by simp [go_sem]⟩
  have hB2 : Below w.heap.size w w2 := hB.trans (ea.mono hB.size)
  clear hb ea LA hB
  have ST : Hid _ := start_no la ls hB2 (.cells #[.int .i64 0, .int .i64 0] 37) rfl
  clear la ls hB2
  go_upto_region 9 with fail
  go_region_held3 (fun u => (u.cell? ⟨w.heap.size, 0, none⟩ = some (.int .i64 a) ∧ u.cell? ⟨w.heap.size, 1, none⟩ = some (.int .i64 b) ∧ u.cell? ⟨w1.heap.size, 0, none⟩ = some (.int .i64 0) ∧ u.cell? ⟨w1.heap.size, 1, none⟩ = some (.int .i64 0) ∧ u.cell? ⟨w2.heap.size, 0, none⟩ = some (.int .i64 0) ∧ u.cell? ⟨w2.heap.size, 1, none⟩ = some (.int .i64 0) ∧
      u.cell? ⟨w2.heap.size + 1, 0, none⟩ = some (.int .i64 0) ∧ u.cell? ⟨w2.heap.size + 1, 1, none⟩ = some (.int .i64 0) ∧ u.cell? ⟨w2.heap.size + 1 + 1, 0, none⟩ = some (.int .i64 0) ∧ u.cell? ⟨w2.heap.size + 1 + 1, 1, none⟩ = some (.int .i64 0)) ∧ Below w.heap.size w u)
    (first
      | (with_reducible assumption)
      | (with_reducible refine keep9 (below_alloc _ _) ?_; with_reducible assumption)
      | (with_reducible apply keep9; with_reducible assumption; with_reducible assumption)
      | exact ST.out)
    (first
      | (go_at_call 25; refine (check_yes _ _ h1 _).mono ?_; rintro e w' ⟨rfl, hb⟩)
      | (go_at_call 22; refine (spanMay_yes_ex _ _ h1 _).mono ?_; rintro e w' ⟨rfl, rfl⟩)
      | (go_at_call_of 12 (Value.nilIface); refine (is_nil _ _).mono ?_; rintro e w' ⟨rfl, rfl⟩)
      | (go_at_call 12; refine (is_errno _ _ _).mono ?_; rintro e w' ⟨rfl, rfl⟩)
      | (go_at_call 26; refine (in_any _ _ _ _).mono ?_; rintro e w' ⟨rfl, hb⟩)
      | (go_at_call 27; refine (between_any _ _ _ _).mono ?_; rintro e w' ⟨rfl, rfl⟩))
  rename_i hH
  have hBf := hH.2
  clear hH ST
  go_wp2
  go_ret
  exact ⟨rfl, hBf⟩

theorem fixSpans_walk (a b c d x : Int) (w : World) :
    Calls Try.prog 6 #[.agg #[.int .i64 a, .int .i64 b], .agg #[.int .i64 c, .int .i64 d], .int .i64 x] w fun e w' => e = .returned (.bool true) ∧ Below w.heap.size w w' := by
  cases h1 : mayB a b with
  | false =>
    cases h2 : mayB c d with
    | false => exact fixSpans_no a b c d x h1 h2 w
    | true => exact fixSpans_no' a b c d x h1 h2 w
  | true =>
    cases h2 : mayB c d with
    | false => exact fixSpans_no2 a b c d x h1 h2 w
    | true => exact fixSpans_ok a b c d x h1 h2 w

end Go.Proofs.Ytmdpoeelddchcaa
