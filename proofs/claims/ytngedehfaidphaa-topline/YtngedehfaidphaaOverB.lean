/-
  Contracts of table.Over: it returns what the plain words say, and nothing that was there has turned.
-/
import Derived.Test.YtngedehfaidphaaOverA
namespace Go.Proofs.Ytngedehfaidphaa
open Go.RowKit Go.Shelf Plain
attribute [local go_sem] Oper.semAt_some

/-- May a span be? -/
def mayB (lo hi : Int) : Bool := decide (lo ≤ hi) && decide (-2147483647 ≤ lo) && decide (hi ≤ 2147483647)
theorem may_true {lo hi : Int} (h : mayB lo hi = true) : lo ≤ hi ∧ -2147483647 ≤ lo ∧ hi ≤ 2147483647 := by
  simp [mayB] at h; omega
theorem may_false {lo hi : Int} (h : mayB lo hi = false) : hi < lo ∨ lo < -2147483647 ∨ 2147483647 < hi := by
  simp [mayB] at h; omega
theorem ofI_out {x : Int} (h : x < -2147483647 ∨ 2147483647 < x) : (ofI x != x) = true := by
  rw [bne_iff_ne]; unfold ofI; split <;> (try split) <;> omega
theorem ofI_in {x : Int} (h1 : -2147483647 ≤ x) (h2 : x ≤ 2147483647) : (ofI x != x) = false := by
  rw [ofI_id h1 h2]; simp

theorem scheck_yes (lo hi : Int) (h : mayB lo hi = true) (w : World) :
    Calls Try.prog 34 #[.agg #[.int .i64 lo, .int .i64 hi]] w fun e w' => e = .returned .nilIface ∧ Below w.heap.size w w' := by
  obtain ⟨h1, h2, h3⟩ := may_true h
  clear h
  have g1 : decide (hi < lo) = false := by simp; omega
  have g2 := ofI_in h2 (by omega)
  have g3 := ofI_in (show -2147483647 ≤ hi by omega) h3
  go_enter Try.func34, Try.ntmps34
  go_wp2
  go_quiet ((go_at_call 44; exact Calls.quiet_of_same (fixOf_any _ _)))
  go_wp2
  go_ret
  exact ⟨rfl, below_drewN ((Below.refl _ _).alloc (Nat.le_refl _) _) _⟩
theorem scheck_no (lo hi : Int) (h : mayB lo hi = false) (w : World) :
    Calls Try.prog 34 #[.agg #[.int .i64 lo, .int .i64 hi]] w fun e w' => e = .returned (.iface 25 (.int .i64 3)) ∧ Below w.heap.size w w' := by
  have hh := may_false h
  clear h
  by_cases g1 : hi < lo
  · clear hh
    have g1' : decide (hi < lo) = true := decide_eq_true g1
    go_enter Try.func34, Try.ntmps34
    go_wp2
    go_quiet ((go_at_call 44; exact Calls.quiet_of_same (fixOf_any _ _)))
    go_wp2
    go_ret
    exact ⟨rfl, below_drewN ((Below.refl _ _).alloc (Nat.le_refl _) _) _⟩
  · have g1' : decide (hi < lo) = false := decide_eq_false g1
    by_cases g2 : lo < -2147483647 ∨ 2147483647 < lo
    · have g2' := ofI_out g2
      clear hh g2 g1
      go_enter Try.func34, Try.ntmps34
      go_wp2
      go_quiet ((go_at_call 44; exact Calls.quiet_of_same (fixOf_any _ _)))
      go_wp2
      go_ret
      exact ⟨rfl, below_drewN ((Below.refl _ _).alloc (Nat.le_refl _) _) _⟩
    · have g2' := ofI_in (show -2147483647 ≤ lo by omega) (by omega)
      have g3' := ofI_out (show hi < -2147483647 ∨ 2147483647 < hi by omega)
      clear hh g2 g1
      go_enter Try.func34, Try.ntmps34
      go_wp2
      go_quiet ((go_at_call 44; exact Calls.quiet_of_same (fixOf_any _ _)))
      go_wp2
      go_ret
      exact ⟨rfl, below_drewN ((Below.refl _ _).alloc (Nat.le_refl _) _) _⟩

/-- Two numbers at a block. -/
def Lies (w : World) (b : Nat) (x y : Int) : Prop := w.cell? ⟨b, 0, none⟩ = some (.int .i64 x) ∧ w.cell? ⟨b, 1, none⟩ = some (.int .i64 y) ∧ w.frozen? ⟨b, 0, none⟩ = false ∧ w.frozen? ⟨b, 1, none⟩ = false ∧ b < w.heap.size
theorem Lies.later {w w' : World} {b : Nat} {x y : Int} (h : Lies w b x y) (hb : Below w.heap.size w w') : Lies w' b x y := by
  obtain ⟨h1, h2, h3, h4, h5⟩ := h
  exact ⟨cell_later hb h1, cell_later hb h2, (hb.frozen (p := ⟨b, 0, none⟩) h5).trans h3, (hb.frozen (p := ⟨b, 1, none⟩) h5).trans h4, Nat.lt_of_lt_of_le h5 hb.size⟩

/-- What a line's span is asked of: the boxes, the lists, the room for the answer; nothing below has turned. -/
def RstO (W : World) (B ba oa bz oz : Nat) (al zl : List Int) (u : World) : Prop := Line u ba oa bz oz al zl ∧ Lies u (B + 1 + 1) 0 0 ∧ Below B W u
theorem keepO {B ba oa ca bz oz cz : Nat} {W u u' : World} {al zl : List Int} {lo hi : Int} (hb : Below u.heap.size u u')
    (h : (u.cell? ⟨B, 0, none⟩ = some (.slice (some ⟨ba, oa, none⟩) al.length ca) ∧ u.cell? ⟨B, 1, none⟩ = some (.slice (some ⟨bz, oz, none⟩) zl.length cz) ∧ u.cell? ⟨B + 1, 0, none⟩ = some (.int .i64 lo) ∧ u.cell? ⟨B + 1, 1, none⟩ = some (.int .i64 hi)) ∧ RstO W B ba oa bz oz al zl u) :
    (u'.cell? ⟨B, 0, none⟩ = some (.slice (some ⟨ba, oa, none⟩) al.length ca) ∧ u'.cell? ⟨B, 1, none⟩ = some (.slice (some ⟨bz, oz, none⟩) zl.length cz) ∧ u'.cell? ⟨B + 1, 0, none⟩ = some (.int .i64 lo) ∧ u'.cell? ⟨B + 1, 1, none⟩ = some (.int .i64 hi)) ∧ RstO W B ba oa bz oz al zl u' := by
  obtain ⟨⟨h1, h2, h3, h4⟩, h5, h6, h7⟩ := h
  have hs := World.block_lt_of_cell? u ⟨B, 0, none⟩ h1
  exact ⟨⟨cell_later hb h1, cell_later hb h2, cell_later hb h3, cell_later hb h4⟩, h5.later hb, h6.later hb, h7.trans (hb.mono (Nat.le_of_lt hs))⟩

/-- The less and the greater of two. -/
def mnO (x y : Int) : Int := min x y
def mxO (x y : Int) : Int := max x y
theorem run_min2 (ts : Array TypeId) (t : TypeId) (p q : Int) (w : World) : (Builtin.min_ ts t #[.int .i64 p, .int .i64 q]).run Try.prog w = .ok (.int .i64 (mnO p q)) w := by
  unfold mnO; by_cases h : q < p
  · rw [Int.min_eq_right (by omega)]; simp [Builtin.min_, Builtin.min2, h]
  · rw [Int.min_eq_left (by omega)]; simp [Builtin.min_, Builtin.min2, h]
theorem run_max2 (ts : Array TypeId) (t : TypeId) (p q : Int) (w : World) : (Builtin.max_ ts t #[.int .i64 p, .int .i64 q]).run Try.prog w = .ok (.int .i64 (mxO p q)) w := by
  unfold mxO; by_cases h : p < q
  · rw [Int.max_eq_right (by omega)]; simp [Builtin.max_, Builtin.max2, h]
  · rw [Int.max_eq_left (by omega)]; simp [Builtin.max_, Builtin.max2, h]

/-- The least and the greatest height over what has come. -/
def lowF (al zl : List Int) (st : Int) (pre : List Int) : Int := pre.foldl (fun m x => mnO m (lookI al zl x)) st
def highF (al zl : List Int) (st : Int) (pre : List Int) : Int := pre.foldl (fun m x => mxO m (lookI al zl x)) st
theorem lowF_snoc (al zl : List Int) (st : Int) (pre : List Int) (x : Int) : lowF al zl st (pre ++ [x]) = mnO (lowF al zl st pre) (lookI al zl x) := by simp [lowF]
theorem highF_snoc (al zl : List Int) (st : Int) (pre : List Int) (x : Int) : highF al zl st (pre ++ [x]) = mxO (highF al zl st pre) (lookI al zl x) := by simp [highF]
theorem low_over {al zl : List Int} (p : Places al) (lo hi : Int) : ∀ k, k ≤ al.length → lowF al zl (mnO (lookI al zl lo) (lookI al zl hi)) (turnsL al lo hi k) = overLo al zl lo hi k
  | 0, _ => rfl
  | k + 1, h => by
    have ih := low_over (zl := zl) p lo hi k (by omega)
    simp only [turnsL, overLo]
    split
    · rw [lowF_snoc, ih, look_point p k (by omega)]; rfl
    · exact ih
theorem high_over {al zl : List Int} (p : Places al) (lo hi : Int) : ∀ k, k ≤ al.length → highF al zl (mxO (lookI al zl lo) (lookI al zl hi)) (turnsL al lo hi k) = overHi al zl lo hi k
  | 0, _ => rfl
  | k + 1, h => by
    have ih := high_over (zl := zl) p lo hi k (by omega)
    simp only [turnsL, overHi]
    split
    · rw [highF_snoc, ih, look_point p k (by omega)]; rfl
    · exact ih

/-- What lies between two rounds. -/
def InvO (B O ba oa ca bz oz cz : Nat) (al zl : List Int) (x y : Int) (W : World) : Prop :=
  (W.cell? ⟨O, 0, none⟩ = some (.int .i64 x) ∧ W.cell? ⟨O, 1, none⟩ = some (.int .i64 y) ∧ W.frozen? ⟨O, 0, none⟩ = false ∧ W.frozen? ⟨O, 1, none⟩ = false) ∧
  (W.cell? ⟨B, 0, none⟩ = some (.slice (some ⟨ba, oa, none⟩) al.length ca) ∧ W.cell? ⟨B, 1, none⟩ = some (.slice (some ⟨bz, oz, none⟩) zl.length cz)) ∧
  Line W ba oa bz oz al zl ∧
  (W.cell? ⟨B + 1 + 1, 0, none⟩ = some (.int .i64 0) ∧ W.cell? ⟨B + 1 + 1, 1, none⟩ = some (.int .i64 0) ∧ W.frozen? ⟨B + 1 + 1, 0, none⟩ = false ∧ W.frozen? ⟨B + 1 + 1, 1, none⟩ = false)
theorem invO_own {β : Type} (B O ba oa ca bz oz cz : Nat) (al zl : List Int) (f g : β → Int) : Own (fun (s : β) W => InvO B O ba oa ca bz oz cz al zl (f s) (g s) W) :=
  fun _ _ _ _ ⟨⟨h1, h2, h3, h4⟩, ⟨h5, h6⟩, h7, h8, h9, h10, h11⟩ hg hr =>
    ⟨⟨cell_kept h1 hg hr, cell_kept h2 hg hr, (frozen_kept h1 hg hr).trans h3, (frozen_kept h2 hg hr).trans h4⟩, ⟨cell_kept h5 hg hr, cell_kept h6 hg hr⟩,
      ⟨h7.may, fun k hk => cell_kept (h7.at' k hk) hg hr, fun k hk => cell_kept (h7.is' k hk) hg hr⟩, cell_kept h8 hg hr, cell_kept h9 hg hr, (frozen_kept h8 hg hr).trans h10, (frozen_kept h9 hg hr).trans h11⟩
theorem cell_else {W : World} {b o : Nat} {p : Addr} {u v : Value} (h : W.cell? p = some v) (hb : b ≠ p.block) : (W.setCell ⟨b, o, none⟩ u).cell? p = some v :=
  (World.cell?_setCell_other _ _ _ _ (fun e => hb (congrArg Addr.block e))).trans h
theorem InvO.later {B O ba oa ca bz oz cz : Nat} {al zl : List Int} {x y : Int} {W W' : World} (h : InvO B O ba oa ca bz oz cz al zl x y W) (hb : Below W.heap.size W W') : InvO B O ba oa ca bz oz cz al zl x y W' := by
  obtain ⟨⟨h1, h2, h3, h4⟩, ⟨h5, h6⟩, h7, h8, h9, h10, h11⟩ := h
  have s1 := World.block_lt_of_cell? W ⟨O, 0, none⟩ h1
  have s2 := World.block_lt_of_cell? W ⟨B + 1 + 1, 0, none⟩ h8
  exact ⟨⟨cell_later hb h1, cell_later hb h2, (hb.frozen (p := ⟨O, 0, none⟩) s1).trans h3, (hb.frozen (p := ⟨O, 1, none⟩) s1).trans h4⟩, ⟨cell_later hb h5, cell_later hb h6⟩, h7.later hb, cell_later hb h8, cell_later hb h9, (hb.frozen (p := ⟨B + 1 + 1, 0, none⟩) s2).trans h10, (hb.frozen (p := ⟨B + 1 + 1, 1, none⟩) s2).trans h11⟩
theorem InvO.set {B O ba oa ca bz oz cz : Nat} {al zl : List Int} {x y : Int} {W : World} (h : InvO B O ba oa ca bz oz cz al zl x y W) (x' y' : Int) (e1 : O ≠ B) (e2 : O ≠ B + 1 + 1) (e3 : O ≠ ba) (e4 : O ≠ bz) :
    InvO B O ba oa ca bz oz cz al zl x' y' ((W.setCell ⟨O, 0, none⟩ (.int .i64 x')).setCell ⟨O, 1, none⟩ (.int .i64 y')) := by
  obtain ⟨⟨h1, h2, h3, h4⟩, ⟨h5, h6⟩, h7, h8, h9, h10, h11⟩ := h
  exact ⟨⟨by simp [go_sem, h1], by simp [go_sem, h2], by simp [go_sem, h3], by simp [go_sem, h4]⟩, ⟨cell_else (cell_else h5 e1) e1, cell_else (cell_else h6 e1) e1⟩,
    ⟨h7.may, fun k hk => cell_else (cell_else (h7.at' k hk) e3) e3, fun k hk => cell_else (cell_else (h7.is' k hk) e4) e4⟩, cell_else (cell_else h8 e2) e2, cell_else (cell_else h9 e2) e2, by simp [go_sem, h10], by simp [go_sem, h11]⟩
theorem keeps_below {W W' : World} (h : Below W.heap.size W W') : KeepsOthers W W' := ⟨h.size, fun k _ hk _ => (h.block k (Array.getElem?_eq_some_iff.1 hk).1).trans hk⟩

set_option maxRecDepth 100000 in
set_option maxHeartbeats 2000000 in
theorem over_ok (ba oa ca bz oz cz : Nat) (al zl : List Int) (lo hi : Int) (w : World) (hca : al.length ≤ ca) (h : Line w ba oa bz oz al zl) (hs : mayB lo hi = true) :
    Calls Try.prog 16 #[.agg #[.slice (some ⟨ba, oa, none⟩) al.length ca, .slice (some ⟨bz, oz, none⟩) zl.length cz], .agg #[.int .i64 lo, .int .i64 hi]] w
      fun r w' => r = .returned (.tuple #[.agg #[.int .i64 (overLo al zl lo hi al.length), .int .i64 (overHi al zl lo hi al.length)], .nilIface]) ∧ Below w.heap.size w w' := by
  have ST : (((w.alloc (.cells #[.slice (some ⟨ba, oa, none⟩) al.length ca, .slice (some ⟨bz, oz, none⟩) zl.length cz] 24)).alloc (.cells #[.int .i64 lo, .int .i64 hi] 37)).alloc (.cells #[.int .i64 0, .int .i64 0] 37)).cell? ⟨w.heap.size, 0, none⟩ = some (.slice (some ⟨ba, oa, none⟩) al.length ca) := by simp [go_sem]
  clear ST
  have h3 : Below w.heap.size w (((w.alloc (.cells #[.slice (some ⟨ba, oa, none⟩) al.length ca, .slice (some ⟨bz, oz, none⟩) zl.length cz] 24)).alloc (.cells #[.int .i64 lo, .int .i64 hi] 37)).alloc (.cells #[.int .i64 0, .int .i64 0] 37)) :=
    (((Below.refl _ _).alloc (Nat.le_refl _) _).alloc (by simp) _).alloc (by simp; omega) _
  have S0 : ∀ u, u = (((w.alloc (.cells #[.slice (some ⟨ba, oa, none⟩) al.length ca, .slice (some ⟨bz, oz, none⟩) zl.length cz] 24)).alloc (.cells #[.int .i64 lo, .int .i64 hi] 37)).alloc (.cells #[.int .i64 0, .int .i64 0] 37)) →
      (u.cell? ⟨w.heap.size, 0, none⟩ = some (.slice (some ⟨ba, oa, none⟩) al.length ca) ∧ u.cell? ⟨w.heap.size, 1, none⟩ = some (.slice (some ⟨bz, oz, none⟩) zl.length cz) ∧ u.cell? ⟨w.heap.size + 1, 0, none⟩ = some (.int .i64 lo) ∧ u.cell? ⟨w.heap.size + 1, 1, none⟩ = some (.int .i64 hi)) ∧ RstO w w.heap.size ba oa bz oz al zl u := by
    rintro u rfl
    exact ⟨⟨by simp [go_sem], by simp [go_sem], by simp [go_sem], by simp [go_sem]⟩, h.later h3, ⟨by simp [go_sem], by simp [go_sem], by simp [go_sem], by simp [go_sem], by simp [go_sem]⟩, h3⟩
  have kC : ∀ u, (u.cell? ⟨w.heap.size, 0, none⟩ = some (.slice (some ⟨ba, oa, none⟩) al.length ca) ∧ u.cell? ⟨w.heap.size, 1, none⟩ = some (.slice (some ⟨bz, oz, none⟩) zl.length cz) ∧ u.cell? ⟨w.heap.size + 1, 0, none⟩ = some (.int .i64 lo) ∧ u.cell? ⟨w.heap.size + 1, 1, none⟩ = some (.int .i64 hi)) ∧ RstO w w.heap.size ba oa bz oz al zl u →
      Calls Try.prog 11 #[.agg #[.slice (some ⟨ba, oa, none⟩) al.length ca, .slice (some ⟨bz, oz, none⟩) zl.length cz]] u fun r u' => r = .returned .nilIface ∧ (u'.cell? ⟨w.heap.size, 0, none⟩ = some (.slice (some ⟨ba, oa, none⟩) al.length ca) ∧ u'.cell? ⟨w.heap.size, 1, none⟩ = some (.slice (some ⟨bz, oz, none⟩) zl.length cz) ∧ u'.cell? ⟨w.heap.size + 1, 0, none⟩ = some (.int .i64 lo) ∧ u'.cell? ⟨w.heap.size + 1, 1, none⟩ = some (.int .i64 hi)) ∧ RstO w w.heap.size ba oa bz oz al zl u' :=
    fun u hu => (check_ok ba oa ca bz oz cz al zl u hca hu.2.1).mono fun _ _ ⟨e, hb⟩ => ⟨e, keepO hb hu⟩
  have kS : ∀ u, (u.cell? ⟨w.heap.size, 0, none⟩ = some (.slice (some ⟨ba, oa, none⟩) al.length ca) ∧ u.cell? ⟨w.heap.size, 1, none⟩ = some (.slice (some ⟨bz, oz, none⟩) zl.length cz) ∧ u.cell? ⟨w.heap.size + 1, 0, none⟩ = some (.int .i64 lo) ∧ u.cell? ⟨w.heap.size + 1, 1, none⟩ = some (.int .i64 hi)) ∧ RstO w w.heap.size ba oa bz oz al zl u →
      Calls Try.prog 34 #[.agg #[.int .i64 lo, .int .i64 hi]] u fun r u' => r = .returned .nilIface ∧ (u'.cell? ⟨w.heap.size, 0, none⟩ = some (.slice (some ⟨ba, oa, none⟩) al.length ca) ∧ u'.cell? ⟨w.heap.size, 1, none⟩ = some (.slice (some ⟨bz, oz, none⟩) zl.length cz) ∧ u'.cell? ⟨w.heap.size + 1, 0, none⟩ = some (.int .i64 lo) ∧ u'.cell? ⟨w.heap.size + 1, 1, none⟩ = some (.int .i64 hi)) ∧ RstO w w.heap.size ba oa bz oz al zl u' :=
    fun u hu => (scheck_yes lo hi hs u).mono fun _ _ ⟨e, hb⟩ => ⟨e, keepO hb hu⟩
  have kA : ∀ u (x : Int), (u.cell? ⟨w.heap.size, 0, none⟩ = some (.slice (some ⟨ba, oa, none⟩) al.length ca) ∧ u.cell? ⟨w.heap.size, 1, none⟩ = some (.slice (some ⟨bz, oz, none⟩) zl.length cz) ∧ u.cell? ⟨w.heap.size + 1, 0, none⟩ = some (.int .i64 lo) ∧ u.cell? ⟨w.heap.size + 1, 1, none⟩ = some (.int .i64 hi)) ∧ RstO w w.heap.size ba oa bz oz al zl u →
      Calls Try.prog 28 #[.agg #[.slice (some ⟨ba, oa, none⟩) al.length ca, .slice (some ⟨bz, oz, none⟩) zl.length cz], .int .i64 x] u fun r u' => r = .returned (.int .i64 (lookI al zl x)) ∧ Below u.heap.size u u' :=
    fun u x hu => along_ok ba oa ca bz oz cz al zl x u hu.2.1
  have BL : Hid (ba < w.heap.size ∧ bz < w.heap.size) := ⟨World.block_lt_of_cell? w ⟨ba, oa + 0, none⟩ (h.at' 0 (by have := h.len; omega)), World.block_lt_of_cell? w ⟨bz, oz + 0, none⟩ (h.is' 0 (by have := h.len; omega))⟩
  clear h3 h hs
  refine (callsIn_wide (n := 8)).1 ?_
  refine callsIn_of_wp_marks Try.func16 rfl trivial ?_ rfl
  simp only [Try.ntmps16, List.size_toArray, List.length_cons, List.length_nil, Nat.reduceAdd, Nat.reduceSub, Array.replicate_succ, Array.replicate_zero, List.push_toArray, List.append_toArray, List.nil_append, List.cons_append]
  refine wpIn_wide.2 ?_
  go_upto_region 7 with (first
    | (go_at_call 11; refine (kC _ (S0 _ rfl)).mono ?_; rintro e w1 ⟨rfl, c1, R1⟩; obtain ⟨c11, c12, c13, c14⟩ := id c1)
    | (go_at_call 34; refine (kS _ ⟨c1, R1⟩).mono ?_; rintro e w2 ⟨rfl, c2, R2⟩; obtain ⟨c21, c22, c23, c24⟩ := id c2))
  have Z : Hid (∀ u, Below w2.heap.size w2 u → (u.cell? ⟨w.heap.size, 0, none⟩ = some (.slice (some ⟨ba, oa, none⟩) al.length ca) ∧ u.cell? ⟨w.heap.size, 1, none⟩ = some (.slice (some ⟨bz, oz, none⟩) zl.length cz) ∧ u.cell? ⟨w.heap.size + 1, 0, none⟩ = some (.int .i64 lo) ∧ u.cell? ⟨w.heap.size + 1, 1, none⟩ = some (.int .i64 hi)) ∧ RstO w w.heap.size ba oa bz oz al zl u) := fun u hb => keepO hb ⟨c2, R2⟩
  clear c1 R1 c2 R2 c11 c12 c13 c14 c21 c22 c23 c24 kC kS S0
  generalize hp : lookI al zl lo = p
  generalize hq : lookI al zl hi = q
  have HA := fun u x hu => kA u x hu
  have ka1 := fun u hu => hp ▸ kA u lo hu
  have ka2 := fun u hu => hq ▸ kA u hi hu
  go_region_held3 (fun u => (u.cell? ⟨w.heap.size, 0, none⟩ = some (.slice (some ⟨ba, oa, none⟩) al.length ca) ∧ u.cell? ⟨w.heap.size, 1, none⟩ = some (.slice (some ⟨bz, oz, none⟩) zl.length cz) ∧ u.cell? ⟨w.heap.size + 1, 0, none⟩ = some (.int .i64 lo) ∧ u.cell? ⟨w.heap.size + 1, 1, none⟩ = some (.int .i64 hi)) ∧ RstO w w.heap.size ba oa bz oz al zl u)
    (first
      | (with_reducible assumption)
      | (with_reducible apply keepO; with_reducible assumption; with_reducible assumption)
      | (refine Z.out _ ?_; exact (Below.refl _ _).drew))
    (first
      | (go_at_call_of 28 (Value.int IntKind.i64 lo); refine (ka1 _ ?_).mono ?_; (with_reducible assumption); rintro e w' ⟨rfl, hb⟩)
      | (go_at_call_of 28 (Value.int IntKind.i64 hi); refine (ka2 _ ?_).mono ?_; (with_reducible assumption); rintro e w' ⟨rfl, hb⟩))
  rename_i hH
  obtain ⟨⟨d1, d2, d3, d4⟩, R3⟩ := hH
  have Z3 : Hid (Line w' ba oa bz oz al zl ∧ Lies w' (w.heap.size + 1 + 1) 0 0 ∧ Below w.heap.size w w') := R3
  clear R3 ka1 ka2 Z HA kA
  rename World => w3
  have m2 := fun ts t p q w => run_min2 ts t p q w
  have x2 := fun ts t p q w => run_max2 ts t p q w
  go_upto_region 9 with fail
  obtain ⟨w5, hw5⟩ : ∃ w5, w3.alloc (.cells #[.int .i64 (mnO p q), .int .i64 (mxO p q)] 37) = w5 := ⟨_, rfl⟩
  have b5 : Below w3.heap.size w3 w5 := by rw [← hw5]; exact below_alloc _ _
  have o5 : Lies w5 w3.heap.size (mnO p q) (mxO p q) := by rw [← hw5]; exact ⟨by simp [go_sem], by simp [go_sem], by simp [go_sem], by simp [go_sem], by simp [go_sem]⟩
  have z5 : w5.heap.size = w3.heap.size + 1 := by rw [← hw5]; simp
  rw [hw5]
  clear hw5
  have d1 := cell_later b5 d1
  have d2 := cell_later b5 d2
  have d3 := cell_later b5 d3
  have d4 := cell_later b5 d4
  have Z5 : Hid (Line w5 ba oa bz oz al zl ∧ Lies w5 (w.heap.size + 1 + 1) 0 0 ∧ Below w.heap.size w w5) := ⟨Z3.out.1.later b5, Z3.out.2.1.later b5, below_up Z3.out.2.2 b5⟩
  have O5 : Hid (Lies w5 w3.heap.size (mnO p q) (mxO p q) ∧ w5.heap.size = w3.heap.size + 1 ∧ w.heap.size + 1 + 1 < w3.heap.size) := ⟨o5, z5, Z3.out.2.1.2.2.2.2⟩
  clear o5 z5 b5 Z3
  go_wp2_with (go_at_call 35; refine (turns_any _ _ _ _ _ _ _ _ _).mono ?_; rintro e w4 ⟨rfl, rfl⟩)
  have L5 := Z5.out.1
  have lens := L5.len
  have n1 : ba < w.heap.size := BL.out.1
  have n2 : bz < w.heap.size := BL.out.2
  have hO := O5.out
  obtain ⟨w6, hw6⟩ : ∃ w6, (w5.alloc (.cells #[.slice (some ⟨ba, oa, none⟩) al.length ca, .slice (some ⟨bz, oz, none⟩) zl.length cz] 24)).alloc (.cells #[.int .i64 lo, .int .i64 hi] 37) = w6 := ⟨_, rfl⟩
  have z6 : w6.heap.size = w5.heap.size + 1 + 1 := by rw [← hw6]; simp
  have b6 : Below w5.heap.size w5 w6 := by rw [← hw6]; exact (below_alloc _ _).alloc (by simp) _
  have q1 : w6.cell? ⟨w5.heap.size, 0, none⟩ = some (.slice (some ⟨ba, oa, none⟩) al.length ca) := by rw [← hw6]; simp [go_sem]
  have q2 : w6.cell? ⟨w5.heap.size + 1, 0, none⟩ = some (.int .i64 lo) := by rw [← hw6]; simp [go_sem]
  have q3 : w6.cell? ⟨w5.heap.size + 1, 1, none⟩ = some (.int .i64 hi) := by rw [← hw6]; simp [go_sem]
  rw [hw6]
  clear hw6
  have i6 : InvO w.heap.size w3.heap.size ba oa ca bz oz cz al zl (mnO p q) (mxO p q) w6 := InvO.later (W := w5) ⟨⟨hO.1.1, hO.1.2.1, hO.1.2.2.1, hO.1.2.2.2.1⟩, ⟨d1, d2⟩, L5, ⟨Z5.out.2.1.1, Z5.out.2.1.2.1, Z5.out.2.1.2.2.1, Z5.out.2.1.2.2.2.1⟩⟩ b6
  have B6 : Below w.heap.size w w6 := below_up Z5.out.2.2 b6
  have L6 := L5.later b6
  clear d1 d2 d3 d4 Z5 O5
  have HX : Hid (w3.heap.size ≠ w.heap.size ∧ w3.heap.size ≠ w.heap.size + 1 + 1 ∧ w3.heap.size ≠ ba ∧ w3.heap.size ≠ bz ∧ w.heap.size ≤ w3.heap.size ∧ w3.heap.size < w6.heap.size ∧ al.length ≤ al.length) := ⟨by omega, by omega, by omega, by omega, by omega, by omega, Nat.le_refl _⟩
  refine (wpIn_wide (n := 8)).1 ?_
  refine wpIn_rangeFunc_ownF (F := Fence.wide) (n := 8) rfl (by omega) (gf := 45) (lb := #[.pointer (some ⟨w5.heap.size, 0, none⟩), .pointer (some ⟨w5.heap.size + 1, 0, none⟩)]) rfl trivial (enters_of Try.func45 (by kernel_rfl) rfl)
    (turns_stops 7 (by omega) w5.heap.size (w5.heap.size + 1) w3.heap.size w6.heap.size ba oa ca al lo hi (by omega) (by omega) (by omega) (by omega) (by omega) w6 q1 q2 q3 L6.at')
    (fun h k => h.trans k) (fun W l o o' hl hW ho _ => ⟨by simp, fun k hk _ _ => World.putObj_heap_other (by omega)⟩) (Below.refl _ _) (fun _ => rfl)
    (fun pre W => InvO w.heap.size w3.heap.size ba oa ca bz oz cz al zl (lowF al zl (mnO p q) pre) (highF al zl (mxO p q) pre) W ∧ Below w.heap.size w W)
    (fun _ _ _ => False)
    (OwnFrom.and (Own.from (invO_own w.heap.size w3.heap.size ba oa ca bz oz cz al zl _ _) _) (ownFrom_below (Nat.le_refl _) (by omega)))
    (fun _ _ _ _ _ hs _ _ => hs)
    ⟨i6, B6⟩
    (fun x => { tmps := #[Value.agg #[.slice (some ⟨ba, oa, none⟩) al.length ca, .slice (some ⟨bz, oz, none⟩) zl.length cz], Value.agg #[.int .i64 lo, .int .i64 hi], .pointer (some ⟨w.heap.size, 0, none⟩), .pointer (some ⟨w.heap.size + 1, 0, none⟩), .pointer (some ⟨w.heap.size + 1 + 1, 0, none⟩), .nilIface, .nilIface, .nilIface, .int .i64 p, .int .i64 q, .pointer (some ⟨w3.heap.size, 0, none⟩), .int .i64 x, undef, Value.agg #[.slice (some ⟨ba, oa, none⟩) al.length ca, .slice (some ⟨bz, oz, none⟩) zl.length cz], .nilIface, .nilIface, .bool false, undef, undef, Value.agg #[.int .i64 lo, .int .i64 hi], .nilIface, .nilIface, .bool false, undef, undef, Value.agg #[.slice (some ⟨ba, oa, none⟩) al.length ca, .slice (some ⟨bz, oz, none⟩) zl.length cz], .pointer (some ⟨w.heap.size + 1, 0, none⟩), .int .i64 lo, .int .i64 p, Value.agg #[.slice (some ⟨ba, oa, none⟩) al.length ca, .slice (some ⟨bz, oz, none⟩) zl.length cz], .pointer (some ⟨w.heap.size + 1, 1, none⟩), .int .i64 hi, .int .i64 q, .int .i64 p, .int .i64 q, .int .i64 (mnO p q), .int .i64 p, .int .i64 q, .int .i64 (mxO p q), .agg #[.int .i64 (mnO p q), .int .i64 (mxO p q)], Value.agg #[.slice (some ⟨ba, oa, none⟩) al.length ca, .slice (some ⟨bz, oz, none⟩) zl.length cz], Value.agg #[.int .i64 lo, .int .i64 hi], .func (.func 45) #[] #[.pointer (some ⟨w5.heap.size, 0, none⟩), .pointer (some ⟨w5.heap.size + 1, 0, none⟩)], .int .i64 x, undef, undef, undef, undef, undef, undef, undef, undef, undef, undef, undef, undef, undef, undef], defers := [] }) ?assign ?body ?done ?stop
  case assign =>
    clear lens hO z6
    intro l x W K hK
    gi_wp2
    exact hK
  case body =>
    clear lens hO z6
    rintro l pre x W ⟨inv, hB⟩ _
    have ka := along_ok ba oa ca bz oz cz al zl x W inv.2.2.1
    have inv1 := inv.2.1.1
    have inv2 := inv.2.1.2
    have HI : Hid (InvO w.heap.size w3.heap.size ba oa ca bz oz cz al zl (lowF al zl (mnO p q) pre) (highF al zl (mxO p q) pre) W) := inv
    have hM : w6.heap.size ≤ W.heap.size ∨ True := .inr trivial
    clear inv hM i6 B6 L6 L5 b6 q1 q2 q3
    gi_wp2
    refine ⟨trivial, (CallsIn.inRound l (callsIn_wide.2 ka)).mono ?_⟩
    rintro e W1 ⟨rfl, hb⟩
    have HJ : Hid (InvO w.heap.size w3.heap.size ba oa ca bz oz cz al zl (lowF al zl (mnO p q) pre) (highF al zl (mxO p q) pre) W1) := HI.out.later hb
    have j1 := HJ.out.1.1
    have j2 := HJ.out.1.2.1
    have j3 := HJ.out.1.2.2.1
    have j4 := HJ.out.1.2.2.2
    have e1 := lowF_snoc al zl (mnO p q) pre x
    have e2 := highF_snoc al zl (mxO p q) pre x
    have HE : Hid (lowF al zl (mnO p q) (pre ++ [x]) = mnO (lowF al zl (mnO p q) pre) (lookI al zl x) ∧ highF al zl (mxO p q) (pre ++ [x]) = mxO (highF al zl (mxO p q) pre) (lookI al zl x)) := ⟨e1, e2⟩
    clear e1 e2 ka inv1 inv2
    generalize lowF al zl (mnO p q) pre = lo1 at *
    generalize highF al zl (mxO p q) pre = hi1 at *
    gi_wp2
    refine ⟨((keeps_below hb).trans (KeepsOthers.setCell _ _ _)).trans (KeepsOthers.setCell _ _ _), ((KpO.of_below hb).set _).set _, ?_, ((below_up hB hb).setCell (p := ⟨w3.heap.size, 0, none⟩) HX.out.2.2.2.2.1 _).setCell (p := ⟨w3.heap.size, 1, none⟩) HX.out.2.2.2.2.1 _⟩
    rw [HE.out.1, HE.out.2]
    exact HJ.out.set _ _ HX.out.1 HX.out.2.1 HX.out.2.2.1 HX.out.2.2.2.1
  case done =>
    clear lens hO z6
    rintro D ys W hD rfl ⟨inv, hB⟩ hK
    have HE : Hid (lowF al zl (mnO p q) (turnsL al lo hi al.length) = overLo al zl lo hi al.length ∧ highF al zl (mxO p q) (turnsL al lo hi al.length) = overHi al zl lo hi al.length) := by
      subst hp hq
      have pl := (line_of L5.may).2.1
      exact ⟨low_over pl lo hi _ (Nat.le_refl _), high_over pl lo hi _ (Nat.le_refl _)⟩
    obtain ⟨⟨j1, j2, j3, j4⟩, _, _, j5, j6, j7, j8⟩ := inv
    rw [HE.out.1] at j1
    rw [HE.out.2] at j2
    clear HE i6 B6 L6 L5 b6 q1 q2 q3 hp hq
    generalize g1 : overLo al zl lo hi al.length = lo1 at j1
    generalize g2 : overHi al zl lo hi al.length = hi1 at j2
    have HG : Hid (overLo al zl lo hi al.length = lo1 ∧ overHi al zl lo hi al.length = hi1) := ⟨g1, g2⟩
    clear g1 g2
    go_wp2_with fail
    have hK' := (KeepsOthers.setCell (W.setCell ⟨w.heap.size + 1 + 1, 0, none⟩ (.int .i64 lo1)) ⟨w.heap.size + 1 + 1, 1, none⟩ (.int .i64 hi1)).same D _ ((KeepsOthers.setCell W ⟨w.heap.size + 1 + 1, 0, none⟩ (.int .i64 lo1)).same D _ hK rfl) rfl
    have r1 : ((W.setCell ⟨w.heap.size + 1 + 1, 0, none⟩ (.int .i64 lo1)).setCell ⟨w.heap.size + 1 + 1, 1, none⟩ (.int .i64 hi1)).cell? ⟨w.heap.size + 1 + 1, 0, none⟩ = some (.int .i64 lo1) := by simp [go_sem, j5]
    have r2 : ((W.setCell ⟨w.heap.size + 1 + 1, 0, none⟩ (.int .i64 lo1)).setCell ⟨w.heap.size + 1 + 1, 1, none⟩ (.int .i64 hi1)).cell? ⟨w.heap.size + 1 + 1, 1, none⟩ = some (.int .i64 hi1) := by simp [go_sem, j6]
    refine ⟨by simp, .inl ⟨_, _, rfl, run_takeDeferred hK', ?_⟩⟩
    have s1 := cell_kept r1 (grownBy_putObj' _ D (.deferred none)) (fun r e => by cases e; exact ⟨_, hK', rfl⟩)
    have s2 := cell_kept r2 (grownBy_putObj' _ D (.deferred none)) (fun r e => by cases e; exact ⟨_, hK', rfl⟩)
    refine ⟨.tuple #[.agg #[.int .i64 lo1, .int .i64 hi1], .nilIface], ?_, by rw [HG.out.1, HG.out.2], ((hB.setCell (p := ⟨w.heap.size + 1 + 1, 0, none⟩) (by simp; omega) _).setCell (p := ⟨w.heap.size + 1 + 1, 1, none⟩) (by simp; omega) _).trans (belowK_b (w := w) (Nat.le_refl _) _ D _ _ (by have := HX.out; omega) hK' rfl rfl)⟩
    simp [results, Try.results16, go_sem, s1, s2]
  case stop =>
    rintro D c pre W _ _ h _
    exact h.elim

end Go.Proofs.Ytngedehfaidphaa
