/-
  The law TopFix walked: sums and products of numbers of two spans are in the spans that are told, whose ends are such ones.
-/
import Derived.Test.YtmdpoeelddchcaaTopA
namespace Go.Proofs.Ytmdpoeelddchcaa
open Go.RowKit Plain

set_option maxRecDepth 100000 in
theorem topFix_no1 (a b c d x y : Int) (h1 : mayB a b = false) (w : World) :
    Calls Try.prog 7 #[.agg #[.int .i64 a, .int .i64 b], .agg #[.int .i64 c, .int .i64 d], .int .i64 x, .int .i64 y] w fun e w' => e = .returned (.bool true) ∧ Below w.heap.size w w' := by
  go_enter Try.func7, Try.ntmps7
  go_wp2_with (first
    | (go_at_call 28; refine (fixed_any _).mono ?_; rintro e w' ⟨rfl, rfl⟩)
    | (go_at_call 22; refine (spanMay_no_ex _ _ h1 _).mono ?_; rintro e w' ⟨rfl, rfl⟩))
  go_ret
  exact ⟨rfl, by repeat (first | exact Below.refl _ _ | apply Below.drew | (refine Below.alloc ?_ (by simp <;> omega) _))⟩

set_option maxRecDepth 100000 in
theorem topFix_no2 (a b c d x y : Int) (h1 : mayB a b = true) (h2 : mayB c d = false) (w : World) :
    Calls Try.prog 7 #[.agg #[.int .i64 a, .int .i64 b], .agg #[.int .i64 c, .int .i64 d], .int .i64 x, .int .i64 y] w fun e w' => e = .returned (.bool true) ∧ Below w.heap.size w w' := by
  go_enter Try.func7, Try.ntmps7
  go_wp2_with (first
    | (go_at_call 28; refine (fixed_any _).mono ?_; rintro e w' ⟨rfl, rfl⟩)
    | (go_at_call_of 22 (a); refine (spanMay_yes_ex _ _ h1 _).mono ?_; rintro e w' ⟨rfl, rfl⟩)
    | (go_at_call_of 22 (c); refine (spanMay_no_ex _ _ h2 _).mono ?_; rintro e w' ⟨rfl, rfl⟩))
  go_ret
  exact ⟨rfl, by repeat (first | exact Below.refl _ _ | apply Below.drew | (refine Below.alloc ?_ (by simp <;> omega) _))⟩

theorem fixed_b (w : World) : Calls Try.prog 28 #[] w fun e w' => e = .returned (.bool true) ∧ Below w.heap.size w w' := by
  refine (fixed_any w).mono ?_
  rintro e w' ⟨rfl, rfl⟩
  exact ⟨rfl, (Below.refl _ _).drew⟩

/-- Is one of the first k the number? -/
def anyB (p : Int) (l : List Int) (k : Nat) : Bool := (l.take k).any (· == p)
theorem anyB_step (p : Int) (l : List Int) (k : Nat) (h : k < l.length) : anyB p l (k + 1) = (anyB p l k || l.getD k 0 == p) := by
  unfold anyB; rw [List.take_succ_eq_append_getElem h, List.any_append, List.getD_eq_getElem?_getD, List.getElem?_eq_getElem h]; simp
theorem made_at {w : World} {n : Nat} {m0 m1 m2 m3 : Int} (h : Made w n m0 m1 m2 m3) (k : Nat) (hk : k < 4) : w.cell? ⟨n, k, none⟩ = some (.int .i64 ([m0, m1, m2, m3].getD k 0)) := by
  obtain ⟨h0, h1, h2, h3⟩ := h
  match k, hk with
  | 0, _ => exact h0
  | 1, _ => exact h1
  | 2, _ => exact h2
  | 3, _ => exact h3

theorem any_of_or {p m0 m1 m2 m3 : Int} (h : p = m0 ∨ p = m1 ∨ p = m2 ∨ p = m3) : anyB p [m0, m1, m2, m3] 4 = true := by
  rcases h with h | h | h | h <;> simp [anyB, h]

/-- A number picked of a span lies in it. -/
theorem pick_in (x : Int) {lo hi : Int} (h : lo ≤ hi) : lo ≤ lo + x % (hi - lo + 1) ∧ lo + x % (hi - lo + 1) ≤ hi := by
  have h1 := Int.emod_nonneg x (show hi - lo + 1 ≠ 0 by omega)
  have h2 := Int.emod_lt_of_pos x (show 0 < hi - lo + 1 by omega)
  omega

theorem pick_w (x hi lo : Int) (h : lo ≤ hi) (h1 : -2147483647 ≤ lo) (h2 : hi ≤ 2147483647) (w : World) :
    Calls Try.prog 29 #[.int .i64 x, .int .i64 (IntKind.i64.wrap (IntKind.i64.wrap (hi - lo) + 1))] w fun e w' => e = .returned (.int .i64 (x % (hi - lo + 1))) ∧ w' = w := by
  rw [wrap_id (x := hi - lo) (by omega) (by omega), wrap_id (x := hi - lo + 1) (by omega) (by omega)]
  exact pick_any _ _ (by omega) (by omega) _

set_option maxRecDepth 100000 in
set_option maxHeartbeats 8000000 in
theorem topFix_ok (a b c d x y : Int) (h1 : mayB a b = true) (h2 : mayB c d = true) (w : World) :
    Calls Try.prog 7 #[.agg #[.int .i64 a, .int .i64 b], .agg #[.int .i64 c, .int .i64 d], .int .i64 x, .int .i64 y] w fun e w' => e = .returned (.bool true) ∧ Below w.heap.size w w' := by
  have i1 := (may_true h1).2.1
  have i2 := (may_true h1).2.2
  have i3 := (may_true h1).1
  have j1 := (may_true h2).2.1
  have j2 := (may_true h2).2.2
  have j3 := (may_true h2).1
  have PX := pick_in x i3
  have PY := pick_in y j3
  go_enter Try.func7, Try.ntmps7
  go_wp2_with fail
  refine (fixed_b _).mono ?_
  rintro e w0 ⟨rfl, hb⟩
  have la : Lies w0 w.heap.size a b := by
    refine Lies.later ?_ hb
    exact ⟨by simp [go_sem], by simp [go_sem], by simp [go_sem], by simp [go_sem], by simp [go_sem]⟩
  have lb : Lies w0 (w.heap.size + 1) c d := by
    refine Lies.later ?_ hb
    exact ⟨by simp [go_sem], by simp [go_sem], by simp [go_sem], by simp [go_sem], by simp [go_sem]⟩
  have hB00 : Below w.heap.size w w0 := by
    refine Below.trans ?_ (hb.mono (by simp [go_sem]; omega))
    exact ((Below.refl _ _).alloc (Nat.le_refl _) _).alloc (by simp) _
  clear hb
  have LL0 : Hid (Lies w0 w.heap.size a b ∧ Lies w0 (w.heap.size + 1) c d) := ⟨la, lb⟩
  obtain ⟨la1, la2, la3, la4, la5⟩ := la
  obtain ⟨lb1, lb2, lb3, lb4, lb5⟩ := lb
  go_upto_region 3 with (first
    | (go_at_call_of 22 (a); refine (spanMay_yes_ex _ _ h1 _).mono ?_; rintro e w' ⟨rfl, rfl⟩)
    | (go_at_call_of 22 (c); refine (spanMay_yes_ex _ _ h2 _).mono ?_; rintro e w' ⟨rfl, rfl⟩))
  go_cut [2, 3] (fun s t w' => ∃ u v : Int, s = .int .i64 u ∧ t = .int .i64 v ∧ a ≤ u ∧ u ≤ b ∧ c ≤ v ∧ v ≤ d ∧ Lies w' w.heap.size a b ∧ Lies w' (w.heap.size + 1) c d ∧ Below w.heap.size w w')
  case first =>
    go_quiet ((go_at_call 29; exact Calls.quiet_of_same (pick_any _ _ (by omega) (by omega) _)))
    go_wp2_with fail
    go_meet
    case rel =>
      have e2 : Below w0.heap.size w0 ((w0.alloc (.cells #[.int .i64 a, .int .i64 b] 37)).alloc (.cells #[.int .i64 c, .int .i64 d] 37)) := ((Below.refl _ _).alloc (Nat.le_refl _) _).alloc (by simp) _
      exact ⟨_, _, rfl, rfl, PX.1, PX.2, PY.1, PY.2, LL0.out.1.later (below_drewN e2 _), LL0.out.2.later (below_drewN e2 _), below_drewN (hB00.trans (e2.mono hB00.size)) _⟩
  case rest =>
    clear PX PY LL0 hB00 la1 la2 la3 la4 la5 lb1 lb2 lb3 lb4 lb5
    obtain ⟨u, v, rfl, rfl, u1, u2, v1, v2, la, lb, hB0⟩ := hcut
    have LA0 : Hid (Lies wc w.heap.size a b ∧ Lies wc (w.heap.size + 1) c d) := ⟨la, lb⟩
    obtain ⟨la1, la2, la3, la4, la5⟩ := la
    obtain ⟨lb1, lb2, lb3, lb4, lb5⟩ := lb
    go_wp2_with fail
    refine (spanAdd_ok a b c d h1 h2 _).mono ?_
    rintro e w1 ⟨rfl, hb⟩
    clear la1 la2 la3 la4 lb1 lb2 lb3 lb4
    have LA : Hid (Lies w1 w.heap.size a b ∧ Lies w1 (w.heap.size + 1) c d) := ⟨LA0.out.1.later hb, LA0.out.2.later hb⟩
    have hB : Below w.heap.size w w1 := hB0.trans (hb.mono hB0.size)
    clear hb LA0 hB0
    obtain ⟨la1, la2, la3, la4, la6⟩ := LA.out.1
    obtain ⟨lb1, lb2, lb3, lb4, lb6⟩ := LA.out.2
    go_wp2_with fail
    refine (spanMul_yes a b c d h1 h2 _).mono ?_
    rintro e w2 ⟨rfl, hb⟩
    clear la1 la2 la3 la4 lb1 lb2 lb3 lb4
    have HP : ∃ p q, Hid (lowL (mulI a c) [mulI a c, mulI a d, mulI b c, mulI b d] 4 = p ∧ highL (mulI a c) [mulI a c, mulI a d, mulI b c, mulI b d] 4 = q) := ⟨_, _, rfl, rfl⟩
    obtain ⟨p, q, HP⟩ := HP
    rw [HP.out.1, HP.out.2]
    have ea : Below w1.heap.size w1 w2 := (below_alloc _ _).trans (hb.mono (by simp))
    have la := LA.out.1.later ea
    have lb := LA.out.2.later ea
    have ls : Lies w2 w1.heap.size (ofI (a + c)) (ofI (b + d)) := by
      refine Lies.later ?_ hb
      exact ⟨by simp [go_sem], by simp [go_sem], by simp [go_sem], by simp [go_sem], by simp [go_sem]⟩
    have hB2 : Below w.heap.size w w2 := hB.trans (ea.mono hB.size)
    clear hb ea LA hB
    have L3 : Hid (Lies w2 w.heap.size a b ∧ Lies w2 (w.heap.size + 1) c d ∧ Lies w2 w1.heap.size (ofI (a + c)) (ofI (b + d))) := ⟨la, lb, ls⟩
    have la5 := la.2.2.2.2
    have lb5 := lb.2.2.2.2
    have ls5 := ls.2.2.2.2
    clear la lb ls
    go_upto_region 6 with fail
    go_cut [86] (fun z w' => z = .bool false ∧ Lies w' w.heap.size a b ∧ Lies w' (w.heap.size + 1) c d ∧ Lies w' w1.heap.size (ofI (a + c)) (ofI (b + d)) ∧ Lies w' w2.heap.size p q ∧ Below w.heap.size w w')
    case first =>
      have si := sum_in h1 h2 u1 u2 v1 v2
      have pi := prod_in h1 h2 u1 u2 v1 v2
      rw [HP.out.1, HP.out.2] at pi
      obtain ⟨si1, si2⟩ := si
      obtain ⟨pi1, pi2⟩ := pi
      have lp : Lies (w2.alloc (.cells #[.int .i64 p, .int .i64 q] 37)) w2.heap.size p q := ⟨by simp [go_sem], by simp [go_sem], by simp [go_sem], by simp [go_sem], by simp [go_sem]⟩
      have ls := L3.out.2.2.later (below_alloc w2 (.cells #[.int .i64 p, .int .i64 q] 37))
      have CS : Hid (_ ∧ _ ∧ _ ∧ _) := ⟨ls.1, ls.2.1, lp.1, lp.2.1⟩
      clear ls
      have LP : Hid _ := lp
      clear lp
      go_region_held3 (fun w' => w'.cell? ⟨w1.heap.size, 0, none⟩ = some (.int .i64 (ofI (a + c))) ∧ w'.cell? ⟨w1.heap.size, 1, none⟩ = some (.int .i64 (ofI (b + d))) ∧ w'.cell? ⟨w2.heap.size, 0, none⟩ = some (.int .i64 p) ∧ w'.cell? ⟨w2.heap.size, 1, none⟩ = some (.int .i64 q))
        (first
          | (with_reducible assumption)
          | (refine ⟨cell_later ?_ CS.out.1, cell_later ?_ CS.out.2.1, cell_later ?_ CS.out.2.2.1, cell_later ?_ CS.out.2.2.2⟩ <;> (repeat (first | exact Below.refl _ _ | apply Below.drew | (refine Below.alloc ?_ (by simp <;> omega) _)))))
        (first
          | (go_at_call 14; refine (add_two _ _ u v _ (by simp [go_sem]) (by simp [go_sem])).mono ?_; rintro e w' ⟨rfl, rfl⟩)
          | (go_at_call_of 26 (p); refine (in_yes _ _ _ pi1 pi2 _).mono ?_; rintro e w' ⟨rfl, rfl⟩)
          | (go_at_call 26; refine (in_yes _ _ _ si1 si2 _).mono ?_; rintro e w' ⟨rfl, rfl⟩)
          | (go_at_call 16; refine (fixMul_any _ _ _).mono ?_; rintro e w' ⟨rfl, rfl⟩))
      go_wp2_with fail
      go_meet
      case rel =>
        refine ⟨rfl, L3.out.1.later ?_, L3.out.2.1.later ?_, L3.out.2.2.later ?_, Lies.later LP.out ?_, hB2.trans (Below.mono ?_ hB2.size)⟩ <;> (repeat (first | exact Below.refl _ _ | apply Below.drew | (refine Below.alloc ?_ (by simp <;> omega) _)))
    case rest =>
      clear L3 hB2
      rename World => wb
      obtain ⟨rfl, la, lb, ls, lp, hB3⟩ := hcut
      have L4 : Hid (Lies wb w.heap.size a b ∧ Lies wb (w.heap.size + 1) c d ∧ Lies wb w1.heap.size (ofI (a + c)) (ofI (b + d)) ∧ Lies wb w2.heap.size p q) := ⟨la, lb, ls, lp⟩
      obtain ⟨la1, la2, la3, la4, la6⟩ := la
      obtain ⟨lb1, lb2, lb3, lb4, lb6⟩ := lb
      clear ls lp
      go_upto_region 9 with fail
      go_cut [15] (fun z w' => z = .pointer (some ⟨wb.heap.size, 0, none⟩) ∧ Made w' wb.heap.size (mulI a c) (mulI a d) (mulI b c) (mulI b d) ∧ Lies w' w.heap.size a b ∧ Lies w' (w.heap.size + 1) c d ∧ Lies w' w1.heap.size (ofI (a + c)) (ofI (b + d)) ∧ Lies w' w2.heap.size p q ∧ Below w.heap.size w w')
      case first =>
        have CS : Hid (_ ∧ _ ∧ _ ∧ _) := ⟨la1, la2, lb1, lb2⟩
        clear la1 la2 la3 la4 lb1 lb2 lb3 lb4
        go_region_held3 (fun w' => w'.cell? ⟨w.heap.size, 0, none⟩ = some (.int .i64 a) ∧ w'.cell? ⟨w.heap.size, 1, none⟩ = some (.int .i64 b) ∧ w'.cell? ⟨w.heap.size + 1, 0, none⟩ = some (.int .i64 c) ∧ w'.cell? ⟨w.heap.size + 1, 1, none⟩ = some (.int .i64 d))
          (first
            | (with_reducible assumption)
            | (refine ⟨cell_later ?_ CS.out.1, cell_later ?_ CS.out.2.1, cell_later ?_ CS.out.2.2.1, cell_later ?_ CS.out.2.2.2⟩ <;> (repeat (first | exact Below.refl _ _ | apply Below.drew | (refine Below.alloc ?_ (by simp <;> omega) _)))))
          (first
            | (go_at_call 16; refine (fixMul_any _ _ _).mono ?_; rintro e w' ⟨rfl, rfl⟩))
        all_goals
          go_wp2_with fail
          go_meet
          refine ⟨rfl, ⟨by simp [go_sem], by simp [go_sem], by simp [go_sem], by simp [go_sem]⟩, L4.out.1.later ?_, L4.out.2.1.later ?_, L4.out.2.2.1.later ?_, L4.out.2.2.2.later ?_, hB3.trans (Below.mono ?_ hB3.size)⟩ <;> (repeat (first | exact Below.refl _ _ | apply Below.drew | (refine Below.alloc ?_ (by simp <;> omega) _)))
      case rest =>
        clear la1 la2 la3 la4 lb1 lb2 lb3 lb4 L4 hB3
        rename World => wd
        obtain ⟨rfl, lm, la, lb, ls, lp, hB4⟩ := hcut
        have LL : Hid (Made wd wb.heap.size (mulI a c) (mulI a d) (mulI b c) (mulI b d) ∧ Lies wd w.heap.size a b ∧ Lies wd (w.heap.size + 1) c d ∧ Lies wd w1.heap.size (ofI (a + c)) (ofI (b + d)) ∧ Lies wd w2.heap.size p q ∧ Below w.heap.size w wd) := ⟨lm, la, lb, ls, lp, hB4⟩
        clear lm la lb ls lp hB4
        have HM : ∃ m0 m1 m2 m3, Hid (mulI a c = m0 ∧ mulI a d = m1 ∧ mulI b c = m2 ∧ mulI b d = m3) := ⟨_, _, _, _, rfl, rfl, rfl, rfl⟩
        obtain ⟨m0, m1, m2, m3, HM⟩ := HM
        rw [HM.out.1, HM.out.2.1, HM.out.2.2.1, HM.out.2.2.2] at LL HP
        go_wp2
        go_loopw [13, 14, 16] (fun lo hi i wr => ∃ k : Nat, k ≤ 4 ∧ i = .int .i64 k ∧ lo = .bool (anyB p [m0, m1, m2, m3] k) ∧ hi = .bool (anyB q [m0, m1, m2, m3] k) ∧ Below wd.heap.size wd wr) (fun _ _ i _ => 4 - (intOf i).toNat)
        case atStart => exact ⟨0, by omega, rfl, rfl, rfl, Below.refl _ _⟩
        case round =>
          obtain ⟨k, hk, rfl, rfl, rfl, hbr⟩ := hrel
          by_cases hlt : k < 4
          · have lp := LL.out.2.2.2.2.1.later hbr
            have lz := (made_at LL.out.1 k hlt)
            have lz' := cell_later hbr lz
            clear lz
            have s1 := anyB_step p [m0, m1, m2, m3] k hlt
            have s2 := anyB_step q [m0, m1, m2, m3] k hlt
            generalize [m0, m1, m2, m3].getD k 0 = z at lz' s1 s2
            generalize anyB p [m0, m1, m2, m3] k = bl at *
            generalize anyB q [m0, m1, m2, m3] k = bh at *
            have HS : Hid (anyB p [m0, m1, m2, m3] (k + 1) = (bl || z == p) ∧ anyB q [m0, m1, m2, m3] (k + 1) = (bh || z == q)) := ⟨s1, s2⟩
            clear s1 s2
            obtain ⟨lp1, lp2, lp3, lp4, lp5⟩ := lp
            have hk0 : (0 : Int) ≤ (k : Int) := by omega
            have hk4 : (k : Int) < 4 := by omega
            cases bl
            · cases bh
              · go_wp2
                go_quiet (fail)
                go_wp2
                go_roundw
                case rel => exact ⟨k + 1, by omega, by go_num, by rw [HS.out.1]; simp, by rw [HS.out.2]; simp, below_drewN hbr _⟩
                case measure => simp [intOf]; omega
              · go_wp2
                go_quiet (fail)
                go_wp2
                go_roundw
                case rel => exact ⟨k + 1, by omega, by go_num, by rw [HS.out.1]; simp, by rw [HS.out.2]; simp, below_drewN hbr _⟩
                case measure => simp [intOf]; omega
            · cases bh
              · go_wp2
                go_quiet (fail)
                go_wp2
                go_roundw
                case rel => exact ⟨k + 1, by omega, by go_num, by rw [HS.out.1]; simp, by rw [HS.out.2]; simp, below_drewN hbr _⟩
                case measure => simp [intOf]; omega
              · go_wp2
                go_quiet (fail)
                go_wp2
                go_roundw
                case rel => exact ⟨k + 1, by omega, by go_num, by rw [HS.out.1]; simp, by rw [HS.out.2]; simp, below_drewN hbr _⟩
                case measure => simp [intOf]; omega
          · have e : k = 4 := by omega
            subst e
            have o1 := low4_or m0 m1 m2 m3
            have o2 := high4_or m0 m1 m2 m3
            rw [HP.out.1] at o1
            rw [HP.out.2] at o2
            rw [any_of_or o1, any_of_or o2]
            clear o1 o2
            have L5 : Hid (Lies wr w.heap.size a b ∧ Lies wr (w.heap.size + 1) c d ∧ Lies wr w1.heap.size (ofI (a + c)) (ofI (b + d)) ∧ Below w.heap.size w wr) := ⟨LL.out.2.1.later hbr, LL.out.2.2.1.later hbr, LL.out.2.2.2.1.later hbr, LL.out.2.2.2.2.2.trans (hbr.mono LL.out.2.2.2.2.2.size)⟩
            clear LL hbr
            have CS : Hid (_ ∧ _ ∧ _ ∧ _ ∧ _ ∧ _) := ⟨L5.out.1.1, L5.out.1.2.1, L5.out.2.1.1, L5.out.2.1.2.1, L5.out.2.2.1.1, L5.out.2.2.1.2.1⟩
            have e1 : (ofI (ofI a + ofI c) == ofI (a + c)) = true := by rw [ofI_id (x := a) (by omega) (by omega), ofI_id (x := c) (by omega) (by omega)]; simp
            have e2 : (ofI (ofI b + ofI d) == ofI (b + d)) = true := by rw [ofI_id (x := b) (by omega) (by omega), ofI_id (x := d) (by omega) (by omega)]; simp
            go_upto_region 14 with fail
            go_region_held3 (fun w' => w'.cell? ⟨w.heap.size, 0, none⟩ = some (.int .i64 a) ∧ w'.cell? ⟨w.heap.size, 1, none⟩ = some (.int .i64 b) ∧ w'.cell? ⟨w.heap.size + 1, 0, none⟩ = some (.int .i64 c) ∧ w'.cell? ⟨w.heap.size + 1, 1, none⟩ = some (.int .i64 d) ∧ w'.cell? ⟨w1.heap.size, 0, none⟩ = some (.int .i64 (ofI (a + c))) ∧ w'.cell? ⟨w1.heap.size, 1, none⟩ = some (.int .i64 (ofI (b + d))))
              (first
                | (with_reducible assumption)
                | (refine ⟨cell_later ?_ CS.out.1, cell_later ?_ CS.out.2.1, cell_later ?_ CS.out.2.2.1, cell_later ?_ CS.out.2.2.2.1, cell_later ?_ CS.out.2.2.2.2.1, cell_later ?_ CS.out.2.2.2.2.2⟩ <;> (repeat (first | exact Below.refl _ _ | apply Below.drew | (refine Below.alloc ?_ (by simp <;> omega) _)))))
              (first
                | (go_at_call_of 14 (Value.slice (some ⟨wr.heap.size, 0, none⟩) 2 2); refine (add_two _ _ a c _ (by simp [go_sem]) (by simp [go_sem])).mono ?_; rintro e w' ⟨rfl, rfl⟩)
                | (go_at_call 14; refine (add_two _ _ b d _ (by simp [go_sem]) (by simp [go_sem])).mono ?_; rintro e w' ⟨rfl, rfl⟩))
            go_wp2
            go_ret
            refine ⟨rfl, L5.out.2.2.2.trans (Below.mono ?_ L5.out.2.2.2.size)⟩
            repeat (first | exact Below.refl _ _ | apply Below.drew | (refine Below.alloc ?_ (by simp <;> omega) _))
theorem topFix_walk (a b c d x y : Int) (w : World) :
    Calls Try.prog 7 #[.agg #[.int .i64 a, .int .i64 b], .agg #[.int .i64 c, .int .i64 d], .int .i64 x, .int .i64 y] w fun e w' => e = .returned (.bool true) ∧ Below w.heap.size w w' := by
  cases h1 : mayB a b with
  | false => exact topFix_no1 a b c d x y h1 w
  | true =>
    cases h2 : mayB c d with
    | false => exact topFix_no2 a b c d x y h1 h2 w
    | true => exact topFix_ok a b c d x y h1 h2 w

end Go.Proofs.Ytmdpoeelddchcaa
