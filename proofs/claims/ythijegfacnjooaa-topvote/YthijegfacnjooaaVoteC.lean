/-
  The contract of vote.checkStep: what is asked of a step.
-/
import Derived.Test.YthijegfacnjooaaVoteB
namespace Go.Proofs.Ythijegfacnjooaa
open Go.RowKit Plain

/-- A bank, a rule and samples lie in three boxes. -/
def BankAt (w : World) (B : Nat) (b : Nat → Int) (o : Nat → Bool) (l : Int) : Prop :=
  w.cell? ⟨B, 0, none⟩ = some (.int .i64 (b 0)) ∧ w.cell? ⟨B, 1, none⟩ = some (.int .i64 (b 1)) ∧ w.cell? ⟨B, 2, none⟩ = some (.int .i64 (b 2)) ∧ w.cell? ⟨B, 3, none⟩ = some (.bool (o 0)) ∧ w.cell? ⟨B, 4, none⟩ = some (.bool (o 1)) ∧ w.cell? ⟨B, 5, none⟩ = some (.bool (o 2)) ∧ w.cell? ⟨B, 6, none⟩ = some (.int .i64 l)
def RuleAt (w : World) (B : Nat) (m c : Int) : Prop := w.cell? ⟨B, 0, none⟩ = some (.int .i64 m) ∧ w.cell? ⟨B, 1, none⟩ = some (.int .i64 c)
def SampAt (w : World) (B : Nat) (t : Nat → Bool) (s : Nat → Int) : Prop :=
  w.cell? ⟨B, 0, none⟩ = some (.bool (t 0)) ∧ w.cell? ⟨B, 1, none⟩ = some (.int .i64 (s 0)) ∧ w.cell? ⟨B, 2, none⟩ = some (.bool (t 1)) ∧ w.cell? ⟨B, 3, none⟩ = some (.int .i64 (s 1)) ∧ w.cell? ⟨B, 4, none⟩ = some (.bool (t 2)) ∧ w.cell? ⟨B, 5, none⟩ = some (.int .i64 (s 2))
theorem BankAt.later {w w' : World} {B : Nat} {b o l} (h : BankAt w B b o l) (hb : Below w.heap.size w w') : BankAt w' B b o l := by
  obtain ⟨h0, h1, h2, h3, h4, h5, h6⟩ := h
  exact ⟨cell_later hb h0, cell_later hb h1, cell_later hb h2, cell_later hb h3, cell_later hb h4, cell_later hb h5, cell_later hb h6⟩
theorem RuleAt.later {w w' : World} {B : Nat} {m c} (h : RuleAt w B m c) (hb : Below w.heap.size w w') : RuleAt w' B m c := ⟨cell_later hb h.1, cell_later hb h.2⟩
theorem SampAt.later {w w' : World} {B : Nat} {t s} (h : SampAt w B t s) (hb : Below w.heap.size w w') : SampAt w' B t s := by
  obtain ⟨h0, h1, h2, h3, h4, h5⟩ := h
  exact ⟨cell_later hb h0, cell_later hb h1, cell_later hb h2, cell_later hb h3, cell_later hb h4, cell_later hb h5⟩
def ArgsAt (w0 w : World) (B : Nat) (b : Nat → Int) (o : Nat → Bool) (l m c : Int) (t : Nat → Bool) (s : Nat → Int) : Prop :=
  BankAt w B b o l ∧ RuleAt w (B + 1) m c ∧ SampAt w (B + 1 + 1) t s ∧ Below B w0 w
theorem ArgsAt.later {w0 w w' : World} {B : Nat} {b o l m c t s} (h : ArgsAt w0 w B b o l m c t s) (hB : B ≤ w.heap.size) (hb : Below w.heap.size w w') : ArgsAt w0 w' B b o l m c t s :=
  ⟨h.1.later hb, h.2.1.later hb, h.2.2.1.later hb, h.2.2.2.trans (hb.mono hB)⟩
theorem ArgsAt.le {w0 w : World} {b o l m c t s} (h : ArgsAt w0 w w0.heap.size b o l m c t s) : w0.heap.size ≤ w.heap.size := h.2.2.2.size
theorem args_new (w : World) (b : Nat → Int) (o : Nat → Bool) (l m c : Int) (t : Nat → Bool) (s : Nat → Int) :
    ArgsAt w (((w.alloc (.cells #[.int .i64 (b 0), .int .i64 (b 1), .int .i64 (b 2), .bool (o 0), .bool (o 1), .bool (o 2), .int .i64 l] 33)).alloc (.cells #[.int .i64 m, .int .i64 c] 23)).alloc (.cells #[.bool (t 0), .int .i64 (s 0), .bool (t 1), .int .i64 (s 1), .bool (t 2), .int .i64 (s 2)] 39)) w.heap.size b o l m c t s := by
  refine ⟨?_, ?_, ?_, ?_⟩
  · refine ⟨?_, ?_, ?_, ?_, ?_, ?_, ?_⟩ <;> simp [go_sem, World.cell?_alloc_past]
  · refine ⟨?_, ?_⟩ <;> simp [go_sem, World.cell?_alloc_past]
  · refine ⟨?_, ?_, ?_, ?_, ?_, ?_⟩ <;> simp [go_sem]
  · exact vbelow_up (vbelow_up (vbelow_alloc _ _) (vbelow_alloc _ _)) (vbelow_alloc _ _)

/-- Are the samples that are there within bounds? -/
def sampU (t : Nat → Bool) (s : Nat → Int) : Nat → Bool
  | 0 => true
  | k + 1 => sampU t s k && (!t k || within (s k))
theorem sampU_false {t : Nat → Bool} {s : Nat → Int} {k : Nat} (hk : k < 3) (h1 : t k = true) (h2 : within (s k) = false) : sampU t s 3 = false := by
  rcases (show k = 0 ∨ k = 1 ∨ k = 2 by omega) with rfl | rfl | rfl <;> simp [sampU, h1, h2]
theorem sampU_true {t : Nat → Bool} {s : Nat → Int} (h : sampU t s 3 = true) : ∀ k, k < 3 → t k = true → -1000000 ≤ s k ∧ s k ≤ 1000000 := by
  intro k hk ht
  simp only [sampU, Bool.true_and, Bool.and_eq_true, Bool.or_eq_true, Bool.not_eq_true'] at h
  rcases (show k = 0 ∨ k = 1 ∨ k = 2 by omega) with rfl | rfl | rfl
  · exact within_true (h.1.1.resolve_left (by simp [ht]))
  · exact within_true (h.1.2.resolve_left (by simp [ht]))
  · exact within_true (h.2.resolve_left (by simp [ht]))
def stepE (b : Nat → Int) (l m c : Int) (t : Nat → Bool) (s : Nat → Int) : Int :=
  if ruleE m c = 0 then (if bankE b l = 0 then (if sampU t s 3 then 0 else 1) else bankE b l) else ruleE m c
theorem ruleE_ne {m c : Int} (h : ruleE m c ≠ 0) : ruleE m c = 1 := by unfold ruleE at *; split <;> simp_all
theorem bankE_ne {b : Nat → Int} {l : Int} (h : bankE b l ≠ 0) : bankE b l = 3 := by unfold bankE at *; split <;> simp_all

set_option maxHeartbeats 2000000 in
theorem checkStep_any (b : Nat → Int) (o : Nat → Bool) (l m c : Int) (t : Nat → Bool) (s : Nat → Int) (w : World) :
    Calls Try.prog 36 #[.agg #[.int .i64 (b 0), .int .i64 (b 1), .int .i64 (b 2), .bool (o 0), .bool (o 1), .bool (o 2), .int .i64 l], .agg #[.int .i64 m, .int .i64 c], .agg #[.bool (t 0), .int .i64 (s 0), .bool (t 1), .int .i64 (s 1), .bool (t 2), .int .i64 (s 2)]] w
      fun e w' => e = .returned (errV (stepE b l m c t s)) ∧ Below w.heap.size w w' := by
  have hr := checkRule_any m c
  have hk := bankCheck_any b o l
  have HX := args_new w b o l m c t s
  have HX := hide HX
  by_cases e1 : ruleE m c = 0
  · rw [e1, errV_zero] at hr
    by_cases e2 : bankE b l = 0
    · rw [e2, errV_zero] at hk
      have HE : Hid (stepE b l m c t s = if sampU t s 3 then 0 else 1) := by show stepE b l m c t s = _; rw [stepE, if_pos e1, if_pos e2]
      clear e1 e2
      go_enter Try.func36, Try.ntmps36
      go_wp2_with (first
        | (go_at_call 64; refine (hr _).mono ?_; rintro e w1 ⟨rfl, hb1⟩; have HX := HX.out.later HX.out.le hb1; obtain ⟨q0, q1, q2, q3, q4, q5, q6⟩ := HX.1; have HX := hide HX; clear hb1)
        | (go_at_call 65; refine (hk _).mono ?_; rintro e w2 ⟨rfl, hb2⟩; have HX := HX.out.later HX.out.le hb2; obtain ⟨p0, p1, p2, p3, p4, p5⟩ := HX.2.2.1; have HX := hide HX; clear hb2))
      go_loopw [22] (fun i wr => ∃ k : Nat, k ≤ 3 ∧ i = .int .i64 k ∧ Hid (sampU t s k = true) ∧ Below w.heap.size w wr) (fun i _ => 3 - (intOf i).toNat)
      case atStart => exact ⟨0, by omega, rfl, rfl, HX.out.2.2.2⟩
      case round =>
        clear HX
        obtain ⟨k, hk3, rfl, hok, hb⟩ := hrel
        have HB := hide hb
        clear hb
        by_cases hlt : k < 3
        · have hix := idxS t s k hlt
          have hby := beyond_any (s k)
          by_cases hg : (!t k || within (s k)) = true
          · have HS : Hid (sampU t s (k + 1) = true) := by show (sampU t s k && (!t k || within (s k))) = true; rw [hok.out, hg]; rfl
            generalize s k = z at *
            generalize t k = y at *
            generalize within z = x at *
            cases y
            · go_wp2
              go_roundw
              case rel => exact ⟨k + 1, by omega, by go_num, HS, vbelow_up HB.out (vbelow_alloc _ _)⟩
              case measure => simp [intOf]; omega
            · simp only [Bool.not_true, Bool.false_or] at hg
              subst hg
              go_wp2_with (go_at_call 66; refine (hby _).mono ?_; rintro e w' ⟨rfl, hq⟩; have hq := hq.symm; subst hq)
              go_roundw
              case rel => exact ⟨k + 1, by omega, by go_num, HS, vbelow_up HB.out (vbelow_alloc _ _)⟩
              case measure => simp [intOf]; omega
          · simp only [Bool.or_eq_true, Bool.not_eq_true', not_or, Bool.not_eq_false, Bool.not_eq_true] at hg
            have HS : Hid (sampU t s 3 = false) := sampU_false hlt hg.1 hg.2
            obtain ⟨g1, g2⟩ := hg
            rw [g2] at hby
            rw [g1] at hix
            clear g1 g2
            generalize s k = z at *
            go_wp2_with (go_at_call 66; refine (hby _).mono ?_; rintro e w' ⟨rfl, hq⟩; have hq := hq.symm; subst hq)
            go_ret
            exact ⟨by rw [HE.out, HS.out]; rfl, vbelow_up HB.out (vbelow_alloc _ _)⟩
        · have e : k = 3 := by omega
          subst e
          go_wp2
          go_ret
          exact ⟨by rw [HE.out, hok.out]; rfl, HB.out⟩
    · have HE : Hid (stepE b l m c t s = 3) := by show stepE b l m c t s = _; rw [stepE, if_pos e1, if_neg e2, bankE_ne e2]
      rw [bankE_ne e2, errV_ne (by decide)] at hk
      clear e1 e2
      go_enter Try.func36, Try.ntmps36
      go_wp2_with (first
        | (go_at_call 64; refine (hr _).mono ?_; rintro e w1 ⟨rfl, hb1⟩; have HX := HX.out.later HX.out.le hb1; obtain ⟨q0, q1, q2, q3, q4, q5, q6⟩ := HX.1; have HX := hide HX; clear hb1)
        | (go_at_call 65; refine (hk _).mono ?_; rintro e w2 ⟨rfl, hb2⟩; have HX := HX.out.later HX.out.le hb2; have HX := hide HX; clear hb2))
      go_ret
      exact ⟨by rw [HE.out]; rfl, HX.out.2.2.2⟩
  · have HE : Hid (stepE b l m c t s = 1) := by show stepE b l m c t s = _; rw [stepE, if_neg e1, ruleE_ne e1]
    rw [ruleE_ne e1, errV_ne (by decide)] at hr
    clear e1
    go_enter Try.func36, Try.ntmps36
    go_wp2_with (first
      | (go_at_call 64; refine (hr _).mono ?_; rintro e w1 ⟨rfl, hb1⟩; have HX := HX.out.later HX.out.le hb1; have HX := hide HX; clear hb1))
    go_ret
    exact ⟨by rw [HE.out]; rfl, HX.out.2.2.2⟩

end Go.Proofs.Ythijegfacnjooaa
