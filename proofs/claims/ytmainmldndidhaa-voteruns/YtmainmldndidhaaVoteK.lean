/-
  The walk of the law VoteSays: for every bank, rule and samples it returns true.
-/
import Derived.Test.YtmainmldndidhaaVoteJ
import Derived.Test.YtmainmldndidhaaVEq
namespace Go.Proofs.Ytmainmldndidhaa
open Go.RowKit Plain

/-- What VoteSays works on. -/
def VS (w0 w : World) (P : Nat) (b : Nat → Int) (o : Nat → Bool) (l m c : Int) (t : Nat → Bool) (s : Nat → Int) : Prop :=
  BankAt w w0.heap.size b o l ∧ RuleAt w (w0.heap.size + 1) m c ∧ SampAt w P t s ∧ Below w0.heap.size w0 w ∧ w0.heap.size + 1 < P ∧ P < w.heap.size
theorem VS.later {w0 w w' : World} {P : Nat} {b o l m c t s} (h : VS w0 w P b o l m c t s) (hb : Below w.heap.size w w') : VS w0 w' P b o l m c t s :=
  ⟨h.1.later hb, h.2.1.later hb, h.2.2.1.later hb, vbelow_up h.2.2.2.1 hb, h.2.2.2.2.1, Nat.lt_of_lt_of_le h.2.2.2.2.2 hb.size⟩
theorem VS.set {w0 w : World} {P : Nat} {b o l m c t s} (h : VS w0 w P b o l m c t s) {C q : Nat} (hC : P < C) (v : Value) : VS w0 (w.setCell ⟨C, q, none⟩ v) P b o l m c t s :=
  ⟨h.1.set (by have := h.2.2.2.2.1; omega), h.2.1.set (by have := h.2.2.2.2.1; omega), h.2.2.1.set (by omega), h.2.2.2.1.setCell (by simp; have := h.2.2.2.2.1; omega) _, h.2.2.2.2.1, by simpa [go_sem] using h.2.2.2.2.2⟩
theorem keepV {w u u' : World} {P : Nat} {b : Nat → Int} {o : Nat → Bool} {l m c : Int} {t : Nat → Bool} {s : Nat → Int} (hb : Below u.heap.size u u')
    (h : (u.cell? ⟨w.heap.size, 0, none⟩ = some (.int .i64 (b 0)) ∧ u.cell? ⟨w.heap.size, 1, none⟩ = some (.int .i64 (b 1)) ∧ u.cell? ⟨w.heap.size, 2, none⟩ = some (.int .i64 (b 2)) ∧ u.cell? ⟨w.heap.size, 3, none⟩ = some (.bool (o 0)) ∧ u.cell? ⟨w.heap.size, 4, none⟩ = some (.bool (o 1)) ∧ u.cell? ⟨w.heap.size, 5, none⟩ = some (.bool (o 2)) ∧ u.cell? ⟨w.heap.size, 6, none⟩ = some (.int .i64 l)) ∧ (u.cell? ⟨w.heap.size + 1, 0, none⟩ = some (.int .i64 m) ∧ u.cell? ⟨w.heap.size + 1, 1, none⟩ = some (.int .i64 c)) ∧ VS w u P b o l m c t s) :
    (u'.cell? ⟨w.heap.size, 0, none⟩ = some (.int .i64 (b 0)) ∧ u'.cell? ⟨w.heap.size, 1, none⟩ = some (.int .i64 (b 1)) ∧ u'.cell? ⟨w.heap.size, 2, none⟩ = some (.int .i64 (b 2)) ∧ u'.cell? ⟨w.heap.size, 3, none⟩ = some (.bool (o 0)) ∧ u'.cell? ⟨w.heap.size, 4, none⟩ = some (.bool (o 1)) ∧ u'.cell? ⟨w.heap.size, 5, none⟩ = some (.bool (o 2)) ∧ u'.cell? ⟨w.heap.size, 6, none⟩ = some (.int .i64 l)) ∧ (u'.cell? ⟨w.heap.size + 1, 0, none⟩ = some (.int .i64 m) ∧ u'.cell? ⟨w.heap.size + 1, 1, none⟩ = some (.int .i64 c)) ∧ VS w u' P b o l m c t s := ⟨BankAt.later h.1 hb, RuleAt.later h.2.1 hb, h.2.2.later hb⟩

/-- The errors as the law gathers them. -/
def eU (b : Nat → Int) (l m c : Int) (t : Nat → Bool) (s : Nat → Int) : Nat → Int
  | 0 => firstI [ruleE m c, bankE b l]
  | k + 1 => firstI [eU b l m c t s k, if (t k && !within (s k)) = true then 1 else 0]
theorem eU_all (b : Nat → Int) (l m c : Int) (t : Nat → Bool) (s : Nat → Int) : ∀ k, eU b l m c t s k = if firstI [ruleE m c, bankE b l] = 0 then (if sampU t s k = true then 0 else 1) else firstI [ruleE m c, bankE b l]
  | 0 => by
    by_cases h : firstI [ruleE m c, bankE b l] = 0
    · rw [if_pos h, eU, h]; rfl
    · rw [if_neg h, eU]
  | k + 1 => by
    rw [eU, eU_all b l m c t s k]
    generalize firstI [ruleE m c, bankE b l] = e
    by_cases h : e = 0
    · rw [if_pos h, if_pos h]
      have hs : sampU t s (k + 1) = (sampU t s k && (!t k || within (s k))) := rfl
      rw [hs]
      rcases Bool.eq_false_or_eq_true (sampU t s k) with h1 | h1 <;> rcases Bool.eq_false_or_eq_true (t k) with h2 | h2 <;> rcases Bool.eq_false_or_eq_true (within (s k)) with h3 | h3 <;> simp [h1, h2, h3, firstI]
    · rw [if_neg h, if_neg h]; simp [firstI, h]
theorem eU_step (b : Nat → Int) (l m c : Int) (t : Nat → Bool) (s : Nat → Int) : eU b l m c t s 3 = stepE b l m c t s := by
  rw [eU_all, stepE]
  by_cases h1 : ruleE m c = 0
  · by_cases h2 : bankE b l = 0
    · rw [if_pos h1, if_pos h2, if_pos (by simp [firstI, h1, h2])]
    · rw [if_pos h1, if_neg h2, if_neg (by simp [firstI, h1, h2])]; simp [firstI, h1, h2]
  · rw [if_neg h1, if_neg (by simp [firstI, h1])]; simp [firstI, h1]

theorem cells7_later {u u' : World} {B : Nat} {v0 v1 v2 v3 v4 v5 v6 : Value} (hb : Below u.heap.size u u') (h : u.cell? ⟨B, 0, none⟩ = some v0 ∧ u.cell? ⟨B, 1, none⟩ = some v1 ∧ u.cell? ⟨B, 2, none⟩ = some v2 ∧ u.cell? ⟨B, 3, none⟩ = some v3 ∧ u.cell? ⟨B, 4, none⟩ = some v4 ∧ u.cell? ⟨B, 5, none⟩ = some v5 ∧ u.cell? ⟨B, 6, none⟩ = some v6) :
    u'.cell? ⟨B, 0, none⟩ = some v0 ∧ u'.cell? ⟨B, 1, none⟩ = some v1 ∧ u'.cell? ⟨B, 2, none⟩ = some v2 ∧ u'.cell? ⟨B, 3, none⟩ = some v3 ∧ u'.cell? ⟨B, 4, none⟩ = some v4 ∧ u'.cell? ⟨B, 5, none⟩ = some v5 ∧ u'.cell? ⟨B, 6, none⟩ = some v6 :=
  ⟨cell_later hb h.1, cell_later hb h.2.1, cell_later hb h.2.2.1, cell_later hb h.2.2.2.1, cell_later hb h.2.2.2.2.1, cell_later hb h.2.2.2.2.2.1, cell_later hb h.2.2.2.2.2.2⟩
theorem cells2_later {u u' : World} {B : Nat} {v0 v1 : Value} (hb : Below u.heap.size u u') (h : u.cell? ⟨B, 0, none⟩ = some v0 ∧ u.cell? ⟨B, 1, none⟩ = some v1) : u'.cell? ⟨B, 0, none⟩ = some v0 ∧ u'.cell? ⟨B, 1, none⟩ = some v1 := ⟨cell_later hb h.1, cell_later hb h.2⟩
theorem keepT {w u u' : World} {P R1 Q1 R2 Q2 : Nat} {b : Nat → Int} {o : Nat → Bool} {l m c : Int} {t : Nat → Bool} {s : Nat → Int} {y0 y1 y2 z p q : Int} {x0 x1 x2 : Bool} (hb : Below u.heap.size u u')
    (h : (u.cell? ⟨w.heap.size, 0, none⟩ = some (.int .i64 (b 0)) ∧ u.cell? ⟨w.heap.size, 1, none⟩ = some (.int .i64 (b 1)) ∧ u.cell? ⟨w.heap.size, 2, none⟩ = some (.int .i64 (b 2)) ∧ u.cell? ⟨w.heap.size, 3, none⟩ = some (.bool (o 0)) ∧ u.cell? ⟨w.heap.size, 4, none⟩ = some (.bool (o 1)) ∧ u.cell? ⟨w.heap.size, 5, none⟩ = some (.bool (o 2)) ∧ u.cell? ⟨w.heap.size, 6, none⟩ = some (.int .i64 l)) ∧ (u.cell? ⟨w.heap.size + 1, 0, none⟩ = some (.int .i64 m) ∧ u.cell? ⟨w.heap.size + 1, 1, none⟩ = some (.int .i64 c)) ∧ (u.cell? ⟨R1, 0, none⟩ = some (.int .i64 y0) ∧ u.cell? ⟨R1, 1, none⟩ = some (.int .i64 y1) ∧ u.cell? ⟨R1, 2, none⟩ = some (.int .i64 y2) ∧ u.cell? ⟨R1, 3, none⟩ = some (.bool x0) ∧ u.cell? ⟨R1, 4, none⟩ = some (.bool x1) ∧ u.cell? ⟨R1, 5, none⟩ = some (.bool x2) ∧ u.cell? ⟨R1, 6, none⟩ = some (.int .i64 z)) ∧ (u.cell? ⟨Q1, 0, none⟩ = some (.int .i64 y0) ∧ u.cell? ⟨Q1, 1, none⟩ = some (.int .i64 y1) ∧ u.cell? ⟨Q1, 2, none⟩ = some (.int .i64 y2) ∧ u.cell? ⟨Q1, 3, none⟩ = some (.bool x0) ∧ u.cell? ⟨Q1, 4, none⟩ = some (.bool x1) ∧ u.cell? ⟨Q1, 5, none⟩ = some (.bool x2) ∧ u.cell? ⟨Q1, 6, none⟩ = some (.int .i64 z)) ∧ (u.cell? ⟨R2, 0, none⟩ = some (.int .i64 p) ∧ u.cell? ⟨R2, 1, none⟩ = some (.int .i64 q)) ∧ (u.cell? ⟨Q2, 0, none⟩ = some (.int .i64 p) ∧ u.cell? ⟨Q2, 1, none⟩ = some (.int .i64 q)) ∧ VS w u P b o l m c t s) :
    (u'.cell? ⟨w.heap.size, 0, none⟩ = some (.int .i64 (b 0)) ∧ u'.cell? ⟨w.heap.size, 1, none⟩ = some (.int .i64 (b 1)) ∧ u'.cell? ⟨w.heap.size, 2, none⟩ = some (.int .i64 (b 2)) ∧ u'.cell? ⟨w.heap.size, 3, none⟩ = some (.bool (o 0)) ∧ u'.cell? ⟨w.heap.size, 4, none⟩ = some (.bool (o 1)) ∧ u'.cell? ⟨w.heap.size, 5, none⟩ = some (.bool (o 2)) ∧ u'.cell? ⟨w.heap.size, 6, none⟩ = some (.int .i64 l)) ∧ (u'.cell? ⟨w.heap.size + 1, 0, none⟩ = some (.int .i64 m) ∧ u'.cell? ⟨w.heap.size + 1, 1, none⟩ = some (.int .i64 c)) ∧ (u'.cell? ⟨R1, 0, none⟩ = some (.int .i64 y0) ∧ u'.cell? ⟨R1, 1, none⟩ = some (.int .i64 y1) ∧ u'.cell? ⟨R1, 2, none⟩ = some (.int .i64 y2) ∧ u'.cell? ⟨R1, 3, none⟩ = some (.bool x0) ∧ u'.cell? ⟨R1, 4, none⟩ = some (.bool x1) ∧ u'.cell? ⟨R1, 5, none⟩ = some (.bool x2) ∧ u'.cell? ⟨R1, 6, none⟩ = some (.int .i64 z)) ∧ (u'.cell? ⟨Q1, 0, none⟩ = some (.int .i64 y0) ∧ u'.cell? ⟨Q1, 1, none⟩ = some (.int .i64 y1) ∧ u'.cell? ⟨Q1, 2, none⟩ = some (.int .i64 y2) ∧ u'.cell? ⟨Q1, 3, none⟩ = some (.bool x0) ∧ u'.cell? ⟨Q1, 4, none⟩ = some (.bool x1) ∧ u'.cell? ⟨Q1, 5, none⟩ = some (.bool x2) ∧ u'.cell? ⟨Q1, 6, none⟩ = some (.int .i64 z)) ∧ (u'.cell? ⟨R2, 0, none⟩ = some (.int .i64 p) ∧ u'.cell? ⟨R2, 1, none⟩ = some (.int .i64 q)) ∧ (u'.cell? ⟨Q2, 0, none⟩ = some (.int .i64 p) ∧ u'.cell? ⟨Q2, 1, none⟩ = some (.int .i64 q)) ∧ VS w u' P b o l m c t s := ⟨cells7_later hb h.1, cells2_later hb h.2.1, cells7_later hb h.2.2.1, cells7_later hb h.2.2.2.1, cells2_later hb h.2.2.2.2.1, cells2_later hb h.2.2.2.2.2.1, h.2.2.2.2.2.2.later hb⟩
theorem VS.ans {w0 w : World} {P : Nat} {b o l m c t s} (h : VS w0 w P b o l m c t s) {B C : Nat} (hB : P < B) (hC : P < C) (y0 y1 y2 : Int) (x0 x1 x2 : Bool) (z v n : Int) : VS w0 (ansW w B C y0 y1 y2 x0 x1 x2 z v n) P b o l m c t s :=
  ((((((((h.set hB _).set hB _).set hB _).set hB _).set hB _).set hB _).set hB _).set hC _).set hC _
theorem newTwo (wr : World) : (BankAt ((wr.alloc (.cells #[.int .i64 0, .int .i64 0, .int .i64 0, .bool false, .bool false, .bool false, .int .i64 0] 46)).alloc (.cells #[.int .i64 0, .int .i64 0] 50)) wr.heap.size zI zB 0 ∧ Frz ((wr.alloc (.cells #[.int .i64 0, .int .i64 0, .int .i64 0, .bool false, .bool false, .bool false, .int .i64 0] 46)).alloc (.cells #[.int .i64 0, .int .i64 0] 50)) wr.heap.size 7) ∧ RuleAt ((wr.alloc (.cells #[.int .i64 0, .int .i64 0, .int .i64 0, .bool false, .bool false, .bool false, .int .i64 0] 46)).alloc (.cells #[.int .i64 0, .int .i64 0] 50)) (wr.heap.size + 1) 0 0 ∧ Frz ((wr.alloc (.cells #[.int .i64 0, .int .i64 0, .int .i64 0, .bool false, .bool false, .bool false, .int .i64 0] 46)).alloc (.cells #[.int .i64 0, .int .i64 0] 50)) (wr.heap.size + 1) 2 := by
  refine ⟨⟨BankAt.later ⟨by simp [go_sem, zI], by simp [go_sem, zI], by simp [go_sem, zI], by simp [go_sem, zB], by simp [go_sem, zB], by simp [go_sem, zB], by simp [go_sem]⟩ (vbelow_alloc _ _), Frz.new.later (vbelow_alloc _ _)⟩, ⟨by simp [go_sem], by simp [go_sem]⟩, ?_⟩
  have e : (wr.alloc (.cells #[.int .i64 0, .int .i64 0, .int .i64 0, .bool false, .bool false, .bool false, .int .i64 0] 46)).heap.size = wr.heap.size + 1 := by simp [go_sem]
  rw [← e]; exact Frz.new
theorem is_same (x : Int) (w : World) : Calls Try.prog 14 #[errV x, .int .i64 x] w fun r w' => r = .returned (.bool true) ∧ w' = w := by
  have h := is_any x x w
  rwa [beq_self_eq_true] at h

set_option maxRecDepth 100000 in
set_option maxHeartbeats 4000000 in
theorem voteSays_walk (b : Nat → Int) (o : Nat → Bool) (l m c : Int) (a : Option Addr) (cap : Nat) (ls : List (Bool × Int)) (w : World) (hm : ls.length ≤ 9223372036854775807) (hl : SLst w a ls) :
    Calls Try.prog 17 #[.agg #[.int .i64 (b 0), .int .i64 (b 1), .int .i64 (b 2), .bool (o 0), .bool (o 1), .bool (o 2), .int .i64 l], .agg #[.int .i64 m, .int .i64 c], .slice a ls.length cap] w fun e w' => e = .returned (.bool true) ∧ Below w.heap.size w w' := by
  have hsm := samples_any a cap ls
  have h2 : Below w.heap.size w ((w.alloc (.cells #[.int .i64 (b 0), .int .i64 (b 1), .int .i64 (b 2), .bool (o 0), .bool (o 1), .bool (o 2), .int .i64 l] 46)).alloc (.cells #[.int .i64 m, .int .i64 c] 40)) := vbelow_up (vbelow_alloc _ _) (vbelow_alloc _ _)
  have HL := hide (hl.later h2)
  have HB := hide (show BankAt ((w.alloc (.cells #[.int .i64 (b 0), .int .i64 (b 1), .int .i64 (b 2), .bool (o 0), .bool (o 1), .bool (o 2), .int .i64 l] 46)).alloc (.cells #[.int .i64 m, .int .i64 c] 40)) w.heap.size b o l ∧ RuleAt ((w.alloc (.cells #[.int .i64 (b 0), .int .i64 (b 1), .int .i64 (b 2), .bool (o 0), .bool (o 1), .bool (o 2), .int .i64 l] 46)).alloc (.cells #[.int .i64 m, .int .i64 c] 40)) (w.heap.size + 1) m c from ⟨⟨by simp [go_sem, World.cell?_alloc_past], by simp [go_sem, World.cell?_alloc_past], by simp [go_sem, World.cell?_alloc_past], by simp [go_sem, World.cell?_alloc_past], by simp [go_sem, World.cell?_alloc_past], by simp [go_sem, World.cell?_alloc_past], by simp [go_sem, World.cell?_alloc_past]⟩, ⟨by simp [go_sem], by simp [go_sem]⟩⟩)
  have H2 := hide h2
  have HZ := hide (show ((w.alloc (.cells #[.int .i64 (b 0), .int .i64 (b 1), .int .i64 (b 2), .bool (o 0), .bool (o 1), .bool (o 2), .int .i64 l] 46)).alloc (.cells #[.int .i64 m, .int .i64 c] 40)).heap.size = w.heap.size + 1 + 1 by simp [go_sem])
  clear h2 hl
  have hru := ruleMay_any m c
  have hbk := bankMay_any b o l
  have hE := hide (eU_step b l m c (tF ls) (sF ls))
  have hE0 := hide (show firstI [ruleE m c, bankE b l] = eU b l m c (tF ls) (sF ls) 0 from rfl)
  obtain ⟨t, HT⟩ : ∃ t, Hid (tF ls = t) := ⟨_, rfl⟩
  obtain ⟨s, HS⟩ : ∃ s, Hid (sF ls = s) := ⟨_, rfl⟩
  rw [HT.out, HS.out] at hsm hE hE0
  go_enter Try.func17, Try.ntmps17
  go_upto_region 2 with (go_at_call 19; refine (hsm _ hm HL.out).mono ?_; rintro e w1 ⟨rfl, hb1⟩; have HV := hide (show VS w (w1.alloc (.cells #[.bool (t 0), .int .i64 (s 0), .bool (t 1), .int .i64 (s 1), .bool (t 2), .int .i64 (s 2)] 55)) w1.heap.size b o l m c t s from ⟨(HB.out.1.later hb1).later (vbelow_alloc _ _), (HB.out.2.later hb1).later (vbelow_alloc _ _), ⟨by simp [go_sem], by simp [go_sem], by simp [go_sem], by simp [go_sem], by simp [go_sem], by simp [go_sem]⟩, vbelow_up (vbelow_up H2.out hb1) (vbelow_alloc _ _), by have := hb1.size; rw [HZ.out] at this; omega, by simp [go_sem]⟩); clear hb1)
  generalize (w1.alloc (.cells #[.bool (t 0), .int .i64 (s 0), .bool (t 1), .int .i64 (s 1), .bool (t 2), .int .i64 (s 2)] 55)) = w2 at *
  generalize w1.heap.size = P at *
  clear hsm HB H2 HZ HL
  have S0 : (w2.cell? ⟨w.heap.size, 0, none⟩ = some (.int .i64 (b 0)) ∧ w2.cell? ⟨w.heap.size, 1, none⟩ = some (.int .i64 (b 1)) ∧ w2.cell? ⟨w.heap.size, 2, none⟩ = some (.int .i64 (b 2)) ∧ w2.cell? ⟨w.heap.size, 3, none⟩ = some (.bool (o 0)) ∧ w2.cell? ⟨w.heap.size, 4, none⟩ = some (.bool (o 1)) ∧ w2.cell? ⟨w.heap.size, 5, none⟩ = some (.bool (o 2)) ∧ w2.cell? ⟨w.heap.size, 6, none⟩ = some (.int .i64 l)) ∧ (w2.cell? ⟨w.heap.size + 1, 0, none⟩ = some (.int .i64 m) ∧ w2.cell? ⟨w.heap.size + 1, 1, none⟩ = some (.int .i64 c)) ∧ VS w w2 P b o l m c t s := ⟨HV.out.1, HV.out.2.1, HV.out⟩
  have Z := hide S0
  go_cut [8] (fun e u => e = .int .i64 (eU b l m c t s 0) ∧ VS w u P b o l m c t s)
  case first =>
    generalize hre : ruleE m c = re at *
    generalize hbe : bankE b l = be at *
    clear hre hbe
    go_region_held3 (fun u => (u.cell? ⟨w.heap.size, 0, none⟩ = some (.int .i64 (b 0)) ∧ u.cell? ⟨w.heap.size, 1, none⟩ = some (.int .i64 (b 1)) ∧ u.cell? ⟨w.heap.size, 2, none⟩ = some (.int .i64 (b 2)) ∧ u.cell? ⟨w.heap.size, 3, none⟩ = some (.bool (o 0)) ∧ u.cell? ⟨w.heap.size, 4, none⟩ = some (.bool (o 1)) ∧ u.cell? ⟨w.heap.size, 5, none⟩ = some (.bool (o 2)) ∧ u.cell? ⟨w.heap.size, 6, none⟩ = some (.int .i64 l)) ∧ (u.cell? ⟨w.heap.size + 1, 0, none⟩ = some (.int .i64 m) ∧ u.cell? ⟨w.heap.size + 1, 1, none⟩ = some (.int .i64 c)) ∧ VS w u P b o l m c t s)
      (first
        | (with_reducible assumption)
        | (with_reducible refine keepV (vbelow_alloc _ _) ?_; with_reducible assumption)
        | (with_reducible apply keepV; with_reducible assumption; with_reducible assumption)
        | (refine keepV ?_ Z.out; exact (Below.refl _ _).drew))
      (first
        | (go_at_call 16; refine (hru _).mono ?_; rintro e w' ⟨rfl, hb⟩)
        | (go_at_call 51; refine (hbk _).mono ?_; rintro e w' ⟨rfl, hb⟩)
        | (go_at_call 50; refine (first_new2 _ _ _ _).mono ?_; rintro e w' ⟨rfl, rfl⟩))
    all_goals
      rename_i hH
      go_wp2_with fail
      go_meet
      (case rel => exact ⟨by rw [← hE0.out], hH.2.2⟩)
  case rest =>
    obtain ⟨rfl, hV⟩ := hcut
    rename World => wb
    clear Z S0 HV hru hbk hE0
    have HV := hide hV
    clear hV
    go_wp2
    go_loopw [8, 9] (fun e i u => ∃ k : Nat, k ≤ 3 ∧ i = .int .i64 k ∧ e = .int .i64 (eU b l m c t s k) ∧ VS w u P b o l m c t s) (fun _ i _ => 3 - (intOf i).toNat)
    case atStart => exact ⟨0, by omega, rfl, rfl, HV.out⟩
    case round =>
      clear HV
      obtain ⟨k, hk, rfl, rfl, hV⟩ := hrel
      by_cases hlt : k < 3
      · have c1 := hV.2.2.1.there k hlt
        have c2 := hV.2.2.1.is k hlt
        have i0 : (0 : Int) ≤ (k : Int) := by omega
        have i1 : (k : Int) < 3 := by omega
        have hbw := between_worth (s k)
        have HS1 := hide (show eU b l m c t s (k + 1) = firstI [eU b l m c t s k, if (t k && !within (s k)) = true then 1 else 0] from rfl)
        have HV := hide hV
        clear hV
        generalize eU b l m c t s k = ek at *
        generalize s k = z at *
        generalize within z = x at *
        generalize t k = y at *
        rcases (show y = false ∨ (y = true ∧ x = true) ∨ (y = true ∧ x = false) by cases y <;> cases x <;> simp) with rfl | ⟨rfl, rfl⟩ | ⟨rfl, rfl⟩
        · have hwh : ∀ w, Calls Try.prog 9 #[.bool false, .int .i64 1] w fun r w' => r = .returned (.int .i64 0) ∧ w' = w := when_false 1
          go_wp2_with (first
            | (go_at_call 32; refine (hbw _).mono ?_; rintro e w' ⟨rfl, hq⟩; have hq := hq.symm; subst hq)
            | (go_at_call 9; refine (hwh _).mono ?_; rintro e w' ⟨rfl, hq⟩; have hq := hq.symm; subst hq)
            | (go_at_call 50; refine (first_new2 _ _ _ _).mono ?_; rintro e w' ⟨rfl, hq⟩; have hq := hq.symm; subst hq))
          go_roundw
          case rel => exact ⟨k + 1, by omega, by go_num, by rw [HS1.out]; rfl, HV.out.later (vbelow_alloc _ _)⟩
          case measure => simp [intOf]; omega
        · have hwh : ∀ w, Calls Try.prog 9 #[.bool false, .int .i64 1] w fun r w' => r = .returned (.int .i64 0) ∧ w' = w := when_false 1
          go_wp2_with (first
            | (go_at_call 32; refine (hbw _).mono ?_; rintro e w' ⟨rfl, hq⟩; have hq := hq.symm; subst hq)
            | (go_at_call 9; refine (hwh _).mono ?_; rintro e w' ⟨rfl, hq⟩; have hq := hq.symm; subst hq)
            | (go_at_call 50; refine (first_new2 _ _ _ _).mono ?_; rintro e w' ⟨rfl, hq⟩; have hq := hq.symm; subst hq))
          go_roundw
          case rel => exact ⟨k + 1, by omega, by go_num, by rw [HS1.out]; rfl, HV.out.later (vbelow_alloc _ _)⟩
          case measure => simp [intOf]; omega
        · have hwh : ∀ w, Calls Try.prog 9 #[.bool true, .int .i64 1] w fun r w' => r = .returned (.int .i64 1) ∧ w' = w := when_true 1
          go_wp2_with (first
            | (go_at_call 32; refine (hbw _).mono ?_; rintro e w' ⟨rfl, hq⟩; have hq := hq.symm; subst hq)
            | (go_at_call 9; refine (hwh _).mono ?_; rintro e w' ⟨rfl, hq⟩; have hq := hq.symm; subst hq)
            | (go_at_call 50; refine (first_new2 _ _ _ _).mono ?_; rintro e w' ⟨rfl, hq⟩; have hq := hq.symm; subst hq))
          go_roundw
          case rel => exact ⟨k + 1, by omega, by go_num, by rw [HS1.out]; rfl, HV.out.later (vbelow_alloc _ _)⟩
          case measure => simp [intOf]; omega
      · have e : k = 3 := by omega
        subst e
        rw [hE.out]
        by_cases he : stepE b l m c t s = 0
        · have fit := fit_of (o := o) (sampE_of he)
          have hvd := voted_any b o l m c t s fit (bankE_of he) (lastE_of he).1 (lastE_of he).2 (ruleE_of he).1.1 (ruleE_of he).1.2
          have hsp := step_ok b o l m c t s he
          rw [he]
          generalize nbI t o s b (votI t o s l) m 0 = y0 at hvd hsp
          generalize nbI t o s b (votI t o s l) m 1 = y1 at hvd hsp
          generalize nbI t o s b (votI t o s l) m 2 = y2 at hvd hsp
          generalize noB t o s b (votI t o s l) m c 0 = x0 at hvd hsp
          generalize noB t o s b (votI t o s l) m c 1 = x1 at hvd hsp
          generalize noB t o s b (votI t o s l) m c 2 = x2 at hvd hsp
          generalize votI t o s l = z at hvd hsp
          generalize manyU t o 3 = q at hvd hsp
          clear fit he hE
          have HVX := hide ((hV.later (vbelow_alloc wr (.cells #[.int .i64 0, .int .i64 0, .int .i64 0, .bool false, .bool false, .bool false, .int .i64 0] 46))).later (vbelow_alloc _ (.cells #[.int .i64 0, .int .i64 0] 50)))
          have HQ := hide (newTwo wr)
          have LQ := hide hV.2.2.2.2.2
          clear hV
          go_upto_region 9 with fail
          generalize ((wr.alloc (.cells #[.int .i64 0, .int .i64 0, .int .i64 0, .bool false, .bool false, .bool false, .int .i64 0] 46)).alloc (.cells #[.int .i64 0, .int .i64 0] 50)) = wX at *
          obtain ⟨Q1, hQ1⟩ : ∃ Q1, wr.heap.size = Q1 := ⟨_, rfl⟩
          rw [hQ1] at HQ LQ ⊢
          clear hQ1
          obtain ⟨a0, a1, a2, a3, a4, a5, a6⟩ := HVX.out.1
          obtain ⟨e0, e1⟩ := HVX.out.2.1
          obtain ⟨g0, g1, g2, g3, g4, g5⟩ := HVX.out.2.2.1
          go_upto_region 10 with (go_at_call 52; refine (hvd _).mono ?_; rintro e w4 ⟨rfl, hb4⟩; have VW := hide (HVX.out.later hb4); have HQ := hide (And.intro (And.intro (HQ.out.1.1.later hb4) (HQ.out.1.2.later hb4)) (And.intro (HQ.out.2.1.later hb4) (HQ.out.2.2.later hb4))); obtain ⟨s0, s1, s2, s3, s4, s5, s6⟩ := HQ.out.1.1; obtain ⟨r0, r1⟩ := HQ.out.2.1; have f0 := HQ.out.1.2.1 0 (by omega); have f1 := HQ.out.1.2.1 1 (by omega); have f2 := HQ.out.1.2.1 2 (by omega); have f3 := HQ.out.1.2.1 3 (by omega); have f4 := HQ.out.1.2.1 4 (by omega); have f5 := HQ.out.1.2.1 5 (by omega); have f6 := HQ.out.1.2.1 6 (by omega); have k0 := HQ.out.2.2.1 0 (by omega); have k1 := HQ.out.2.2.1 1 (by omega); clear hb4)
          have VX := hide (VW.out.ans (B := Q1) (C := Q1 + 1) LQ.out (Nat.lt_succ_of_lt LQ.out) y0 y1 y2 x0 x1 x2 z z q)
          have AN := hide (ansW_at HQ.out.1.1 HQ.out.2.1 (by omega) y0 y1 y2 x0 x1 x2 z z q)
          change Code.wp _ _ _ _ (ansW w4 Q1 (Q1 + 1) y0 y1 y2 x0 x1 x2 z z q)
          generalize (ansW w4 Q1 (Q1 + 1) y0 y1 y2 x0 x1 x2 z z q) = w6 at *
          clear a0 a1 a2 a3 a4 a5 a6 e0 e1 g0 g1 g2 g3 g4 g5 s0 s1 s2 s3 s4 s5 s6 r0 r1 f0 f1 f2 f3 f4 f5 f6 k0 k1
          obtain ⟨a0, a1, a2, a3, a4, a5, a6⟩ := VX.out.1
          obtain ⟨e0, e1⟩ := VX.out.2.1
          obtain ⟨g0, g1, g2, g3, g4, g5⟩ := VX.out.2.2.1
          go_upto_region 11 with (go_at_call 18; refine (hsp _).mono ?_; rintro e w7 ⟨rfl, hb7⟩; have VY := hide (VX.out.later hb7); have AN := hide (And.intro (cells7_later hb7 AN.out.1) (cells2_later hb7 AN.out.2)); clear hb7)
          have LB := hide ((vbelow_alloc w7 (.cells #[.int .i64 y0, .int .i64 y1, .int .i64 y2, .bool x0, .bool x1, .bool x2, .int .i64 z] 46)).trans ((vbelow_alloc _ (.cells #[.int .i64 z, .int .i64 q] 50)).mono (by simp [go_sem])))
          have S0 : (((w7.alloc (.cells #[.int .i64 y0, .int .i64 y1, .int .i64 y2, .bool x0, .bool x1, .bool x2, .int .i64 z] 46)).alloc (.cells #[.int .i64 z, .int .i64 q] 50)).cell? ⟨w.heap.size, 0, none⟩ = some (.int .i64 (b 0)) ∧ ((w7.alloc (.cells #[.int .i64 y0, .int .i64 y1, .int .i64 y2, .bool x0, .bool x1, .bool x2, .int .i64 z] 46)).alloc (.cells #[.int .i64 z, .int .i64 q] 50)).cell? ⟨w.heap.size, 1, none⟩ = some (.int .i64 (b 1)) ∧ ((w7.alloc (.cells #[.int .i64 y0, .int .i64 y1, .int .i64 y2, .bool x0, .bool x1, .bool x2, .int .i64 z] 46)).alloc (.cells #[.int .i64 z, .int .i64 q] 50)).cell? ⟨w.heap.size, 2, none⟩ = some (.int .i64 (b 2)) ∧ ((w7.alloc (.cells #[.int .i64 y0, .int .i64 y1, .int .i64 y2, .bool x0, .bool x1, .bool x2, .int .i64 z] 46)).alloc (.cells #[.int .i64 z, .int .i64 q] 50)).cell? ⟨w.heap.size, 3, none⟩ = some (.bool (o 0)) ∧ ((w7.alloc (.cells #[.int .i64 y0, .int .i64 y1, .int .i64 y2, .bool x0, .bool x1, .bool x2, .int .i64 z] 46)).alloc (.cells #[.int .i64 z, .int .i64 q] 50)).cell? ⟨w.heap.size, 4, none⟩ = some (.bool (o 1)) ∧ ((w7.alloc (.cells #[.int .i64 y0, .int .i64 y1, .int .i64 y2, .bool x0, .bool x1, .bool x2, .int .i64 z] 46)).alloc (.cells #[.int .i64 z, .int .i64 q] 50)).cell? ⟨w.heap.size, 5, none⟩ = some (.bool (o 2)) ∧ ((w7.alloc (.cells #[.int .i64 y0, .int .i64 y1, .int .i64 y2, .bool x0, .bool x1, .bool x2, .int .i64 z] 46)).alloc (.cells #[.int .i64 z, .int .i64 q] 50)).cell? ⟨w.heap.size, 6, none⟩ = some (.int .i64 l)) ∧ (((w7.alloc (.cells #[.int .i64 y0, .int .i64 y1, .int .i64 y2, .bool x0, .bool x1, .bool x2, .int .i64 z] 46)).alloc (.cells #[.int .i64 z, .int .i64 q] 50)).cell? ⟨w.heap.size + 1, 0, none⟩ = some (.int .i64 m) ∧ ((w7.alloc (.cells #[.int .i64 y0, .int .i64 y1, .int .i64 y2, .bool x0, .bool x1, .bool x2, .int .i64 z] 46)).alloc (.cells #[.int .i64 z, .int .i64 q] 50)).cell? ⟨w.heap.size + 1, 1, none⟩ = some (.int .i64 c)) ∧ (((w7.alloc (.cells #[.int .i64 y0, .int .i64 y1, .int .i64 y2, .bool x0, .bool x1, .bool x2, .int .i64 z] 46)).alloc (.cells #[.int .i64 z, .int .i64 q] 50)).cell? ⟨w7.heap.size, 0, none⟩ = some (.int .i64 y0) ∧ ((w7.alloc (.cells #[.int .i64 y0, .int .i64 y1, .int .i64 y2, .bool x0, .bool x1, .bool x2, .int .i64 z] 46)).alloc (.cells #[.int .i64 z, .int .i64 q] 50)).cell? ⟨w7.heap.size, 1, none⟩ = some (.int .i64 y1) ∧ ((w7.alloc (.cells #[.int .i64 y0, .int .i64 y1, .int .i64 y2, .bool x0, .bool x1, .bool x2, .int .i64 z] 46)).alloc (.cells #[.int .i64 z, .int .i64 q] 50)).cell? ⟨w7.heap.size, 2, none⟩ = some (.int .i64 y2) ∧ ((w7.alloc (.cells #[.int .i64 y0, .int .i64 y1, .int .i64 y2, .bool x0, .bool x1, .bool x2, .int .i64 z] 46)).alloc (.cells #[.int .i64 z, .int .i64 q] 50)).cell? ⟨w7.heap.size, 3, none⟩ = some (.bool x0) ∧ ((w7.alloc (.cells #[.int .i64 y0, .int .i64 y1, .int .i64 y2, .bool x0, .bool x1, .bool x2, .int .i64 z] 46)).alloc (.cells #[.int .i64 z, .int .i64 q] 50)).cell? ⟨w7.heap.size, 4, none⟩ = some (.bool x1) ∧ ((w7.alloc (.cells #[.int .i64 y0, .int .i64 y1, .int .i64 y2, .bool x0, .bool x1, .bool x2, .int .i64 z] 46)).alloc (.cells #[.int .i64 z, .int .i64 q] 50)).cell? ⟨w7.heap.size, 5, none⟩ = some (.bool x2) ∧ ((w7.alloc (.cells #[.int .i64 y0, .int .i64 y1, .int .i64 y2, .bool x0, .bool x1, .bool x2, .int .i64 z] 46)).alloc (.cells #[.int .i64 z, .int .i64 q] 50)).cell? ⟨w7.heap.size, 6, none⟩ = some (.int .i64 z)) ∧ (((w7.alloc (.cells #[.int .i64 y0, .int .i64 y1, .int .i64 y2, .bool x0, .bool x1, .bool x2, .int .i64 z] 46)).alloc (.cells #[.int .i64 z, .int .i64 q] 50)).cell? ⟨Q1, 0, none⟩ = some (.int .i64 y0) ∧ ((w7.alloc (.cells #[.int .i64 y0, .int .i64 y1, .int .i64 y2, .bool x0, .bool x1, .bool x2, .int .i64 z] 46)).alloc (.cells #[.int .i64 z, .int .i64 q] 50)).cell? ⟨Q1, 1, none⟩ = some (.int .i64 y1) ∧ ((w7.alloc (.cells #[.int .i64 y0, .int .i64 y1, .int .i64 y2, .bool x0, .bool x1, .bool x2, .int .i64 z] 46)).alloc (.cells #[.int .i64 z, .int .i64 q] 50)).cell? ⟨Q1, 2, none⟩ = some (.int .i64 y2) ∧ ((w7.alloc (.cells #[.int .i64 y0, .int .i64 y1, .int .i64 y2, .bool x0, .bool x1, .bool x2, .int .i64 z] 46)).alloc (.cells #[.int .i64 z, .int .i64 q] 50)).cell? ⟨Q1, 3, none⟩ = some (.bool x0) ∧ ((w7.alloc (.cells #[.int .i64 y0, .int .i64 y1, .int .i64 y2, .bool x0, .bool x1, .bool x2, .int .i64 z] 46)).alloc (.cells #[.int .i64 z, .int .i64 q] 50)).cell? ⟨Q1, 4, none⟩ = some (.bool x1) ∧ ((w7.alloc (.cells #[.int .i64 y0, .int .i64 y1, .int .i64 y2, .bool x0, .bool x1, .bool x2, .int .i64 z] 46)).alloc (.cells #[.int .i64 z, .int .i64 q] 50)).cell? ⟨Q1, 5, none⟩ = some (.bool x2) ∧ ((w7.alloc (.cells #[.int .i64 y0, .int .i64 y1, .int .i64 y2, .bool x0, .bool x1, .bool x2, .int .i64 z] 46)).alloc (.cells #[.int .i64 z, .int .i64 q] 50)).cell? ⟨Q1, 6, none⟩ = some (.int .i64 z)) ∧ (((w7.alloc (.cells #[.int .i64 y0, .int .i64 y1, .int .i64 y2, .bool x0, .bool x1, .bool x2, .int .i64 z] 46)).alloc (.cells #[.int .i64 z, .int .i64 q] 50)).cell? ⟨w7.heap.size + 1, 0, none⟩ = some (.int .i64 z) ∧ ((w7.alloc (.cells #[.int .i64 y0, .int .i64 y1, .int .i64 y2, .bool x0, .bool x1, .bool x2, .int .i64 z] 46)).alloc (.cells #[.int .i64 z, .int .i64 q] 50)).cell? ⟨w7.heap.size + 1, 1, none⟩ = some (.int .i64 q)) ∧ (((w7.alloc (.cells #[.int .i64 y0, .int .i64 y1, .int .i64 y2, .bool x0, .bool x1, .bool x2, .int .i64 z] 46)).alloc (.cells #[.int .i64 z, .int .i64 q] 50)).cell? ⟨Q1 + 1, 0, none⟩ = some (.int .i64 z) ∧ ((w7.alloc (.cells #[.int .i64 y0, .int .i64 y1, .int .i64 y2, .bool x0, .bool x1, .bool x2, .int .i64 z] 46)).alloc (.cells #[.int .i64 z, .int .i64 q] 50)).cell? ⟨Q1 + 1, 1, none⟩ = some (.int .i64 q)) ∧ VS w ((w7.alloc (.cells #[.int .i64 y0, .int .i64 y1, .int .i64 y2, .bool x0, .bool x1, .bool x2, .int .i64 z] 46)).alloc (.cells #[.int .i64 z, .int .i64 q] 50)) P b o l m c t s := by
            have V8 := VY.out.later LB.out
            exact ⟨V8.1, V8.2.1, ⟨by simp [go_sem, World.cell?_alloc_past], by simp [go_sem, World.cell?_alloc_past], by simp [go_sem, World.cell?_alloc_past], by simp [go_sem, World.cell?_alloc_past], by simp [go_sem, World.cell?_alloc_past], by simp [go_sem, World.cell?_alloc_past], by simp [go_sem, World.cell?_alloc_past]⟩, cells7_later LB.out AN.out.1, ⟨by simp [go_sem], by simp [go_sem]⟩, cells2_later LB.out AN.out.2, V8⟩
          generalize ((w7.alloc (.cells #[.int .i64 y0, .int .i64 y1, .int .i64 y2, .bool x0, .bool x1, .bool x2, .int .i64 z] 46)).alloc (.cells #[.int .i64 z, .int .i64 q] 50)) = w8 at *
          generalize w7.heap.size = R1 at *
          clear a0 a1 a2 a3 a4 a5 a6 e0 e1 g0 g1 g2 g3 g4 g5
          have Z := hide S0
          have hqi := fun d w => eqI3 d y0 y1 y2 w
          have hqb := fun d w => eqB3 d x0 x1 x2 w
          have hcr := checkRule_any m c
          have hrm := ruleMay_any m c
          have hck := bankCheck_any b o l
          have hbm := bankMay_any b o l
          have hlf := left_any b o l
          have hch := channelsLeft_any b o l
          generalize ruleE m c = re at *
          generalize bankE b l = be at *
          generalize leftU o 3 = nl at *
          have his := is_same 0
          rw [errV_zero] at his
          go_region_held3 (fun u => (u.cell? ⟨w.heap.size, 0, none⟩ = some (.int .i64 (b 0)) ∧ u.cell? ⟨w.heap.size, 1, none⟩ = some (.int .i64 (b 1)) ∧ u.cell? ⟨w.heap.size, 2, none⟩ = some (.int .i64 (b 2)) ∧ u.cell? ⟨w.heap.size, 3, none⟩ = some (.bool (o 0)) ∧ u.cell? ⟨w.heap.size, 4, none⟩ = some (.bool (o 1)) ∧ u.cell? ⟨w.heap.size, 5, none⟩ = some (.bool (o 2)) ∧ u.cell? ⟨w.heap.size, 6, none⟩ = some (.int .i64 l)) ∧ (u.cell? ⟨w.heap.size + 1, 0, none⟩ = some (.int .i64 m) ∧ u.cell? ⟨w.heap.size + 1, 1, none⟩ = some (.int .i64 c)) ∧ (u.cell? ⟨R1, 0, none⟩ = some (.int .i64 y0) ∧ u.cell? ⟨R1, 1, none⟩ = some (.int .i64 y1) ∧ u.cell? ⟨R1, 2, none⟩ = some (.int .i64 y2) ∧ u.cell? ⟨R1, 3, none⟩ = some (.bool x0) ∧ u.cell? ⟨R1, 4, none⟩ = some (.bool x1) ∧ u.cell? ⟨R1, 5, none⟩ = some (.bool x2) ∧ u.cell? ⟨R1, 6, none⟩ = some (.int .i64 z)) ∧ (u.cell? ⟨Q1, 0, none⟩ = some (.int .i64 y0) ∧ u.cell? ⟨Q1, 1, none⟩ = some (.int .i64 y1) ∧ u.cell? ⟨Q1, 2, none⟩ = some (.int .i64 y2) ∧ u.cell? ⟨Q1, 3, none⟩ = some (.bool x0) ∧ u.cell? ⟨Q1, 4, none⟩ = some (.bool x1) ∧ u.cell? ⟨Q1, 5, none⟩ = some (.bool x2) ∧ u.cell? ⟨Q1, 6, none⟩ = some (.int .i64 z)) ∧ (u.cell? ⟨R1 + 1, 0, none⟩ = some (.int .i64 z) ∧ u.cell? ⟨R1 + 1, 1, none⟩ = some (.int .i64 q)) ∧ (u.cell? ⟨Q1 + 1, 0, none⟩ = some (.int .i64 z) ∧ u.cell? ⟨Q1 + 1, 1, none⟩ = some (.int .i64 q)) ∧ VS w u P b o l m c t s)
            (first
              | (with_reducible assumption)
              | (with_reducible apply keepT; with_reducible assumption; with_reducible assumption)
              | (refine keepT ?_ Z.out; exact (Below.refl _ _).drew))
            (first
              | (go_at_call 53; refine (hcr _).mono ?_; rintro e w' ⟨rfl, hb⟩)
              | (go_at_call 16; refine (hrm _).mono ?_; rintro e w' ⟨rfl, hb⟩)
              | (go_at_call 54; refine (hck _).mono ?_; rintro e w' ⟨rfl, hb⟩)
              | (go_at_call 51; refine (hbm _).mono ?_; rintro e w' ⟨rfl, hb⟩)
              | (go_at_call 55; refine (hlf _).mono ?_; rintro e w' ⟨rfl, hb⟩)
              | (go_at_call 56; refine (hch _).mono ?_; rintro e w' ⟨rfl, hb⟩)
              | (go_at_call_of 14 (errV re); refine (is_same re _).mono ?_; rintro e w' ⟨rfl, hq⟩; have hq := hq.symm; subst hq)
              | (go_at_call_of 14 (errV be); refine (is_same be _).mono ?_; rintro e w' ⟨rfl, hq⟩; have hq := hq.symm; subst hq)
              | (go_at_call 14; refine (his _).mono ?_; rintro e w' ⟨rfl, hq⟩; have hq := hq.symm; subst hq))
          all_goals
            rename_i hH
            go_wp2_with fail
            go_ret
            exact ⟨rfl, hH.2.2.2.2.2.2.2.2.2.1⟩
        · have hsp := step_err b o l m c t s he
          clear hE
          have HVX := hide ((hV.later (vbelow_alloc wr (.cells #[.int .i64 0, .int .i64 0, .int .i64 0, .bool false, .bool false, .bool false, .int .i64 0] 46))).later (vbelow_alloc _ (.cells #[.int .i64 0, .int .i64 0] 50)))
          have HQ := hide (newTwo wr)
          have LQ := hide hV.2.2.2.2.2
          clear hV
          go_upto_region 10 with fail
          generalize ((wr.alloc (.cells #[.int .i64 0, .int .i64 0, .int .i64 0, .bool false, .bool false, .bool false, .int .i64 0] 46)).alloc (.cells #[.int .i64 0, .int .i64 0] 50)) = w6 at *
          obtain ⟨Q1, hQ1⟩ : ∃ Q1, wr.heap.size = Q1 := ⟨_, rfl⟩
          rw [hQ1] at HQ LQ ⊢
          clear hQ1
          have VX := HVX
          have AN := hide (And.intro HQ.out.1.1 HQ.out.2.1)
          obtain ⟨a0, a1, a2, a3, a4, a5, a6⟩ := VX.out.1
          obtain ⟨e0, e1⟩ := VX.out.2.1
          obtain ⟨g0, g1, g2, g3, g4, g5⟩ := VX.out.2.2.1
          go_upto_region 11 with (go_at_call 18; refine (hsp _).mono ?_; rintro e w7 ⟨rfl, hb7⟩; have VY := hide (VX.out.later hb7); have AN := hide (And.intro (cells7_later hb7 AN.out.1) (cells2_later hb7 AN.out.2)); clear hb7)
          have LB := hide ((vbelow_alloc w7 (.cells #[.int .i64 0, .int .i64 0, .int .i64 0, .bool false, .bool false, .bool false, .int .i64 0] 46)).trans ((vbelow_alloc _ (.cells #[.int .i64 0, .int .i64 0] 50)).mono (by simp [go_sem])))
          have S0 : (((w7.alloc (.cells #[.int .i64 0, .int .i64 0, .int .i64 0, .bool false, .bool false, .bool false, .int .i64 0] 46)).alloc (.cells #[.int .i64 0, .int .i64 0] 50)).cell? ⟨w.heap.size, 0, none⟩ = some (.int .i64 (b 0)) ∧ ((w7.alloc (.cells #[.int .i64 0, .int .i64 0, .int .i64 0, .bool false, .bool false, .bool false, .int .i64 0] 46)).alloc (.cells #[.int .i64 0, .int .i64 0] 50)).cell? ⟨w.heap.size, 1, none⟩ = some (.int .i64 (b 1)) ∧ ((w7.alloc (.cells #[.int .i64 0, .int .i64 0, .int .i64 0, .bool false, .bool false, .bool false, .int .i64 0] 46)).alloc (.cells #[.int .i64 0, .int .i64 0] 50)).cell? ⟨w.heap.size, 2, none⟩ = some (.int .i64 (b 2)) ∧ ((w7.alloc (.cells #[.int .i64 0, .int .i64 0, .int .i64 0, .bool false, .bool false, .bool false, .int .i64 0] 46)).alloc (.cells #[.int .i64 0, .int .i64 0] 50)).cell? ⟨w.heap.size, 3, none⟩ = some (.bool (o 0)) ∧ ((w7.alloc (.cells #[.int .i64 0, .int .i64 0, .int .i64 0, .bool false, .bool false, .bool false, .int .i64 0] 46)).alloc (.cells #[.int .i64 0, .int .i64 0] 50)).cell? ⟨w.heap.size, 4, none⟩ = some (.bool (o 1)) ∧ ((w7.alloc (.cells #[.int .i64 0, .int .i64 0, .int .i64 0, .bool false, .bool false, .bool false, .int .i64 0] 46)).alloc (.cells #[.int .i64 0, .int .i64 0] 50)).cell? ⟨w.heap.size, 5, none⟩ = some (.bool (o 2)) ∧ ((w7.alloc (.cells #[.int .i64 0, .int .i64 0, .int .i64 0, .bool false, .bool false, .bool false, .int .i64 0] 46)).alloc (.cells #[.int .i64 0, .int .i64 0] 50)).cell? ⟨w.heap.size, 6, none⟩ = some (.int .i64 l)) ∧ (((w7.alloc (.cells #[.int .i64 0, .int .i64 0, .int .i64 0, .bool false, .bool false, .bool false, .int .i64 0] 46)).alloc (.cells #[.int .i64 0, .int .i64 0] 50)).cell? ⟨w.heap.size + 1, 0, none⟩ = some (.int .i64 m) ∧ ((w7.alloc (.cells #[.int .i64 0, .int .i64 0, .int .i64 0, .bool false, .bool false, .bool false, .int .i64 0] 46)).alloc (.cells #[.int .i64 0, .int .i64 0] 50)).cell? ⟨w.heap.size + 1, 1, none⟩ = some (.int .i64 c)) ∧ (((w7.alloc (.cells #[.int .i64 0, .int .i64 0, .int .i64 0, .bool false, .bool false, .bool false, .int .i64 0] 46)).alloc (.cells #[.int .i64 0, .int .i64 0] 50)).cell? ⟨w7.heap.size, 0, none⟩ = some (.int .i64 0) ∧ ((w7.alloc (.cells #[.int .i64 0, .int .i64 0, .int .i64 0, .bool false, .bool false, .bool false, .int .i64 0] 46)).alloc (.cells #[.int .i64 0, .int .i64 0] 50)).cell? ⟨w7.heap.size, 1, none⟩ = some (.int .i64 0) ∧ ((w7.alloc (.cells #[.int .i64 0, .int .i64 0, .int .i64 0, .bool false, .bool false, .bool false, .int .i64 0] 46)).alloc (.cells #[.int .i64 0, .int .i64 0] 50)).cell? ⟨w7.heap.size, 2, none⟩ = some (.int .i64 0) ∧ ((w7.alloc (.cells #[.int .i64 0, .int .i64 0, .int .i64 0, .bool false, .bool false, .bool false, .int .i64 0] 46)).alloc (.cells #[.int .i64 0, .int .i64 0] 50)).cell? ⟨w7.heap.size, 3, none⟩ = some (.bool false) ∧ ((w7.alloc (.cells #[.int .i64 0, .int .i64 0, .int .i64 0, .bool false, .bool false, .bool false, .int .i64 0] 46)).alloc (.cells #[.int .i64 0, .int .i64 0] 50)).cell? ⟨w7.heap.size, 4, none⟩ = some (.bool false) ∧ ((w7.alloc (.cells #[.int .i64 0, .int .i64 0, .int .i64 0, .bool false, .bool false, .bool false, .int .i64 0] 46)).alloc (.cells #[.int .i64 0, .int .i64 0] 50)).cell? ⟨w7.heap.size, 5, none⟩ = some (.bool false) ∧ ((w7.alloc (.cells #[.int .i64 0, .int .i64 0, .int .i64 0, .bool false, .bool false, .bool false, .int .i64 0] 46)).alloc (.cells #[.int .i64 0, .int .i64 0] 50)).cell? ⟨w7.heap.size, 6, none⟩ = some (.int .i64 0)) ∧ (((w7.alloc (.cells #[.int .i64 0, .int .i64 0, .int .i64 0, .bool false, .bool false, .bool false, .int .i64 0] 46)).alloc (.cells #[.int .i64 0, .int .i64 0] 50)).cell? ⟨Q1, 0, none⟩ = some (.int .i64 0) ∧ ((w7.alloc (.cells #[.int .i64 0, .int .i64 0, .int .i64 0, .bool false, .bool false, .bool false, .int .i64 0] 46)).alloc (.cells #[.int .i64 0, .int .i64 0] 50)).cell? ⟨Q1, 1, none⟩ = some (.int .i64 0) ∧ ((w7.alloc (.cells #[.int .i64 0, .int .i64 0, .int .i64 0, .bool false, .bool false, .bool false, .int .i64 0] 46)).alloc (.cells #[.int .i64 0, .int .i64 0] 50)).cell? ⟨Q1, 2, none⟩ = some (.int .i64 0) ∧ ((w7.alloc (.cells #[.int .i64 0, .int .i64 0, .int .i64 0, .bool false, .bool false, .bool false, .int .i64 0] 46)).alloc (.cells #[.int .i64 0, .int .i64 0] 50)).cell? ⟨Q1, 3, none⟩ = some (.bool false) ∧ ((w7.alloc (.cells #[.int .i64 0, .int .i64 0, .int .i64 0, .bool false, .bool false, .bool false, .int .i64 0] 46)).alloc (.cells #[.int .i64 0, .int .i64 0] 50)).cell? ⟨Q1, 4, none⟩ = some (.bool false) ∧ ((w7.alloc (.cells #[.int .i64 0, .int .i64 0, .int .i64 0, .bool false, .bool false, .bool false, .int .i64 0] 46)).alloc (.cells #[.int .i64 0, .int .i64 0] 50)).cell? ⟨Q1, 5, none⟩ = some (.bool false) ∧ ((w7.alloc (.cells #[.int .i64 0, .int .i64 0, .int .i64 0, .bool false, .bool false, .bool false, .int .i64 0] 46)).alloc (.cells #[.int .i64 0, .int .i64 0] 50)).cell? ⟨Q1, 6, none⟩ = some (.int .i64 0)) ∧ (((w7.alloc (.cells #[.int .i64 0, .int .i64 0, .int .i64 0, .bool false, .bool false, .bool false, .int .i64 0] 46)).alloc (.cells #[.int .i64 0, .int .i64 0] 50)).cell? ⟨w7.heap.size + 1, 0, none⟩ = some (.int .i64 0) ∧ ((w7.alloc (.cells #[.int .i64 0, .int .i64 0, .int .i64 0, .bool false, .bool false, .bool false, .int .i64 0] 46)).alloc (.cells #[.int .i64 0, .int .i64 0] 50)).cell? ⟨w7.heap.size + 1, 1, none⟩ = some (.int .i64 0)) ∧ (((w7.alloc (.cells #[.int .i64 0, .int .i64 0, .int .i64 0, .bool false, .bool false, .bool false, .int .i64 0] 46)).alloc (.cells #[.int .i64 0, .int .i64 0] 50)).cell? ⟨Q1 + 1, 0, none⟩ = some (.int .i64 0) ∧ ((w7.alloc (.cells #[.int .i64 0, .int .i64 0, .int .i64 0, .bool false, .bool false, .bool false, .int .i64 0] 46)).alloc (.cells #[.int .i64 0, .int .i64 0] 50)).cell? ⟨Q1 + 1, 1, none⟩ = some (.int .i64 0)) ∧ VS w ((w7.alloc (.cells #[.int .i64 0, .int .i64 0, .int .i64 0, .bool false, .bool false, .bool false, .int .i64 0] 46)).alloc (.cells #[.int .i64 0, .int .i64 0] 50)) P b o l m c t s := by
            have V8 := VY.out.later LB.out
            exact ⟨V8.1, V8.2.1, ⟨by simp [go_sem, World.cell?_alloc_past], by simp [go_sem, World.cell?_alloc_past], by simp [go_sem, World.cell?_alloc_past], by simp [go_sem, World.cell?_alloc_past], by simp [go_sem, World.cell?_alloc_past], by simp [go_sem, World.cell?_alloc_past], by simp [go_sem, World.cell?_alloc_past]⟩, cells7_later LB.out AN.out.1, ⟨by simp [go_sem], by simp [go_sem]⟩, cells2_later LB.out AN.out.2, V8⟩
          generalize ((w7.alloc (.cells #[.int .i64 0, .int .i64 0, .int .i64 0, .bool false, .bool false, .bool false, .int .i64 0] 46)).alloc (.cells #[.int .i64 0, .int .i64 0] 50)) = w8 at *
          generalize w7.heap.size = R1 at *
          clear a0 a1 a2 a3 a4 a5 a6 e0 e1 g0 g1 g2 g3 g4 g5
          have Z := hide S0
          have hqi := fun d w => eqI3 d 0 0 0 w
          have hqb := fun d w => eqB3 d false false false w
          have hcr := checkRule_any m c
          have hrm := ruleMay_any m c
          have hck := bankCheck_any b o l
          have hbm := bankMay_any b o l
          have hlf := left_any b o l
          have hch := channelsLeft_any b o l
          generalize ruleE m c = re at *
          generalize bankE b l = be at *
          generalize leftU o 3 = nl at *
          have his := is_same (stepE b l m c t s)
          rw [errV_ne he] at his
          go_region_held3 (fun u => (u.cell? ⟨w.heap.size, 0, none⟩ = some (.int .i64 (b 0)) ∧ u.cell? ⟨w.heap.size, 1, none⟩ = some (.int .i64 (b 1)) ∧ u.cell? ⟨w.heap.size, 2, none⟩ = some (.int .i64 (b 2)) ∧ u.cell? ⟨w.heap.size, 3, none⟩ = some (.bool (o 0)) ∧ u.cell? ⟨w.heap.size, 4, none⟩ = some (.bool (o 1)) ∧ u.cell? ⟨w.heap.size, 5, none⟩ = some (.bool (o 2)) ∧ u.cell? ⟨w.heap.size, 6, none⟩ = some (.int .i64 l)) ∧ (u.cell? ⟨w.heap.size + 1, 0, none⟩ = some (.int .i64 m) ∧ u.cell? ⟨w.heap.size + 1, 1, none⟩ = some (.int .i64 c)) ∧ (u.cell? ⟨R1, 0, none⟩ = some (.int .i64 0) ∧ u.cell? ⟨R1, 1, none⟩ = some (.int .i64 0) ∧ u.cell? ⟨R1, 2, none⟩ = some (.int .i64 0) ∧ u.cell? ⟨R1, 3, none⟩ = some (.bool false) ∧ u.cell? ⟨R1, 4, none⟩ = some (.bool false) ∧ u.cell? ⟨R1, 5, none⟩ = some (.bool false) ∧ u.cell? ⟨R1, 6, none⟩ = some (.int .i64 0)) ∧ (u.cell? ⟨Q1, 0, none⟩ = some (.int .i64 0) ∧ u.cell? ⟨Q1, 1, none⟩ = some (.int .i64 0) ∧ u.cell? ⟨Q1, 2, none⟩ = some (.int .i64 0) ∧ u.cell? ⟨Q1, 3, none⟩ = some (.bool false) ∧ u.cell? ⟨Q1, 4, none⟩ = some (.bool false) ∧ u.cell? ⟨Q1, 5, none⟩ = some (.bool false) ∧ u.cell? ⟨Q1, 6, none⟩ = some (.int .i64 0)) ∧ (u.cell? ⟨R1 + 1, 0, none⟩ = some (.int .i64 0) ∧ u.cell? ⟨R1 + 1, 1, none⟩ = some (.int .i64 0)) ∧ (u.cell? ⟨Q1 + 1, 0, none⟩ = some (.int .i64 0) ∧ u.cell? ⟨Q1 + 1, 1, none⟩ = some (.int .i64 0)) ∧ VS w u P b o l m c t s)
            (first
              | (with_reducible assumption)
              | (with_reducible apply keepT; with_reducible assumption; with_reducible assumption)
              | (refine keepT ?_ Z.out; exact (Below.refl _ _).drew))
            (first
              | (go_at_call 53; refine (hcr _).mono ?_; rintro e w' ⟨rfl, hb⟩)
              | (go_at_call 16; refine (hrm _).mono ?_; rintro e w' ⟨rfl, hb⟩)
              | (go_at_call 54; refine (hck _).mono ?_; rintro e w' ⟨rfl, hb⟩)
              | (go_at_call 51; refine (hbm _).mono ?_; rintro e w' ⟨rfl, hb⟩)
              | (go_at_call 55; refine (hlf _).mono ?_; rintro e w' ⟨rfl, hb⟩)
              | (go_at_call 56; refine (hch _).mono ?_; rintro e w' ⟨rfl, hb⟩)
              | (go_at_call_of 14 (errV re); refine (is_same re _).mono ?_; rintro e w' ⟨rfl, hq⟩; have hq := hq.symm; subst hq)
              | (go_at_call_of 14 (errV be); refine (is_same be _).mono ?_; rintro e w' ⟨rfl, hq⟩; have hq := hq.symm; subst hq)
              | (go_at_call 14; refine (his _).mono ?_; rintro e w' ⟨rfl, hq⟩; have hq := hq.symm; subst hq))
          all_goals
            rename_i hH
            go_wp2_with fail
            go_ret
            exact ⟨rfl, hH.2.2.2.2.2.2.2.2.2.1⟩


end Go.Proofs.Ytmainmldndidhaa
