/-
  The contract of vote.Step.
-/
import Derived.Test.YthijegfacnjooaaVoteH
import Derived.Test.YthijegfacnjooaaVoteF
namespace Go.Proofs.Ythijegfacnjooaa
open Go.RowKit Plain

theorem owns_later {w w' : World} {B : Nat} {e : TypeId} {size : Nat} {v : Value} {n : Nat} {xs : List Value} (h : w.ownsRow B e size v n xs) (hb : Below w.heap.size w w') : w'.ownsRow B e size v n xs := by
  refine ⟨h.1, ?_⟩
  rcases h.2 with h | ⟨g, cap, cur, h1, h2, h3, h4⟩
  · exact .inl h
  · refine .inr ⟨g, cap, cur, h1, h2, ?_, h4⟩
    rw [hb.block g ?_]
    · exact h3
    · rcases Nat.lt_or_ge g w.heap.size with h | h
      · exact h
      · rw [Array.getElem?_eq_none h] at h3; cases h3

/-- A new pair of numbers, whatever came behind. -/
def NewV (K : Nat) (w : World) (V : Nat) : Prop := w.cell? ⟨V, 0, none⟩ = some (.int .i64 0) ∧ w.cell? ⟨V, 1, none⟩ = some (.int .i64 0) ∧ w.frozen? ⟨V, 0, none⟩ = false ∧ w.frozen? ⟨V, 1, none⟩ = false ∧ K < V
theorem NewV.lt {K : Nat} {w : World} {V : Nat} (h : NewV K w V) : K < V := h.2.2.2.2
theorem newV {K : Nat} {X w' : World} (hK : K < X.heap.size) (hb : Below (X.alloc (.cells #[.int .i64 0, .int .i64 0] 41)).heap.size (X.alloc (.cells #[.int .i64 0, .int .i64 0] 41)) w') : NewV K w' X.heap.size := by
  have hl : X.heap.size < (X.alloc (.cells #[.int .i64 0, .int .i64 0] 41)).heap.size := by simp [go_sem]
  exact ⟨cell_later hb (by simp [go_sem]), cell_later hb (by simp [go_sem]), (hb.frozen (p := ⟨X.heap.size, 0, none⟩) hl).trans (by simp [go_sem]), (hb.frozen (p := ⟨X.heap.size, 1, none⟩) hl).trans (by simp [go_sem]), hK⟩
theorem newVd {K : Nat} {X w' : World} (hK : K < X.heap.size) (hb : Below (X.alloc (.cells #[.int .i64 0, .int .i64 0] 41)).drew.heap.size (X.alloc (.cells #[.int .i64 0, .int .i64 0] 41)).drew w') : NewV K w' X.heap.size := newV hK ((Below.refl _ _).drew.trans hb)
theorem laterV {K : Nat} {w w' : World} {V : Nat} (hb : Below w.heap.size w w') (h : NewV K w V) : NewV K w' V := by
  have hl := World.block_lt_of_cell? w ⟨V, 0, none⟩ h.1
  exact ⟨cell_later hb h.1, cell_later hb h.2.1, (hb.frozen (p := ⟨V, 0, none⟩) hl).trans h.2.2.1, (hb.frozen (p := ⟨V, 1, none⟩) hl).trans h.2.2.2.1, h.2.2.2.2⟩
theorem sampE_of {b : Nat → Int} {l m c : Int} {t : Nat → Bool} {s : Nat → Int} (h : stepE b l m c t s = 0) : sampU t s 3 = true := by
  unfold stepE at h
  split at h
  · split at h
    · split at h
      · assumption
      · omega
    · omega
  · omega
theorem lastE_of {b : Nat → Int} {l m c : Int} {t : Nat → Bool} {s : Nat → Int} (h : stepE b l m c t s = 0) : -1000000 ≤ l ∧ l ≤ 1000000 := by
  unfold stepE at h
  split at h
  · split at h
    · rename_i h2
      unfold bankE at h2
      split at h2
      · rename_i h3; exact within_true (by simp only [Bool.and_eq_true] at h3; exact h3.2)
      · omega
    · omega
  · omega
theorem bankE_of {b : Nat → Int} {l m c : Int} {t : Nat → Bool} {s : Nat → Int} (h : stepE b l m c t s = 0) : ∀ k, k < 3 → 0 ≤ b k ∧ b k ≤ 10 := by
  unfold stepE at h
  split at h
  · split at h
    · rename_i h2
      unfold bankE at h2
      split at h2
      · rename_i h3; exact okU_true (by simp only [Bool.and_eq_true] at h3; exact h3.1)
      · omega
    · omega
  · omega
theorem ruleE_of {b : Nat → Int} {l m c : Int} {t : Nat → Bool} {s : Nat → Int} (h : stepE b l m c t s = 0) : (0 ≤ m ∧ m ≤ 1000000) ∧ 1 ≤ c ∧ c ≤ 10 := by
  unfold stepE at h
  split at h
  · rename_i h2
    unfold ruleE at h2
    split at h2
    · rename_i h3; exact ruleB_true h3
    · omega
  · omega
theorem keepH {w u u' : World} {b : Nat → Int} {o : Nat → Bool} {l m c : Int} {t : Nat → Bool} {s : Nat → Int} (hb : Below u.heap.size u u')
    (h : (u.cell? ⟨w.heap.size, 0, none⟩ = some (.int .i64 (b 0)) ∧ u.cell? ⟨w.heap.size, 1, none⟩ = some (.int .i64 (b 1)) ∧ u.cell? ⟨w.heap.size, 2, none⟩ = some (.int .i64 (b 2)) ∧ u.cell? ⟨w.heap.size, 3, none⟩ = some (.bool (o 0)) ∧ u.cell? ⟨w.heap.size, 4, none⟩ = some (.bool (o 1)) ∧ u.cell? ⟨w.heap.size, 5, none⟩ = some (.bool (o 2)) ∧ u.cell? ⟨w.heap.size, 6, none⟩ = some (.int .i64 l)) ∧ (u.cell? ⟨w.heap.size + 1 + 1, 0, none⟩ = some (.bool (t 0)) ∧ u.cell? ⟨w.heap.size + 1 + 1, 1, none⟩ = some (.int .i64 (s 0)) ∧ u.cell? ⟨w.heap.size + 1 + 1, 2, none⟩ = some (.bool (t 1)) ∧ u.cell? ⟨w.heap.size + 1 + 1, 3, none⟩ = some (.int .i64 (s 1)) ∧ u.cell? ⟨w.heap.size + 1 + 1, 4, none⟩ = some (.bool (t 2)) ∧ u.cell? ⟨w.heap.size + 1 + 1, 5, none⟩ = some (.int .i64 (s 2))) ∧ StAt w u b o l m c t s) :
    (u'.cell? ⟨w.heap.size, 0, none⟩ = some (.int .i64 (b 0)) ∧ u'.cell? ⟨w.heap.size, 1, none⟩ = some (.int .i64 (b 1)) ∧ u'.cell? ⟨w.heap.size, 2, none⟩ = some (.int .i64 (b 2)) ∧ u'.cell? ⟨w.heap.size, 3, none⟩ = some (.bool (o 0)) ∧ u'.cell? ⟨w.heap.size, 4, none⟩ = some (.bool (o 1)) ∧ u'.cell? ⟨w.heap.size, 5, none⟩ = some (.bool (o 2)) ∧ u'.cell? ⟨w.heap.size, 6, none⟩ = some (.int .i64 l)) ∧ (u'.cell? ⟨w.heap.size + 1 + 1, 0, none⟩ = some (.bool (t 0)) ∧ u'.cell? ⟨w.heap.size + 1 + 1, 1, none⟩ = some (.int .i64 (s 0)) ∧ u'.cell? ⟨w.heap.size + 1 + 1, 2, none⟩ = some (.bool (t 1)) ∧ u'.cell? ⟨w.heap.size + 1 + 1, 3, none⟩ = some (.int .i64 (s 1)) ∧ u'.cell? ⟨w.heap.size + 1 + 1, 4, none⟩ = some (.bool (t 2)) ∧ u'.cell? ⟨w.heap.size + 1 + 1, 5, none⟩ = some (.int .i64 (s 2))) ∧ StAt w u' b o l m c t s :=
  ⟨BankAt.later h.1 hb, SampAt.later h.2.1 hb, h.2.2.later hb⟩

theorem keepSet {w u : World} {V : Nat} {p q : Value} {b : Nat → Int} {o : Nat → Bool} {l m c : Int} {t : Nat → Bool} {s : Nat → Int} (hV : w.heap.size + 1 + 1 + 1 + 1 < V)
    (h : (u.cell? ⟨w.heap.size, 0, none⟩ = some (.int .i64 (b 0)) ∧ u.cell? ⟨w.heap.size, 1, none⟩ = some (.int .i64 (b 1)) ∧ u.cell? ⟨w.heap.size, 2, none⟩ = some (.int .i64 (b 2)) ∧ u.cell? ⟨w.heap.size, 3, none⟩ = some (.bool (o 0)) ∧ u.cell? ⟨w.heap.size, 4, none⟩ = some (.bool (o 1)) ∧ u.cell? ⟨w.heap.size, 5, none⟩ = some (.bool (o 2)) ∧ u.cell? ⟨w.heap.size, 6, none⟩ = some (.int .i64 l)) ∧ (u.cell? ⟨w.heap.size + 1 + 1, 0, none⟩ = some (.bool (t 0)) ∧ u.cell? ⟨w.heap.size + 1 + 1, 1, none⟩ = some (.int .i64 (s 0)) ∧ u.cell? ⟨w.heap.size + 1 + 1, 2, none⟩ = some (.bool (t 1)) ∧ u.cell? ⟨w.heap.size + 1 + 1, 3, none⟩ = some (.int .i64 (s 1)) ∧ u.cell? ⟨w.heap.size + 1 + 1, 4, none⟩ = some (.bool (t 2)) ∧ u.cell? ⟨w.heap.size + 1 + 1, 5, none⟩ = some (.int .i64 (s 2))) ∧ StAt w u b o l m c t s) :
    (((u.setCell ⟨V, 0, none⟩ p).setCell ⟨V, 1, none⟩ q).cell? ⟨w.heap.size, 0, none⟩ = some (.int .i64 (b 0)) ∧ ((u.setCell ⟨V, 0, none⟩ p).setCell ⟨V, 1, none⟩ q).cell? ⟨w.heap.size, 1, none⟩ = some (.int .i64 (b 1)) ∧ ((u.setCell ⟨V, 0, none⟩ p).setCell ⟨V, 1, none⟩ q).cell? ⟨w.heap.size, 2, none⟩ = some (.int .i64 (b 2)) ∧ ((u.setCell ⟨V, 0, none⟩ p).setCell ⟨V, 1, none⟩ q).cell? ⟨w.heap.size, 3, none⟩ = some (.bool (o 0)) ∧ ((u.setCell ⟨V, 0, none⟩ p).setCell ⟨V, 1, none⟩ q).cell? ⟨w.heap.size, 4, none⟩ = some (.bool (o 1)) ∧ ((u.setCell ⟨V, 0, none⟩ p).setCell ⟨V, 1, none⟩ q).cell? ⟨w.heap.size, 5, none⟩ = some (.bool (o 2)) ∧ ((u.setCell ⟨V, 0, none⟩ p).setCell ⟨V, 1, none⟩ q).cell? ⟨w.heap.size, 6, none⟩ = some (.int .i64 l)) ∧ (((u.setCell ⟨V, 0, none⟩ p).setCell ⟨V, 1, none⟩ q).cell? ⟨w.heap.size + 1 + 1, 0, none⟩ = some (.bool (t 0)) ∧ ((u.setCell ⟨V, 0, none⟩ p).setCell ⟨V, 1, none⟩ q).cell? ⟨w.heap.size + 1 + 1, 1, none⟩ = some (.int .i64 (s 0)) ∧ ((u.setCell ⟨V, 0, none⟩ p).setCell ⟨V, 1, none⟩ q).cell? ⟨w.heap.size + 1 + 1, 2, none⟩ = some (.bool (t 1)) ∧ ((u.setCell ⟨V, 0, none⟩ p).setCell ⟨V, 1, none⟩ q).cell? ⟨w.heap.size + 1 + 1, 3, none⟩ = some (.int .i64 (s 1)) ∧ ((u.setCell ⟨V, 0, none⟩ p).setCell ⟨V, 1, none⟩ q).cell? ⟨w.heap.size + 1 + 1, 4, none⟩ = some (.bool (t 2)) ∧ ((u.setCell ⟨V, 0, none⟩ p).setCell ⟨V, 1, none⟩ q).cell? ⟨w.heap.size + 1 + 1, 5, none⟩ = some (.int .i64 (s 2))) ∧ StAt w ((u.setCell ⟨V, 0, none⟩ p).setCell ⟨V, 1, none⟩ q) b o l m c t s :=
  ⟨BankAt.set (BankAt.set h.1 (by omega)) (by omega), SampAt.set (SampAt.set h.2.1 (by omega)) (by omega), (h.2.2.setElse hV _).setElse hV _⟩

theorem keepK {w u u' : World} {V Y : Nat} {m c v z : Int} {y : Bool} (hb : Below u.heap.size u u') (h : (u.cell? ⟨w.heap.size + 1, 0, none⟩ = some (.int .i64 m) ∧ u.cell? ⟨w.heap.size + 1, 1, none⟩ = some (.int .i64 c)) ∧ u.cell? ⟨V, 0, none⟩ = some (.int .i64 v) ∧ u.cell? ⟨Y, 0, none⟩ = some (.bool y) ∧ u.cell? ⟨Y, 1, none⟩ = some (.int .i64 z)) : (u'.cell? ⟨w.heap.size + 1, 0, none⟩ = some (.int .i64 m) ∧ u'.cell? ⟨w.heap.size + 1, 1, none⟩ = some (.int .i64 c)) ∧ u'.cell? ⟨V, 0, none⟩ = some (.int .i64 v) ∧ u'.cell? ⟨Y, 0, none⟩ = some (.bool y) ∧ u'.cell? ⟨Y, 1, none⟩ = some (.int .i64 z) :=
  ⟨⟨cell_later hb h.1.1, cell_later hb h.1.2⟩, cell_later hb h.2.1, cell_later hb h.2.2.1, cell_later hb h.2.2.2⟩
theorem keepKs {w u : World} {V Y j : Nat} {m c v z : Int} {y : Bool} {x : Value} (hV : w.heap.size ≠ V) (hY : w.heap.size ≠ Y) (h : (u.cell? ⟨w.heap.size + 1, 0, none⟩ = some (.int .i64 m) ∧ u.cell? ⟨w.heap.size + 1, 1, none⟩ = some (.int .i64 c)) ∧ u.cell? ⟨V, 0, none⟩ = some (.int .i64 v) ∧ u.cell? ⟨Y, 0, none⟩ = some (.bool y) ∧ u.cell? ⟨Y, 1, none⟩ = some (.int .i64 z)) : ((u.setCell ⟨w.heap.size, j, none⟩ x).cell? ⟨w.heap.size + 1, 0, none⟩ = some (.int .i64 m) ∧ (u.setCell ⟨w.heap.size, j, none⟩ x).cell? ⟨w.heap.size + 1, 1, none⟩ = some (.int .i64 c)) ∧ (u.setCell ⟨w.heap.size, j, none⟩ x).cell? ⟨V, 0, none⟩ = some (.int .i64 v) ∧ (u.setCell ⟨w.heap.size, j, none⟩ x).cell? ⟨Y, 0, none⟩ = some (.bool y) ∧ (u.setCell ⟨w.heap.size, j, none⟩ x).cell? ⟨Y, 1, none⟩ = some (.int .i64 z) :=
  ⟨⟨cell_other h.1.1 (ne_blk (by omega)), cell_other h.1.2 (ne_blk (by omega))⟩, cell_other h.2.1 (ne_blk hV), cell_other h.2.2.1 (ne_blk hY), cell_other h.2.2.2 (ne_blk hY)⟩

set_option maxRecDepth 100000 in
set_option maxHeartbeats 2000000 in
theorem step_ok (b : Nat → Int) (o : Nat → Bool) (l m c : Int) (t : Nat → Bool) (s : Nat → Int) (he : stepE b l m c t s = 0) (w : World) :
    Calls Try.prog 15 #[.agg #[.int .i64 (b 0), .int .i64 (b 1), .int .i64 (b 2), .bool (o 0), .bool (o 1), .bool (o 2), .int .i64 l], .agg #[.int .i64 m, .int .i64 c], .agg #[.bool (t 0), .int .i64 (s 0), .bool (t 1), .int .i64 (s 1), .bool (t 2), .int .i64 (s 2)]] w
      fun e w' => e = .returned (.tuple #[.agg #[.int .i64 (nbI t o s b (votI t o s l) m 0), .int .i64 (nbI t o s b (votI t o s l) m 1), .int .i64 (nbI t o s b (votI t o s l) m 2), .bool (noB t o s b (votI t o s l) m c 0), .bool (noB t o s b (votI t o s l) m c 1), .bool (noB t o s b (votI t o s l) m c 2), .int .i64 (votI t o s l)], .agg #[.int .i64 (votI t o s l), .int .i64 (manyU t o 3)], .nilIface]) ∧ Below w.heap.size w w' := by
  have HX := hide (st_new w b o l m c t s)
  have hck := checkStep_any b o l m c t s
  rw [he, errV_zero] at hck
  go_enter Try.func15, Try.ntmps15
  go_upto_region 4 with (go_at_call 36; refine (hck _).mono ?_; rintro e w1 ⟨rfl, hb1⟩; have HX := hide (HX.out.later hb1); clear hb1)
  have st0 := HX.out
  have S0 : (w1.cell? ⟨w.heap.size, 0, none⟩ = some (.int .i64 (b 0)) ∧ w1.cell? ⟨w.heap.size, 1, none⟩ = some (.int .i64 (b 1)) ∧ w1.cell? ⟨w.heap.size, 2, none⟩ = some (.int .i64 (b 2)) ∧ w1.cell? ⟨w.heap.size, 3, none⟩ = some (.bool (o 0)) ∧ w1.cell? ⟨w.heap.size, 4, none⟩ = some (.bool (o 1)) ∧ w1.cell? ⟨w.heap.size, 5, none⟩ = some (.bool (o 2)) ∧ w1.cell? ⟨w.heap.size, 6, none⟩ = some (.int .i64 l)) ∧ (w1.cell? ⟨w.heap.size + 1 + 1, 0, none⟩ = some (.bool (t 0)) ∧ w1.cell? ⟨w.heap.size + 1 + 1, 1, none⟩ = some (.int .i64 (s 0)) ∧ w1.cell? ⟨w.heap.size + 1 + 1, 2, none⟩ = some (.bool (t 1)) ∧ w1.cell? ⟨w.heap.size + 1 + 1, 3, none⟩ = some (.int .i64 (s 1)) ∧ w1.cell? ⟨w.heap.size + 1 + 1, 4, none⟩ = some (.bool (t 2)) ∧ w1.cell? ⟨w.heap.size + 1 + 1, 5, none⟩ = some (.int .i64 (s 2))) ∧ StAt w w1 b o l m c t s := ⟨st0.1.1, st0.2.2.1, st0⟩
  have LT0 := hide st0.lt
  clear st0 HX
  have fit := fit_of (o := o) (sampE_of he)
  have hcn := counting_any b o l t s
  have hse := settle_any (risL (cntL t o s 3)) l
  have hlen : (risL (cntL t o s 3)).length ≤ 3 := by rw [risL_len]; exact cntL_len t o s 3
  have hbd := cntL_bd fit
  have EV := hide (set_vot l fit)
  have EN : Hid (((risL (cntL t o s 3)).length : Int) = manyU t o 3) := by rw [risL_len]; exact many_len t o s 3
  have Z := hide S0
  go_cut [10] (fun p w' => ∃ V, p = .pointer (some ⟨V, 0, none⟩) ∧ StAt w w' b o l m c t s ∧ RuleAt w' V (votI t o s l) (manyU t o 3) ∧ w.heap.size + 1 + 1 + 1 + 1 < V)
  case first =>
    generalize risL (cntL t o s 3) = zs at *
    go_region_held3 (fun u => (u.cell? ⟨w.heap.size, 0, none⟩ = some (.int .i64 (b 0)) ∧ u.cell? ⟨w.heap.size, 1, none⟩ = some (.int .i64 (b 1)) ∧ u.cell? ⟨w.heap.size, 2, none⟩ = some (.int .i64 (b 2)) ∧ u.cell? ⟨w.heap.size, 3, none⟩ = some (.bool (o 0)) ∧ u.cell? ⟨w.heap.size, 4, none⟩ = some (.bool (o 1)) ∧ u.cell? ⟨w.heap.size, 5, none⟩ = some (.bool (o 2)) ∧ u.cell? ⟨w.heap.size, 6, none⟩ = some (.int .i64 l)) ∧ (u.cell? ⟨w.heap.size + 1 + 1, 0, none⟩ = some (.bool (t 0)) ∧ u.cell? ⟨w.heap.size + 1 + 1, 1, none⟩ = some (.int .i64 (s 0)) ∧ u.cell? ⟨w.heap.size + 1 + 1, 2, none⟩ = some (.bool (t 1)) ∧ u.cell? ⟨w.heap.size + 1 + 1, 3, none⟩ = some (.int .i64 (s 1)) ∧ u.cell? ⟨w.heap.size + 1 + 1, 4, none⟩ = some (.bool (t 2)) ∧ u.cell? ⟨w.heap.size + 1 + 1, 5, none⟩ = some (.int .i64 (s 2))) ∧ StAt w u b o l m c t s)
      (first
        | (with_reducible assumption)
        | (with_reducible refine keepH (vbelow_alloc _ _) ?_; with_reducible assumption)
        | (with_reducible apply keepH; with_reducible assumption; with_reducible assumption)
        | (with_reducible refine keepH (vbelow_alloc _ _) KS.out)
        | (with_reducible refine keepSet (NewV.lt NV.out) KS.out)
        | (refine keepH ?_ Z.out; exact (vbelow_alloc _ _).drew)
        | (refine keepH ?_ Z.out; exact (Below.refl _ _).drew))
      (first
        | (go_at_call 38; refine (hcn _).mono ?_; rintro e w' ⟨⟨v, rfl, hown⟩, hb⟩; have LTW := hide (show w.heap.size + 1 + 1 + 1 + 1 < w'.heap.size from Nat.lt_of_lt_of_le LT0.out (Nat.le_trans (by simp [go_sem]) hb.size)); have KS := hide (keepH hb (by with_reducible assumption)); (first | (have NV := hide (newV (K := w.heap.size + 1 + 1 + 1 + 1) (by first | exact LTW.out | exact LT0.out) hb); obtain ⟨r0, r1, f0, f1, _⟩ := NV.out) | (have NV := hide (newVd (K := w.heap.size + 1 + 1 + 1 + 1) (by first | exact LTW.out | exact LT0.out) hb); obtain ⟨r0, r1, f0, f1, _⟩ := NV.out) | (have NV := hide (laterV hb NV.out); obtain ⟨r0, r1, f0, f1, _⟩ := NV.out) | skip))
        | (go_at_call 37; refine (hse _ _ _ hlen hbd (by first | (with_reducible assumption) | exact owns_later (by with_reducible assumption) (vbelow_alloc _ _))).mono ?_; rintro e w' ⟨rfl, hb⟩; have KS := hide (keepH hb (by with_reducible assumption)); (first | (have NV := hide (newV (K := w.heap.size + 1 + 1 + 1 + 1) (by first | exact LTW.out | exact LT0.out) hb); obtain ⟨r0, r1, f0, f1, _⟩ := NV.out) | (have NV := hide (newVd (K := w.heap.size + 1 + 1 + 1 + 1) (by first | exact LTW.out | exact LT0.out) hb); obtain ⟨r0, r1, f0, f1, _⟩ := NV.out) | (have NV := hide (laterV hb NV.out); obtain ⟨r0, r1, f0, f1, _⟩ := NV.out) | skip)))
    all_goals
      rename_i hH
      go_wp2_with fail
      go_meet
      (case rel =>
        first
          | exact ⟨_, rfl, hH.2.2, by rw [← EV.out, ← EN.out]; exact ⟨by simp [go_sem], by simp [go_sem]⟩, KS.out.2.2.lt⟩
          | exact ⟨_, rfl, hH.2.2, by rw [← EV.out, ← EN.out]; exact RuleAt.setBoth ⟨r0, r1⟩ _ _, NewV.lt NV.out⟩)
  case rest =>
    obtain ⟨V, rfl, hst, hvt, hV⟩ := hcut
    rename World => wb
    have vb := votI_bd (l := l) fit (lastE_of he).1 (lastE_of he).2
    have mb := ruleE_of he
    have HBD := hide (bankE_of he)
    obtain ⟨v, HVE⟩ : ∃ v, Hid (votI t o s l = v) := ⟨_, rfl⟩
    obtain ⟨n, HNE⟩ : ∃ n, Hid (manyU t o 3 = n) := ⟨_, rfl⟩
    rw [HVE.out] at hvt vb
    rw [HNE.out] at hvt
    have ST := hide hst
    have RV := hide hvt
    obtain ⟨p0, p1, p2, p3, p4, p5⟩ := hst.2.2.1
    clear hst hvt hcn hse hlen hbd EV EN Z S0 LT0 fit he hck
    have LT := hide hV
    go_wp2
    go_loopw [29] (fun i wr => ∃ k : Nat, k ≤ 3 ∧ i = .int .i64 k ∧ StAt w wr (mixI k (nbI t o s b v m) b) (mixB k (noB t o s b v m c) o) l m c t s ∧ RuleAt wr V v n) (fun i _ => 3 - (intOf i).toNat)
    case atStart => exact ⟨0, by omega, rfl, by rw [mixI_zero, mixB_zero]; exact ST.out, RV.out⟩
    case round =>
      clear ST RV p0 p1 p2 p3 p4 p5
      obtain ⟨k, hk, rfl, hst, hvt⟩ := hrel
      by_cases hlt : k < 3
      · have hix := idxS t s k hlt
        have c3 : ∀ ob, (wr.alloc ob).cell? ⟨w.heap.size, 3 + k, none⟩ = some (.bool (o k)) := fun ob => cell_later (vbelow_alloc wr ob) (by have := hst.1.1.out k hlt; rwa [mixB_at] at this)
        have i0 : (0 : Int) ≤ (k : Int) := by omega
        have i1 : (k : Int) < 3 := by omega
        have bd := HBD.out k hlt
        have HN := hide (show nbI t o s b v m k = (if o k then b k else badI (b k) (fineB (t k) (s k) v m)) ∧ noB t o s b v m c k = (if o k then true else outB (b k) (fineB (t k) (s k) v m) c) from ⟨rfl, rfl⟩)
        have STK := hide hst
        have RK := hide hvt
        cases h2 : o k
        · rw [h2] at c3
          rw [h2] at HN
          have STU := hide (hst.later (vbelow_alloc wr (.cells #[.bool (t k), .int .i64 (s k)] 36)))
          have RU := hide (hvt.later (vbelow_alloc wr (.cells #[.bool (t k), .int .i64 (s k)] 36)))
          have YU := hide (show (wr.alloc (.cells #[.bool (t k), .int .i64 (s k)] 36)).cell? ⟨wr.heap.size, 0, none⟩ = some (.bool (t k)) ∧ (wr.alloc (.cells #[.bool (t k), .int .i64 (s k)] 36)).cell? ⟨wr.heap.size, 1, none⟩ = some (.int .i64 (s k)) from ⟨by simp [go_sem], by simp [go_sem]⟩)
          have LY := hide hst.lt
          clear hst hvt STK RK
          go_upto_region 9 with fail
          generalize (wr.alloc (.cells #[.bool (t k), .int .i64 (s k)] 36)) = u0 at *
          generalize wr.heap.size = Y at *
          clear c3
          have c4 := STU.out.1.1.bad k hlt
          rw [mixI_at] at c4
          have c3 := STU.out.1.1.out k hlt
          have z1 := STU.out.1.2.1 k (by omega)
          have z2 := STU.out.1.2.1 (3 + k) (by omega)
          have hfn := isFine_any (t k) (s k) v m (by omega) (by omega) mb.1.1 mb.1.2
          have hjd := judge_any (b k) c (fineB (t k) (s k) v m) bd.1 bd.2
          have S0 : (u0.cell? ⟨w.heap.size + 1, 0, none⟩ = some (.int .i64 m) ∧ u0.cell? ⟨w.heap.size + 1, 1, none⟩ = some (.int .i64 c)) ∧ u0.cell? ⟨V, 0, none⟩ = some (.int .i64 v) ∧ u0.cell? ⟨Y, 0, none⟩ = some (.bool (t k)) ∧ u0.cell? ⟨Y, 1, none⟩ = some (.int .i64 (s k)) := ⟨STU.out.2.1, RU.out.1, YU.out.1, YU.out.2⟩
          have Z := hide S0
          have nV : w.heap.size ≠ V := by have := LT.out; omega
          have nY : w.heap.size ≠ Y := by have := LY.out; omega
          have NVY := hide (And.intro nV nY)
          obtain ⟨f, HF⟩ : ∃ f, Hid (fineB (t k) (s k) v m = f) := ⟨_, rfl⟩
          rw [HF.out] at hfn hjd HN
          obtain ⟨pb, HPB⟩ : ∃ pb, Hid (badI (b k) f = pb) := ⟨_, rfl⟩
          obtain ⟨po, HPO⟩ : ∃ po, Hid (outB (b k) f c = po) := ⟨_, rfl⟩
          rw [HPB.out, HPO.out] at hjd HN
          clear nV nY YU LY
          refine wp_region_held_drew (S := fun u => (u.cell? ⟨w.heap.size + 1, 0, none⟩ = some (.int .i64 m) ∧ u.cell? ⟨w.heap.size + 1, 1, none⟩ = some (.int .i64 c)) ∧ u.cell? ⟨V, 0, none⟩ = some (.int .i64 v) ∧ u.cell? ⟨Y, 0, none⟩ = some (.bool (t k)) ∧ u.cell? ⟨Y, 1, none⟩ = some (.int .i64 (s k))) (by kernel_rfl) (keepK (Below.refl _ _).drew Z.out) (fun hHeld => ?_)
          clear S0
          refine wpAnyH_take (i := 0) (v := ?v1) rfl (by kernel_rfl) (by kernel_rfl) (by kernel_rfl) (fun _ _ _ h => h) (Or.inl ⟨by rfl, ?hy1⟩) (by assumption) ?rest1
          case hy1 => (intro w hSw; (try dsimp only at hSw); go_simp; (try with_reducible rfl))
          (try simp only [Act.put])
          refine wpAnyH_take (i := 1) (v := ?v2) rfl (by kernel_rfl) (by kernel_rfl) (by kernel_rfl) (fun _ _ _ h => h) (Or.inl ⟨by rfl, ?hy2⟩) (by assumption) ?rest2
          case hy2 => (intro w hSw; (try dsimp only at hSw); go_simp; (try with_reducible rfl))
          (try simp only [Act.put])
          refine wpAnyH_take (i := 2) (v := ?v3) rfl (by kernel_rfl) (by kernel_rfl) (by kernel_rfl) (fun _ _ _ h => h) (Or.inl ⟨by rfl, ?hy3⟩) (by assumption) ?rest3
          case hy3 => (intro w hSw; (try dsimp only at hSw); go_simp; (try with_reducible rfl))
          (try simp only [Act.put])
          refine wpAnyH_take (i := 3) (v := ?v4) rfl (by kernel_rfl) (by kernel_rfl) (by kernel_rfl) (fun _ _ _ h => h) (Or.inl ⟨by rfl, ?hy4⟩) (by assumption) ?rest4
          case hy4 => (intro w hSw; (try dsimp only at hSw); go_simp; (try with_reducible rfl))
          (try simp only [Act.put])
          refine wpAnyH_take (i := 4) (v := ?v5) rfl (by kernel_rfl) (by kernel_rfl) (by kernel_rfl) (fun _ _ _ h => h) (Or.inl ⟨by rfl, ?hy5⟩) (by assumption) ?rest5
          case hy5 => (intro w hSw; (try dsimp only at hSw); go_simp; (try with_reducible rfl))
          (try simp only [Act.put])
          refine wpAnyH_take (i := 6) (v := ?v6) rfl (by kernel_rfl) (by kernel_rfl) (by kernel_rfl) (fun _ _ _ h => h) (Or.inl ⟨by rfl, ?hy6⟩) (by assumption) ?rest6
          case hy6 => (intro w hSw; (try dsimp only at hSw); go_simp; (try with_reducible rfl))
          (try simp only [Act.put])
          refine wpAnyH_take (i := 7) (v := ?v7) rfl (by kernel_rfl) (by kernel_rfl) (by kernel_rfl) (fun _ _ _ h => h) (Or.inl ⟨by rfl, ?hy7⟩) (by assumption) ?rest7
          case hy7 => (intro w hSw; (try dsimp only at hSw); go_simp; (try with_reducible rfl))
          (try simp only [Act.put])
          refine wpAnyH_take (i := 8) (v := ?v8) rfl (by kernel_rfl) (by kernel_rfl) (by kernel_rfl) (fun _ _ _ h => h) (Or.inl ⟨by rfl, ?hy8⟩) (by assumption) ?rest8
          case hy8 => (intro w hSw; (try dsimp only at hSw); go_simp; (try with_reducible rfl))
          (try simp only [Act.put])
          refine wpAnyH_take (i := 9) (v := ?v9) rfl (by kernel_rfl) (by kernel_rfl) (by kernel_rfl) (fun _ _ _ h => h) (Or.inl ⟨by rfl, ?hy9⟩) (by assumption) ?rest9
          case hy9 => (intro w hSw; (try dsimp only at hSw); go_simp; (try with_reducible rfl))
          (try simp only [Act.put])
          refine wpAnyH_take (i := 10) (v := ?v10) rfl (by kernel_rfl) (by kernel_rfl) (by kernel_rfl) (fun _ _ _ h => h) (Or.inl ⟨by rfl, ?hy10⟩) (by assumption) ?rest10
          case hy10 => (intro w hSw; (try dsimp only at hSw); go_simp; (try with_reducible rfl))
          (try simp only [Act.put])
          refine wpAnyH_take (i := 12) (v := ?v11) rfl (by kernel_rfl) (by kernel_rfl) (by kernel_rfl) (fun _ _ _ h => h) (Or.inl ⟨by rfl, ?hy11⟩) (by assumption) ?rest11
          case hy11 => (intro w hSw; (try dsimp only at hSw); go_simp; (try with_reducible rfl))
          (try simp only [Act.put])
          refine wpAnyH_take (i := 13) (v := ?v12) rfl (by kernel_rfl) (by kernel_rfl) (by kernel_rfl) (fun _ _ _ h => h) (Or.inl ⟨by rfl, ?hy12⟩) (by assumption) ?rest12
          case hy12 => (intro w hSw; (try dsimp only at hSw); go_simp; (try with_reducible rfl))
          (try simp only [Act.put])
          refine wpAnyH_take (i := 18) (v := ?v13) rfl (by kernel_rfl) (by kernel_rfl) (by kernel_rfl) (fun _ _ _ h => h) (Or.inl ⟨by rfl, ?hy13⟩) (by assumption) ?rest13
          case hy13 => (intro w hSw; (try dsimp only at hSw); go_simp; (try with_reducible rfl))
          (try simp only [Act.put])
          refine wpAnyH_take (i := 21) (v := ?v14) rfl (by kernel_rfl) (by kernel_rfl) (by kernel_rfl) (fun _ _ _ h => h) (Or.inl ⟨by rfl, ?hy14⟩) (by assumption) ?rest14
          case hy14 => (intro w hSw; (try dsimp only at hSw); go_simp; (try with_reducible rfl))
          (try simp only [Act.put])
          refine wpAnyH_ready (rs := [5, 11]) (by kernel_rfl) (by simp) ?_
          refine AllReadyH.cons rfl (fun K hK => ?_) (AllReadyH.cons rfl (fun K hK => ?_) AllReadyH.nil)
          · go_simp
            refine hK.out _ _ (keepK (Below.refl _ _).drew Z.out) (fun hHeld => ?_)
            clear hK K
            (try simp only [Act.put])
            refine wpAnyH_ready (rs := [11]) (by kernel_rfl) (by simp) ?_
            refine AllReadyH.cons rfl (fun K hK => ?_) AllReadyH.nil
            go_simp
            refine (hfn _).mono ?_
            rintro e w' ⟨rfl, hb⟩
            have hb0 := hide (show Below u0.heap.size u0 w' by first | exact hb | exact (Below.refl _ _).drew.trans hb)
            have KS := hide (keepK hb0.out Z.out)
            have c4 := cell_later hb0.out c4
            have c3 := cell_later hb0.out c3
            have z1 := (STU.out.1.2.later hb0.out).1 k (by omega)
            have z2 := (STU.out.1.2.later hb0.out).1 (3 + k) (by omega)
            go_wp2_with fail
            refine hK.out _ _ KS.out (fun hHeld => ?_)
            clear hK K
            (try simp only [Act.put])
            refine wpAnyH_ready (rs := [14]) (by kernel_rfl) (by simp) ?_
            refine AllReadyH.cons rfl (fun K hK => ?_) AllReadyH.nil
            go_simp
            refine (hjd _).mono ?_
            rintro e w'' ⟨rfl, hq⟩
            have hq := hq.symm
            subst hq
            go_wp2_with fail
            refine hK.out _ _ KS.out (fun hHeld => ?_)
            clear hK K
            (try simp only [Act.put])
            refine wpAnyH_take (i := 15) (v := ?v15) rfl (by kernel_rfl) (by kernel_rfl) (by kernel_rfl) (fun _ _ _ h => h) (Or.inl ⟨by rfl, ?hy15⟩) (by assumption) ?rest15
            case hy15 => (intro w hSw; (try dsimp only at hSw); go_simp; (try with_reducible rfl))
            (try simp only [Act.put])
            refine wpAnyH_take (i := 16) (v := ?v16) rfl (by kernel_rfl) (by kernel_rfl) (by kernel_rfl) (fun _ _ _ h => h) (Or.inl ⟨by rfl, ?hy16⟩) (by assumption) ?rest16
            case hy16 => (intro w hSw; (try dsimp only at hSw); go_simp; (try with_reducible rfl))
            (try simp only [Act.put])
            refine wpAnyH_take (i := 17) (v := ?v17) rfl (by kernel_rfl) (by kernel_rfl) (by kernel_rfl) (fun _ _ _ h => h) (Or.inl ⟨by rfl, ?hy17⟩) (by assumption) ?rest17
            case hy17 => (intro w hSw; (try dsimp only at hSw); go_simp; (try with_reducible rfl))
            (try simp only [Act.put])
            refine wpAnyH_take (i := 19) (v := ?v18) rfl (by kernel_rfl) (by kernel_rfl) (by kernel_rfl) (fun _ _ _ h => h) (Or.inl ⟨by rfl, ?hy18⟩) (by assumption) ?rest18
            case hy18 => (intro w hSw; (try dsimp only at hSw); go_simp; (try with_reducible rfl))
            (try simp only [Act.put])
            refine wpAnyH_ready (rs := [20]) (by kernel_rfl) (by simp) ?_
            refine AllReadyH.cons rfl (fun K hK => ?_) AllReadyH.nil
            go_simp
            refine hK.out _ _ (keepKs NVY.out.1 NVY.out.2 KS.out) (fun hHeld => ?_)
            clear hK K
            (try simp only [Act.put])
            refine wpAnyH_take (i := 22) (v := ?v19) rfl (by kernel_rfl) (by kernel_rfl) (by kernel_rfl) (fun _ _ _ h => h) (Or.inl ⟨by rfl, ?hy19⟩) (by assumption) ?rest19
            case hy19 => (intro w hSw; (try dsimp only at hSw); go_simp; (try with_reducible rfl))
            (try simp only [Act.put])
            refine wpAnyH_ready (rs := [23]) (by kernel_rfl) (by simp) ?_
            refine AllReadyH.cons rfl (fun K hK => ?_) AllReadyH.nil
            go_simp
            refine hK.out _ _ (keepKs NVY.out.1 NVY.out.2 (keepKs NVY.out.1 NVY.out.2 KS.out)) (fun hHeld => ?_)
            clear hK K
            (try simp only [Act.put])
            refine wpAnyH_done (by kernel_rfl) ?_ _
            go_wp2
            go_roundw
            case rel =>
              refine ⟨k + 1, by omega, by go_num, ?_, ?_⟩
              · rw [mixI_step, mixB_step, show nbI t o s b v m k = pb from HN.out.1, show noB t o s b v m c k = po from HN.out.2]
                exact ((STU.out.later hb0.out).setBad k hlt _).setOut k hlt _
              · exact ((RU.out.later hb0.out).set NVY.out.1).set NVY.out.1
            case measure => simp [intOf]; omega
          · go_simp
            refine (hfn _).mono ?_
            rintro e w' ⟨rfl, hb⟩
            have hb0 := hide (show Below u0.heap.size u0 w' by first | exact hb | exact (Below.refl _ _).drew.trans hb)
            have KS := hide (keepK hb0.out Z.out)
            have c4 := cell_later hb0.out c4
            have c3 := cell_later hb0.out c3
            have z1 := (STU.out.1.2.later hb0.out).1 k (by omega)
            have z2 := (STU.out.1.2.later hb0.out).1 (3 + k) (by omega)
            go_wp2_with fail
            refine hK.out _ _ KS.out (fun hHeld => ?_)
            clear hK K
            (try simp only [Act.put])
            refine wpAnyH_ready (rs := [5]) (by kernel_rfl) (by simp) ?_
            refine AllReadyH.cons rfl (fun K hK => ?_) AllReadyH.nil
            go_simp
            refine hK.out _ _ KS.out (fun hHeld => ?_)
            clear hK K
            (try simp only [Act.put])
            refine wpAnyH_ready (rs := [14]) (by kernel_rfl) (by simp) ?_
            refine AllReadyH.cons rfl (fun K hK => ?_) AllReadyH.nil
            go_simp
            refine (hjd _).mono ?_
            rintro e w'' ⟨rfl, hq⟩
            have hq := hq.symm
            subst hq
            go_wp2_with fail
            refine hK.out _ _ KS.out (fun hHeld => ?_)
            clear hK K
            (try simp only [Act.put])
            refine wpAnyH_take (i := 15) (v := ?v20) rfl (by kernel_rfl) (by kernel_rfl) (by kernel_rfl) (fun _ _ _ h => h) (Or.inl ⟨by rfl, ?hy20⟩) (by assumption) ?rest20
            case hy20 => (intro w hSw; (try dsimp only at hSw); go_simp; (try with_reducible rfl))
            (try simp only [Act.put])
            refine wpAnyH_take (i := 16) (v := ?v21) rfl (by kernel_rfl) (by kernel_rfl) (by kernel_rfl) (fun _ _ _ h => h) (Or.inl ⟨by rfl, ?hy21⟩) (by assumption) ?rest21
            case hy21 => (intro w hSw; (try dsimp only at hSw); go_simp; (try with_reducible rfl))
            (try simp only [Act.put])
            refine wpAnyH_take (i := 17) (v := ?v22) rfl (by kernel_rfl) (by kernel_rfl) (by kernel_rfl) (fun _ _ _ h => h) (Or.inl ⟨by rfl, ?hy22⟩) (by assumption) ?rest22
            case hy22 => (intro w hSw; (try dsimp only at hSw); go_simp; (try with_reducible rfl))
            (try simp only [Act.put])
            refine wpAnyH_take (i := 19) (v := ?v23) rfl (by kernel_rfl) (by kernel_rfl) (by kernel_rfl) (fun _ _ _ h => h) (Or.inl ⟨by rfl, ?hy23⟩) (by assumption) ?rest23
            case hy23 => (intro w hSw; (try dsimp only at hSw); go_simp; (try with_reducible rfl))
            (try simp only [Act.put])
            refine wpAnyH_ready (rs := [20]) (by kernel_rfl) (by simp) ?_
            refine AllReadyH.cons rfl (fun K hK => ?_) AllReadyH.nil
            go_simp
            refine hK.out _ _ (keepKs NVY.out.1 NVY.out.2 KS.out) (fun hHeld => ?_)
            clear hK K
            (try simp only [Act.put])
            refine wpAnyH_take (i := 22) (v := ?v24) rfl (by kernel_rfl) (by kernel_rfl) (by kernel_rfl) (fun _ _ _ h => h) (Or.inl ⟨by rfl, ?hy24⟩) (by assumption) ?rest24
            case hy24 => (intro w hSw; (try dsimp only at hSw); go_simp; (try with_reducible rfl))
            (try simp only [Act.put])
            refine wpAnyH_ready (rs := [23]) (by kernel_rfl) (by simp) ?_
            refine AllReadyH.cons rfl (fun K hK => ?_) AllReadyH.nil
            go_simp
            refine hK.out _ _ (keepKs NVY.out.1 NVY.out.2 (keepKs NVY.out.1 NVY.out.2 KS.out)) (fun hHeld => ?_)
            clear hK K
            (try simp only [Act.put])
            refine wpAnyH_done (by kernel_rfl) ?_ _
            go_wp2
            go_roundw
            case rel =>
              refine ⟨k + 1, by omega, by go_num, ?_, ?_⟩
              · rw [mixI_step, mixB_step, show nbI t o s b v m k = pb from HN.out.1, show noB t o s b v m c k = po from HN.out.2]
                exact ((STU.out.later hb0.out).setBad k hlt _).setOut k hlt _
              · exact ((RU.out.later hb0.out).set NVY.out.1).set NVY.out.1
            case measure => simp [intOf]; omega
        · rw [h2] at c3
          rw [h2] at HN
          have hbad : Hid (nbI t o s b v m k = mixI k (nbI t o s b v m) b k) := HN.out.1.trans (by rw [mixI_at]; rfl)
          have hout : Hid (noB t o s b v m c k = mixB k (noB t o s b v m c) o k) := HN.out.2.trans (by rw [mixB_at, h2]; rfl)
          clear hst hvt
          go_wp2
          go_roundw
          case rel =>
            refine ⟨k + 1, by omega, by go_num, ?_, RK.out.later (vbelow_alloc _ _)⟩
            rw [mixI_step, mixB_step, hbad.out, hout.out, updI_same, updB_same]
            exact STK.out.later (vbelow_alloc _ _)
          case measure => simp [intOf]; omega
      · have e : k = 3 := by omega
        subst e
        have HS3 := hide (hst.setLast v)
        have q6 := hst.1.1.2.2.2.2.2.2
        have z6 := hst.1.2.1 6 (by omega)
        have vt := hvt.1
        have nV : w.heap.size ≠ V := by have := LT.out; omega
        have HV3 := hide (hvt.set (q := 6) (v := .int .i64 v) nV)
        clear hst hvt nV
        go_upto_region 12 with fail
        generalize hw7 : (World.setCell _ _ (.int .i64 v)) = w7 at *
        clear hw7 q6 z6 vt
        obtain ⟨⟨⟨q0, q1, q2, q3, q4, q5, q6⟩, _⟩, _, _, ⟨⟨s0, s1, s2, s3, s4, s5, s6⟩, s7, _⟩, ⟨⟨p0, p1⟩, p2, _⟩, hB⟩ := HS3.out
        have f0 := s7 0 (by omega)
        have f1 := s7 1 (by omega)
        have f2 := s7 2 (by omega)
        have f3 := s7 3 (by omega)
        have f4 := s7 4 (by omega)
        have f5 := s7 5 (by omega)
        have f6 := s7 6 (by omega)
        have g0 := p2 0 (by omega)
        have g1 := p2 1 (by omega)
        obtain ⟨v0, v1⟩ := HV3.out
        clear hB s7 p2
        rw [show mixI 3 (nbI t o s b v m) b 0 = nbI t o s b v m 0 from rfl] at q0
        rw [show mixI 3 (nbI t o s b v m) b 1 = nbI t o s b v m 1 from rfl] at q1
        rw [show mixI 3 (nbI t o s b v m) b 2 = nbI t o s b v m 2 from rfl] at q2
        rw [show mixB 3 (noB t o s b v m c) o 0 = noB t o s b v m c 0 from rfl] at q3
        rw [show mixB 3 (noB t o s b v m c) o 1 = noB t o s b v m c 1 from rfl] at q4
        rw [show mixB 3 (noB t o s b v m c) o 2 = noB t o s b v m c 2 from rfl] at q5
        rw [show zI 0 = 0 from rfl] at s0
        rw [show zI 1 = 0 from rfl] at s1
        rw [show zI 2 = 0 from rfl] at s2
        rw [show zB 0 = false from rfl] at s3
        rw [show zB 1 = false from rfl] at s4
        rw [show zB 2 = false from rfl] at s5
        obtain ⟨y0, y1, y2, x0, x1, x2, EY⟩ : ∃ y0 y1 y2 x0 x1 x2, Hid (nbI t o s b v m 0 = y0 ∧ nbI t o s b v m 1 = y1 ∧ nbI t o s b v m 2 = y2 ∧ noB t o s b v m c 0 = x0 ∧ noB t o s b v m c 1 = x1 ∧ noB t o s b v m c 2 = x2) := ⟨_, _, _, _, _, _, rfl, rfl, rfl, rfl, rfl, rfl⟩
        rw [EY.out.1] at q0
        rw [EY.out.2.1] at q1
        rw [EY.out.2.2.1] at q2
        rw [EY.out.2.2.2.1] at q3
        rw [EY.out.2.2.2.2.1] at q4
        rw [EY.out.2.2.2.2.2] at q5
        have lt := LT.out
        have n1 : ¬ (w.heap.size + 1 + 1 + 1 = V) := by omega
        have n2 : ¬ (V = w.heap.size + 1 + 1 + 1) := by omega
        have n3 : ¬ (w.heap.size + 1 + 1 + 1 + 1 = V) := by omega
        have n4 : ¬ (V = w.heap.size + 1 + 1 + 1 + 1) := by omega
        clear lt
        go_region
        all_goals
          go_wp2
          have an := hide (ansW_at HS3.out.2.2.2.1.1 HS3.out.2.2.2.2.1.1 (by omega) y0 y1 y2 x0 x1 x2 v v n)
          have bl := hide (ansW_below HS3.out.2.2.2.2.2 (B := w.heap.size + 1 + 1 + 1) (C := w.heap.size + 1 + 1 + 1 + 1) (by omega) (by omega) y0 y1 y2 x0 x1 x2 v v n)
          change bodyPost _ _ _ Exit.ret _ (ansW w7 (w.heap.size + 1 + 1 + 1) (w.heap.size + 1 + 1 + 1 + 1) y0 y1 y2 x0 x1 x2 v v n).drew
          generalize (ansW w7 (w.heap.size + 1 + 1 + 1) (w.heap.size + 1 + 1 + 1 + 1) y0 y1 y2 x0 x1 x2 v v n) = w9 at *
          obtain ⟨⟨c0, c1, c2, c3, c4, c5, c6⟩, d0, d1⟩ := an.out
          exact bodyPost_ret (v := .tuple #[.agg #[.int .i64 y0, .int .i64 y1, .int .i64 y2, .bool x0, .bool x1, .bool x2, .int .i64 v], .agg #[.int .i64 v, .int .i64 n], .nilIface]) (by simp [results, Try.results15, go_sem, c0, c1, c2, c3, c4, c5, c6, d0, d1]) rfl ⟨by rw [HVE.out, HNE.out, EY.out.1, EY.out.2.1, EY.out.2.2.1, EY.out.2.2.2.1, EY.out.2.2.2.2.1, EY.out.2.2.2.2.2], bl.out.drew⟩

end Go.Proofs.Ythijegfacnjooaa
