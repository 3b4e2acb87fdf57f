/-
  The contract of vote.settle, and that what it makes of those that count is what is voted.
-/
import Derived.Test.YthijegfacnjooaaVoteG
import Derived.Test.YthijegfacnjooaaVoteE
namespace Go.Proofs.Ythijegfacnjooaa
open Go.RowKit Plain

/-- What is settled of numbers that rise. -/
def setI : List Int → Int → Int
  | [_, y, _], _ => y
  | [x, y], _ => (x + y) / 2
  | [x], _ => x
  | _, last => last

theorem cells_of_owns {w : World} {B : Nat} {v : Value} {zs : List Int} (h : w.ownsRow B 3 1 v zs.length (zs.map (Value.int .i64))) (hn : zs ≠ []) :
    ∃ g cap, v = .slice (some ⟨g, 0, none⟩) zs.length cap ∧ ∀ j, j < zs.length → w.cell? ⟨g, j, none⟩ = some (.int .i64 (zs.getD j 0)) := by
  obtain ⟨g, cap, cur, hv, hg0, hg, hc1, hc2, hc3, hc4⟩ := h.2.resolve_left (fun h => hn (List.length_eq_zero_iff.mp h.2))
  refine ⟨g, cap, hv, fun j hj => ?_⟩
  have hH := holds_of_blockI hg (by rw [Nat.mul_one] at hc4; exact hc4)
  have := (hH j (by simpa using hj)).1
  simp only [Nat.zero_add] at this
  rw [this, List.getD_eq_getElem?_getD, List.getElem?_eq_getElem hj]
  simp [hj]

set_option maxRecDepth 100000 in
theorem settle_any (zs : List Int) (l : Int) (v : Value) (B : Nat) (w : World) (hlen : zs.length ≤ 3) (hz : ∀ z ∈ zs, -1000000 ≤ z ∧ z ≤ 1000000) (h : w.ownsRow B 3 1 v zs.length (zs.map (Value.int .i64))) :
    Calls Try.prog 37 #[v, .int .i64 l] w fun e w' => e = .returned (.agg #[.int .i64 (setI zs l), .int .i64 (zs.length : Int)]) ∧ Below w.heap.size w w' := by
  match zs, hlen, hz, h with
  | [], _, _, h =>
    obtain ⟨ao, cv, rfl⟩ : ∃ ao cv, v = .slice ao 0 cv := by
      rcases h.2 with ⟨h, _⟩ | ⟨g, cap, cur, h, _⟩
      · exact ⟨none, 0, h⟩
      · exact ⟨_, _, h⟩
    clear h
    go_enter Try.func37, Try.ntmps37
    go_wp2
    exact bodyPost_ret (v := .agg #[.int .i64 l, .int .i64 0]) (by simp [results, Try.results37, go_sem]) rfl ⟨rfl, vbelow_alloc _ _⟩
  | [x], _, _, h =>
    obtain ⟨g, cap, rfl, hc⟩ := cells_of_owns h (by simp)
    have c0 := hc 0 (by simp)
    have n0 := World.block_lt_of_cell? w ⟨g, 0, none⟩ c0
    clear hc h
    simp only [List.getD_cons_zero, List.length_cons, List.length_nil] at c0 ⊢
    have d0 : ∀ ob, (w.alloc ob).cell? ⟨g, 0, none⟩ = some (.int .i64 x) := fun ob => cell_later (vbelow_alloc _ _) c0
    go_enter Try.func37, Try.ntmps37
    go_wp2
    exact bodyPost_ret (v := .agg #[.int .i64 x, .int .i64 1]) (by simp [results, Try.results37, go_sem]) rfl ⟨rfl, vbelow_alloc _ _⟩
  | [x, y], _, hz, h =>
    obtain ⟨g, cap, rfl, hc⟩ := cells_of_owns h (by simp)
    have c0 := hc 0 (by simp)
    have c1 := hc 1 (by simp)
    have hx := hz x (by simp)
    have hy := hz y (by simp)
    clear hc h hz
    simp only [List.getD_cons_zero, List.getD_cons_succ, List.length_cons, List.length_nil] at c0 c1 ⊢
    have d0 : ∀ ob, (w.alloc ob).cell? ⟨g, 0, none⟩ = some (.int .i64 x) := fun ob => cell_later (vbelow_alloc _ _) c0
    have d1 : ∀ ob, (w.alloc ob).cell? ⟨g, 1, none⟩ = some (.int .i64 y) := fun ob => cell_later (vbelow_alloc _ _) c1
    have hw : IntKind.i64.wrap (x + y) = x + y := by rw [IntKind.wrap_i64]; omega
    go_enter Try.func37, Try.ntmps37
    go_wp2
    go_quiet (fail)
    go_wp2
    rename_i nq
    have HX := hide (show RuleAt ((w.alloc (.cells #[.int .i64 0, .int .i64 0] 41)).drewN nq) w.heap.size 0 0 from RuleAt.later ⟨by simp [go_sem], by simp [go_sem]⟩ (below_drewN (Below.refl _ _) _))
    have HB := hide (below_drewN (vbelow_alloc w (.cells #[.int .i64 0, .int .i64 0] 41)) nq)
    generalize ((w.alloc (.cells #[.int .i64 0, .int .i64 0] 41)).drewN nq) = w1 at *
    have hx' := HX.out.setBoth ((x + y) / 2) 2
    have hb' := (HB.out.setCell (p := ⟨w.heap.size, 0, none⟩) (Nat.le_refl _) (.int .i64 ((x + y) / 2))).setCell (p := ⟨w.heap.size, 1, none⟩) (Nat.le_refl _) (.int .i64 2)
    generalize ((w1.setCell ⟨w.heap.size, 0, none⟩ (.int .i64 ((x + y) / 2))).setCell ⟨w.heap.size, 1, none⟩ (.int .i64 2)) = w2 at *
    obtain ⟨e0, e1⟩ := hx'
    exact bodyPost_ret (v := .agg #[.int .i64 ((x + y) / 2), .int .i64 2]) (by simp [results, Try.results37, go_sem, e0, e1]) rfl ⟨rfl, hb'⟩
  | [x, y, z], _, _, h =>
    obtain ⟨g, cap, rfl, hc⟩ := cells_of_owns h (by simp)
    have c1 := hc 1 (by simp)
    clear hc h
    simp only [List.getD_cons_zero, List.getD_cons_succ, List.length_cons, List.length_nil] at c1 ⊢
    have d1 : ∀ ob, (w.alloc ob).cell? ⟨g, 1, none⟩ = some (.int .i64 y) := fun ob => cell_later (vbelow_alloc _ _) c1
    go_enter Try.func37, Try.ntmps37
    go_wp2
    exact bodyPost_ret (v := .agg #[.int .i64 y, .int .i64 3]) (by simp [results, Try.results37, go_sem]) rfl ⟨rfl, vbelow_alloc _ _⟩

theorem rise2 (x y : Int) : risL [x, y] = if x ≤ y then [x, y] else [y, x] := by
  unfold risL
  by_cases h : x ≤ y <;> simp [List.mergeSort, List.MergeSort.Internal.splitInTwo, h]
theorem rise3 (x y z : Int) : ∃ p q r, risL [x, y, z] = [p, q, r] ∧ q = x + y + z - mnI (mnI x y) z - mxI (mxI x y) z := by
  have e : risL [x, y, z] = List.merge (risL [x, y]) [z] (fun x y => decide (x ≤ y)) := by
    unfold risL
    rw [List.mergeSort]
    simp [List.MergeSort.Internal.splitInTwo]
  rw [e, rise2]
  unfold mnI mxI
  by_cases h1 : x ≤ y
  · by_cases h2 : x ≤ z
    · by_cases h3 : y ≤ z
      · refine ⟨x, y, z, by simp [h1, h2, h3], ?_⟩
        simp only [h1, h2, h3, if_true]; omega
      · refine ⟨x, z, y, by simp [h1, h2, h3], ?_⟩
        simp only [h1, h2, h3, if_true, if_false]; omega
    · have h3 : ¬ y ≤ z := by omega
      refine ⟨z, x, y, by simp [h1, h2], ?_⟩
      simp only [h1, h2, h3, if_true, if_false]; omega
  · by_cases h2 : y ≤ z
    · by_cases h3 : x ≤ z
      · refine ⟨y, x, z, by simp [h1, h2, h3], ?_⟩
        simp only [h1, h2, h3, if_true, if_false]; omega
      · refine ⟨y, z, x, by simp [h1, h2, h3], ?_⟩
        simp only [h1, h2, h3, if_true, if_false]; omega
    · have h3 : ¬ x ≤ z := by omega
      refine ⟨z, y, x, by simp [h1, h2], ?_⟩
      simp only [h1, h2, h3, if_false]; omega

theorem many_len (t o : Nat → Bool) (s : Nat → Int) : ∀ k : Nat, ((cntL t o s k).length : Int) = manyU t o k
  | 0 => rfl
  | k + 1 => by have := many_len t o s k; simp only [cntL, manyU]; split <;> (try simp) <;> omega
theorem cntL_bd {t o : Nat → Bool} {s : Nat → Int} (h : Fit t o s) : ∀ z ∈ risL (cntL t o s 3), -1000000 ≤ z ∧ z ≤ 1000000 := by
  have hk : ∀ k : Nat, k ≤ 3 → ∀ z ∈ cntL t o s k, -1000000 ≤ z ∧ z ≤ 1000000 := by
    intro k
    induction k with
    | zero => intro _ z hz; simp [cntL] at hz
    | succ k ih =>
      intro hk z hz
      simp only [cntL] at hz
      split at hz
      · rcases List.mem_append.mp hz with h1 | h1
        · exact ih (by omega) z h1
        · simp at h1; subst h1; exact h k (by omega) (by assumption)
      · exact ih (by omega) z hz
  intro z hz
  exact hk 3 (Nat.le_refl _) z (List.mem_mergeSort.mp hz)

/-- What is settled of those that count is what is voted. -/
theorem set_vot {t o : Nat → Bool} {s : Nat → Int} (l : Int) (h : Fit t o s) : setI (risL (cntL t o s 3)) l = votI t o s l := by
  have a0 := h 0 (by omega)
  have a1 := h 1 (by omega)
  have a2 := h 2 (by omega)
  cases c0 : cntB t o 0 <;> cases c1 : cntB t o 1 <;> cases c2 : cntB t o 2 <;> (try replace a0 := a0 c0) <;> (try replace a1 := a1 c1) <;> (try replace a2 := a2 c2)
  case true.true.true =>
    obtain ⟨p, q, r, e1, e2⟩ := rise3 (s 0) (s 1) (s 2)
    have e3 : mnI 2147483647 (s 0) = s 0 := by unfold mnI; rw [if_neg (by omega)]
    have e4 : mxI (-2147483647) (s 0) = s 0 := by unfold mxI; rw [if_pos (by omega)]
    simp [votI, manyU, sumU, leastU, mostU, cntL, c0, c1, c2, e1, setI, e2, e3, e4]
  case false.false.false => simp [votI, manyU, cntL, c0, c1, c2, risL, setI]
  case true.false.false => simp [votI, manyU, sumU, cntL, c0, c1, c2, risL, setI]
  case false.true.false => simp [votI, manyU, sumU, cntL, c0, c1, c2, risL, setI]
  case false.false.true => simp [votI, manyU, sumU, cntL, c0, c1, c2, risL, setI]
  all_goals
    simp [votI, manyU, sumU, cntL, c0, c1, c2, rise2]
    split <;> simp [setI, Int.add_comm]

end Go.Proofs.Ythijegfacnjooaa
