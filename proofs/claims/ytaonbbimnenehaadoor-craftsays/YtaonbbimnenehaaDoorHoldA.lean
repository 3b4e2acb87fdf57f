/-
  Contracts of the small functions of package hold and of fulmarref on what is wanted: a hundredth, the pull, what is clipped. Each returns what the plain words say, and nothing that was there has turned.
-/
import Derived.Test.YtaonbbimnenehaaDoorLwA
import Derived.Test.YtaonbbimnenehaaDoorWalksB
import Derived.Test.YtaonbbimnenehaaDoorLineG
namespace Go.Proofs.YtaonbbimnenehaaDoor
open Go.RowKit Plain

/-- A hundredth of a stick; the pull by a gain. -/
def hunI (s n : Int) : Int := (s * n).tdiv 100
def pullI (g aim p : Int) : Int := mulI g (clipI (aim - clipI p (-2000000) 2000000) (-1000000) 1000000)
theorem clipI_bd (x : Int) {lo hi : Int} (h : lo ≤ hi) : lo ≤ clipI x lo hi ∧ clipI x lo hi ≤ hi := by
  unfold clipI; split
  · omega
  · split
    · omega
    · split <;> omega
theorem pullI_bd (g aim p : Int) : -2147483647 ≤ pullI g aim p ∧ pullI g aim p ≤ 2147483647 := by
  unfold pullI mulI; exact ⟨ofI_lo _, ofI_hi _⟩
theorem hun_mul {s n : Int} (s0 : -100 ≤ s) (s1 : s ≤ 100) (n0 : 0 ≤ n) (n1 : n ≤ 4000) : -400000 ≤ s * n ∧ s * n ≤ 400000 := by
  have := mul_bdT (a := s) (b := n) (A := 100) (B := 4000) (by omega) (by omega) (by omega) (by omega)
  omega
theorem hunI_bd {s n : Int} (s0 : -100 ≤ s) (s1 : s ≤ 100) (n0 : 0 ≤ n) (n1 : n ≤ 4000) : -400000 ≤ hunI s n ∧ hunI s n ≤ 400000 := by
  obtain ⟨a, b⟩ := hun_mul s0 s1 n0 n1
  exact tdiv_bd _ _ _ a b

/-- May a rule be, number by number? -/
def ruB (L H U B M : Int) : Bool := betw L (-100000) 100000 && betw H (-100000) 100000 && betw U 0 1000 && betw B 0 65536 && betw M 1 4000
theorem ruB_true {L H U B M : Int} (h : ruB L H U B M = true) : (-100000 ≤ L ∧ L ≤ 100000) ∧ (-100000 ≤ H ∧ H ≤ 100000) ∧ (0 ≤ U ∧ U ≤ 1000) ∧ (0 ≤ B ∧ B ≤ 65536) ∧ 1 ≤ M ∧ M ≤ 4000 := by
  simp only [ruB, Bool.and_eq_true] at h
  exact ⟨betw_true h.1.1.1.1, betw_true h.1.1.1.2, betw_true h.1.1.2, betw_true h.1.2, betw_true h.2⟩

set_option maxHeartbeats 2000000 in
theorem inRange_any (L H U B M : Int) (a z : Option Addr) (al zl ca cz : Nat) (w : World) :
    Calls Tryd.prog 55 #[.agg #[.int .i64 L, .int .i64 H, .int .i64 U, .int .i64 B, .int .i64 M, .slice a al ca, .slice z zl cz]] w fun e w' => e = .returned (.bool (ruB L H U B M)) ∧ Below w.heap.size w w' := by
  have f1 := isFrom_ex L (-100000) 100000
  have f2 := isFrom_ex H (-100000) 100000
  have f3 := isFrom_ex U 0 1000
  have f4 := isFrom_ex B 0 65536
  have f5 := isFrom_ex M 1 4000
  unfold ruB
  generalize betw L (-100000) 100000 = x1 at *
  generalize betw H (-100000) 100000 = x2 at *
  generalize betw U 0 1000 = x3 at *
  generalize betw B 0 65536 = x4 at *
  generalize betw M 1 4000 = x5 at *
  rcases (show x1 = false ∨ (x1 = true ∧ x2 = false) ∨ (x1 = true ∧ x2 = true ∧ x3 = false) ∨ (x1 = true ∧ x2 = true ∧ x3 = true ∧ x4 = false) ∨ (x1 = true ∧ x2 = true ∧ x3 = true ∧ x4 = true) by cases x1 <;> cases x2 <;> cases x3 <;> cases x4 <;> simp) with rfl | ⟨rfl, rfl⟩ | ⟨rfl, rfl, rfl⟩ | ⟨rfl, rfl, rfl, rfl⟩ | ⟨rfl, rfl, rfl, rfl⟩
  all_goals
    go_enter Tryd.func55, Tryd.ntmps55
    go_wp2_with (first
      | (go_at_call_of 52 (Value.int .i64 L); refine (f1 _).mono ?_; rintro e w' ⟨rfl, rfl⟩)
      | (go_at_call_of 52 (Value.int .i64 H); refine (f2 _).mono ?_; rintro e w' ⟨rfl, rfl⟩)
      | (go_at_call_of 52 (Value.int .i64 U); refine (f3 _).mono ?_; rintro e w' ⟨rfl, rfl⟩)
      | (go_at_call_of 52 (Value.int .i64 B); refine (f4 _).mono ?_; rintro e w' ⟨rfl, rfl⟩)
      | (go_at_call_of 52 (Value.int .i64 M); refine (f5 _).mono ?_; rintro e w' ⟨rfl, rfl⟩))
    go_ret
    exact ⟨by simp, by repeat (first | exact abelow_alloc _ _ | refine abelow_up ?_ (abelow_alloc _ _))⟩

end Go.Proofs.YtaonbbimnenehaaDoor
