/-
  Contracts of the small functions of package hold and of fulmarref on what is wanted: a hundredth, the pull, what is clipped. Each returns what the plain words say, and nothing that was there has turned.
-/
import Derived.Test.YthijegfacnjooaaLwA
import Derived.Test.YthijegfacnjooaaWalksB
import Derived.Test.YthijegfacnjooaaLineG
namespace Go.Proofs.Ythijegfacnjooaa
open Go.RowKit Plain

/-- A hundredth of a stick; the pull by a gain. -/
def hunI (s n : Int) : Int := (s * n).tdiv 100
def pullI (g aim p : Int) : Int := mulI g (clipI (aim - clipI p (-2000000) 2000000) (-1000000) 1000000)
theorem clipI_bd (x : Int) {lo hi : Int} (h : lo ≤ hi) : lo ≤ clipI x lo hi ∧ clipI x lo hi ≤ hi := by
  unfold clipI; split
  · omega
  · split
    · omega
    · split <;> omega
theorem pullI_bd (g aim p : Int) : -2147483647 ≤ pullI g aim p ∧ pullI g aim p ≤ 2147483647 := by
  unfold pullI mulI; exact ⟨ofI_lo _, ofI_hi _⟩
theorem hun_mul {s n : Int} (s0 : -100 ≤ s) (s1 : s ≤ 100) (n0 : 0 ≤ n) (n1 : n ≤ 4000) : -400000 ≤ s * n ∧ s * n ≤ 400000 := by
  have := mul_bdT (a := s) (b := n) (A := 100) (B := 4000) (by omega) (by omega) (by omega) (by omega)
  omega
theorem hunI_bd {s n : Int} (s0 : -100 ≤ s) (s1 : s ≤ 100) (n0 : 0 ≤ n) (n1 : n ≤ 4000) : -400000 ≤ hunI s n ∧ hunI s n ≤ 400000 := by
  obtain ⟨a, b⟩ := hun_mul s0 s1 n0 n1
  exact tdiv_bd _ _ _ a b

theorem holdHun_any (s n : Int) (s0 : -100 ≤ s) (s1 : s ≤ 100) (n0 : 0 ≤ n) (n1 : n ≤ 4000) (w : World) :
    Calls Try.prog 57 #[.int .i64 s, .int .i64 n] w fun e w' => e = .returned (.int .i64 (hunI s n)) ∧ w' = w := by
  obtain ⟨m0, m1⟩ := hun_mul s0 s1 n0 n1
  unfold hunI
  go_enter Try.func57, Try.ntmps57
  go_wp2
  go_ret
  exact ⟨rfl, rfl⟩
set_option maxHeartbeats 1000000 in
theorem holdPull_any (aim p g : Int) (a0 : -100000 ≤ aim) (a1 : aim ≤ 100000) (w : World) :
    Calls Try.prog 84 #[.int .i64 aim, .int .i64 p, .int .i64 g] w fun e w' => e = .returned (.int .i64 (pullI g aim p)) ∧ Below w.heap.size w w' := by
  have c1 := fixClip_any p (-2000000) 2000000
  have b1 := clipI_bd p (lo := -2000000) (hi := 2000000) (by omega)
  have c2 := fixClip_any (aim - clipI p (-2000000) 2000000) (-1000000) 1000000
  have c3 := fixMul_any g (clipI (aim - clipI p (-2000000) 2000000) (-1000000) 1000000)
  obtain ⟨b2, b3⟩ := b1
  unfold pullI
  generalize mulI g (clipI (aim - clipI p (-2000000) 2000000) (-1000000) 1000000) = m at *
  generalize clipI (aim - clipI p (-2000000) 2000000) (-1000000) 1000000 = y at *
  generalize clipI p (-2000000) 2000000 = x at *
  go_enter Try.func84, Try.ntmps84
  go_wp2_with (first
    | (go_at_call_of 44 (Value.int .i64 p); refine (c1 _).mono ?_; rintro e w' ⟨rfl, hq⟩; have hq := hq.symm; subst hq)
    | (go_at_call_of 44 (Value.int .i64 (aim - x)); refine (c2 _).mono ?_; rintro e w' ⟨rfl, hq⟩; have hq := hq.symm; subst hq)
    | (go_at_call 34; refine (c3 _).mono ?_; rintro e w' ⟨rfl, hq⟩; have hq := hq.symm; subst hq))
  go_ret
  exact ⟨rfl, (Below.refl _ _).drew⟩

theorem clipMove_any (L H U B M : Int) (a z : Option Addr) (al zl ca cz : Nat) (x : Int) (m0 : 1 ≤ M) (m1 : M ≤ 4000) (w : World) :
    Calls Try.prog 85 #[.agg #[.int .i64 L, .int .i64 H, .int .i64 U, .int .i64 B, .int .i64 M, .slice a al ca, .slice z zl cz], .int .i64 x] w fun e w' => e = .returned (.int .i64 (clipI x (-M) M)) ∧ Below w.heap.size w w' := by
  have c1 := fixClip_any x (-M) M
  generalize clipI x (-M) M = m at *
  go_enter Try.func85, Try.ntmps85
  go_wp2_with (go_at_call 44; refine (c1 _).mono ?_; rintro e w' ⟨rfl, hq⟩; have hq := hq.symm; subst hq)
  go_ret
  exact ⟨rfl, abelow_alloc _ _⟩

/-- May a rule be, number by number? -/
def ruB (L H U B M : Int) : Bool := betw L (-100000) 100000 && betw H (-100000) 100000 && betw U 0 1000 && betw B 0 65536 && betw M 1 4000
theorem ruB_true {L H U B M : Int} (h : ruB L H U B M = true) : (-100000 ≤ L ∧ L ≤ 100000) ∧ (-100000 ≤ H ∧ H ≤ 100000) ∧ (0 ≤ U ∧ U ≤ 1000) ∧ (0 ≤ B ∧ B ≤ 65536) ∧ 1 ≤ M ∧ M ≤ 4000 := by
  simp only [ruB, Bool.and_eq_true] at h
  exact ⟨betw_true h.1.1.1.1, betw_true h.1.1.1.2, betw_true h.1.1.2, betw_true h.1.2, betw_true h.2⟩

set_option maxHeartbeats 2000000 in
theorem inRange_any (L H U B M : Int) (a z : Option Addr) (al zl ca cz : Nat) (w : World) :
    Calls Try.prog 98 #[.agg #[.int .i64 L, .int .i64 H, .int .i64 U, .int .i64 B, .int .i64 M, .slice a al ca, .slice z zl cz]] w fun e w' => e = .returned (.bool (ruB L H U B M)) ∧ Below w.heap.size w w' := by
  have f1 := isFrom_ex L (-100000) 100000
  have f2 := isFrom_ex H (-100000) 100000
  have f3 := isFrom_ex U 0 1000
  have f4 := isFrom_ex B 0 65536
  have f5 := isFrom_ex M 1 4000
  unfold ruB
  generalize betw L (-100000) 100000 = x1 at *
  generalize betw H (-100000) 100000 = x2 at *
  generalize betw U 0 1000 = x3 at *
  generalize betw B 0 65536 = x4 at *
  generalize betw M 1 4000 = x5 at *
  rcases (show x1 = false ∨ (x1 = true ∧ x2 = false) ∨ (x1 = true ∧ x2 = true ∧ x3 = false) ∨ (x1 = true ∧ x2 = true ∧ x3 = true ∧ x4 = false) ∨ (x1 = true ∧ x2 = true ∧ x3 = true ∧ x4 = true) by cases x1 <;> cases x2 <;> cases x3 <;> cases x4 <;> simp) with rfl | ⟨rfl, rfl⟩ | ⟨rfl, rfl, rfl⟩ | ⟨rfl, rfl, rfl, rfl⟩ | ⟨rfl, rfl, rfl, rfl⟩
  all_goals
    go_enter Try.func98, Try.ntmps98
    go_wp2_with (first
      | (go_at_call_of 69 (Value.int .i64 L); refine (f1 _).mono ?_; rintro e w' ⟨rfl, rfl⟩)
      | (go_at_call_of 69 (Value.int .i64 H); refine (f2 _).mono ?_; rintro e w' ⟨rfl, rfl⟩)
      | (go_at_call_of 69 (Value.int .i64 U); refine (f3 _).mono ?_; rintro e w' ⟨rfl, rfl⟩)
      | (go_at_call_of 69 (Value.int .i64 B); refine (f4 _).mono ?_; rintro e w' ⟨rfl, rfl⟩)
      | (go_at_call_of 69 (Value.int .i64 M); refine (f5 _).mono ?_; rintro e w' ⟨rfl, rfl⟩))
    go_ret
    exact ⟨by simp, by repeat (first | exact abelow_alloc _ _ | refine abelow_up ?_ (abelow_alloc _ _))⟩

end Go.Proofs.Ythijegfacnjooaa
