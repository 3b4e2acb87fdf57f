/-
  Contracts of word.Check and fulmarref.ReadingMay: whether a reading may be.
-/
import Derived.Test.YthijegfacnjooaaWordA
import Derived.Deep.RegionHeld3
import Derived.Deep.CutRange
import Derived.BigQuiet
import Derived.Deep.QuietTactic
import Derived.Test.YthijegfacnjooaaWalksA
namespace Go.Proofs.Ythijegfacnjooaa
open Go.RowKit Plain

theorem below_alloc (w : World) (o : Obj) : Below w.heap.size w (w.alloc o) := (Below.refl _ _).alloc (Nat.le_refl _) o
theorem below_up {w w1 w2 : World} (h : Below w.heap.size w w1) (k : Below w1.heap.size w1 w2) : Below w.heap.size w w2 := h.trans (k.mono h.size)

/-- May a reading be? -/
def mayR (a b c d : Int) : Bool := (decide (0 ≤ a) && decide (a < 256)) && (decide (0 ≤ b) && decide (b < 4)) && (decide (0 ≤ c) && decide (c < 4)) && (decide (-262144 ≤ d) && decide (d < 262144))
theorem mayR_true {a b c d : Int} (h : mayR a b c d = true) : (0 ≤ a ∧ a < 256) ∧ (0 ≤ b ∧ b < 4) ∧ (0 ≤ c ∧ c < 4) ∧ -262144 ≤ d ∧ d < 262144 := by
  simp [mayR] at h; omega

/-- Of any number the nearest one that can be a word's data. -/
theorem wHold_any (d : Int) (w : World) : Calls Try.prog 87 #[.int .i64 d] w fun e w' => e = .returned (.int .i64 (clipI d (-262144) 262143)) ∧ w' = w := by
  go_enter Try.func87, Try.ntmps87
  go_wp2_with (go_at_call 44; refine (fixClip_any _ _ _ _).mono ?_; rintro e w' ⟨rfl, rfl⟩)
  go_ret
  exact ⟨rfl, rfl⟩

set_option maxHeartbeats 1000000 in
theorem check_any (a b c d : Int) (w : World) :
    Calls Try.prog 58 #[.agg #[.int .i64 a, .int .i64 b, .int .i64 c, .int .i64 d]] w fun e w' => e = .returned (errV (if mayR a b c d then 0 else 1)) ∧ Below w.heap.size w w' := by
  have f1 := fits_8 a
  have f2 := fits_2 b
  have f3 := fits_2 c
  have hh := wHold_any d
  have hd : (d != clipI d (-262144) 262143) = !(decide (-262144 ≤ d) && decide (d < 262144)) := by
    unfold clipI
    by_cases h1 : d < -262144
    · rw [if_pos h1, decide_eq_false (show ¬ -262144 ≤ d by omega)]; simp; omega
    · rw [if_neg h1, if_neg (by omega), decide_eq_true (show -262144 ≤ d by omega)]
      by_cases h2 : 262143 < d
      · rw [if_pos h2, decide_eq_false (show ¬ d < 262144 by omega)]; simp; omega
      · rw [if_neg h2, decide_eq_true (show d < 262144 by omega)]; simp
  unfold mayR
  generalize clipI d (-262144) 262143 = k at *
  generalize (decide (0 ≤ a) && decide (a < 256)) = x1 at *
  generalize (decide (0 ≤ b) && decide (b < 4)) = x2 at *
  generalize (decide (0 ≤ c) && decide (c < 4)) = x3 at *
  generalize (decide (-262144 ≤ d) && decide (d < 262144)) = x4 at *
  rcases (show x1 = false ∨ (x1 = true ∧ x2 = false) ∨ (x1 = true ∧ x2 = true ∧ x3 = false) ∨ (x1 = true ∧ x2 = true ∧ x3 = true ∧ x4 = false) ∨ (x1 = true ∧ x2 = true ∧ x3 = true ∧ x4 = true) by cases x1 <;> cases x2 <;> cases x3 <;> cases x4 <;> simp) with rfl | ⟨rfl, rfl⟩ | ⟨rfl, rfl, rfl⟩ | ⟨rfl, rfl, rfl, rfl⟩ | ⟨rfl, rfl, rfl, rfl⟩
  · go_enter Try.func58, Try.ntmps58
    go_wp2_with (first | (go_at_call_of 86 (Value.int .i64 a); refine (f1 _).mono ?_; rintro e w' ⟨rfl, rfl⟩) | (go_at_call_of 86 (Value.int .i64 b); refine (f2 _).mono ?_; rintro e w' ⟨rfl, rfl⟩) | (go_at_call_of 86 (Value.int .i64 c); refine (f3 _).mono ?_; rintro e w' ⟨rfl, rfl⟩))
    go_ret
    exact ⟨rfl, below_alloc _ _⟩
  · go_enter Try.func58, Try.ntmps58
    go_wp2_with (first | (go_at_call_of 86 (Value.int .i64 a); refine (f1 _).mono ?_; rintro e w' ⟨rfl, rfl⟩) | (go_at_call_of 86 (Value.int .i64 b); refine (f2 _).mono ?_; rintro e w' ⟨rfl, rfl⟩) | (go_at_call_of 86 (Value.int .i64 c); refine (f3 _).mono ?_; rintro e w' ⟨rfl, rfl⟩))
    go_ret
    exact ⟨rfl, below_alloc _ _⟩
  · go_enter Try.func58, Try.ntmps58
    go_wp2_with (first | (go_at_call_of 86 (Value.int .i64 a); refine (f1 _).mono ?_; rintro e w' ⟨rfl, rfl⟩) | (go_at_call_of 86 (Value.int .i64 b); refine (f2 _).mono ?_; rintro e w' ⟨rfl, rfl⟩) | (go_at_call_of 86 (Value.int .i64 c); refine (f3 _).mono ?_; rintro e w' ⟨rfl, rfl⟩))
    go_ret
    exact ⟨rfl, below_alloc _ _⟩
  all_goals
    simp only [Bool.not_false, Bool.not_true] at hd
    go_enter Try.func58, Try.ntmps58
    go_wp2_with (first | (go_at_call_of 86 (Value.int .i64 a); refine (f1 _).mono ?_; rintro e w' ⟨rfl, rfl⟩) | (go_at_call_of 86 (Value.int .i64 b); refine (f2 _).mono ?_; rintro e w' ⟨rfl, rfl⟩) | (go_at_call_of 86 (Value.int .i64 c); refine (f3 _).mono ?_; rintro e w' ⟨rfl, rfl⟩))
    go_quiet ((go_at_call 87; exact Calls.quiet_of_same (hh _)))
    go_wp2
    go_ret
    exact ⟨rfl, below_drewN (below_alloc _ _) _⟩

/-- The word of a reading, its highest bit aside. -/
def bodyI (a b c d : Int) : Int := Lib.rev8 a + b * 256 + d % 524288 * 1024 + c * 536870912
/-- The word of a reading. -/
def packI (a b c d : Int) : Int := if ones (bodyI a b c d) 32 % 2 = 1 then bodyI a b c d else bodyI a b c d + 2147483648

/-- A reading lies in a box of its own, whatever came behind. -/
theorem box4 {w w' : World} {a b c d : Int} {T : TypeId} (hb : Below (w.alloc (.cells #[.int .i64 a, .int .i64 b, .int .i64 c, .int .i64 d] T)).heap.size (w.alloc (.cells #[.int .i64 a, .int .i64 b, .int .i64 c, .int .i64 d] T)) w') :
    w'.cell? ⟨w.heap.size, 0, none⟩ = some (.int .i64 a) ∧ w'.cell? ⟨w.heap.size, 1, none⟩ = some (.int .i64 b) ∧ w'.cell? ⟨w.heap.size, 2, none⟩ = some (.int .i64 c) ∧ w'.cell? ⟨w.heap.size, 3, none⟩ = some (.int .i64 d) :=
  ⟨cell_later hb (by simp [go_sem]), cell_later hb (by simp [go_sem]), cell_later hb (by simp [go_sem]), cell_later hb (by simp [go_sem])⟩

theorem pack_no (a b c d : Int) (hm : mayR a b c d = false) (w : World) :
    Calls Try.prog 33 #[.agg #[.int .i64 a, .int .i64 b, .int .i64 c, .int .i64 d]] w fun e w' => e = .returned (.tuple #[.int .u32 0, errV 1]) ∧ Below w.heap.size w w' := by
  have hc := check_any a b c d
  rw [hm, if_neg (by simp), errV_ne (by decide)] at hc
  rw [errV_ne (by decide)]
  go_enter Try.func33, Try.ntmps33
  go_wp2_with (go_at_call 58; refine (hc _).mono ?_; rintro e w' ⟨rfl, hb⟩)
  go_ret2
  exact ⟨rfl, below_up (below_alloc _ _) hb⟩

set_option maxHeartbeats 4000000 in
set_option maxRecDepth 100000 in
theorem pack_yes (a b c d : Int) (hm : mayR a b c d = true) (w : World) :
    Calls Try.prog 33 #[.agg #[.int .i64 a, .int .i64 b, .int .i64 c, .int .i64 d]] w fun e w' => e = .returned (.tuple #[.int .u32 (packI a b c d), .nilIface]) ∧ Below w.heap.size w w' := by
  have hc := check_any a b c d
  rw [hm, if_pos rfl, errV_zero] at hc
  obtain ⟨⟨a0, a1⟩, ⟨b0, b1⟩, ⟨c0, c1⟩, d0, d1⟩ := mayR_true hm
  obtain ⟨r0, r1⟩ := rev_bounds a a0 (by omega)
  have e1 : bits .or .u32 (Lib.rev8 a) (b * 256) = Lib.rev8 a + b * 256 := by
    rw [u32_or _ _ r0 (by omega) (by omega) (by omega), Nat.or_comm, nat_join 8 _ _ (by omega) (by omega)]; omega
  have e2 : bits .or .u32 (Lib.rev8 a + b * 256) (d % 524288 * 1024) = Lib.rev8 a + b * 256 + d % 524288 * 1024 := by
    rw [u32_or _ _ (by omega) (by omega) (by omega) (by omega), Nat.or_comm, nat_join 10 _ _ (by omega) (by omega)]; omega
  have e3 : bits .or .u32 (Lib.rev8 a + b * 256 + d % 524288 * 1024) (c * 536870912) = Lib.rev8 a + b * 256 + d % 524288 * 1024 + c * 536870912 := by
    rw [u32_or _ _ (by omega) (by omega) (by omega) (by omega), Nat.or_comm, nat_join 29 _ _ (by omega) (by omega)]; omega
  have e4 : bits .or .u32 (Lib.rev8 a + b * 256 + d % 524288 * 1024 + c * 536870912) 2147483648 = Lib.rev8 a + b * 256 + d % 524288 * 1024 + c * 536870912 + 2147483648 := by
    rw [u32_or _ _ (by omega) (by omega) (by omega) (by omega), Nat.or_comm, nat_join 31 _ _ (by omega) (by omega)]; omega
  have ho := isOdd_any (bodyI a b c d) (by unfold bodyI; omega) (by unfold bodyI; omega)
  by_cases hodd : ones (bodyI a b c d) 32 % 2 = 1
  · have hp : packI a b c d = Lib.rev8 a + b * 256 + d % 524288 * 1024 + c * 536870912 := by unfold packI; rw [if_pos hodd]; rfl
    rw [decide_eq_true hodd] at ho
    rw [hp]
    unfold bodyI at ho
    clear hodd hp e4
    go_enter Try.func33, Try.ntmps33
    go_wp2_with (first
      | (go_at_call 58; refine (hc _).mono ?_; rintro e w' ⟨rfl, hb⟩; obtain ⟨q0, q1, q2, q3⟩ := box4 hb; have HB : Hid (Below _ _ _) := hb; clear hb)
      | (go_at_call 59; refine (rev_any _ (by omega) (by omega) _).mono ?_; rintro e w' ⟨rfl, rfl⟩)
      | (go_at_call 60; refine (part_0_19 _ (by omega) (by omega) _).mono ?_; rintro e w' ⟨rfl, k, rfl⟩)
      | (go_at_call 61; refine (ho _).mono ?_; rintro e w' ⟨rfl, k2, rfl⟩))
    go_ret2
    exact ⟨rfl, below_drewN (below_up (below_alloc _ _) HB.out) _⟩
  · have hp : packI a b c d = Lib.rev8 a + b * 256 + d % 524288 * 1024 + c * 536870912 + 2147483648 := by unfold packI; rw [if_neg hodd]; rfl
    rw [decide_eq_false hodd] at ho
    rw [hp]
    unfold bodyI at ho
    clear hodd hp
    go_enter Try.func33, Try.ntmps33
    go_wp2_with (first
      | (go_at_call 58; refine (hc _).mono ?_; rintro e w' ⟨rfl, hb⟩; obtain ⟨q0, q1, q2, q3⟩ := box4 hb; have HB : Hid (Below _ _ _) := hb; clear hb)
      | (go_at_call 59; refine (rev_any _ (by omega) (by omega) _).mono ?_; rintro e w' ⟨rfl, rfl⟩)
      | (go_at_call 60; refine (part_0_19 _ (by omega) (by omega) _).mono ?_; rintro e w' ⟨rfl, k, rfl⟩)
      | (go_at_call 61; refine (ho _).mono ?_; rintro e w' ⟨rfl, k2, rfl⟩))
    go_ret2
    exact ⟨rfl, below_drewN (below_up (below_alloc _ _) HB.out) _⟩

end Go.Proofs.Ythijegfacnjooaa
