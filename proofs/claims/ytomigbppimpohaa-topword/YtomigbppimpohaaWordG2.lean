/-
  The contract of fulmarref.Word: the word of a reading, bit by bit.
-/
import Derived.Test.YtomigbppimpohaaWordE
namespace Go.Proofs.Ytomigbppimpohaa
open Go.RowKit Plain

theorem turnUp_step (x : Int) (k : Nat) (h : k < 8) : turnUp x (k + 1) = turnUp x k + btI x (7 - (k : Int)) * 2 ^ k := by
  rw [turnUp, btI, show (7 - (k : Int)).toNat = 7 - k by omega]
theorem turnUp_bounds (x : Int) : ∀ k : Nat, 0 ≤ turnUp x k ∧ turnUp x k < 2 ^ k
  | 0 => by simp [turnUp]
  | k + 1 => by
    have h := turnUp_bounds x k
    have hp : (0 : Int) < 2 ^ k := Int.pow_pos (by decide)
    rw [turnUp, Int.pow_succ]
    have b0 : 0 ≤ x / 2 ^ (7 - k) % 2 := by omega
    have b1 : x / 2 ^ (7 - k) % 2 ≤ 1 := by omega
    have l1 := Int.mul_le_mul_of_nonneg_right b1 (Int.le_of_lt hp)
    have l0 := Int.mul_nonneg b0 (Int.le_of_lt hp)
    omega
theorem low_bd (x : Int) (k : Nat) : 0 ≤ low x k ∧ low x k < 2 ^ k := by
  rw [low_mod]
  have hp : (0 : Int) < 2 ^ k := Int.pow_pos (by decide)
  exact ⟨Int.emod_nonneg x (Int.ne_of_gt hp), Int.emod_lt_of_pos x hp⟩
theorem low_step' (x : Int) (k : Nat) : low x (k + 1) = low x k + btI x k * 2 ^ k := by rw [low, btI]; rfl

/-- A bit of a word, moved up. -/
theorem shift_up (b : Int) (j k : Nat) (h0 : 0 ≤ b) (h1 : b ≤ 1) : 0 ≤ b * 2 ^ (j + k) ∧ b * 2 ^ (j + k) ≤ 2 ^ (j + k) ∧ b * 2 ^ (j + k) = b * 2 ^ k * 2 ^ j := by
  have hp : (0 : Int) < 2 ^ (j + k) := Int.pow_pos (by decide)
  refine ⟨Int.mul_nonneg h0 (Int.le_of_lt hp), ?_, ?_⟩
  · have := Int.mul_le_mul_of_nonneg_right h1 (Int.le_of_lt hp)
    omega
  · rw [Int.pow_add, Int.mul_assoc, Int.mul_comm (2 ^ j)]

set_option maxHeartbeats 8000000 in
theorem word_below (a b c d : Int) (hm : mayR a b c d = true) (hd : d < 0) (w : World) :
    Calls Try.prog 6 #[.agg #[.int .i64 a, .int .i64 b, .int .i64 c, .int .i64 d]] w fun e w' => e = .returned (.int .u32 (packI a b c d)) ∧ Below w.heap.size w w' := by
  obtain ⟨⟨a0, a1⟩, ⟨b0, b1⟩, ⟨c0, c1⟩, d0, d1⟩ := mayR_true hm
  have HY : Hid ((d + 524288) = d % 524288) := by show (d + 524288) = d % 524288; omega
  have hw : IntKind.i64.wrap (d + 524288) = d + 524288 := by rw [IntKind.wrap_i64]; omega
  go_enter Try.func6, Try.ntmps6
  go_wp2
  go_loop [4, 5] (fun v i => ∃ k : Nat, k ≤ 8 ∧ i = .int .i64 k ∧ v = .int .u32 (turnUp a k)) (fun v i => 8 - (intOf i).toNat)
  case atStart => exact ⟨0, by omega, rfl, rfl⟩
  case round =>
    obtain ⟨k, hk, rfl, rfl⟩ := hrel
    by_cases hlt : k < 8
    · have ht := turnUp_bounds a k
      have hp : (2 : Int) ^ k ≤ 2 ^ 7 := pow_mono k 7 (by omega)
      have hs : Hid (turnUp a (k + 1) = turnUp a k + btI a (7 - (k : Int)) * 2 ^ k) := turnUp_step a k hlt
      have hbt := bit_at a (7 - (k : Int)) (by omega) (by omega)
      have hbd := btI_bd a (7 - (k : Int))
      have hsh := shift_bd _ k (by omega) hbd.1 hbd.2
      have hb2 : btI a (7 - (k : Int)) * 2 ^ k ≤ 2 ^ k := by
        have := Int.mul_le_mul_of_nonneg_right hbd.2 (Int.le_of_lt (show (0 : Int) < 2 ^ k from Int.pow_pos (by decide)))
        omega
      generalize turnUp a k = t at *
      generalize btI a (7 - (k : Int)) = b' at *
      go_wp2_with (go_at_call 15; refine (hbt _).mono ?_; rintro e w' ⟨rfl, hq⟩; have hq := hq.symm; subst hq)
      go_round
      case rel => exact ⟨k + 1, by omega, by go_num, by rw [hs.out]⟩
      case measure => simp [intOf]; omega
    · have e : k = 8 := by omega
      subst e
      rw [← rev_eq_up a a0 (by omega)]
      obtain ⟨r0, r1⟩ := rev_bounds a a0 (by omega)
      have HX : Hid (Box4 (w.alloc (.cells #[.int .i64 a, .int .i64 b, .int .i64 c, .int .i64 d] 23)) w.heap.size a b c d) := Box4.new _ _ _ _ _ _
      have HB : Hid (Below w.heap.size w (w.alloc (.cells #[.int .i64 a, .int .i64 b, .int .i64 c, .int .i64 d] 23))) := below_alloc _ _
      go_wp2
      generalize (w.alloc (.cells #[.int .i64 a, .int .i64 b, .int .i64 c, .int .i64 d] 23)) = w1 at *
      go_loopw [4, 6] (fun v i wr => ∃ k : Nat, k ≤ 2 ∧ i = .int .i64 k ∧ v = .int .u32 (Lib.rev8 a + low b k * 256 + low c k * 536870912) ∧ Box4 wr w.heap.size a b c d ∧ Below w.heap.size w wr) (fun v i _ => 2 - (intOf i).toNat)
      case atStart => exact ⟨0, by omega, rfl, by simp [low], HX, HB⟩
      case round =>
        clear HX HB
        obtain ⟨k, hk, rfl, rfl, hx, hb⟩ := hrel
        have HX : Hid (Box4 wr w.heap.size a b c d) := hx
        obtain ⟨q0, q1, q2, q3, _⟩ := hx
        have HB : Hid (Below w.heap.size w wr) := hb
        clear hb
        by_cases hlt2 : k < 2
        · have l0 := low_bd b k
          have l1 := low_bd c k
          have hp : (2 : Int) ^ k ≤ 2 ^ 1 := pow_mono k 1 (by omega)
          have hs1 := low_step' b k
          have hs2 := low_step' c k
          have f1 := bit_at b k (by omega) (by omega)
          have f2 := bit_at c k (by omega) (by omega)
          have g1 := btI_bd b k
          have g2 := btI_bd c k
          rcases (show k = 0 ∨ k = 1 by omega) with rfl | rfl
          · simp only [Int.reducePow, Int.pow_zero, Int.mul_one, Nat.zero_add] at hs1 hs2 l0 l1 hp
            generalize low b 0 = t1 at *
            generalize low c 0 = t2 at *
            simp only [Int.natCast_zero] at f1 f2 g1 g2 hs1 hs2
            generalize btI b 0 = e1 at *
            generalize btI c 0 = e2 at *
            have HS : Hid (low b 1 = t1 + e1 ∧ low c 1 = t2 + e2) := ⟨hs1, hs2⟩
            clear hs1 hs2
            go_wp2
            go_quiet (first
              | (go_at_call_of 15 (Value.int IntKind.i64 b); exact Calls.quiet_of_same (f1 _))
              | (go_at_call_of 15 (Value.int IntKind.i64 c); exact Calls.quiet_of_same (f2 _)))
            go_wp2
            go_roundw
            case rel =>
              refine ⟨1, by omega, by go_num, ?_, HX.out.later (below_drewN (Below.refl _ _) _), below_drewN HB.out _⟩
              rw [HS.out.1, HS.out.2]
              (congr 1; omega)
            case measure => simp [intOf]
          · simp only [Int.reducePow, Nat.reduceAdd] at hs1 hs2 l0 l1 hp f1 f2 g1 g2
            generalize low b 1 = t1 at *
            generalize low c 1 = t2 at *
            generalize btI b 1 = e1 at *
            generalize btI c 1 = e2 at *
            have HS : Hid (low b 2 = t1 + e1 * 2 ∧ low c 2 = t2 + e2 * 2) := ⟨hs1, hs2⟩
            clear hs1 hs2
            go_wp2
            go_quiet (first
              | (go_at_call_of 15 (Value.int IntKind.i64 b); exact Calls.quiet_of_same (f1 _))
              | (go_at_call_of 15 (Value.int IntKind.i64 c); exact Calls.quiet_of_same (f2 _)))
            go_wp2
            go_roundw
            case rel =>
              refine ⟨2, by omega, by go_num, ?_, HX.out.later (below_drewN (Below.refl _ _) _), below_drewN HB.out _⟩
              rw [HS.out.1, HS.out.2]
              (congr 1; omega)
            case measure => simp [intOf]
        · have e : k = 2 := by omega
          subst e
          have e1 : low b 2 = b := by rw [low_mod]; simp only [Int.reducePow]; omega
          have e2 : low c 2 = c := by rw [low_mod]; simp only [Int.reducePow]; omega
          rw [e1, e2, show ((2 : Nat) : Int) = 2 from rfl]
          clear e1 e2
          generalize hr : Lib.rev8 a = r at *
          have HR : Hid (Lib.rev8 a = r) := hr
          clear hr
          go_wp2
          go_loop [4, 7] (fun v i => ∃ k : Nat, k ≤ 19 ∧ i = .int .i64 k ∧ v = .int .u32 (r + b * 256 + c * 536870912 + low (d + 524288) k * 1024)) (fun v i => 19 - (intOf i).toNat)
          case atStart => exact ⟨0, by omega, rfl, by simp [low]⟩
          case round =>
            obtain ⟨k, hk3, rfl, rfl⟩ := hrel
            by_cases hlt3 : k < 19
            · have ht := low_bd (d + 524288) k
              have hp : (2 : Int) ^ k ≤ 2 ^ 18 := pow_mono k 18 (by omega)
              have hs : Hid (low (d + 524288) (k + 1) = low (d + 524288) k + btI (d + 524288) k * 2 ^ k) := low_step' (d + 524288) k
              have hbt := bit_at (d + 524288) k (by omega) (by omega)
              have hbd := btI_bd (d + 524288) k
              have hsu := shift_up (btI (d + 524288) k) 10 k hbd.1 hbd.2
              have hb2 : btI (d + 524288) k * 2 ^ k ≤ 2 ^ k := by
                have := Int.mul_le_mul_of_nonneg_right hbd.2 (Int.le_of_lt (show (0 : Int) < 2 ^ k from Int.pow_pos (by decide)))
                omega
              have hpw : (10 + (k : Int)).toNat = 10 + k := by omega
              generalize low (d + 524288) k = t at *
              generalize btI (d + 524288) k = b' at *
              simp only [Int.reducePow] at hsu
              generalize hz : b' * 2 ^ (10 + k) = z at *
              go_wp2_with (go_at_call 15; refine (hbt _).mono ?_; rintro e w' ⟨rfl, rfl⟩)
              go_round
              case rel =>
                refine ⟨k + 1, by omega, by go_num, ?_⟩
                rw [hs.out, Int.add_mul]
                (congr 1; omega)
              case measure => simp [intOf]; omega
            · have e : k = 19 := by omega
              subst e
              have el : low (d + 524288) 19 = (d + 524288) := by rw [low_mod]; simp only [Int.reducePow]; omega
              have hB : Hid (r + b * 256 + c * 536870912 + (d + 524288) * 1024 = bodyI a b c d) := by
                show r + b * 256 + c * 536870912 + (d + 524288) * 1024 = bodyI a b c d
                unfold bodyI
                rw [HR.out, HY.out]
                omega
              have ho := odd_any (r + b * 256 + c * 536870912 + (d + 524288) * 1024) (by omega) (by omega)
              rw [el, show ((19 : Nat) : Int) = 19 from rfl]
              clear el
              by_cases hodd : ones (r + b * 256 + c * 536870912 + (d + 524288) * 1024) 32 % 2 = 1
              · have HP : Hid (packI a b c d = r + b * 256 + c * 536870912 + (d + 524288) * 1024) := by
                  show packI a b c d = _
                  unfold packI; rw [← hB.out, if_pos hodd]
                rw [decide_eq_true hodd] at ho
                clear hodd hB
                go_wp2_with (go_at_call 12; refine (ho _).mono ?_; rintro e w' ⟨rfl, rfl⟩)
                go_ret
                exact ⟨by rw [HP.out]; rfl, HB⟩
              · have HP : Hid (packI a b c d = r + b * 256 + c * 536870912 + (d + 524288) * 1024 + 2147483648) := by
                  show packI a b c d = _
                  unfold packI; rw [← hB.out, if_neg hodd]
                rw [decide_eq_false hodd] at ho
                clear hodd hB
                go_wp2_with (go_at_call 12; refine (ho _).mono ?_; rintro e w' ⟨rfl, rfl⟩)
                go_ret
                exact ⟨by rw [HP.out]; rfl, HB⟩

set_option maxHeartbeats 8000000 in
theorem word_above (a b c d : Int) (hm : mayR a b c d = true) (hd : 0 ≤ d) (w : World) :
    Calls Try.prog 6 #[.agg #[.int .i64 a, .int .i64 b, .int .i64 c, .int .i64 d]] w fun e w' => e = .returned (.int .u32 (packI a b c d)) ∧ Below w.heap.size w w' := by
  obtain ⟨⟨a0, a1⟩, ⟨b0, b1⟩, ⟨c0, c1⟩, d0, d1⟩ := mayR_true hm
  have HY : Hid (d = d % 524288) := by show d = d % 524288; omega
  go_enter Try.func6, Try.ntmps6
  go_wp2
  go_loop [4, 5] (fun v i => ∃ k : Nat, k ≤ 8 ∧ i = .int .i64 k ∧ v = .int .u32 (turnUp a k)) (fun v i => 8 - (intOf i).toNat)
  case atStart => exact ⟨0, by omega, rfl, rfl⟩
  case round =>
    obtain ⟨k, hk, rfl, rfl⟩ := hrel
    by_cases hlt : k < 8
    · have ht := turnUp_bounds a k
      have hp : (2 : Int) ^ k ≤ 2 ^ 7 := pow_mono k 7 (by omega)
      have hs : Hid (turnUp a (k + 1) = turnUp a k + btI a (7 - (k : Int)) * 2 ^ k) := turnUp_step a k hlt
      have hbt := bit_at a (7 - (k : Int)) (by omega) (by omega)
      have hbd := btI_bd a (7 - (k : Int))
      have hsh := shift_bd _ k (by omega) hbd.1 hbd.2
      have hb2 : btI a (7 - (k : Int)) * 2 ^ k ≤ 2 ^ k := by
        have := Int.mul_le_mul_of_nonneg_right hbd.2 (Int.le_of_lt (show (0 : Int) < 2 ^ k from Int.pow_pos (by decide)))
        omega
      generalize turnUp a k = t at *
      generalize btI a (7 - (k : Int)) = b' at *
      go_wp2_with (go_at_call 15; refine (hbt _).mono ?_; rintro e w' ⟨rfl, hq⟩; have hq := hq.symm; subst hq)
      go_round
      case rel => exact ⟨k + 1, by omega, by go_num, by rw [hs.out]⟩
      case measure => simp [intOf]; omega
    · have e : k = 8 := by omega
      subst e
      rw [← rev_eq_up a a0 (by omega)]
      obtain ⟨r0, r1⟩ := rev_bounds a a0 (by omega)
      have HX : Hid (Box4 (w.alloc (.cells #[.int .i64 a, .int .i64 b, .int .i64 c, .int .i64 d] 23)) w.heap.size a b c d) := Box4.new _ _ _ _ _ _
      have HB : Hid (Below w.heap.size w (w.alloc (.cells #[.int .i64 a, .int .i64 b, .int .i64 c, .int .i64 d] 23))) := below_alloc _ _
      go_wp2
      generalize (w.alloc (.cells #[.int .i64 a, .int .i64 b, .int .i64 c, .int .i64 d] 23)) = w1 at *
      go_loopw [4, 6] (fun v i wr => ∃ k : Nat, k ≤ 2 ∧ i = .int .i64 k ∧ v = .int .u32 (Lib.rev8 a + low b k * 256 + low c k * 536870912) ∧ Box4 wr w.heap.size a b c d ∧ Below w.heap.size w wr) (fun v i _ => 2 - (intOf i).toNat)
      case atStart => exact ⟨0, by omega, rfl, by simp [low], HX, HB⟩
      case round =>
        clear HX HB
        obtain ⟨k, hk, rfl, rfl, hx, hb⟩ := hrel
        have HX : Hid (Box4 wr w.heap.size a b c d) := hx
        obtain ⟨q0, q1, q2, q3, _⟩ := hx
        have HB : Hid (Below w.heap.size w wr) := hb
        clear hb
        by_cases hlt2 : k < 2
        · have l0 := low_bd b k
          have l1 := low_bd c k
          have hp : (2 : Int) ^ k ≤ 2 ^ 1 := pow_mono k 1 (by omega)
          have hs1 := low_step' b k
          have hs2 := low_step' c k
          have f1 := bit_at b k (by omega) (by omega)
          have f2 := bit_at c k (by omega) (by omega)
          have g1 := btI_bd b k
          have g2 := btI_bd c k
          rcases (show k = 0 ∨ k = 1 by omega) with rfl | rfl
          · simp only [Int.reducePow, Int.pow_zero, Int.mul_one, Nat.zero_add] at hs1 hs2 l0 l1 hp
            generalize low b 0 = t1 at *
            generalize low c 0 = t2 at *
            simp only [Int.natCast_zero] at f1 f2 g1 g2 hs1 hs2
            generalize btI b 0 = e1 at *
            generalize btI c 0 = e2 at *
            have HS : Hid (low b 1 = t1 + e1 ∧ low c 1 = t2 + e2) := ⟨hs1, hs2⟩
            clear hs1 hs2
            go_wp2
            go_quiet (first
              | (go_at_call_of 15 (Value.int IntKind.i64 b); exact Calls.quiet_of_same (f1 _))
              | (go_at_call_of 15 (Value.int IntKind.i64 c); exact Calls.quiet_of_same (f2 _)))
            go_wp2
            go_roundw
            case rel =>
              refine ⟨1, by omega, by go_num, ?_, HX.out.later (below_drewN (Below.refl _ _) _), below_drewN HB.out _⟩
              rw [HS.out.1, HS.out.2]
              (congr 1; omega)
            case measure => simp [intOf]
          · simp only [Int.reducePow, Nat.reduceAdd] at hs1 hs2 l0 l1 hp f1 f2 g1 g2
            generalize low b 1 = t1 at *
            generalize low c 1 = t2 at *
            generalize btI b 1 = e1 at *
            generalize btI c 1 = e2 at *
            have HS : Hid (low b 2 = t1 + e1 * 2 ∧ low c 2 = t2 + e2 * 2) := ⟨hs1, hs2⟩
            clear hs1 hs2
            go_wp2
            go_quiet (first
              | (go_at_call_of 15 (Value.int IntKind.i64 b); exact Calls.quiet_of_same (f1 _))
              | (go_at_call_of 15 (Value.int IntKind.i64 c); exact Calls.quiet_of_same (f2 _)))
            go_wp2
            go_roundw
            case rel =>
              refine ⟨2, by omega, by go_num, ?_, HX.out.later (below_drewN (Below.refl _ _) _), below_drewN HB.out _⟩
              rw [HS.out.1, HS.out.2]
              (congr 1; omega)
            case measure => simp [intOf]
        · have e : k = 2 := by omega
          subst e
          have e1 : low b 2 = b := by rw [low_mod]; simp only [Int.reducePow]; omega
          have e2 : low c 2 = c := by rw [low_mod]; simp only [Int.reducePow]; omega
          rw [e1, e2, show ((2 : Nat) : Int) = 2 from rfl]
          clear e1 e2
          generalize hr : Lib.rev8 a = r at *
          have HR : Hid (Lib.rev8 a = r) := hr
          clear hr
          go_wp2
          go_loop [4, 7] (fun v i => ∃ k : Nat, k ≤ 19 ∧ i = .int .i64 k ∧ v = .int .u32 (r + b * 256 + c * 536870912 + low d k * 1024)) (fun v i => 19 - (intOf i).toNat)
          case atStart => exact ⟨0, by omega, rfl, by simp [low]⟩
          case round =>
            obtain ⟨k, hk3, rfl, rfl⟩ := hrel
            by_cases hlt3 : k < 19
            · have ht := low_bd d k
              have hp : (2 : Int) ^ k ≤ 2 ^ 18 := pow_mono k 18 (by omega)
              have hs : Hid (low d (k + 1) = low d k + btI d k * 2 ^ k) := low_step' d k
              have hbt := bit_at d k (by omega) (by omega)
              have hbd := btI_bd d k
              have hsu := shift_up (btI d k) 10 k hbd.1 hbd.2
              have hb2 : btI d k * 2 ^ k ≤ 2 ^ k := by
                have := Int.mul_le_mul_of_nonneg_right hbd.2 (Int.le_of_lt (show (0 : Int) < 2 ^ k from Int.pow_pos (by decide)))
                omega
              have hpw : (10 + (k : Int)).toNat = 10 + k := by omega
              generalize low d k = t at *
              generalize btI d k = b' at *
              simp only [Int.reducePow] at hsu
              generalize hz : b' * 2 ^ (10 + k) = z at *
              go_wp2_with (go_at_call 15; refine (hbt _).mono ?_; rintro e w' ⟨rfl, rfl⟩)
              go_round
              case rel =>
                refine ⟨k + 1, by omega, by go_num, ?_⟩
                rw [hs.out, Int.add_mul]
                (congr 1; omega)
              case measure => simp [intOf]; omega
            · have e : k = 19 := by omega
              subst e
              have el : low d 19 = d := by rw [low_mod]; simp only [Int.reducePow]; omega
              have hB : Hid (r + b * 256 + c * 536870912 + d * 1024 = bodyI a b c d) := by
                show r + b * 256 + c * 536870912 + d * 1024 = bodyI a b c d
                unfold bodyI
                rw [HR.out, HY.out]
                omega
              have ho := odd_any (r + b * 256 + c * 536870912 + d * 1024) (by omega) (by omega)
              rw [el, show ((19 : Nat) : Int) = 19 from rfl]
              clear el
              by_cases hodd : ones (r + b * 256 + c * 536870912 + d * 1024) 32 % 2 = 1
              · have HP : Hid (packI a b c d = r + b * 256 + c * 536870912 + d * 1024) := by
                  show packI a b c d = _
                  unfold packI; rw [← hB.out, if_pos hodd]
                rw [decide_eq_true hodd] at ho
                clear hodd hB
                go_wp2_with (go_at_call 12; refine (ho _).mono ?_; rintro e w' ⟨rfl, rfl⟩)
                go_ret
                exact ⟨by rw [HP.out]; rfl, HB⟩
              · have HP : Hid (packI a b c d = r + b * 256 + c * 536870912 + d * 1024 + 2147483648) := by
                  show packI a b c d = _
                  unfold packI; rw [← hB.out, if_neg hodd]
                rw [decide_eq_false hodd] at ho
                clear hodd hB
                go_wp2_with (go_at_call 12; refine (ho _).mono ?_; rintro e w' ⟨rfl, rfl⟩)
                go_ret
                exact ⟨by rw [HP.out]; rfl, HB⟩

end Go.Proofs.Ytomigbppimpohaa
