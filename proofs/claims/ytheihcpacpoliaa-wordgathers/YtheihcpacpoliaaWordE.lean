/-
  The contract of fulmarref.ReadingOf: what a word says, bit by bit.
-/
import Derived.Test.YtheihcpacpoliaaWordD
namespace Go.Proofs.Ytheihcpacpoliaa
open Go.RowKit Plain

theorem pow_mono (j k : Nat) (h : j ≤ k) : (2 : Int) ^ j ≤ 2 ^ k := by
  have : (2 : Nat) ^ j ≤ 2 ^ k := Nat.pow_le_pow_right (by decide) h
  exact_mod_cast this
theorem turn_bounds (x : Int) : ∀ k : Nat, 0 ≤ turn x k ∧ turn x k < 2 ^ k
  | 0 => by simp [turn]
  | k + 1 => by
    have h := turn_bounds x k
    rw [turn, Int.pow_succ]
    omega
theorem turn_le (x : Int) (k : Nat) (hk : k ≤ 8) : 0 ≤ turn x k ∧ turn x k ≤ 255 := by
  have h := turn_bounds x k
  have : (2 : Int) ^ k ≤ 2 ^ 8 := pow_mono k 8 hk
  omega
theorem low_bounds (x : Int) (k : Nat) (hk : k ≤ 18) : 0 ≤ low x k ∧ low x k < 262144 := by
  rw [low_mod]
  have hp : (0 : Int) < 2 ^ k := Int.pow_pos (by decide)
  have := Int.emod_nonneg x (Int.ne_of_gt hp)
  have := Int.emod_lt_of_pos x hp
  have : (2 : Int) ^ k ≤ 2 ^ 18 := pow_mono k 18 hk
  omega

/-- One bit of a number. -/
def btI (x i : Int) : Int := x / 2 ^ i.toNat % 2
theorem btI_bd (x i : Int) : 0 ≤ btI x i ∧ btI x i ≤ 1 := by unfold btI; omega
theorem bit_at (x i : Int) (h0 : 0 ≤ i) (h1 : i ≤ 63) (w : World) :
    Calls Try.prog 38 #[.int .i64 x, .int .i64 i] w fun e w' => e = .returned (.int .i64 (btI x i)) ∧ w' = w := bit_any x i h0 h1 w
theorem low_step (x : Int) (k : Nat) : low (x / 1024) (k + 1) = low (x / 1024) k + btI x (10 + (k : Int)) * 2 ^ k := by
  rw [low, btI, show (10 + (k : Int)).toNat = 10 + k by omega, ← div_pow_add]
  rfl
theorem turn_step (x : Int) (k : Nat) : turn x (k + 1) = 2 * turn x k + btI x k := by rw [turn, btI]; rfl
theorem src_bits (x : Int) : btI x 8 + 2 * btI x 9 = srcI x := by unfold btI srcI; simp only [Int.reduceToNat, Int.reducePow]; omega
theorem sta_bits (x : Int) : btI x 29 + 2 * btI x 30 = staI x := by unfold btI staI; simp only [Int.reduceToNat, Int.reducePow]; omega
theorem dat_bits (x : Int) : low (x / 1024) 18 - btI x 28 * 262144 = datI x := by
  rw [low_mod]; unfold btI datI; simp only [Int.reduceToNat, Int.reducePow]; split <;> omega
theorem lab_turn (x : Int) : turn x 8 = labI x := by
  unfold labI
  rw [rev_eq _ (by omega) (by omega), turn_low]
theorem shift_bd (b : Int) (k : Nat) (hk : k ≤ 17) (h0 : 0 ≤ b) (h1 : b ≤ 1) : 0 ≤ b * 2 ^ k ∧ b * 2 ^ k ≤ 131072 := by
  have hp : (0 : Int) < 2 ^ k := Int.pow_pos (by decide)
  have hm : (2 : Int) ^ k ≤ 2 ^ 17 := pow_mono k 17 hk
  refine ⟨Int.mul_nonneg h0 (Int.le_of_lt hp), ?_⟩
  have := Int.mul_le_mul_of_nonneg_right h1 (Int.le_of_lt hp)
  omega

set_option maxHeartbeats 4000000 in
theorem readingOf_any (x : Int) (h0 : 0 ≤ x) (h1 : x < 4294967296) (w : World) :
    Calls Try.prog 19 #[.int .u32 x] w fun e w' => e = .returned (readV x) ∧ Below w.heap.size w w' := by
  go_enter Try.func19, Try.ntmps19
  go_wp2
  go_loopw [5] (fun i wr => ∃ k : Nat, k ≤ 8 ∧ i = .int .i64 k ∧ Box4 wr w.heap.size 0 0 0 0 ∧ Box4 wr (w.heap.size + 1) (turn x k) 0 0 0 ∧ Below w.heap.size w wr) (fun i _ => 8 - (intOf i).toNat)
  case atStart =>
    refine ⟨0, by omega, rfl, ?_, ?_, ?_⟩
    · exact (Box4.new _ _ _ _ _ _).later (below_alloc _ _)
    · have := Box4.new (w.alloc (.cells #[.int .i64 0, .int .i64 0, .int .i64 0, .int .i64 0] 33)) 0 0 0 0 33
      simpa [go_sem, turn] using this
    · exact below_up (below_alloc _ _) (below_alloc _ _)
  case round =>
    obtain ⟨k, hk, rfl, hx, hy, hb⟩ := hrel
    by_cases hlt : k < 8
    · have ht := turn_le x k (by omega)
      have hs : Hid (turn x (k + 1) = 2 * turn x k + btI x k) := turn_step x k
      have HY : Hid (Box4 wr (w.heap.size + 1) (turn x k) 0 0 0) := hy
      have HX : Hid (Box4 wr w.heap.size 0 0 0 0) := hx
      obtain ⟨c0, c1, c2, c3, d0, d1, d2, d3, dl⟩ := hy
      have hbt := bit_at x k (by omega) (by omega)
      have hbd := btI_bd x k
      clear hx
      generalize turn x k = t at *
      generalize btI x k = b at *
      have hw1 : IntKind.i64.wrap (2 * t) = 2 * t := by rw [IntKind.wrap_i64]; omega
      have hw2 : IntKind.i64.wrap (2 * t + b) = 2 * t + b := by rw [IntKind.wrap_i64]; omega
      go_wp2
      go_region_with (go_at_call 38; refine (hbt _).mono ?_; rintro e w' ⟨rfl, rfl⟩)
      all_goals
        go_wp2
        go_roundw
        (case rel => exact ⟨k + 1, by omega, by go_num, (HX.out.else (by omega)).drew, by rw [hs.out]; exact (HY.out.set0 _).drew, (hb.setCell (by simp) _).drew⟩)
        (case measure => simp [intOf]; omega)
    · have e : k = 8 := by omega
      subst e
      rw [lab_turn] at hy
      have hl : 0 ≤ labI x ∧ labI x ≤ 255 := by rw [← lab_turn]; exact turn_le x 8 (by omega)
      have b8 := btI_bd x 8
      have b9 := btI_bd x 9
      have b29 := btI_bd x 29
      have b30 := btI_bd x 30
      have HS : Hid (btI x 8 + 2 * btI x 9 = srcI x ∧ btI x 29 + 2 * btI x 30 = staI x) := ⟨src_bits x, sta_bits x⟩
      have HY : Hid (Box4 wr (w.heap.size + 1) (labI x) 0 0 0) := hy
      have HX : Hid (Box4 wr w.heap.size 0 0 0 0) := hx
      obtain ⟨c0, c1, c2, c3, d0, d1, d2, d3, dl⟩ := hy
      clear hx
      have HB : Hid (Below w.heap.size w wr) := hb
      clear hb
      go_wp2_with (go_at_call 38; refine (bit_at _ _ (by omega) (by omega) _).mono ?_; rintro e w' ⟨rfl, rfl⟩)
      go_loopw [6] (fun i wr2 => ∃ k : Nat, k ≤ 18 ∧ i = .int .i64 k ∧ Box4 wr2 w.heap.size 0 0 0 0 ∧ Box4 wr2 (w.heap.size + 1) (labI x) (srcI x) (staI x) (low (x / 1024) k) ∧ Below w.heap.size w wr2) (fun i _ => 18 - (intOf i).toNat)
      case atStart =>
        refine ⟨0, by omega, rfl, (HX.out.else (by omega)).else (by omega), ?_, (HB.out.setCell (by simp) _).setCell (by simp) _⟩
        rw [← HS.out.1, ← HS.out.2]
        exact (HY.out.set1 _).set2 _
      case round =>
        rename_i wr2
        clear HX HY HB c0 c1 c2 c3 d0 d1 d2 d3 dl b8 b9 b29 b30
        obtain ⟨k, hk, rfl, hx, hy, hb⟩ := hrel
        by_cases hlt2 : k < 18
        · have ht := low_bounds (x / 1024) k (by omega)
          have hs : Hid (low (x / 1024) (k + 1) = low (x / 1024) k + btI x (10 + (k : Int)) * 2 ^ k) := low_step x k
          have hbt := bit_at x (10 + (k : Int)) (by omega) (by omega)
          have hbd := btI_bd x (10 + (k : Int))
          have hsh := shift_bd _ k (by omega) hbd.1 hbd.2
          have HY : Hid (Box4 _ (w.heap.size + 1) _ _ _ (low (x / 1024) k)) := hy
          have HX : Hid (Box4 _ w.heap.size 0 0 0 0) := hx
          obtain ⟨c0, c1, c2, c3, d0, d1, d2, d3, dl⟩ := hy
          clear hx
          generalize low (x / 1024) k = t at *
          generalize btI x (10 + (k : Int)) = b at *
          have hw0 : IntKind.i64.wrap (10 + (k : Int)) = 10 + (k : Int) := by rw [IntKind.wrap_i64]; omega
          have hw1 : IntKind.i64.wrap (b * 2 ^ k) = b * 2 ^ k := by rw [IntKind.wrap_i64]; omega
          have hw2 : IntKind.i64.wrap (t + b * 2 ^ k) = t + b * 2 ^ k := by rw [IntKind.wrap_i64]; omega
          go_wp2
          go_region_with (go_at_call 38; refine (hbt _).mono ?_; rintro e w' ⟨rfl, rfl⟩)
          all_goals
            go_wp2
            go_roundw
            (case rel => exact ⟨k + 1, by omega, by go_num, (HX.out.else (by omega)).drew, by rw [hs.out]; exact (HY.out.set3 _).drew, (hb.setCell (by simp) _).drew⟩)
            (case measure => simp [intOf]; omega)
        · have e : k = 18 := by omega
          subst e
          have hbt := bit_at x 28 (by omega) (by omega)
          have hbd := btI_bd x 28
          have ht := low_bounds (x / 1024) 18 (by omega)
          have HD : Hid (low (x / 1024) 18 - btI x 28 * 262144 = datI x) := dat_bits x
          have HY : Hid (Box4 _ (w.heap.size + 1) _ _ _ (low (x / 1024) 18)) := hy
          have HX : Hid (Box4 _ w.heap.size 0 0 0 0) := hx
          obtain ⟨c0, c1, c2, c3, d0, d1, d2, d3, dl⟩ := hy
          obtain ⟨a0, a1, a2, a3, f0, f1, f2, f3, fl⟩ := hx
          generalize low (x / 1024) 18 = t at *
          generalize btI x 28 = b at *
          have hw1 : IntKind.i64.wrap (b * 262144) = b * 262144 := by rw [IntKind.wrap_i64]; omega
          have hw2 : IntKind.i64.wrap (t - b * 262144) = t - b * 262144 := by rw [IntKind.wrap_i64]; omega
          go_wp2
          go_region_with (go_at_call 38; refine (hbt _).mono ?_; rintro e w' ⟨rfl, rfl⟩)
          all_goals
            go_wp2
            exact bodyPost_ret (v := .agg #[.int .i64 (labI x), .int .i64 (srcI x), .int .i64 (staI x), .int .i64 (t - b * 262144)]) (by simp [results, Try.results19, go_sem, a0, a1, a2, a3]) rfl ⟨by unfold readV; rw [← HD.out], by repeat (first | exact hb | apply Below.drew | (refine Below.setCell ?_ (by simp) _))⟩

end Go.Proofs.Ytheihcpacpoliaa
