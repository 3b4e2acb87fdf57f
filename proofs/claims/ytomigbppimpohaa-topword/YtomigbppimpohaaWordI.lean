/-
  The walk of the law TopWord: for every reading and mask it returns true.
-/
import Derived.Test.YtomigbppimpohaaWordH
namespace Go.Proofs.Ytomigbppimpohaa
open Go.RowKit Plain

theorem bit_xor (n m k : Nat) : ((n ^^^ m) / 2 ^ k) % 2 = (n / 2 ^ k + m / 2 ^ k) % 2 := by
  have h := Nat.testBit_xor n m k
  rw [Nat.testBit_eq_decide_div_mod_eq, Nat.testBit_eq_decide_div_mod_eq, Nat.testBit_eq_decide_div_mod_eq] at h
  have h1 := Nat.mod_two_eq_zero_or_one ((n ^^^ m) / 2 ^ k)
  have h2 := Nat.mod_two_eq_zero_or_one (n / 2 ^ k)
  have h3 := Nat.mod_two_eq_zero_or_one (m / 2 ^ k)
  rcases h1 with h1 | h1 <;> rcases h2 with h2 | h2 <;> rcases h3 with h3 | h3 <;> simp [h1, h2, h3] at h <;> omega
theorem ones_xor (n m : Nat) : ∀ k, ones ((n ^^^ m : Nat) : Int) k % 2 = (ones (n : Int) k + ones (m : Int) k) % 2
  | 0 => rfl
  | k + 1 => by
    have ih := ones_xor n m k
    have hb := bit_xor n m k
    simp only [ones]
    have e1 : ((n ^^^ m : Nat) : Int) / 2 ^ k % 2 = (((n ^^^ m) / 2 ^ k % 2 : Nat) : Int) := by simp
    have e2 : (n : Int) / 2 ^ k % 2 = ((n / 2 ^ k % 2 : Nat) : Int) := by simp
    have e3 : (m : Int) / 2 ^ k % 2 = ((m / 2 ^ k % 2 : Nat) : Int) := by simp
    rw [e1, e2, e3]
    omega

theorem ones_top (v : Int) (h0 : 0 ≤ v) (h1 : v < 2147483648) : ones (v + 2147483648) 32 = ones v 32 + 1 := by
  have e1 := ones_add (v + 2147483648) 31 1
  have e2 := ones_add v 31 1
  have m1 := ones_mod (v + 2147483648) 31 31 (Nat.le_refl _)
  have m2 := ones_mod v 31 31 (Nat.le_refl _)
  simp only [Nat.reduceAdd, Int.reducePow] at e1 e2 m1 m2
  rw [show (v + 2147483648) % 2147483648 = v by omega] at m1
  rw [e1, e2, ← m1]
  simp only [ones, Int.pow_zero, Int.ediv_one]
  omega

theorem body_bd {a b c d : Int} (hm : mayR a b c d = true) : 0 ≤ bodyI a b c d ∧ bodyI a b c d < 2147483648 := by
  obtain ⟨⟨a0, a1⟩, ⟨b0, b1⟩, ⟨c0, c1⟩, d0, d1⟩ := mayR_true hm
  obtain ⟨r0, r1⟩ := rev_bounds a a0 (by omega)
  unfold bodyI
  omega
theorem pack_bd {a b c d : Int} (hm : mayR a b c d = true) : 0 ≤ packI a b c d ∧ packI a b c d < 4294967296 := by
  have := body_bd hm
  unfold packI
  split <;> omega
theorem pack_odd {a b c d : Int} (hm : mayR a b c d = true) : ones (packI a b c d) 32 % 2 = 1 := by
  have hb := body_bd hm
  unfold packI
  split
  · assumption
  · rw [ones_top _ hb.1 hb.2]; omega
theorem pack_read {a b c d : Int} (hm : mayR a b c d = true) : readV (packI a b c d) = .agg #[.int .i64 a, .int .i64 b, .int .i64 c, .int .i64 d] := by
  obtain ⟨⟨a0, a1⟩, ⟨b0, b1⟩, ⟨c0, c1⟩, d0, d1⟩ := mayR_true hm
  obtain ⟨r0, r1⟩ := rev_bounds a a0 (by omega)
  have e : ∃ t, (t = 0 ∨ t = 1) ∧ packI a b c d = Lib.rev8 a + b * 256 + d % 524288 * 1024 + c * 536870912 + t * 2147483648 := by
    unfold packI bodyI
    split
    · exact ⟨0, .inl rfl, by omega⟩
    · exact ⟨1, .inr rfl, by omega⟩
  obtain ⟨t, ht, e⟩ := e
  rw [e]
  have l : labI (Lib.rev8 a + b * 256 + d % 524288 * 1024 + c * 536870912 + t * 2147483648) = a := by
    unfold labI
    rw [show (Lib.rev8 a + b * 256 + d % 524288 * 1024 + c * 536870912 + t * 2147483648) % 256 = Lib.rev8 a by omega, rev_rev a a0 (by omega)]
  have s : srcI (Lib.rev8 a + b * 256 + d % 524288 * 1024 + c * 536870912 + t * 2147483648) = b := by unfold srcI; omega
  have u : staI (Lib.rev8 a + b * 256 + d % 524288 * 1024 + c * 536870912 + t * 2147483648) = c := by unfold staI; omega
  have v : datI (Lib.rev8 a + b * 256 + d % 524288 * 1024 + c * 536870912 + t * 2147483648) = d := by
    unfold datI
    rw [show (Lib.rev8 a + b * 256 + d % 524288 * 1024 + c * 536870912 + t * 2147483648) / 1024 % 524288 = d % 524288 by omega]
    split <;> omega
  unfold readV
  rw [l, s, u, v]

theorem near_awake (w : World) : Calls Try.prog 27 #[.int .i64 98304, .int .i64 256] w fun e w' => e = .returned (.int .i64 384) ∧ ∃ k, w' = w.drewN k := by
  go_enter Try.func27, Try.ntmps27
  go_wp2
  go_quiet (fail)
  go_wp2
  go_ret
  exact ⟨rfl, _, rfl⟩
theorem mul_awake (w : World) : Calls Try.prog 22 #[.int .i64 768, .int .i64 128] w fun e w' => e = .returned (.int .i64 384) ∧ Below w.heap.size w w' := by
  have f1 := fixOf_any 768
  have f2 := fixOf_any 128
  have f3 := fixOf_any 384
  rw [show ofI 768 = 768 by decide] at f1
  rw [show ofI 128 = 128 by decide] at f2
  rw [show ofI 384 = 384 by decide] at f3
  go_enter Try.func22, Try.ntmps22
  go_wp2_with (first
    | (go_at_call_of 26 (Value.int .i64 768); refine (f1 _).mono ?_; rintro e w1 ⟨rfl, rfl⟩)
    | (go_at_call_of 26 (Value.int .i64 128); refine (f2 _).mono ?_; rintro e w1 ⟨rfl, rfl⟩)
    | (go_at_call_of 26 (Value.int .i64 384); refine (f3 _).mono ?_; rintro e w1 ⟨rfl, rfl⟩)
    | (go_at_call 27; refine (near_awake _).mono ?_; rintro e w1 ⟨rfl, k, rfl⟩))
  go_ret
  exact ⟨rfl, below_drewN (Below.refl _ _) _⟩

theorem awake_any (w : World) : Calls Try.prog 10 #[] w fun e w' => e = .returned (.bool true) ∧ Below w.heap.size w w' := by
  have hp := pack_yes 1 0 3 (-1) (by decide)
  rw [show packI 1 0 3 (-1) = 4294966400 by decide +kernel] at hp
  go_enter Try.func10, Try.ntmps10
  go_wp2_with (first
    | (go_at_call 7; refine (hp _).mono ?_; rintro e w1 ⟨rfl, hb1⟩)
    | (go_at_call 22; refine (mul_awake _).mono ?_; rintro e w2 ⟨rfl, hb2⟩))
  go_ret
  exact ⟨rfl, below_up hb1 hb2⟩


set_option maxHeartbeats 2000000 in
theorem topWord_walk (a b c d m : Int) (h0 : 0 ≤ m) (h1 : m < 4294967296) (w : World) :
    Calls Try.prog 4 #[.agg #[.int .i64 a, .int .i64 b, .int .i64 c, .int .i64 d], .int .u32 m] w fun e w' => e = .returned (.bool true) ∧ Below w.heap.size w w' := by
  have hr := readingMay_any a b c d
  by_cases hm : mayR a b c d = true
  · have hp := pack_yes a b c d hm
    rw [if_pos hm] at hr
    obtain ⟨x0, x1⟩ := pack_bd hm
    have hu := unpack_yes (packI a b c d) x0 x1 (pack_odd hm)
    rw [pack_read hm] at hu
    have hox := pack_odd hm
    clear hm
    generalize packI a b c d = x at *
    have hx : bits .xor .u32 x m = ((x.toNat ^^^ m.toNat : Nat) : Int) := u32_xor x m x0 x1 h0 h1
    have hxo := ones_xor x.toNat m.toNat 32
    rw [← hx, Int.toNat_of_nonneg x0, Int.toNat_of_nonneg h0] at hxo
    have y0 : 0 ≤ bits .xor .u32 x m := by rw [hx]; omega
    have y1 : bits .xor .u32 x m < 4294967296 := by
      have : x.toNat ^^^ m.toNat < 2 ^ 32 := Nat.xor_lt_two_pow (by omega) (by omega)
      rw [hx]; omega
    clear hx
    have hom := odd_any m h0 h1
    by_cases hodd : ones m 32 % 2 = 1
    · have hv := unpack_no (bits .xor .u32 x m) y0 y1 (by omega)
      rw [errV_ne (by decide)] at hv
      rw [decide_eq_true hodd] at hom
      have his := is_any 3 3
      rw [errV_ne (by decide)] at his
      clear hxo hodd hox
      generalize hy : bits .xor .u32 x m = y at *
      go_enter Try.func4, Try.ntmps4
      go_wp2_with (first
        | (go_at_call 10; refine (awake_any _).mono ?_; rintro e w1 ⟨rfl, hb1⟩; have HX := (by first | exact box_later HX.out hb1 | exact box_later (box_first w a b c d 23) hb1 : Box4 w1 w.heap.size a b c d ∧ Below w.heap.size w w1); obtain ⟨c0, c1, c2, c3, _⟩ := HX.1; have HX : Hid _ := HX; clear hb1)
        | (go_at_call 5; refine (hr _).mono ?_; rintro e w2 ⟨rfl, hb2⟩; have HX := (by first | exact box_later HX.out hb2 | exact box_later (box_first w a b c d 23) hb2 : Box4 w2 w.heap.size a b c d ∧ Below w.heap.size w w2); obtain ⟨c0, c1, c2, c3, _⟩ := HX.1; have HX : Hid _ := HX; clear hb2)
        | (go_at_call 7; refine (hp _).mono ?_; rintro e w3 ⟨rfl, hb3⟩; have HX := (by first | exact box_later HX.out hb3 | exact box_later (box_first w a b c d 23) hb3 : Box4 w3 w.heap.size a b c d ∧ Below w.heap.size w w3); obtain ⟨c0, c1, c2, c3, _⟩ := HX.1; have HX : Hid _ := HX; clear hb3)
        | (go_at_call_of 11 (Value.int .u32 x); refine (hu _).mono ?_; rintro e w4 ⟨rfl, hb4⟩; have HX := (by first | exact box_later HX.out hb4 | exact box_later (box_first w a b c d 23) hb4 : Box4 w4 w.heap.size a b c d ∧ Below w.heap.size w w4); obtain ⟨c0, c1, c2, c3, _⟩ := HX.1; have HX : Hid _ := HX; clear hb4)
        | (go_at_call_of 11 (Value.int .u32 y); refine (hv _).mono ?_; rintro e w5 ⟨rfl, hb5⟩; have HY : Box4 w5 w4.heap.size a b c d := (Box4.new w4 a b c d 23).later hb5; have HX := box_later (box_later HX.out (below_alloc _ _)) hb5; obtain ⟨c0, c1, c2, c3, _⟩ := HX.1; obtain ⟨d0, d1, d2, d3, _⟩ := HY; have HX : Hid _ := HX; clear hb5)
        | (go_at_call 8; refine (his _).mono ?_; rintro e w' ⟨rfl, rfl⟩)
        | (go_at_call 12; refine (hom _).mono ?_; rintro e w' ⟨rfl, rfl⟩))
      go_ret
      exact ⟨rfl, below_up HX.out.2 (below_alloc _ _)⟩
    · have hv := unpack_yes (bits .xor .u32 x m) y0 y1 (by omega)
      rw [decide_eq_false hodd] at hom
      have his := is_any 0 3
      rw [errV_zero] at his
      unfold readV at hv
      generalize labI (bits .xor .u32 x m) = p1 at *
      generalize srcI (bits .xor .u32 x m) = p2 at *
      generalize staI (bits .xor .u32 x m) = p3 at *
      generalize datI (bits .xor .u32 x m) = p4 at *
      clear hxo hodd hox
      generalize hy : bits .xor .u32 x m = y at *
      go_enter Try.func4, Try.ntmps4
      go_wp2_with (first
        | (go_at_call 10; refine (awake_any _).mono ?_; rintro e w1 ⟨rfl, hb1⟩; have HX := (by first | exact box_later HX.out hb1 | exact box_later (box_first w a b c d 23) hb1 : Box4 w1 w.heap.size a b c d ∧ Below w.heap.size w w1); obtain ⟨c0, c1, c2, c3, _⟩ := HX.1; have HX : Hid _ := HX; clear hb1)
        | (go_at_call 5; refine (hr _).mono ?_; rintro e w2 ⟨rfl, hb2⟩; have HX := (by first | exact box_later HX.out hb2 | exact box_later (box_first w a b c d 23) hb2 : Box4 w2 w.heap.size a b c d ∧ Below w.heap.size w w2); obtain ⟨c0, c1, c2, c3, _⟩ := HX.1; have HX : Hid _ := HX; clear hb2)
        | (go_at_call 7; refine (hp _).mono ?_; rintro e w3 ⟨rfl, hb3⟩; have HX := (by first | exact box_later HX.out hb3 | exact box_later (box_first w a b c d 23) hb3 : Box4 w3 w.heap.size a b c d ∧ Below w.heap.size w w3); obtain ⟨c0, c1, c2, c3, _⟩ := HX.1; have HX : Hid _ := HX; clear hb3)
        | (go_at_call_of 11 (Value.int .u32 x); refine (hu _).mono ?_; rintro e w4 ⟨rfl, hb4⟩; have HX := (by first | exact box_later HX.out hb4 | exact box_later (box_first w a b c d 23) hb4 : Box4 w4 w.heap.size a b c d ∧ Below w.heap.size w w4); obtain ⟨c0, c1, c2, c3, _⟩ := HX.1; have HX : Hid _ := HX; clear hb4)
        | (go_at_call_of 11 (Value.int .u32 y); refine (hv _).mono ?_; rintro e w5 ⟨rfl, hb5⟩; have HY : Box4 w5 w4.heap.size a b c d := (Box4.new w4 a b c d 23).later hb5; have HX := box_later (box_later HX.out (below_alloc _ _)) hb5; obtain ⟨c0, c1, c2, c3, _⟩ := HX.1; obtain ⟨d0, d1, d2, d3, _⟩ := HY; have HX : Hid _ := HX; clear hb5)
        | (go_at_call 8; refine (his _).mono ?_; rintro e w' ⟨rfl, rfl⟩)
        | (go_at_call 12; refine (hom _).mono ?_; rintro e w' ⟨rfl, rfl⟩))
      go_ret
      exact ⟨rfl, below_up HX.out.2 (below_alloc _ _)⟩
  · rw [if_neg hm] at hr
    clear hm
    go_enter Try.func4, Try.ntmps4
    go_wp2_with (first
      | (go_at_call 10; refine (awake_any _).mono ?_; rintro e w1 ⟨rfl, hb1⟩; have HX := (by first | exact box_later HX.out hb1 | exact box_later (box_first w a b c d 23) hb1 : Box4 w1 w.heap.size a b c d ∧ Below w.heap.size w w1); obtain ⟨c0, c1, c2, c3, _⟩ := HX.1; have HX : Hid _ := HX; clear hb1)
      | (go_at_call 5; refine (hr _).mono ?_; rintro e w2 ⟨rfl, hb2⟩; have HX := (by first | exact box_later HX.out hb2 | exact box_later (box_first w a b c d 23) hb2 : Box4 w2 w.heap.size a b c d ∧ Below w.heap.size w w2); obtain ⟨c0, c1, c2, c3, _⟩ := HX.1; have HX : Hid _ := HX; clear hb2))
    go_ret
    exact ⟨rfl, HX.out.2⟩

end Go.Proofs.Ytomigbppimpohaa
