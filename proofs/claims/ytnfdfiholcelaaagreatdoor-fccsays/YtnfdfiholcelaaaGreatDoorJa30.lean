import Derived.Deep.AppendSrc
import Derived.Test.YtnfdfiholcelaaaGreatDoorJa00
import Derived.Test.YtnfdfiholcelaaaGreatDoorJa03
import Derived.Test.YtnfdfiholcelaaaGreatDoorJa04
import Derived.Test.YtnfdfiholcelaaaGreatDoorJa28
set_option maxRecDepth 100000
set_option maxHeartbeats 20000000
namespace Go.Proofs.YtnfdfiholcelaaaGreatDoor
open Go.RowKit Plain
theorem turnUp_step (x : Int) (k : Nat) (h : k < 8) : Zdm x (k + 1) = Zdm x k + btI x (7 - (k : Int)) * 2 ^ k := by
 rw [Zdm, btI, show (7 - (k : Int)).toNat = 7 - k by omega]
theorem Zfo (x : Int) : ∀ k : Nat, 0 ≤ Zdm x k ∧ Zdm x k < 2 ^ k
 | 0 => by simp [Zdm]
 | k + 1 => by
  have h := Zfo x k; have hp : (0 : Int) < 2 ^ k := Int.pow_pos (by decide); rw [Zdm, Int.pow_succ]
  have b0 : 0 ≤ x / 2 ^ (7 - k) % 2 := by omega
  have b1 : x / 2 ^ (7 - k) % 2 ≤ 1 := by omega
  have l1 := Int.mul_le_mul_of_nonneg_right b1 (Int.le_of_lt hp); have l0 := Int.mul_nonneg b0 (Int.le_of_lt hp)
  omega
theorem low_bd (x : Int) (k : Nat) : 0 ≤ low x k ∧ low x k < 2 ^ k := by
 rw [Zfc]; have hp : (0 : Int) < 2 ^ k := Int.pow_pos (by decide); exact ⟨Int.emod_nonneg x (Int.ne_of_gt hp), Int.emod_lt_of_pos x hp⟩
theorem Zfh (x : Int) (k : Nat) : low x (k + 1) = low x k + btI x k * 2 ^ k := by rw [low, btI]; rfl
theorem shift_up (b : Int) (j k : Nat) (h0 : 0 ≤ b) (h1 : b ≤ 1) : 0 ≤ b * 2 ^ (j + k) ∧ b * 2 ^ (j + k) ≤ 2 ^ (j + k) ∧ b * 2 ^ (j + k) = b * 2 ^ k * 2 ^ j := by
 have hp : (0 : Int) < 2 ^ (j + k) := Int.pow_pos (by decide); refine ⟨Int.mul_nonneg h0 (Int.le_of_lt hp), ?_, ?_⟩
 · have := Int.mul_le_mul_of_nonneg_right h1 (Int.le_of_lt hp)
   omega
 · rw [Int.pow_add, Int.mul_assoc, Int.mul_comm (2 ^ j)]
theorem word_below (a b c d : Int) (hm : mayR a b c d = true) (hd : d < 0) (w : World) :
 Calls Tryz.prog 72 #[.agg #[Vi a, Vi b, Vi c, Vi d]] w fun e w' => e = .returned (.int .u32 (Zeu a b c d)) ∧ Below w.heap.size w w' := by
 obtain ⟨⟨a0, a1⟩, ⟨b0, b1⟩, ⟨c0, c1⟩, d0, d1⟩ := mayR_true hm
 have HY : Hid ((d + 524288) = d % 524288) := by show (d + 524288) = d % 524288; omega
 have hw : IntKind.i64.wrap (d + 524288) = d + 524288 := by rw [IntKind.wrap_i64]; omega
 go_enter Tryz.func72, Tryz.ntmps72
 go_wp2
 go_loop [4, 5] (fun v i => ∃ k : Nat, k ≤ 8 ∧ i = Vi k ∧ v = .int .u32 (Zdm a k)) (fun v i => 8 - (intOf i).toNat)
 case atStart => exact ⟨0, by omega, rfl, rfl⟩
 case round =>
  obtain ⟨k, hk, rfl, rfl⟩ := hrel
  by_cases hlt : k < 8
  · have ht := Zfo a k; have hp : (2 : Int) ^ k ≤ 2 ^ 7 := Zei k 7 (by omega); have hs : Hid (Zdm a (k + 1) = Zdm a k + btI a (7 - (k : Int)) * 2 ^ k) := turnUp_step a k hlt; have hbt := Zgv a (7 - (k : Int)) (by omega) (by omega); have hbd := Zet a (7 - (k : Int)); have hsh := shift_bd _ k (by omega) hbd.1 hbd.2
    have hb2 : btI a (7 - (k : Int)) * 2 ^ k ≤ 2 ^ k := by
     have := Int.mul_le_mul_of_nonneg_right hbd.2 (Int.le_of_lt (show (0 : Int) < 2 ^ k from Int.pow_pos (by decide)))
     omega
    generalize Zdm a k = t at *; generalize btI a (7 - (k : Int)) = b' at *
    go_wp2_with (go_at_call 126; refine Sm (hbt _) ?_)
    go_round
    case rel => exact ⟨k + 1, by omega, by go_num, by rw [hs.out]⟩
    case measure => simp [intOf]; omega
  · have e : k = 8 := by omega
    subst e; rw [← rev_eq_up a a0 (by omega)]; obtain ⟨r0, r1⟩ := Zht a a0 (by omega); have HX : Hid (Box4 (w.alloc (.cells #[Vi a, Vi b, Vi c, Vi d] 161)) w.heap.size a b c d) := Box4.new _ _ _ _ _ _; have HB : Hid (Below w.heap.size w (w.alloc (.cells #[Vi a, Vi b, Vi c, Vi d] 161))) := Zan _ _; go_wp2; generalize (w.alloc (.cells #[Vi a, Vi b, Vi c, Vi d] 161)) = w1 at *
    go_loopw [4, 6] (fun v i wr => ∃ k : Nat, k ≤ 2 ∧ i = Vi k ∧ v = .int .u32 (Lib.rev8 a + low b k * 256 + low c k * 536870912) ∧ Box4 wr w.heap.size a b c d ∧ Below w.heap.size w wr) (fun v i _ => 2 - (intOf i).toNat)
    case atStart => exact ⟨0, by omega, rfl, by simp [low], HX, HB⟩
    case round =>
     clear HX HB; obtain ⟨k, hk, rfl, rfl, hx, hb⟩ := hrel; have HX : Hid (Box4 wr w.heap.size a b c d) := hx; obtain ⟨q0, q1, q2, q3, _⟩ := hx; have HB : Hid (Below w.heap.size w wr) := hb; clear hb
     by_cases hlt2 : k < 2
     · have l0 := low_bd b k; have l1 := low_bd c k; have hp : (2 : Int) ^ k ≤ 2 ^ 1 := Zei k 1 (by omega); have hs1 := Zfh b k; have hs2 := Zfh c k; have f1 := Zgv b k (by omega) (by omega); have f2 := Zgv c k (by omega) (by omega); have g1 := Zet b k; have g2 := Zet c k
       rcases (show k = 0 ∨ k = 1 by omega) with rfl | rfl
       · simp only [Int.reducePow, Int.pow_zero, Int.mul_one, Nat.zero_add] at hs1 hs2 l0 l1 hp; generalize low b 0 = t1 at *; generalize low c 0 = t2 at *; simp only [Int.natCast_zero] at f1 f2 g1 g2 hs1 hs2; generalize btI b 0 = e1 at *; generalize btI c 0 = e2 at *; have HS : Hid (low b 1 = t1 + e1 ∧ low c 1 = t2 + e2) := ⟨hs1, hs2⟩; clear hs1 hs2; go_wp2
         go_quiet (first
          | ((first | go_at_call_of 126 (Vi b) | go_at_call_of 126 (Value.int .i64 b)); exact Calls.quiet_of_same (f1 _))
          | ((first | go_at_call_of 126 (Vi c) | go_at_call_of 126 (Value.int .i64 c)); exact Calls.quiet_of_same (f2 _)))
         go_wp2; go_roundw
         case rel =>
          refine ⟨1, by omega, by go_num, ?_, HX.out.later (below_drewN (Below.refl _ _) _), below_drewN HB.out _⟩; rw [HS.out.1, HS.out.2]
          (congr 1; omega)
         case measure => simp [intOf]
       · simp only [Int.reducePow, Nat.reduceAdd] at hs1 hs2 l0 l1 hp f1 f2 g1 g2; generalize low b 1 = t1 at *; generalize low c 1 = t2 at *; generalize btI b 1 = e1 at *; generalize btI c 1 = e2 at *; have HS : Hid (low b 2 = t1 + e1 * 2 ∧ low c 2 = t2 + e2 * 2) := ⟨hs1, hs2⟩; clear hs1 hs2; go_wp2
         go_quiet (first
          | ((first | go_at_call_of 126 (Vi b) | go_at_call_of 126 (Value.int .i64 b)); exact Calls.quiet_of_same (f1 _))
          | ((first | go_at_call_of 126 (Vi c) | go_at_call_of 126 (Value.int .i64 c)); exact Calls.quiet_of_same (f2 _)))
         go_wp2; go_roundw
         case rel =>
          refine ⟨2, by omega, by go_num, ?_, HX.out.later (below_drewN (Below.refl _ _) _), below_drewN HB.out _⟩; rw [HS.out.1, HS.out.2]
          (congr 1; omega)
         case measure => simp [intOf]
     · have e : k = 2 := by omega
       subst e
       have e1 : low b 2 = b := by rw [Zfc]; simp only [Int.reducePow]; omega
       have e2 : low c 2 = c := by rw [Zfc]; simp only [Int.reducePow]; omega
       rw [e1, e2, show ((2 : Nat) : Int) = 2 from rfl]; clear e1 e2; generalize hr : Lib.rev8 a = r at *; have HR : Hid (Lib.rev8 a = r) := hr; clear hr; go_wp2
       go_loop [4, 7] (fun v i => ∃ k : Nat, k ≤ 19 ∧ i = Vi k ∧ v = .int .u32 (r + b * 256 + c * 536870912 + low (d + 524288) k * 1024)) (fun v i => 19 - (intOf i).toNat)
       case atStart => exact ⟨0, by omega, rfl, by simp [low]⟩
       case round =>
        obtain ⟨k, hk3, rfl, rfl⟩ := hrel
        by_cases hlt3 : k < 19
        · have ht := low_bd (d + 524288) k; have hp : (2 : Int) ^ k ≤ 2 ^ 18 := Zei k 18 (by omega); have hs : Hid (low (d + 524288) (k + 1) = low (d + 524288) k + btI (d + 524288) k * 2 ^ k) := Zfh (d + 524288) k; have hbt := Zgv (d + 524288) k (by omega) (by omega); have hbd := Zet (d + 524288) k; have hsu := shift_up (btI (d + 524288) k) 10 k hbd.1 hbd.2
          have hb2 : btI (d + 524288) k * 2 ^ k ≤ 2 ^ k := by
           have := Int.mul_le_mul_of_nonneg_right hbd.2 (Int.le_of_lt (show (0 : Int) < 2 ^ k from Int.pow_pos (by decide)))
           omega
          have hpw : (10 + (k : Int)).toNat = 10 + k := by omega
          generalize low (d + 524288) k = t at *; generalize btI (d + 524288) k = b' at *; simp only [Int.reducePow] at hsu; generalize hz : b' * 2 ^ (10 + k) = z at *
          go_wp2_with (go_at_call 126; refine (hbt _).mono ?_; rintro e w' ⟨rfl, rfl⟩)
          go_round
          case rel =>
           refine ⟨k + 1, by omega, by go_num, ?_⟩; rw [hs.out, Int.add_mul]
           (congr 1; omega)
          case measure => simp [intOf]; omega
        · have e : k = 19 := by omega
          subst e
          have el : low (d + 524288) 19 = (d + 524288) := by rw [Zfc]; simp only [Int.reducePow]; omega
          have hB : Hid (r + b * 256 + c * 536870912 + (d + 524288) * 1024 = Zis a b c d) := by
           show r + b * 256 + c * 536870912 + (d + 524288) * 1024 = Zis a b c d
           unfold Zis
           rw [HR.out, HY.out]
           omega
          have ho := odd_any (r + b * 256 + c * 536870912 + (d + 524288) * 1024) (by omega) (by omega); rw [el, show ((19 : Nat) : Int) = 19 from rfl]; clear el
          by_cases hodd : ones (r + b * 256 + c * 536870912 + (d + 524288) * 1024) 32 % 2 = 1
          · have HP : Hid (Zeu a b c d = r + b * 256 + c * 536870912 + (d + 524288) * 1024) := by
             show Zeu a b c d = _
             unfold Zeu; rw [← hB.out, if_pos hodd]
            rw [decide_eq_true hodd] at ho; clear hodd hB
            go_wp2_with (go_at_call 90; refine (ho _).mono ?_; rintro e w' ⟨rfl, rfl⟩); go_ret; exact ⟨by rw [HP.out]; rfl, HB⟩
          · have HP : Hid (Zeu a b c d = r + b * 256 + c * 536870912 + (d + 524288) * 1024 + 2147483648) := by
             show Zeu a b c d = _
             unfold Zeu; rw [← hB.out, if_neg hodd]
            rw [decide_eq_false hodd] at ho; clear hodd hB
            go_wp2_with (go_at_call 90; refine (ho _).mono ?_; rintro e w' ⟨rfl, rfl⟩); go_ret; exact ⟨by rw [HP.out]; rfl, HB⟩
theorem word_above (a b c d : Int) (hm : mayR a b c d = true) (hd : 0 ≤ d) (w : World) :
 Calls Tryz.prog 72 #[.agg #[Vi a, Vi b, Vi c, Vi d]] w fun e w' => e = .returned (.int .u32 (Zeu a b c d)) ∧ Below w.heap.size w w' := by
 obtain ⟨⟨a0, a1⟩, ⟨b0, b1⟩, ⟨c0, c1⟩, d0, d1⟩ := mayR_true hm
 have HY : Hid (d = d % 524288) := by show d = d % 524288; omega
 go_enter Tryz.func72, Tryz.ntmps72
 go_wp2
 go_loop [4, 5] (fun v i => ∃ k : Nat, k ≤ 8 ∧ i = Vi k ∧ v = .int .u32 (Zdm a k)) (fun v i => 8 - (intOf i).toNat)
 case atStart => exact ⟨0, by omega, rfl, rfl⟩
 case round =>
  obtain ⟨k, hk, rfl, rfl⟩ := hrel
  by_cases hlt : k < 8
  · have ht := Zfo a k; have hp : (2 : Int) ^ k ≤ 2 ^ 7 := Zei k 7 (by omega); have hs : Hid (Zdm a (k + 1) = Zdm a k + btI a (7 - (k : Int)) * 2 ^ k) := turnUp_step a k hlt; have hbt := Zgv a (7 - (k : Int)) (by omega) (by omega); have hbd := Zet a (7 - (k : Int)); have hsh := shift_bd _ k (by omega) hbd.1 hbd.2
    have hb2 : btI a (7 - (k : Int)) * 2 ^ k ≤ 2 ^ k := by
     have := Int.mul_le_mul_of_nonneg_right hbd.2 (Int.le_of_lt (show (0 : Int) < 2 ^ k from Int.pow_pos (by decide)))
     omega
    generalize Zdm a k = t at *; generalize btI a (7 - (k : Int)) = b' at *
    go_wp2_with (go_at_call 126; refine Sm (hbt _) ?_)
    go_round
    case rel => exact ⟨k + 1, by omega, by go_num, by rw [hs.out]⟩
    case measure => simp [intOf]; omega
  · have e : k = 8 := by omega
    subst e; rw [← rev_eq_up a a0 (by omega)]; obtain ⟨r0, r1⟩ := Zht a a0 (by omega); have HX : Hid (Box4 (w.alloc (.cells #[Vi a, Vi b, Vi c, Vi d] 161)) w.heap.size a b c d) := Box4.new _ _ _ _ _ _; have HB : Hid (Below w.heap.size w (w.alloc (.cells #[Vi a, Vi b, Vi c, Vi d] 161))) := Zan _ _; go_wp2; generalize (w.alloc (.cells #[Vi a, Vi b, Vi c, Vi d] 161)) = w1 at *
    go_loopw [4, 6] (fun v i wr => ∃ k : Nat, k ≤ 2 ∧ i = Vi k ∧ v = .int .u32 (Lib.rev8 a + low b k * 256 + low c k * 536870912) ∧ Box4 wr w.heap.size a b c d ∧ Below w.heap.size w wr) (fun v i _ => 2 - (intOf i).toNat)
    case atStart => exact ⟨0, by omega, rfl, by simp [low], HX, HB⟩
    case round =>
     clear HX HB; obtain ⟨k, hk, rfl, rfl, hx, hb⟩ := hrel; have HX : Hid (Box4 wr w.heap.size a b c d) := hx; obtain ⟨q0, q1, q2, q3, _⟩ := hx; have HB : Hid (Below w.heap.size w wr) := hb; clear hb
     by_cases hlt2 : k < 2
     · have l0 := low_bd b k; have l1 := low_bd c k; have hp : (2 : Int) ^ k ≤ 2 ^ 1 := Zei k 1 (by omega); have hs1 := Zfh b k; have hs2 := Zfh c k; have f1 := Zgv b k (by omega) (by omega); have f2 := Zgv c k (by omega) (by omega); have g1 := Zet b k; have g2 := Zet c k
       rcases (show k = 0 ∨ k = 1 by omega) with rfl | rfl
       · simp only [Int.reducePow, Int.pow_zero, Int.mul_one, Nat.zero_add] at hs1 hs2 l0 l1 hp; generalize low b 0 = t1 at *; generalize low c 0 = t2 at *; simp only [Int.natCast_zero] at f1 f2 g1 g2 hs1 hs2; generalize btI b 0 = e1 at *; generalize btI c 0 = e2 at *; have HS : Hid (low b 1 = t1 + e1 ∧ low c 1 = t2 + e2) := ⟨hs1, hs2⟩; clear hs1 hs2; go_wp2
         go_quiet (first
          | ((first | go_at_call_of 126 (Vi b) | go_at_call_of 126 (Value.int .i64 b)); exact Calls.quiet_of_same (f1 _))
          | ((first | go_at_call_of 126 (Vi c) | go_at_call_of 126 (Value.int .i64 c)); exact Calls.quiet_of_same (f2 _)))
         go_wp2; go_roundw
         case rel =>
          refine ⟨1, by omega, by go_num, ?_, HX.out.later (below_drewN (Below.refl _ _) _), below_drewN HB.out _⟩; rw [HS.out.1, HS.out.2]
          (congr 1; omega)
         case measure => simp [intOf]
       · simp only [Int.reducePow, Nat.reduceAdd] at hs1 hs2 l0 l1 hp f1 f2 g1 g2; generalize low b 1 = t1 at *; generalize low c 1 = t2 at *; generalize btI b 1 = e1 at *; generalize btI c 1 = e2 at *; have HS : Hid (low b 2 = t1 + e1 * 2 ∧ low c 2 = t2 + e2 * 2) := ⟨hs1, hs2⟩; clear hs1 hs2; go_wp2
         go_quiet (first
          | ((first | go_at_call_of 126 (Vi b) | go_at_call_of 126 (Value.int .i64 b)); exact Calls.quiet_of_same (f1 _))
          | ((first | go_at_call_of 126 (Vi c) | go_at_call_of 126 (Value.int .i64 c)); exact Calls.quiet_of_same (f2 _)))
         go_wp2; go_roundw
         case rel =>
          refine ⟨2, by omega, by go_num, ?_, HX.out.later (below_drewN (Below.refl _ _) _), below_drewN HB.out _⟩; rw [HS.out.1, HS.out.2]
          (congr 1; omega)
         case measure => simp [intOf]
     · have e : k = 2 := by omega
       subst e
       have e1 : low b 2 = b := by rw [Zfc]; simp only [Int.reducePow]; omega
       have e2 : low c 2 = c := by rw [Zfc]; simp only [Int.reducePow]; omega
       rw [e1, e2, show ((2 : Nat) : Int) = 2 from rfl]; clear e1 e2; generalize hr : Lib.rev8 a = r at *; have HR : Hid (Lib.rev8 a = r) := hr; clear hr; go_wp2
       go_loop [4, 7] (fun v i => ∃ k : Nat, k ≤ 19 ∧ i = Vi k ∧ v = .int .u32 (r + b * 256 + c * 536870912 + low d k * 1024)) (fun v i => 19 - (intOf i).toNat)
       case atStart => exact ⟨0, by omega, rfl, by simp [low]⟩
       case round =>
        obtain ⟨k, hk3, rfl, rfl⟩ := hrel
        by_cases hlt3 : k < 19
        · have ht := low_bd d k; have hp : (2 : Int) ^ k ≤ 2 ^ 18 := Zei k 18 (by omega); have hs : Hid (low d (k + 1) = low d k + btI d k * 2 ^ k) := Zfh d k; have hbt := Zgv d k (by omega) (by omega); have hbd := Zet d k; have hsu := shift_up (btI d k) 10 k hbd.1 hbd.2
          have hb2 : btI d k * 2 ^ k ≤ 2 ^ k := by
           have := Int.mul_le_mul_of_nonneg_right hbd.2 (Int.le_of_lt (show (0 : Int) < 2 ^ k from Int.pow_pos (by decide)))
           omega
          have hpw : (10 + (k : Int)).toNat = 10 + k := by omega
          generalize low d k = t at *; generalize btI d k = b' at *; simp only [Int.reducePow] at hsu; generalize hz : b' * 2 ^ (10 + k) = z at *
          go_wp2_with (go_at_call 126; refine (hbt _).mono ?_; rintro e w' ⟨rfl, rfl⟩)
          go_round
          case rel =>
           refine ⟨k + 1, by omega, by go_num, ?_⟩; rw [hs.out, Int.add_mul]
           (congr 1; omega)
          case measure => simp [intOf]; omega
        · have e : k = 19 := by omega
          subst e
          have el : low d 19 = d := by rw [Zfc]; simp only [Int.reducePow]; omega
          have hB : Hid (r + b * 256 + c * 536870912 + d * 1024 = Zis a b c d) := by
           show r + b * 256 + c * 536870912 + d * 1024 = Zis a b c d
           unfold Zis
           rw [HR.out, HY.out]
           omega
          have ho := odd_any (r + b * 256 + c * 536870912 + d * 1024) (by omega) (by omega); rw [el, show ((19 : Nat) : Int) = 19 from rfl]; clear el
          by_cases hodd : ones (r + b * 256 + c * 536870912 + d * 1024) 32 % 2 = 1
          · have HP : Hid (Zeu a b c d = r + b * 256 + c * 536870912 + d * 1024) := by
             show Zeu a b c d = _
             unfold Zeu; rw [← hB.out, if_pos hodd]
            rw [decide_eq_true hodd] at ho; clear hodd hB
            go_wp2_with (go_at_call 90; refine (ho _).mono ?_; rintro e w' ⟨rfl, rfl⟩); go_ret; exact ⟨by rw [HP.out]; rfl, HB⟩
          · have HP : Hid (Zeu a b c d = r + b * 256 + c * 536870912 + d * 1024 + 2147483648) := by
             show Zeu a b c d = _
             unfold Zeu; rw [← hB.out, if_neg hodd]
            rw [decide_eq_false hodd] at ho; clear hodd hB
            go_wp2_with (go_at_call 90; refine (ho _).mono ?_; rintro e w' ⟨rfl, rfl⟩); go_ret; exact ⟨by rw [HP.out]; rfl, HB⟩
theorem refword_ok (a c d : Int) (hm : mayRd (a, 3, c, d) = true) (w : World) :
 Calls Tryz.prog 55 #[Vi a, Vi c, Vi d] w fun e w' => e = .returned (.int .u32 (pk1 (a, 3, c, d))) ∧ Below w.heap.size w w' := by
 have hw := fun w => (Int.lt_or_le d 0).elim (fun h => word_below a 3 c d hm h w) (fun h => word_above a 3 c d hm h w); have HE : Hid (Zeu a 3 c d = pk1 (a, 3, c, d)) := Zab rfl; rw [HE.out] at hw; generalize pk1 (a, 3, c, d) = z at *; clear HE hm
 go_enter Tryz.func55, Tryz.ntmps55
 go_wp2_with (go_at_call 72; refine Sb (hw _) fun w1 hb => ?_); go_ret; exact ⟨rfl, hb⟩
theorem OwnL.later {B : Nat} {v : Value} {l : List Rd} {u u' : World} (h : OwnL B v l u) (hb : Below u.heap.size u u') : OwnL B v l u' := by
 refine ⟨⟨h.1.1, ?_⟩, h.2⟩
 rcases h.1.2 with h' | ⟨g, cap, cur, e, h1, h2, h3⟩
 · exact .inl h'
 · exact .inr ⟨g, cap, cur, e, h1, (hb.block g (Array.getElem?_eq_some_iff.1 h2).1).trans h2, h3⟩
theorem encL_set : ∀ (l : List Rd) (n : Nat) (r : Rd), n < l.length → encL (l.set n r) = ((((encL l).set (n * 4) (Vi r.1)).set (n * 4 + 1) (Vi r.2.1)).set (n * 4 + 2) (Vi r.2.2.1)).set (n * 4 + 3) (Vi r.2.2.2)
 | [], n, r, h => by simp at h
 | y :: t, 0, r, _ => by simp [encL, encR]
 | y :: t, n + 1, r, h => by
  have ih := encL_set t n r (by simpa using h)
  show encR y ++ encL (t.set n r) = _
  rw [ih]
  show _ = ((((encR y ++ encL t).set ((n + 1) * 4) _).set ((n + 1) * 4 + 1) _).set ((n + 1) * 4 + 2) _).set ((n + 1) * 4 + 3) _
  have e : (n + 1) * 4 = n * 4 + 1 + 1 + 1 + 1 := by omega
  rw [e]
  rfl
theorem Zda {W : World} {g o : Nat} {cur : Array Value} {t : TypeId} {fr : Nat × Nat} (v : Value) (h : W.heap[g]? = some (.cells cur t fr)) : (W.setCell (Ad g o) v).heap[g]? = some (.cells (cur.setIfInBounds o v) t fr) := by
 obtain ⟨hlt, hk⟩ := Array.getElem?_eq_some_iff.1 h
 show (W.heap.modify g _)[g]? = _
 rw [Array.getElem?_eq_getElem (by rw [Array.size_modify]; exact hlt), Array.getElem_modify_self, hk]
 rfl
theorem OwnL.set {B g cp : Nat} {l : List Rd} {u : World} {n : Nat} {r1 r2 r3 r4 : Int} (h : OwnL B (.slice (some (Ad g 0)) l.length cp) l u) (hn : n < l.length) :
 OwnL B (.slice (some (Ad g 0)) l.length cp) (l.set n (r1, r2, r3, r4)) ((((u.setCell (Ad g (n * 4)) (Vi r1)).setCell (Ad g (n * 4 + 1)) (Vi r2)).setCell (Ad g (n * 4 + 2)) (Vi r3)).setCell (Ad g (n * 4 + 3)) (Vi r4)) := by
 rcases h.1.2 with ⟨h', _⟩ | ⟨g', cap, cur, e, h1, h2, h3, h4, h5, h6⟩
 · simp at h'
 · simp only [Value.slice.injEq, Option.some.injEq, Addr.mk.injEq, and_true, true_and] at e; obtain ⟨rfl, rfl⟩ := e; have hh := Zda (o := n * 4 + 3) (Vi r4) (Zda (o := n * 4 + 2) (Vi r3) (Zda (o := n * 4 + 1) (Vi r2) (Zda (o := n * 4) (Vi r1) h2))); refine ⟨⟨by rw [Zbm, List.length_set], .inr ⟨g, cp, _, by rw [List.length_set], h1, hh, by rw [List.length_set]; exact h3, h4, by simp [h5], ?_⟩⟩, ?_⟩
   · rw [List.length_set, encL_set l n _ hn]; simp only [Array.toList_setIfInBounds]; rw [List.take_set, List.take_set, List.take_set, List.take_set, h6]
   · constructor
     · intro h; simp at h
     · intro h; have := congrArg List.length h; simp at this; subst this; simp at hn
theorem rds_cells {w : World} {g : Nat} {l : List Rd} (h : ∀ k, k < l.length → Q4 w g (k * 4) (rat l k)) {n m : Nat} (hm : n + m ≤ l.length) :
 ∀ j u, (encL ((l.drop n).take m))[j]? = some u → w.cell? ((⟨g, n * 4, none⟩ : Addr).add j) = some u := by
 intro j u hj
 have hlen : ((l.drop n).take m).length = m := by simp; omega
 have hjl : j < m * 4 := by
  have := (List.getElem?_eq_some_iff.1 hj).1; rw [Zbm, hlen] at this; exact this
 rw [encL_get _ _ (by rw [hlen]; exact hjl)] at hj
 have hr : rat ((l.drop n).take m) (j / 4) = rat l (n + j / 4) := by
  have h1 : j / 4 < m := by omega
  rw [rat_eq (by rw [hlen]; exact h1), rat_eq (by omega)]
  simp
 rw [hr] at hj; obtain ⟨c0, c1, c2, c3⟩ := h (n + j / 4) (by omega)
 have ha : (⟨g, n * 4, none⟩ : Addr).add j = ⟨g, (n + j / 4) * 4 + j % 4, none⟩ := by
  rw [Addr.add_lit, show n * 4 + j = (n + j / 4) * 4 + j % 4 by omega]
 rw [ha]
 rcases (show j % 4 = 0 ∨ j % 4 = 1 ∨ j % 4 = 2 ∨ j % 4 = 3 by omega) with e | e | e | e <;> rw [e] at hj ⊢ <;> simp [encR] at hj <;> subst hj <;> assumption
theorem Zib (l : List Rd) : ∀ u ∈ encL l, u.oneCell' = true := by
 intro u hu; obtain ⟨r, _, h⟩ := List.mem_flatMap.1 hu; exact Zdx r u h
theorem nil_own (B : Nat) (w : World) : w.ownsRow B 161 4 (.slice none 0 0) 0 [] := ⟨rfl, .inl ⟨rfl, rfl⟩⟩
theorem Ziy (l : List Rd) (n : Nat) : (l.drop n).take (l.length - n) = l.drop n := by
 rw [List.take_of_length_le]; simp
end Go.Proofs.YtnfdfiholcelaaaGreatDoor
