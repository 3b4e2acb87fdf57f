import Derived.RegionTactic
import Derived.ChangeAlike
import Derived.Deep.QuietTactic
import Derived.BigQuiet
import Derived.Deep.RegionHeld3
import Derived.Deep.CutRange
import Derived.Test.YtnfdfiholcelaaaGreatDoorJa00
import Derived.Test.YtnfdfiholcelaaaGreatDoorJa01
set_option maxRecDepth 100000
set_option maxHeartbeats 20000000
namespace Go.Proofs.YtnfdfiholcelaaaGreatDoor
open Go.RowKit Plain
def heB (c s n : Int) : Bool := betw c 0 3 && betw n 1 4 && betw s 0 n
def heE (c s n : Int) : Int := if heB c s n then 0 else 1
theorem heB_true {c s n : Int} (h : heB c s n = true) : (0 ≤ c ∧ c ≤ 3) ∧ (1 ≤ n ∧ n ≤ 4) ∧ 0 ≤ s ∧ s ≤ n := by
 simp only [heB, Bool.and_eq_true] at h; exact ⟨Zat h.1.1, Zat h.1.2, Zat h.2⟩
theorem heE_zero {c s n : Int} (h : heE c s n = 0) : heB c s n = true := by
 unfold heE at h; split at h
 · assumption
 · omega
def lawI (c s n : Int) : Int := if s = 0 then 3 else if c < 2 then 2 else if s + 2 ≤ n then 2 else if s < n then 1 else 0
def mxL (a b : Int) : Int := if a < b then b else a
theorem lwrun_max2 (ts : Array TypeId) (t : TypeId) (p q : Int) (w : World) : (Builtin.max_ ts t #[Vi p, Vi q]).run Tryz.prog w = .ok (Vi (mxL p q)) w := by
 unfold mxL
 by_cases h : p < q
 · rw [if_pos h]; simp [Builtin.max_, Builtin.max2, h]
 · rw [if_neg h]; simp [Builtin.max_, Builtin.max2, h]
theorem lawCheck_any (c s n : Int) (w : World) :
 Calls Tryz.prog 162 #[.agg #[Vi c, Vi s, Vi n]] w fun e w' => e = .returned (errV (heE c s n)) ∧ Below w.heap.size w w' := by
 have f1 := Zba c 0 3; have f2 := Zba n 1 4; have f3 := Zba s 0 n
 unfold heE heB
 generalize betw c 0 3 = x1 at *; generalize betw n 1 4 = x2 at *; generalize betw s 0 n = x3 at *
 rcases (show x1 = false ∨ (x1 = true ∧ x2 = false) ∨ (x1 = true ∧ x2 = true ∧ x3 = false) ∨ (x1 = true ∧ x2 = true ∧ x3 = true) by cases x1 <;> cases x2 <;> cases x3 <;> simp) with rfl | ⟨rfl, rfl⟩ | ⟨rfl, rfl, rfl⟩ | ⟨rfl, rfl, rfl⟩
 all_goals
  go_enter Tryz.func162, Tryz.ntmps162
  go_wp2_with (first | ((first | go_at_call_of 76 (Vi s) | go_at_call_of 76 (Value.int .i64 s)); refine (f3 _).mono ?_; rintro e w' ⟨rfl, rfl⟩) | ((first | go_at_call_of 76 (Vi n) | go_at_call_of 76 (Value.int .i64 n)); refine (f2 _).mono ?_; rintro e w' ⟨rfl, rfl⟩) | ((first | go_at_call_of 76 (Vi c) | go_at_call_of 76 (Value.int .i64 c)); refine (f1 _).mono ?_; rintro e w' ⟨rfl, rfl⟩)); go_ret; exact ⟨rfl, by repeat (first | exact Zaa _ _ | refine Zac ?_ (Zaa _ _))⟩
theorem worse_any (a b : Int) (w : World) :
 Calls Tryz.prog 163 #[Vi a, Vi b] w fun e w' => e = .returned (Vi (mxL a b)) ∧ w' = w := by
 have hx := fun ts t p q w => lwrun_max2 ts t p q w
 go_enter Tryz.func163, Tryz.ntmps163
 go_wp2; go_ret; exact ⟨rfl, rfl⟩
theorem asked_any (c s n : Int) (h : heB c s n = true) (w : World) :
 Calls Tryz.prog 164 #[.agg #[Vi c, Vi s, Vi n]] w fun e w' => e = .returned (Vi (lawI c s n)) ∧ Below w.heap.size w w' := by
 obtain ⟨⟨c0, c1⟩, ⟨n0, n1⟩, s0, s1⟩ := heB_true h
 unfold lawI
 by_cases h1 : s = 0
 · rw [if_pos h1]; subst h1; clear h
   go_enter Tryz.func164, Tryz.ntmps164
   go_wp2; go_ret; exact ⟨rfl, Zaa _ _⟩
 · rw [if_neg h1]
   have h1' : (s == 0) = false := by simpa using h1
   by_cases h2 : c < 2
   · rw [if_pos h2]; clear h
     go_enter Tryz.func164, Tryz.ntmps164
     go_wp2; go_ret; exact ⟨rfl, Zaa _ _⟩
   · rw [if_neg h2]
     by_cases h3 : s + 2 ≤ n
     · rw [if_pos h3]; clear h
       have h4 : 1 < n - s := by omega
       go_enter Tryz.func164, Tryz.ntmps164
       go_wp2; go_ret; exact ⟨rfl, Zaa _ _⟩
     · rw [if_neg h3]
       have h4 : ¬ 1 < n - s := by omega
       by_cases h5 : s < n
       · rw [if_pos h5]; clear h
         have h6 : (n - s == 1) = true := by simp; omega
         go_enter Tryz.func164, Tryz.ntmps164
         go_wp2; go_ret; exact ⟨rfl, Zaa _ _⟩
       · rw [if_neg h5]; clear h
         have h6 : (n - s == 1) = false := by simp; omega
         go_enter Tryz.func164, Tryz.ntmps164
         go_wp2; go_ret; exact ⟨rfl, Zaa _ _⟩
theorem lawOf_any (c s n : Int) (h : heB c s n = true) (w : World) :
 Calls Tryz.prog 53 #[.agg #[Vi c, Vi s, Vi n]] w fun e w' => e = .returned (Vi (lawI c s n)) ∧ Below w.heap.size w w' := by
 obtain ⟨⟨c0, c1⟩, ⟨n0, n1⟩, s0, s1⟩ := heB_true h
 unfold lawI
 by_cases h1 : s = 0
 · rw [if_pos h1]; subst h1; clear h
   go_enter Tryz.func53, Tryz.ntmps53
   go_wp2; go_ret; exact ⟨rfl, Zaa _ _⟩
 · rw [if_neg h1]
   have h1' : (s == 0) = false := by simpa using h1
   by_cases h2 : c < 2
   · rw [if_pos h2]; clear h
     go_enter Tryz.func53, Tryz.ntmps53
     go_wp2; go_ret; exact ⟨rfl, Zaa _ _⟩
   · rw [if_neg h2]
     by_cases h3 : s + 2 ≤ n
     · rw [if_pos h3]; clear h
       go_enter Tryz.func53, Tryz.ntmps53
       go_wp2; go_ret; exact ⟨rfl, Zaa _ _⟩
     · rw [if_neg h3]
       by_cases h5 : s < n
       · rw [if_pos h5]; clear h
         go_enter Tryz.func53, Tryz.ntmps53
         go_wp2; go_ret; exact ⟨rfl, Zaa _ _⟩
       · rw [if_neg h5]; clear h
         go_enter Tryz.func53, Tryz.ntmps53
         go_wp2; go_ret; exact ⟨rfl, Zaa _ _⟩
theorem Zhh (x : Int) (w : World) :
 Calls Tryz.prog 165 #[Vi x] w fun e w' => e = .returned (.bool (betw x 0 3)) ∧ Below w.heap.size w w' := by
 go_enter Tryz.func165, Tryz.ntmps165
 go_wp2_with (go_at_call 76; refine (Zba _ _ _ _).mono ?_; rintro e w' ⟨rfl, rfl⟩); go_ret; exact ⟨rfl, Zaa _ _⟩
def neE (a b : Int) : Int := if betw a 0 3 && betw b 0 3 then 0 else 1
def neI (a b : Int) (g : Bool) : Int := if betw a 0 3 && betw b 0 3 then (if g then b else mxL a b) else 0
theorem next_any (a b : Int) (g : Bool) (w : World) :
 Calls Tryz.prog 111 #[Vi a, Vi b, .bool g] w fun e w' => e = .returned (.tuple #[Vi (neI a b g), errV (neE a b)]) ∧ Below w.heap.size w w' := by
 have f1 := Zhh a; have f2 := Zhh b; have f3 := worse_any a b
 unfold neE neI
 generalize betw a 0 3 = x1 at *; generalize betw b 0 3 = x2 at *; generalize mxL a b = m at *
 cases x1
 · simp only [Bool.false_and, Bool.false_eq_true, if_false]
   go_enter Tryz.func111, Tryz.ntmps111
   go_wp2_with (go_at_call 165; refine Sb (f1 _) fun w1 hb1 => ?_); go_ret2; exact ⟨rfl, hb1⟩
 · cases x2
   · simp only [Bool.and_false, Bool.false_eq_true, if_false]
     go_enter Tryz.func111, Tryz.ntmps111
     go_wp2_with (first | ((first | go_at_call_of 165 (Vi b) | go_at_call_of 165 (Value.int .i64 b)); refine Sb (f2 _) fun w2 hb2 => ?_) | ((first | go_at_call_of 165 (Vi a) | go_at_call_of 165 (Value.int .i64 a)); refine Sb (f1 _) fun w1 hb1 => ?_)); go_ret2; exact ⟨rfl, Zac hb1 hb2⟩
   · simp only [Bool.and_self, if_true]
     cases g
     · simp only [Bool.false_eq_true, if_false]
       go_enter Tryz.func111, Tryz.ntmps111
       go_wp2_with (first | ((first | go_at_call_of 165 (Vi b) | go_at_call_of 165 (Value.int .i64 b)); refine Sb (f2 _) fun w2 hb2 => ?_) | ((first | go_at_call_of 165 (Vi a) | go_at_call_of 165 (Value.int .i64 a)); refine Sb (f1 _) fun w1 hb1 => ?_) | (go_at_call 163; refine (f3 _).mono ?_; rintro e w' ⟨rfl, rfl⟩)); go_ret2; exact ⟨rfl, Zac hb1 hb2⟩
     · simp only [if_true]
       go_enter Tryz.func111, Tryz.ntmps111
       go_wp2_with (first | ((first | go_at_call_of 165 (Vi b) | go_at_call_of 165 (Value.int .i64 b)); refine Sb (f2 _) fun w2 hb2 => ?_) | ((first | go_at_call_of 165 (Vi a) | go_at_call_of 165 (Value.int .i64 a)); refine Sb (f1 _) fun w1 hb1 => ?_)); go_ret2; exact ⟨rfl, Zac hb1 hb2⟩
theorem Ziq (x : Int) (w : World) :
 Calls Tryz.prog 216 #[Vi x] w fun e w' => e = .returned (.bool (betw x 0 1)) ∧ w' = w := by
 by_cases h0 : x = 0
 · subst h0
   go_enter Tryz.func216, Tryz.ntmps216
   go_wp2; go_ret; exact ⟨rfl, rfl⟩
 · have h0' : (x == 0) = false := by simpa using h0
   have e : betw x 0 1 = (x == 1) := by
    unfold betw
    by_cases h1 : x = 1
    · subst h1; rfl
    · have h2 : (x == 1) = false := by simpa using h1
      rw [h2]; simp; omega
   rw [e]
   go_enter Tryz.func216, Tryz.ntmps216
   go_wp2; go_ret; exact ⟨by simp, rfl⟩
theorem Zje (x : Int) (h1 : -4611686018427387904 ≤ x) (h2 : x ≤ 4611686018427387904) (w : World) : Calls Tryz.prog 195 #[Vi x] w fun e w' => e = .returned (Vi (max x (-x))) ∧ w' = w := by
 by_cases h : x < 0
 · have e : max x (-x) = -x := by omega
   rw [e]
   have g : x < -x := by omega
   go_enter Tryz.func195, Tryz.ntmps195
   go_wp2; go_ret; exact ⟨rfl, rfl⟩
 · have e : max x (-x) = x := by omega
   rw [e]
   have g : ¬ x < -x := by omega
   go_enter Tryz.func195, Tryz.ntmps195
   go_wp2; go_ret; exact ⟨rfl, rfl⟩
theorem refAway_pos (n d : Int) (h0 : 0 ≤ n) (h1 : n ≤ 4611686014132420609) (d0 : 0 < d) (d1 : d ≤ 2147483647) (w : World) :
 Calls Tryz.prog 234 #[Vi n, Vi d] w fun e w' => e = .returned (Vi (Zgp n d)) ∧ w' = w := by
 have e : Zgp n d = (2 * n + d) / (2 * d) := by unfold Zgp; rw [if_neg (by omega)]
 rw [e]; clear e
 have hn : ¬ n < 0 := by omega
 go_enter Tryz.func234, Tryz.ntmps234
 go_wp2; go_ret; exact ⟨rfl, rfl⟩
theorem fnearest_any (n d : Int) (h0 : -4611686014132420609 ≤ n) (h1 : n ≤ 4611686014132420609) (d0 : -2147483647 ≤ d) (d1 : d ≤ 2147483647) (hd : d ≠ 0) (w : World) :
 Calls Tryz.prog 138 #[Vi n, Vi d] w fun e w' => e = .returned (Vi (Zfx n d)) ∧ w' = w.drew := by
 have q := tdiv_bd n d 4611686014132420609 h0 h1; have r := tmod_bd n d 2147483647 hd d0 d1; obtain ⟨q0, q1⟩ := q; obtain ⟨r0, r1⟩ := r
 have hd' : (d == 0) = false := by simpa using hd
 by_cases c1 : 2 * max (n.tmod d) (-(n.tmod d)) < max d (-d)
 · have e : Zfx n d = n.tdiv d := by unfold Zfx; rw [if_pos c1]
   rw [e]; clear e
   go_enter Tryz.func138, Tryz.ntmps138
   go_wp2
   go_region
   go_wp2_with (go_at_call 195; refine (Zje _ (by omega) (by omega) _).mono ?_; rintro e w' ⟨rfl, rfl⟩); go_ret; exact ⟨rfl, rfl⟩
 · by_cases c2 : n < 0
   · by_cases c3 : d < 0
     · have e : Zfx n d = n.tdiv d + 1 := by unfold Zfx; rw [if_neg c1, decide_eq_true c2, decide_eq_true c3]; rfl
       rw [e]; clear e
       go_enter Tryz.func138, Tryz.ntmps138
       go_wp2
       go_region
       go_wp2_with (go_at_call 195; refine (Zje _ (by omega) (by omega) _).mono ?_; rintro e w' ⟨rfl, rfl⟩); go_ret; exact ⟨rfl, rfl⟩
     · have e : Zfx n d = n.tdiv d - 1 := by unfold Zfx; rw [if_neg c1, decide_eq_true c2, decide_eq_false c3]; rfl
       rw [e]; clear e; have c3' : decide (d < 0) = false := decide_eq_false c3
       go_enter Tryz.func138, Tryz.ntmps138
       go_wp2
       go_region
       go_wp2_with (go_at_call 195; refine (Zje _ (by omega) (by omega) _).mono ?_; rintro e w' ⟨rfl, rfl⟩); go_ret; exact ⟨rfl, rfl⟩
   · by_cases c3 : d < 0
     · have e : Zfx n d = n.tdiv d - 1 := by unfold Zfx; rw [if_neg c1, decide_eq_false c2, decide_eq_true c3]; rfl
       rw [e]; clear e; have c2' : decide (n < 0) = false := decide_eq_false c2
       have hn : 0 ≤ n := by omega
       rw [Int.tmod_eq_emod_of_nonneg hn] at c1 r0 r1
       go_enter Tryz.func138, Tryz.ntmps138
       go_wp2
       go_region
       go_wp2_with (go_at_call 195; refine (Zje _ (by omega) (by omega) _).mono ?_; rintro e w' ⟨rfl, rfl⟩); go_ret; exact ⟨rfl, rfl⟩
     · have e : Zfx n d = n.tdiv d + 1 := by unfold Zfx; rw [if_neg c1, decide_eq_false c2, decide_eq_false c3]; rfl
       rw [e]; clear e; have c2' : decide (n < 0) = false := decide_eq_false c2; have c3' : decide (d < 0) = false := decide_eq_false c3
       have hn : 0 ≤ n := by omega
       rw [Int.tmod_eq_emod_of_nonneg hn] at c1 r0 r1; rw [Int.tdiv_eq_ediv_of_nonneg hn] at q0 q1 ⊢
       go_enter Tryz.func138, Tryz.ntmps138
       go_wp2
       go_region
       go_wp2_with (go_at_call 195; refine (Zje _ (by omega) (by omega) _).mono ?_; rintro e w' ⟨rfl, rfl⟩); go_ret; exact ⟨rfl, rfl⟩
theorem refAway_any (n d : Int) (h0 : -4611686014132420609 ≤ n) (h1 : n ≤ 4611686014132420609) (d0 : 0 < d) (d1 : d ≤ 2147483647) (w : World) :
 Calls Tryz.prog 234 #[Vi n, Vi d] w fun e w' => e = .returned (Vi (Zgp n d)) ∧ w' = w := by
 by_cases hn : n < 0
 · have bd := awayI_bd (n := -n) (d := d) (B := 4611686014132420609) d0 (by omega) (by omega); obtain ⟨b0, b1⟩ := bd
   have e : Zgp n d = -Zgp (-n) d := by rw [awayI_neg n d d0]; omega
   rw [e]; clear e
   go_enter Tryz.func234, Tryz.ntmps234
   go_wp2_with (go_at_call 234; refine (refAway_pos _ _ (by omega) (by omega) d0 d1 _).mono ?_; rintro e w' ⟨rfl, rfl⟩); go_ret; exact ⟨rfl, rfl⟩
 · exact refAway_pos n d (by omega) h1 d0 d1 w
theorem fixMul_any (a b : Int) (w : World) : Calls Tryz.prog 85 #[Vi a, Vi b] w fun e w' => e = .returned (Vi (mulI a b)) ∧ w' = w.drew := by
 have m := mul_bd (ofI_lo a) (ofI_hi a) (ofI_lo b) (ofI_hi b); obtain ⟨m0, m1⟩ := m; rw [← mul_near]
 go_enter Tryz.func85, Tryz.ntmps85
 go_wp2_with (first
  | (go_at_call 137; refine (fixOf_any _ _).mono ?_; rintro e w' ⟨rfl, rfl⟩)
  | (go_at_call 138; refine (fnearest_any _ _ (by omega) (by omega) (by omega) (by omega) (by omega) _).mono ?_; rintro e w' ⟨rfl, rfl⟩))
 go_ret; exact ⟨rfl, rfl⟩
theorem refMul_any (a b : Int) (w : World) : Calls Tryz.prog 198 #[Vi a, Vi b] w fun e w' => e = .returned (Vi (mulI a b)) ∧ w' = w := by
 have m := mul_bd (ofI_lo a) (ofI_hi a) (ofI_lo b) (ofI_hi b); obtain ⟨m0, m1⟩ := m
 unfold mulI
 go_enter Tryz.func198, Tryz.ntmps198
 go_wp2_with (first
  | (go_at_call 233; refine (refOf_any _ _).mono ?_; rintro e w' ⟨rfl, rfl⟩)
  | (go_at_call 234; refine (refAway_any _ _ (by omega) (by omega) (by omega) (by omega) _).mono ?_; rintro e w' ⟨rfl, rfl⟩))
 go_ret; exact ⟨rfl, rfl⟩
def Lst (w : World) (a : Option Addr) (l : List Int) : Prop := l = [] ∨ ∃ b off, a = some (Ad b off) ∧ ∀ k, k < l.length → w.cell? (Ad b (off + k)) = some (Vi (at0 l k))
theorem Lst.later {w w' : World} {a : Option Addr} {l : List Int} (h : Lst w a l) (hb : Below w.heap.size w w') : Lst w' a l := by
 rcases h with h | ⟨b, off, h, hc⟩
 · exact .inl h
 · exact .inr ⟨b, off, h, fun k hk => cell_later hb (hc k hk)⟩
theorem Lst.at {w : World} {a : Option Addr} {l : List Int} (h : Lst w a l) (hn : l ≠ []) : ∃ b off, a = some (Ad b off) ∧ ∀ k, k < l.length → w.cell? (Ad b (off + k)) = some (Vi (at0 l k)) := by
 rcases h with h | h
 · exact absurd h hn
 · exact h
theorem Zcg {l : List Int} {k : Nat} (h : k < l.length) : l ≠ [] := by intro e; subst e; simp at h
theorem worth_any (a : Option Addr) (cap : Nat) (l : List Int) (w : World) (hm : l.length ≤ 9223372036854775807) (hc : Lst w a l) :
 Calls Tryz.prog 197 #[.slice a l.length cap] w fun r w' => r = .returned (Vi (Zbp l)) ∧ w' = w := by
 have HC : Hid (Lst w a l) := hc; clear hc
 go_enter Tryz.func197, Tryz.ntmps197
 go_wp2
 go_loop [3] (fun i => ∃ k : Nat, k ≤ l.length ∧ i = Vi k ∧ Hid (Zbp l = Zbp (l.drop k))) (fun i => l.length - (intOf i).toNat)
 case atStart => exact ⟨0, Nat.zero_le _, rfl, by show Zbp l = Zbp (l.drop 0); rw [List.drop_zero]⟩
 case round =>
  obtain ⟨k, hk, rfl, hf⟩ := hrel
  by_cases hlt : k < l.length
  · obtain ⟨b, off, rfl, hcs⟩ := HC.out.at (Zcg hlt); have hcell := hcs k hlt; clear hcs; have hs := worth_step l k hlt; generalize at0 l k = z at hcell hs
    by_cases hz : Zbi z = true
    · rw [if_pos hz] at hs; have HS : Hid (Zbp l = Zbp (l.drop (k + 1))) := hf.out.trans hs; clear hs hf
      go_wp2_with (go_at_call 38; refine (Zgl _ _).mono ?_; rintro e w' ⟨rfl, rfl⟩)
      go_round
      case rel => exact ⟨k + 1, by omega, by go_num, HS⟩
      case measure => simp [intOf]; omega
    · rw [if_neg hz] at hs; have HS : Hid (Zbp l = 1) := hf.out.trans hs
      have hz' : Zbi z = false := by simpa using hz
      clear hs hf hz
      go_wp2_with (go_at_call 38; refine (Zgl _ _).mono ?_; rintro e w' ⟨rfl, rfl⟩); go_ret; exact ⟨by rw [HS.out]; rfl, rfl⟩
  · go_wp2; go_ret
    have : k = l.length := by omega
    subst this; exact ⟨by rw [hf.out, List.drop_length]; rfl, rfl⟩
def Zdk (l : List Int) : Nat → Int
 | 0 => -1
 | n + 1 => if Zbi (at0 l (l.length - (n + 1))) then Zdk l n else ((l.length - (n + 1) : Nat) : Int)
theorem beyond_neg (l : List Int) : ∀ n, n ≤ l.length → (0 ≤ Zdk l n ↔ Zbp (l.drop (l.length - n)) = 1)
 | 0, _ => by simp [Zdk, Zbp]
 | n + 1, h => by
  have hs := worth_step l (l.length - (n + 1)) (by omega)
  have e : l.length - (n + 1) + 1 = l.length - n := by omega
  rw [e] at hs; rw [hs]; simp only [Zdk]
  split
  · rw [beyond_neg l n (by omega)]
  · simp
theorem index_any (a : Option Addr) (cap : Nat) (l : List Int) (w : World) (hm : l.length ≤ 9223372036854775807) (hc : Lst w a l) :
 Calls Tryz.prog 283 #[.slice a l.length cap, .func (.func 266) #[] #[]] w fun r w' => r = .returned (Vi (Zdk l l.length)) ∧ w' = w := by
 have HC : Hid (Lst w a l) := hc; clear hc
 go_enter Tryz.func283, Tryz.ntmps283
 go_wp2
 go_loop [8] (fun i => ∃ k : Nat, k ≤ l.length ∧ i = Vi k ∧ Hid (Zdk l l.length = Zdk l (l.length - k))) (fun i => l.length - (intOf i).toNat)
 case atStart => exact ⟨0, Nat.zero_le _, rfl, rfl⟩
 case round =>
  obtain ⟨k, hk, rfl, hf⟩ := hrel
  by_cases hlt : k < l.length
  · obtain ⟨b, off, rfl, hcs⟩ := HC.out.at (Zcg hlt); have hcell := hcs k hlt; clear hcs
    have hs : Zdk l (l.length - k) = if Zbi (at0 l k) then Zdk l (l.length - (k + 1)) else (k : Int) := by
     have e : l.length - k = (l.length - (k + 1)) + 1 := by omega
     have e2 : l.length - (l.length - (k + 1) + 1) = k := by omega
     rw [e]; simp only [Zdk, e2]
    generalize at0 l k = z at hcell hs
    by_cases hz : Zbi z = true
    · rw [if_pos hz] at hs; have HS : Hid (Zdk l l.length = Zdk l (l.length - (k + 1))) := hf.out.trans hs; clear hs hf
      go_wp2_with (go_at_call 266; refine (isBeyond_any _ _).mono ?_; rintro e w' ⟨rfl, rfl⟩)
      go_round
      case rel => exact ⟨k + 1, by omega, by go_num, HS⟩
      case measure => simp [intOf]; omega
    · rw [if_neg hz] at hs; have HS : Hid (Zdk l l.length = k) := hf.out.trans hs
      have hz' : Zbi z = false := by simpa using hz
      clear hs hf hz
      go_wp2_with (go_at_call 266; refine (isBeyond_any _ _).mono ?_; rintro e w' ⟨rfl, rfl⟩); go_ret; exact ⟨by rw [HS.out]; rfl, rfl⟩
  · go_wp2; go_ret
    have : k = l.length := by omega
    subst this; exact ⟨by rw [hf.out, Nat.sub_self]; rfl, rfl⟩
theorem contains_any (a : Option Addr) (cap : Nat) (l : List Int) (w : World) (hm : l.length ≤ 9223372036854775807) (hc : Lst w a l) :
 Calls Tryz.prog 265 #[.slice a l.length cap, .func (.func 266) #[] #[]] w fun r w' => r = .returned (.bool (Zbp l == 1)) ∧ w' = w := by
 have e := beyond_neg l l.length (Nat.le_refl _); rw [Nat.sub_self, List.drop_zero] at e; have hi := index_any a cap l w hm hc; generalize Zdk l l.length = n at e hi
 have e' : (Zbp l == 1) = decide (0 ≤ n) := by
  by_cases h : 0 ≤ n
  · rw [decide_eq_true h]; simpa using e.mp h
  · rw [decide_eq_false h]; simpa using fun q => h (e.mpr q)
 rw [e']; clear e e' hc
 go_enter Tryz.func265, Tryz.ntmps265
 go_wp2_with (go_at_call 283; refine hi.mono ?_; rintro e w' ⟨rfl, rfl⟩); go_ret; exact ⟨rfl, rfl⟩
theorem Zhm (a : Option Addr) (cap : Nat) (l : List Int) (w : World) (hm : l.length ≤ 9223372036854775807) (hc : Lst w a l) :
 Calls Tryz.prog 249 #[.slice a l.length cap] w fun r w' => r = .returned (errV (Zbp l)) ∧ w' = w := by
 have hi := contains_any a cap l w hm hc; clear hc
 rcases Zfm l with h | h
 · rw [h] at hi ⊢
   go_enter Tryz.func249, Tryz.ntmps249
   go_wp2_with (go_at_call 265; refine hi.mono ?_; rintro e w' ⟨rfl, rfl⟩); go_ret; exact ⟨rfl, rfl⟩
 · rw [h] at hi ⊢
   go_enter Tryz.func249, Tryz.ntmps249
   go_wp2_with (go_at_call 265; refine hi.mono ?_; rintro e w' ⟨rfl, rfl⟩); go_ret; exact ⟨rfl, rfl⟩
theorem rising_first (l : List Int) (b : Bool) (hb : b = Zch l (l.length - 1)) : Zar [if decide ((l.length : Int) < 2) = true then 3 else 0, if decide (8 < (l.length : Int)) = true then 2 else 0, Zbp l, if b = true then 3 else 0] = Zbv l := by
 subst hb
 unfold Zbv
 by_cases h1 : l.length < 2
 · rw [if_pos h1, decide_eq_true (show (l.length : Int) < 2 by omega)]; rfl
 · rw [if_neg h1, decide_eq_false (show ¬ (l.length : Int) < 2 by omega)]
   by_cases h2 : 8 < l.length
   · rw [if_pos h2, decide_eq_true (show 8 < (l.length : Int) by omega)]; rfl
   · rw [if_neg h2, decide_eq_false (show ¬ 8 < (l.length : Int) by omega)]
     rcases Zfm l with h | h
     · rw [h, if_pos rfl]; cases Zch l (l.length - 1) <;> rfl
     · rw [h]; rfl
theorem rising_any (a : Option Addr) (cap : Nat) (l : List Int) (w : World) (hm : l.length ≤ 9223372036854775807) (hc : Lst w a l) :
 Calls Tryz.prog 196 #[.slice a l.length cap] w fun r w' => r = .returned (Vi (Zbv l)) ∧ Below w.heap.size w w' := by
 have HC : Hid (Lst w a l) := hc; clear hc
 go_enter Tryz.func196, Tryz.ntmps196
 go_wp2
 go_loopw [3, 4] (fun f i wr => ∃ j : Nat, j ≤ l.length - 1 ∧ i = Vi ((j + 1 : Nat) : Int) ∧ f = .bool (Zch l j) ∧ Below w.heap.size w wr) (fun f i _ => l.length - (intOf i).toNat)
 case atStart => exact ⟨0, Nat.zero_le _, rfl, rfl, Below.refl _ _⟩
 case round =>
  obtain ⟨j, hj, rfl, rfl, hbr⟩ := hrel
  by_cases hlt : j + 1 < l.length
  · obtain ⟨b, off, rfl, hcs⟩ := (HC.out.later hbr).at (Zcg hlt); have hcell1 := hcs (j + 1) hlt; have hcell0 := hcs j (by omega); clear hcs; have hs : Zch l (j + 1) = (Zch l j || decide (at0 l (j + 1) ≤ at0 l j)) := rfl; generalize at0 l j = y at hcell0 hs; generalize at0 l (j + 1) = z at hcell1 hs; generalize Zch l j = f at hs ⊢; have HS : Hid (Zch l (j + 1) = (f || decide (z ≤ y))) := hs; clear hs
    have t1 : (((j + 1 : Nat) : Int) - 1).toNat = j := by omega
    have t0 : (((j + 1 : Nat) : Int)).toNat = j + 1 := by omega
    have b0 : (0 : Int) ≤ ((j + 1 : Nat) : Int) - 1 := by omega
    have b1 : ((j + 1 : Nat) : Int) - 1 < (l.length : Int) := by omega
    have b2 : ((j + 1 : Nat) : Int) < (l.length : Int) := by omega
    have b3 : (0 : Int) ≤ ((j + 1 : Nat) : Int) := by omega
    generalize hi : ((j + 1 : Nat) : Int) = i at *
    cases f
    · go_wp2; go_quiet (fail); go_wp2; go_roundw
      case rel => exact ⟨j + 1, by omega, by subst hi; go_num, by rw [HS.out]; simp, below_drewN hbr _⟩
      case measure => simp [intOf]; omega
    · go_wp2; go_quiet (fail); go_wp2; go_roundw
      case rel => exact ⟨j + 1, by omega, by subst hi; go_num, by rw [HS.out]; simp, below_drewN hbr _⟩
      case measure => simp [intOf]; omega
  · have ej : j = l.length - 1 := by omega
    have hw := worth_any a cap l wr hm (HC.out.later hbr)
    have b2 : ¬ ((j + 1 : Nat) : Int) < (l.length : Int) := by omega
    generalize hi : ((j + 1 : Nat) : Int) = i at *; generalize hf : Zch l j = f; have hfirst := rising_first l f (by rw [← hf, ej])
    go_wp2_with (first
     | (go_at_call 14; refine (when_named _ _ _).mono ?_; rintro e w' ⟨x, rfl, hx, rfl⟩)
     | (go_at_call 197; refine hw.mono ?_; rintro e w' ⟨rfl, rfl⟩)
     | (go_at_call 13; refine (first_new4 _ _ _ _ _ _).mono ?_; rintro e w' ⟨rfl, rfl⟩))
    go_ret
    rename_i x0 h0 x1 h1
    rw [← hfirst]; refine ⟨?_, hbr.alloc hbr.size _⟩; rw [← h0.out, ← h1.out, ← hx.out]; rfl
theorem falls_iff (l : List Int) : ∀ n, Zch l n = false ↔ ∀ k, k < n → at0 l k < at0 l (k + 1)
 | 0 => by simp [Zch]
 | n + 1 => by
  simp only [Zch, Bool.or_eq_false_iff, decide_eq_false_iff_not, falls_iff l n]
  constructor
  · rintro ⟨h, q⟩ k hk
    by_cases e : k = n
    · subst e; omega
    · exact h k (by omega)
  · intro h; exact ⟨fun k hk => h k (by omega), by have := h n (by omega); omega⟩
theorem checkPlaces_any (a : Option Addr) (cap : Nat) (l : List Int) (w : World) (hm : l.length ≤ 9223372036854775807) (hcap : l.length ≤ cap) (hc : Lst w a l) :
 Calls Tryz.prog 248 #[.slice a l.length cap] w fun r w' => r = .returned (errV (Zbv l)) ∧ Below w.heap.size w w' := by
 have hw := Zhm a cap l w hm hc
 by_cases h1 : l.length < 2
 · have e : Zbv l = 3 := by unfold Zbv; rw [if_pos h1]
   rw [e]; clear e
   have h1' : (l.length : Int) < 2 := by omega
   go_enter Tryz.func248, Tryz.ntmps248
   go_wp2_with fail; go_ret; exact ⟨rfl, Below.refl _ _⟩
 by_cases h2 : 8 < l.length
 · have e : Zbv l = 2 := by unfold Zbv; rw [if_neg h1, if_pos h2]
   rw [e]; clear e
   have h1' : ¬ (l.length : Int) < 2 := by omega
   have h2' : 8 < (l.length : Int) := by omega
   go_enter Tryz.func248, Tryz.ntmps248
   go_wp2_with fail; go_ret; exact ⟨rfl, Below.refl _ _⟩
 have h1' : ¬ (l.length : Int) < 2 := by omega
 have h2' : ¬ 8 < (l.length : Int) := by omega
 rcases Zfm l with h3 | h3
 · have e : Zbv l = if Zch l (l.length - 1) then 3 else 0 := by unfold Zbv; rw [if_neg h1, if_neg h2, if_pos h3]
   have HE : Hid (Zbv l = if Zch l (l.length - 1) then 3 else 0) := e; clear e; rw [h3] at hw; obtain ⟨b, off, rfl, hcs⟩ := hc.at (Zcg (k := 0) (by omega)); have HC : Hid (∀ k, k < l.length → w.cell? (Ad b (off + k)) = some (Vi (at0 l k))) := hcs; clear hc hcs h3
   have hw' : ∀ w0, w0 = w → Calls Tryz.prog 249 #[.slice (some (Ad b off)) l.length cap] w0 fun r w' => r = .returned .nilIface ∧ w' = w0 := by rintro w0 rfl; exact hw
   clear hw
   go_enter Tryz.func248, Tryz.ntmps248
   go_wp2_with (go_at_call 249; refine (hw' _ rfl).mono ?_; rintro e w' ⟨rfl, rfl⟩)
   go_loop [22] (fun i => ∃ k : Nat, k + 1 ≤ l.length ∧ i = Vi k ∧ Hid (Zch l k = false)) (fun i => l.length - (intOf i).toNat)
   case atStart => exact ⟨0, by omega, rfl, rfl⟩
   case round =>
    obtain ⟨k, hk, rfl, hf⟩ := hrel
    by_cases hlt : k + 1 < l.length
    · have hcell0 := HC.out k (by omega); have hcell1 := HC.out (k + 1) hlt
      have ea : off + (k + 1) = off + 1 + k := by omega
      rw [ea] at hcell1
      by_cases hz : at0 l (k + 1) ≤ at0 l k
      · have HS : Hid (Zch l (l.length - 1) = true) := by
         show Zch l (l.length - 1) = true
         cases e : Zch l (l.length - 1)
         · have := (falls_iff l _).mp e k (by omega); omega
         · rfl
        clear hf; generalize at0 l (k + 1) = z at *; generalize at0 l k = y at *; go_wp2_with fail; go_ret; exact ⟨by rw [HE.out, HS.out]; rfl, Below.refl _ _⟩
      · have HS : Hid (Zch l (k + 1) = false) := by
         show Zch l (k + 1) = false
         simp only [Zch, Bool.or_eq_false_iff, decide_eq_false_iff_not]; exact ⟨hf.out, hz⟩
        clear hf; generalize at0 l (k + 1) = z at *; generalize at0 l k = y at *; go_wp2_with fail
        go_round
        case rel => exact ⟨k + 1, by omega, by go_num, HS⟩
        case measure => simp [intOf]; omega
    · have HS : Hid (Zch l (l.length - 1) = false) := by
       have : k = l.length - 1 := by omega
       subst this; exact hf
      clear hf; go_wp2_with fail; go_ret; exact ⟨by rw [HE.out, HS.out]; rfl, Below.refl _ _⟩
 · have e : Zbv l = 1 := by unfold Zbv; rw [if_neg h1, if_neg h2, h3]; rfl
   rw [e]; clear e; rw [h3] at hw; have hw' : Calls Tryz.prog 249 #[.slice a l.length cap] w fun r w' => r = .returned (.iface 44 (Vi 1)) ∧ w' = w := hw; clear hw hc h3
   go_enter Tryz.func248, Tryz.ntmps248
   go_wp2_with (go_at_call 249; refine hw'.mono ?_; rintro e w' ⟨rfl, rfl⟩); go_ret; exact ⟨rfl, Below.refl _ _⟩
theorem ends_any (b off cap : Nat) (l : List Int) (w : World) (hm : l.length ≤ 9223372036854775807) (hl : 0 < l.length) (hc : ∀ k, k < l.length → w.cell? (Ad b (off + k)) = some (Vi (at0 l k))) :
 Calls Tryz.prog 288 #[.slice (some (Ad b off)) l.length cap] w fun r w' => r = .returned (.tuple #[Vi (at0 l 0), Vi (at0 l (l.length - 1))]) ∧ ∃ n, w' = w.drewN n := by
 have c0 := hc 0 hl; have c1 := hc (l.length - 1) (by omega); clear hc; rw [Nat.add_zero] at c0; generalize at0 l 0 = y at *; generalize at0 l (l.length - 1) = z at *
 have t1 : ((l.length : Int) - 1).toNat = l.length - 1 := by omega
 go_enter Tryz.func288, Tryz.ntmps288
 go_wp2; go_quiet (fail); go_wp2; go_ret2; exact ⟨rfl, _, rfl⟩
theorem stand_any (b off cap : Nat) (l : List Int) (x : Int) (w : World) (p : Places l) (hc : ∀ k, k < l.length → w.cell? (Ad b (off + k)) = some (Vi (at0 l k))) :
 Calls Tryz.prog 281 #[.slice (some (Ad b off)) l.length cap, Vi x] w fun r w' => ∃ i : Nat, r = .returned (.tuple #[Vi i, Vi (Zdi l x - at0 l i), Vi (at0 l (i + 1) - Zdi l x)]) ∧ Stands l (Zdi l x) i ∧ ∃ n, w' = w.drewN n := by
 have hl2 := p.lo; have hl8 := p.hi; have HP : Hid (Places l) := p; have HC : Hid (∀ k, k < l.length → w.cell? (Ad b (off + k)) = some (Vi (at0 l k))) := hc; have he := ends_any b off cap l w (by omega) (by omega) hc; have hb := clipE_bd p x; have w0 := Zbw p.worth 0 (by omega); have w1 := Zbw p.worth (l.length - 1) (by omega); have hx : Zao x (at0 l 0) (at0 l (l.length - 1)) = Zdi l x := rfl
 have c0 : -1000000 ≤ Zdi l x := by omega
 have c1 : Zdi l x ≤ 1000000 := by omega
 have HB : Hid (at0 l 0 ≤ Zdi l x ∧ Zdi l x ≤ at0 l (l.length - 1)) := hb; have hk : ∀ w, Calls Tryz.prog 172 #[Vi x, Vi (at0 l 0), Vi (at0 l (l.length - 1))] w fun e w' => e = .returned (Vi (Zdi l x)) ∧ w' = w := fun w => Zaz x _ _ w; clear hc hb w0 w1 hx p; generalize Zdi l x = c at *; generalize hy : at0 l 0 = y at he hk; generalize hz : at0 l (l.length - 1) = z at he hk
 go_enter Tryz.func281, Tryz.ntmps281
 go_wp2_with (first
  | (go_at_call 288; refine he.mono ?_; rintro e w' ⟨rfl, n, rfl⟩)
  | (go_at_call 172; refine (hk _).mono ?_; rintro e w' ⟨rfl, rfl⟩))
 clear he hk hy hz
 go_loop [4] (fun i => ∃ k : Nat, k + 1 < l.length ∧ i = Vi k ∧ Hid (at0 l k ≤ c)) (fun i => l.length - (intOf i).toNat)
 case atStart => exact ⟨0, by omega, rfl, HB.out.1⟩
 case round =>
  obtain ⟨k, hk, rfl, hf⟩ := hrel; have hcell1 := HC.out (k + 1) hk; have hcell0 := HC.out k (by omega); have q0 := Zbw HP.out.worth k (by omega); have q1 := Zbw HP.out.worth (k + 1) hk
  have t1 : ((k : Int) + 1).toNat = k + 1 := by omega
  by_cases hlt : k + 2 < l.length
  · by_cases hz : at0 l (k + 1) ≤ c
    · clear hf q0 q1 hcell0; have HS : Hid (at0 l (k + 1) ≤ c) := hz; generalize at0 l (k + 1) = z at hcell1 hz; go_wp2
      go_round
      case rel => exact ⟨k + 1, by omega, by go_num, HS⟩
      case measure => simp [intOf]; omega
    · have HS : Hid (Stands l c k) := ⟨hk, hf.out, by omega, fun _ => by omega⟩; clear hf; generalize hz1 : at0 l (k + 1) = z at *; generalize hz0 : at0 l k = y at *; go_wp2; go_quiet (fail); go_wp2; refine bodyPost_ret (v := .tuple #[Vi k, Vi (c - y), Vi (z - c)]) (by simp [results, Tryz.results281, go_sem]) rfl ⟨k, by rw [hz1, hz0], HS, ?_⟩; exact ⟨_, World.drewN_drewN _ _ _⟩
  · have HS : Hid (Stands l c k) := ⟨hk, hf.out, by have := HB.out.2; rw [show l.length - 1 = k + 1 by omega] at this; exact this, fun h => absurd h hlt⟩
    have hlt' : ¬ (k : Int) + 2 < (l.length : Int) := by omega
    clear hf; generalize hz1 : at0 l (k + 1) = z at *; generalize hz0 : at0 l k = y at *; go_wp2; go_quiet (fail); go_wp2; refine bodyPost_ret (v := .tuple #[Vi k, Vi (c - y), Vi (z - c)]) (by simp [results, Tryz.results281, go_sem]) rfl ⟨k, by rw [hz1, hz0], HS, ?_⟩; exact ⟨_, World.drewN_drewN _ _ _⟩
theorem along_any (ba oa ca bz oz cz : Nat) (a z : List Int) (x : Int) (w : World) (p : Places a) (hz : Zbp z = 0) (hlen : a.length = z.length)
 (ha : ∀ k, k < a.length → w.cell? (Ad ba (oa + k)) = some (Vi (at0 a k))) (hi : ∀ k, k < z.length → w.cell? (Ad bz (oz + k)) = some (Vi (at0 z k))) :
 Calls Tryz.prog 263 #[.agg #[.slice (some (Ad ba oa)) a.length ca, .slice (some (Ad bz oz)) z.length cz], Vi x] w fun r w' => r = .returned (Vi (Zga a z x)) ∧ Below w.heap.size w w' := by
 have hl2 := p.lo; have hl8 := p.hi; have HP : Hid (Places a ∧ Zbp z = 0 ∧ a.length = z.length) := ⟨p, hz, hlen⟩; have hA : ∀ o, Below w.heap.size w (w.alloc o) := fun o => (Below.refl _ _).alloc (Nat.le_refl _) o; have HI : Hid (∀ k, k < z.length → w.cell? (Ad bz (oz + k)) = some (Vi (at0 z k))) := hi; have hs : ∀ o, Calls Tryz.prog 281 #[.slice (some (Ad ba oa)) a.length ca, Vi x] (w.alloc o) _ := fun o => stand_any ba oa ca a x (w.alloc o) p (fun k hk => cell_later (hA o) (ha k hk)); clear ha hi p hz hlen
 go_enter Tryz.func263, Tryz.ntmps263
 go_upto_region 2 with (go_at_call 281; refine (hs _).mono ?_; rintro e w' ⟨i, rfl, st, n, rfl⟩); have i1 := st.lt
 have i2 : i + 1 < z.length := by have := HP.out.2.2; omega
 have HL : Hid (Zga a z x = Zer a z (Zdi a x) i) := Zfz HP.out.1 st; have q0 := Zbw HP.out.1.worth i (by omega); have q1 := Zbw HP.out.1.worth (i + 1) (by omega); have r0 := Zbw HP.out.2.1 i (by omega); have r1 := Zbw HP.out.2.1 (i + 1) (by omega); have u := HP.out.1.up i (by omega); have s0 := st.past; have s1 := st.left; obtain ⟨w1, hw1⟩ : ∃ w1, (w.alloc (.cells #[.slice (some (Ad ba oa)) a.length ca, .slice (some (Ad bz oz)) z.length cz] 24)).drewN n = w1 := ⟨_, rfl⟩
 have b1 : w1.cell? (Ad w.heap.size 1) = some (.slice (some (Ad bz oz)) z.length cz) := by rw [← hw1]; simp [go_sem]
 have hB : Below w.heap.size w w1 := by rw [← hw1]; exact below_drewN (hA _) _
 rw [hw1]; clear hw1; have c0 := cell_later hB (HI.out i (by omega)); have c1 := cell_later hB (HI.out (i + 1) (by omega))
 unfold Zer at HL
 clear st hs; generalize Zdi a x = c at *; generalize at0 a i = a0 at *; generalize at0 a (i + 1) = a1 at *; generalize at0 z i = z0 at *; generalize at0 z (i + 1) = z1 at *
 have t1 : ((i : Int) + 1).toNat = i + 1 := by omega
 obtain ⟨f, hf⟩ : ∃ f, f = a1 - c := ⟨_, rfl⟩; obtain ⟨g, hg⟩ : ∃ g, g = c - a0 := ⟨_, rfl⟩
 have f0 : 0 ≤ f := by omega
 have g0 : 0 ≤ g := by omega
 have fg : 0 < f + g := by omega
 have fg' : f + g ≤ 2000000 := by omega
 have m0 := mul_bdT (a := z0) (b := f) (A := 1000000) (B := 2000000) (by omega) (by omega) (by omega) (by omega); have m1 := mul_bdT (a := z1) (b := g) (A := 1000000) (B := 2000000) (by omega) (by omega) (by omega) (by omega)
 have ew : a1 - a0 = g + f := by omega
 rw [← hf, ← hg, ew] at HL; rw [← hf, ← hg]; clear hf hg ew; have hn : ∀ w, Calls Tryz.prog 282 #[Vi (z0 * f + z1 * g), Vi (g + f)] w _ := fun w => nearest_any (z0 * f + z1 * g) (g + f) (by omega) (by omega) (by omega) (by omega) w; go_quiet ((go_at_call 282; exact Calls.quiet_of (hn _))); go_wp2; go_ret; exact ⟨by rw [HL.out]; rfl, below_drewN hB _⟩
theorem Zdz (w : World) (o : Obj) : Below w.heap.size w (w.alloc o) := (Below.refl _ _).alloc (Nat.le_refl _) o
theorem Zgz {w w1 w2 : World} (h : Below w.heap.size w w1) (k : Below w1.heap.size w1 w2) : Below w.heap.size w w2 := h.trans (k.mono h.size)
theorem tcheck_any (a z : Option Addr) (ca cz : Nat) (al zl : List Int) (w : World) (hm : al.length ≤ 9223372036854775807) (hn : zl.length ≤ 9223372036854775807) (hca : al.length ≤ ca) (ha : Lst w a al) (hz : Lst w z zl) :
 Calls Tryz.prog 229 #[.agg #[.slice a al.length ca, .slice z zl.length cz]] w fun r w' => r = .returned (errV (Zeq al zl)) ∧ Below w.heap.size w w' := by
 have hA := Zdz w (.cells #[.slice a al.length ca, .slice z zl.length cz] 24)
 have b1 : (w.alloc (.cells #[.slice a al.length ca, .slice z zl.length cz] 24)).cell? (Ad w.heap.size 1) = some (.slice z zl.length cz) := by simp [go_sem]
 by_cases h1 : al.length = zl.length
 · have h1' : ((al.length : Int) != (zl.length : Int)) = false := by simp; omega
   have e : Zeq al zl = if Zbv al = 0 then Zbp zl else Zbv al := by unfold Zeq; rw [if_pos h1]
   have cp := checkPlaces_any a ca al (w.alloc (.cells #[.slice a al.length ca, .slice z zl.length cz] 24)) hm hca (ha.later hA); clear h1
   by_cases h2 : Zbv al = 0
   · rw [if_pos h2] at e; have E : Hid (Zeq al zl = Zbp zl) := e; rw [h2] at cp; have B1 : Hid (∀ u, Below (w.alloc (.cells #[.slice a al.length ca, .slice z zl.length cz] 24)).heap.size (w.alloc (.cells #[.slice a al.length ca, .slice z zl.length cz] 24)) u → u.cell? (Ad w.heap.size 1) = some (.slice z zl.length cz) ∧ Below w.heap.size w u) := fun u hb => ⟨cell_later hb b1, Zgz hA hb⟩; have HZ : Hid (Lst w z zl) := hz; clear e h2 ha hz b1; have cp' : Calls Tryz.prog 248 #[.slice a al.length ca] (w.alloc (.cells #[.slice a al.length ca, .slice z zl.length cz] 24)) fun r w' => r = .returned .nilIface ∧ w'.cell? (Ad w.heap.size 1) = some (.slice z zl.length cz) ∧ Below w.heap.size w w' := cp.mono fun _ u ⟨h, hb⟩ => ⟨h, B1.out u hb⟩; clear cp hA B1
     go_enter Tryz.func229, Tryz.ntmps229
     go_wp2_with (first
      | (go_at_call 248; refine cp'.mono ?_; rintro e w1 ⟨rfl, hc1, hb1⟩)
      | (go_at_call 249; refine (Zhm z cz zl _ hn (HZ.out.later hb1)).mono ?_; rintro e w' ⟨rfl, rfl⟩))
     go_ret; exact ⟨by rw [E.out]; rfl, hb1⟩
   · rw [if_neg h2] at e; rw [e]; clear e; rw [Zbf h2] at cp ⊢; clear ha hz b1 h2
     go_enter Tryz.func229, Tryz.ntmps229
     go_wp2_with (go_at_call 248; refine cp.mono ?_; rintro e w1 ⟨rfl, hb⟩); go_ret; exact ⟨rfl, Zgz hA hb⟩
 · have h1' : ((al.length : Int) != (zl.length : Int)) = true := by simp; omega
   have e : Zeq al zl = 3 := by unfold Zeq; rw [if_neg h1]
   rw [e]; clear e h1 ha hz
   go_enter Tryz.func229, Tryz.ntmps229
   go_wp2_with fail; go_ret; exact ⟨rfl, hA⟩
structure Line (w : World) (ba oa bz oz : Nat) (a z : List Int) : Prop where
 may : Zeq a z = 0
 at' : ∀ k, k < a.length → w.cell? (Ad ba (oa + k)) = some (Vi (at0 a k))
 is' : ∀ k, k < z.length → w.cell? (Ad bz (oz + k)) = some (Vi (at0 z k))
theorem Line.later {w w' : World} {ba oa bz oz : Nat} {a z : List Int} (h : Line w ba oa bz oz a z) (hb : Below w.heap.size w w') : Line w' ba oa bz oz a z :=
 ⟨h.may, fun k hk => cell_later hb (h.at' k hk), fun k hk => cell_later hb (h.is' k hk)⟩
theorem Line.lstA {w : World} {ba oa bz oz : Nat} {a z : List Int} (h : Line w ba oa bz oz a z) : Lst w (some (Ad ba oa)) a := .inr ⟨ba, oa, rfl, h.at'⟩
theorem Line.lstZ {w : World} {ba oa bz oz : Nat} {a z : List Int} (h : Line w ba oa bz oz a z) : Lst w (some (Ad bz oz)) z := .inr ⟨bz, oz, rfl, h.is'⟩
theorem Line.len {w : World} {ba oa bz oz : Nat} {a z : List Int} (h : Line w ba oa bz oz a z) : 2 ≤ a.length ∧ a.length ≤ 8 ∧ a.length = z.length := by
 obtain ⟨h1, h2, _⟩ := line_of h.may; exact ⟨h2.lo, h2.hi, h1⟩
theorem check_ok (ba oa ca bz oz cz : Nat) (a z : List Int) (w : World) (hca : a.length ≤ ca) (h : Line w ba oa bz oz a z) :
 Calls Tryz.prog 229 #[.agg #[.slice (some (Ad ba oa)) a.length ca, .slice (some (Ad bz oz)) z.length cz]] w fun r w' => r = .returned .nilIface ∧ Below w.heap.size w w' := by
 have := tcheck_any (some (Ad ba oa)) (some (Ad bz oz)) ca cz a z w (by have := h.len; omega) (by have := h.len; omega) hca h.lstA h.lstZ
 rwa [h.may] at this
theorem along_ok (ba oa ca bz oz cz : Nat) (a z : List Int) (x : Int) (w : World) (h : Line w ba oa bz oz a z) :
 Calls Tryz.prog 263 #[.agg #[.slice (some (Ad ba oa)) a.length ca, .slice (some (Ad bz oz)) z.length cz], Vi x] w fun r w' => r = .returned (Vi (Zga a z x)) ∧ Below w.heap.size w w' := by
 obtain ⟨h1, h2, h3⟩ := line_of h.may; exact along_any ba oa ca bz oz cz a z x w h2 h3 h1 h.at' h.is'
theorem look_ok (ba oa ca bz oz cz : Nat) (a z : List Int) (x : Int) (w : World) (hca : a.length ≤ ca) (h : Line w ba oa bz oz a z) :
 Calls Tryz.prog 240 #[.agg #[.slice (some (Ad ba oa)) a.length ca, .slice (some (Ad bz oz)) z.length cz], Vi x] w fun r w' => r = .returned (.tuple #[Vi (Zga a z x), .nilIface]) ∧ Below w.heap.size w w' := by
 have hA := Zdz w (.cells #[.slice (some (Ad ba oa)) a.length ca, .slice (some (Ad bz oz)) z.length cz] 24); have ck := check_ok ba oa ca bz oz cz a z _ hca (h.later hA); have ck' : Calls Tryz.prog 229 #[.agg #[.slice (some (Ad ba oa)) a.length ca, .slice (some (Ad bz oz)) z.length cz]] (w.alloc (.cells #[.slice (some (Ad ba oa)) a.length ca, .slice (some (Ad bz oz)) z.length cz] 24))
  fun r w' => r = .returned .nilIface ∧ w'.cell? (Ad w.heap.size 0) = some (.slice (some (Ad ba oa)) a.length ca) ∧ w'.cell? (Ad w.heap.size 1) = some (.slice (some (Ad bz oz)) z.length cz) ∧ Below w.heap.size w w' :=
  ck.mono fun _ u ⟨h1, hb⟩ => ⟨h1, cell_later hb (by simp [go_sem]), cell_later hb (by simp [go_sem]), Zgz hA hb⟩
 have H : Hid (Line w ba oa bz oz a z) := h; clear h ck hA
 go_enter Tryz.func240, Tryz.ntmps240
 go_wp2_with (first
  | (go_at_call 229; refine ck'.mono ?_; rintro e w1 ⟨rfl, hc0, hc1, hb1⟩)
  | (go_at_call 263; refine Sb (along_ok ba oa ca bz oz cz a z x _ (H.out.later hb1)) fun w2 hb2 => ?_))
 go_ret2; exact ⟨rfl, Zgz hb1 hb2⟩
end Go.Proofs.YtnfdfiholcelaaaGreatDoor
