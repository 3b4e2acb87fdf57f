
import Derived.Test.YtnfdfiholcelaaaGreatDoorJd00
import Derived.Test.YtnfdfiholcelaaaGreatDoorJd01
import Derived.Test.YtnfdfiholcelaaaGreatDoorJd08
import Derived.Test.YtnfdfiholcelaaaGreatDoorJd09
import Derived.Test.YtnfdfiholcelaaaGreatDoorJd10
import Derived.Test.YtnfdfiholcelaaaGreatDoorJd13
set_option maxRecDepth 100000
set_option maxHeartbeats 20000000
namespace Go.Proofs.YtnfdfiholcelaaaGreatDoor
open Go.RowKit Go.Sort Plain
theorem keepG7 {w u u' : World} {L H N P M R x : Int} (hb : Gro u u') (h : (u.cell? (Ad w.heap.size 0) = some (Vi L) ∧ u.cell? (Ad w.heap.size 1) = some (Vi H) ∧ u.cell? (Ad w.heap.size 2) = some (Vi N) ∧ u.cell? (Ad w.heap.size 3) = some (Vi P) ∧ u.cell? (Ad w.heap.size 4) = some (Vi M) ∧ u.cell? (Ad w.heap.size 5) = some (Vi R) ∧ u.cell? (Ad w.heap.size 6) = some (Vi x)) ∧ Gro w u) : (u'.cell? (Ad w.heap.size 0) = some (Vi L) ∧ u'.cell? (Ad w.heap.size 1) = some (Vi H) ∧ u'.cell? (Ad w.heap.size 2) = some (Vi N) ∧ u'.cell? (Ad w.heap.size 3) = some (Vi P) ∧ u'.cell? (Ad w.heap.size 4) = some (Vi M) ∧ u'.cell? (Ad w.heap.size 5) = some (Vi R) ∧ u'.cell? (Ad w.heap.size 6) = some (Vi x)) ∧ Gro w u' :=
 ⟨⟨Zak hb.below h.1.1, Zak hb.below h.1.2.1, Zak hb.below h.1.2.2.1, Zak hb.below h.1.2.2.2.1, Zak hb.below h.1.2.2.2.2.1, Zak hb.below h.1.2.2.2.2.2.1, Zak hb.below h.1.2.2.2.2.2.2⟩, h.2.trans hb⟩
theorem newG7 (w : World) (L H N P M R x : Int) (t : TypeId) : (fun u => (u.cell? (Ad w.heap.size 0) = some (Vi L) ∧ u.cell? (Ad w.heap.size 1) = some (Vi H) ∧ u.cell? (Ad w.heap.size 2) = some (Vi N) ∧ u.cell? (Ad w.heap.size 3) = some (Vi P) ∧ u.cell? (Ad w.heap.size 4) = some (Vi M) ∧ u.cell? (Ad w.heap.size 5) = some (Vi R) ∧ u.cell? (Ad w.heap.size 6) = some (Vi x)) ∧ Gro w u) (w.alloc (.cells #[Vi L, Vi H, Vi N, Vi P, Vi M, Vi R, Vi x] t)) := by
 refine ⟨⟨?_, ?_, ?_, ?_, ?_, ?_, ?_⟩, (Gro.refl w).alloc _⟩ <;> simp [go_sem]
theorem stopsHi_any (L H N P M R x : Int) (g : GR L H N P M R) (x0 : -2000000 ≤ x) (x1 : x ≤ 2000000) (s : Int) (s0 : -4000 ≤ s) (s1 : s ≤ 4000) (w : World) :
 Calls Tryz.prog 244 #[.agg #[Vi L, Vi H, Vi N, Vi P, Vi M, Vi R, Vi x], Vi s] w fun e w' => e = .returned (.bool (decide (bk R (s + P) ≤ H - N - x))) ∧ Gro w w' := by
 obtain ⟨l0, l1, h0, h1, n0, n1, p0, p1, m0, m1, r0, r1⟩ := g; have hbr := fun w => (brake_ex L H N P M R s p0 p1 r0 (by omega) s0 s1 w).mono (fun e w' h => (⟨h.1, by rw [h.2]; exact (Gro.refl _).alloc _⟩ : e = _ ∧ Gro w w')); have hk := bk_lt (R := R) (f := s + P) (by omega) (by omega); have hk0 := Zca R (s + P); generalize bk R (s + P) = k at *; have v1 : IntKind.i64.wrap (x + N) = x + N := Zas (by omega) (by omega); have v2 : IntKind.i64.wrap (x + N + k) = x + N + k := Zas (by omega) (by omega); have HD : Hid (decide (x + N + k ≤ H) = decide (k ≤ H - N - x)) := Zab (decide_eq_decide.mpr (by omega)); have HX := Zab (newG7 w L H N P M R x 337)
 go_enter Tryz.func244, Tryz.ntmps244
 go_upto_region 1 with fail; generalize w.alloc (.cells #[Vi L, Vi H, Vi N, Vi P, Vi M, Vi R, Vi x] 337) = w1 at *; have S0 : (w1.cell? (Ad w.heap.size 0) = some (Vi L) ∧ w1.cell? (Ad w.heap.size 1) = some (Vi H) ∧ w1.cell? (Ad w.heap.size 2) = some (Vi N) ∧ w1.cell? (Ad w.heap.size 3) = some (Vi P) ∧ w1.cell? (Ad w.heap.size 4) = some (Vi M) ∧ w1.cell? (Ad w.heap.size 5) = some (Vi R) ∧ w1.cell? (Ad w.heap.size 6) = some (Vi x)) ∧ Gro w w1 := HX.out; have Z := Zab S0; obtain ⟨⟨q0, q1, q2, q3, q4, q5, q6⟩, _⟩ := HX.out
 go_region_held3 (fun u => (u.cell? (Ad w.heap.size 0) = some (Vi L) ∧ u.cell? (Ad w.heap.size 1) = some (Vi H) ∧ u.cell? (Ad w.heap.size 2) = some (Vi N) ∧ u.cell? (Ad w.heap.size 3) = some (Vi P) ∧ u.cell? (Ad w.heap.size 4) = some (Vi M) ∧ u.cell? (Ad w.heap.size 5) = some (Vi R) ∧ u.cell? (Ad w.heap.size 6) = some (Vi x)) ∧ Gro w u)
  (first
   | (with_reducible assumption)
   | (with_reducible apply keepG7; with_reducible assumption; with_reducible assumption)
   | (refine keepG7 ?_ Z.out; exact (Gro.refl _).drew))
  (first
   | (go_at_call 227; refine Sb (hbr _) fun w' hb => ?_))
 all_goals
  rename_i hH
  have HB := Zab hH.2; clear hH; go_wp2_with fail; go_ret; exact ⟨by rw [← HD.out]; rfl, HB.out⟩
theorem stopsLo_any (L H N P M R x : Int) (g : GR L H N P M R) (x0 : -2000000 ≤ x) (x1 : x ≤ 2000000) (s : Int) (s0 : -4000 ≤ s) (s1 : s ≤ 4000) (w : World) :
 Calls Tryz.prog 243 #[.agg #[Vi L, Vi H, Vi N, Vi P, Vi M, Vi R, Vi x], Vi s] w fun e w' => e = .returned (.bool (decide (bk R (s + P) ≤ x - N - L))) ∧ Gro w w' := by
 obtain ⟨l0, l1, h0, h1, n0, n1, p0, p1, m0, m1, r0, r1⟩ := g; have hbr := fun w => (brake_ex L H N P M R s p0 p1 r0 (by omega) s0 s1 w).mono (fun e w' h => (⟨h.1, by rw [h.2]; exact (Gro.refl _).alloc _⟩ : e = _ ∧ Gro w w')); have hk := bk_lt (R := R) (f := s + P) (by omega) (by omega); have hk0 := Zca R (s + P); generalize bk R (s + P) = k at *; have v1 : IntKind.i64.wrap (x - N) = x - N := Zas (by omega) (by omega); have v2 : IntKind.i64.wrap (x - N - k) = x - N - k := Zas (by omega) (by omega); have HD : Hid (decide (L ≤ x - N - k) = decide (k ≤ x - N - L)) := Zab (decide_eq_decide.mpr (by omega)); have HX := Zab (newG7 w L H N P M R x 337)
 go_enter Tryz.func243, Tryz.ntmps243
 go_upto_region 1 with fail; generalize w.alloc (.cells #[Vi L, Vi H, Vi N, Vi P, Vi M, Vi R, Vi x] 337) = w1 at *; have S0 : (w1.cell? (Ad w.heap.size 0) = some (Vi L) ∧ w1.cell? (Ad w.heap.size 1) = some (Vi H) ∧ w1.cell? (Ad w.heap.size 2) = some (Vi N) ∧ w1.cell? (Ad w.heap.size 3) = some (Vi P) ∧ w1.cell? (Ad w.heap.size 4) = some (Vi M) ∧ w1.cell? (Ad w.heap.size 5) = some (Vi R) ∧ w1.cell? (Ad w.heap.size 6) = some (Vi x)) ∧ Gro w w1 := HX.out; have Z := Zab S0; obtain ⟨⟨q0, q1, q2, q3, q4, q5, q6⟩, _⟩ := HX.out
 go_region_held3 (fun u => (u.cell? (Ad w.heap.size 0) = some (Vi L) ∧ u.cell? (Ad w.heap.size 1) = some (Vi H) ∧ u.cell? (Ad w.heap.size 2) = some (Vi N) ∧ u.cell? (Ad w.heap.size 3) = some (Vi P) ∧ u.cell? (Ad w.heap.size 4) = some (Vi M) ∧ u.cell? (Ad w.heap.size 5) = some (Vi R) ∧ u.cell? (Ad w.heap.size 6) = some (Vi x)) ∧ Gro w u)
  (first
   | (with_reducible assumption)
   | (with_reducible apply keepG7; with_reducible assumption; with_reducible assumption)
   | (refine keepG7 ?_ Z.out; exact (Gro.refl _).drew))
  (first
   | (go_at_call 227; refine Sb (hbr _) fun w' hb => ?_))
 all_goals
  rename_i hH
  have HB := Zab hH.2; clear hH; go_wp2_with fail; go_ret; exact ⟨by rw [← HD.out]; rfl, HB.out⟩
theorem asks_any (g A B C : Nat) (L H N P M R x lo : Int) (i : Nat) (b : Bool) (W : World) (lo0 : -4000 ≤ lo) (lo1 : lo + (i : Int) ≤ 4000)
 (eg : ∀ args w, (callFunc g args).run Tryz.prog w = .ok (.enter g args) w)
 (hg : ∀ w, Calls Tryz.prog g #[.agg #[Vi L, Vi H, Vi N, Vi P, Vi M, Vi R, Vi x], Vi (lo + (i : Int))] w fun e w' => e = .returned (.bool b) ∧ Gro w w')
 (hf : W.cell? (Ad A 0) = some (.func (.func g) #[] #[])) (ha : (W.cell? (Ad B 0) = some (Vi L) ∧ W.cell? (Ad B 1) = some (Vi H) ∧ W.cell? (Ad B 2) = some (Vi N) ∧ W.cell? (Ad B 3) = some (Vi P) ∧ W.cell? (Ad B 4) = some (Vi M) ∧ W.cell? (Ad B 5) = some (Vi R) ∧ W.cell? (Ad B 6) = some (Vi x))) (hl : W.cell? (Ad C 0) = some (Vi lo)) :
 Calls Tryz.prog 264 (#[Vi (i : Int)] ++ #[.pointer (some (Ad A 0)), .pointer (some (Ad B 0)), .pointer (some (Ad C 0))]) W fun e w' => e = .returned (.bool (!b)) ∧ Gro W w' := by
 obtain ⟨a0, a1, a2, a3, a4, a5, a6⟩ := ha
 have hi : (0 : Int) ≤ (i : Int) := by omega
 go_enter Tryz.func264, Tryz.ntmps264
 go_wp2_with (go_at_fn g; refine Sb (hg _) fun w' hb => ?_); go_ret; exact ⟨rfl, hb⟩
theorem run_maxG (ts : Array TypeId) (t : TypeId) (p q : Int) (w : World) : (Builtin.max_ ts t #[Vi p, Vi q]).run Tryz.prog w = .ok (Vi (if p < q then q else p)) w := by
 by_cases h : p < q
 · simp [Builtin.max_, Builtin.max2, h]
 · simp [Builtin.max_, Builtin.max2, h]
theorem run_minG (ts : Array TypeId) (t : TypeId) (p q : Int) (w : World) : (Builtin.min_ ts t #[Vi p, Vi q]).run Tryz.prog w = .ok (Vi (if q < p then q else p)) w := by
 by_cases h : q < p
 · simp [Builtin.min_, Builtin.min2, h]
 · simp [Builtin.min_, Builtin.min2, h]
theorem gnew1 (W : World) (v : Value) (t : TypeId) : (W.alloc (.cells #[v] t)).cell? (Ad W.heap.size 0) = some v := by simp [go_sem]
theorem highest_any (g : Nat) (L H N P M R x lo hi room : Int) (r0 : 1 ≤ R) (s0 : -4000 ≤ lo) (s1 : hi ≤ 4000) (hlh : lo ≤ hi)
 (eg : ∀ args w, (callFunc g args).run Tryz.prog w = .ok (.enter g args) w)
 (hg : ∀ s, -4000 ≤ s → s ≤ 4000 → ∀ w, Calls Tryz.prog g #[.agg #[Vi L, Vi H, Vi N, Vi P, Vi M, Vi R, Vi x], Vi s] w fun e w' => e = .returned (.bool (decide (bk R (s + P) ≤ room))) ∧ Gro w w') (w : World) :
 Calls Tryz.prog 242 #[.agg #[Vi L, Vi H, Vi N, Vi P, Vi M, Vi R, Vi x], Vi lo, Vi hi, .func (.func g) #[] #[]] w fun e w' => (∃ h, e = .returned (Vi h) ∧ IsHi R P lo hi room h) ∧ Below w.heap.size w w' := by
 obtain ⟨n, hn⟩ : ∃ n : Nat, (n : Int) = hi - lo + 1 := ⟨(hi - lo + 1).toNat, by omega⟩; obtain ⟨W0, hW0⟩ : ∃ W0, W0 = ((w.alloc (.cells #[Vi L, Vi H, Vi N, Vi P, Vi M, Vi R, Vi x] 337)).alloc (.cells #[Vi lo] 3)).alloc (.cells #[.func (.func g) #[] #[]] 339) := ⟨_, rfl⟩
 have gro : Gro w W0 := by rw [hW0]; exact (((Gro.refl w).alloc _).alloc _).alloc _
 have sz : W0.heap.size = w.heap.size + 1 + 1 + 1 := by rw [hW0]; simp
 have ca : (W0.cell? (Ad w.heap.size 0) = some (Vi L) ∧ W0.cell? (Ad w.heap.size 1) = some (Vi H) ∧ W0.cell? (Ad w.heap.size 2) = some (Vi N) ∧ W0.cell? (Ad w.heap.size 3) = some (Vi P) ∧ W0.cell? (Ad w.heap.size 4) = some (Vi M) ∧ W0.cell? (Ad w.heap.size 5) = some (Vi R) ∧ W0.cell? (Ad w.heap.size 6) = some (Vi x)) := by
  have := (keepG7 (((Gro.refl _).alloc (.cells #[Vi lo] 3)).alloc (.cells #[.func (.func g) #[] #[]] 339)) (newG7 w L H N P M R x 337)).1; rw [← hW0] at this; exact this
 have cl : W0.cell? (Ad (w.heap.size + 1) 0) = some (Vi lo) := by
  have h := gnew1 (w.alloc (.cells #[Vi L, Vi H, Vi N, Vi P, Vi M, Vi R, Vi x] 337)) (Vi lo) 3; rw [World.size_alloc] at h; rw [hW0]; exact Zak (Zaa _ _) h
 have cf : W0.cell? (Ad (w.heap.size + 1 + 1) 0) = some (.func (.func g) #[] #[]) := by
  have h := gnew1 ((w.alloc (.cells #[Vi L, Vi H, Vi N, Vi P, Vi M, Vi R, Vi x] 337)).alloc (.cells #[Vi lo] 3)) (.func (.func g) #[] #[]) 339; rw [World.size_alloc, World.size_alloc] at h; rw [hW0]; exact h
 have ec : ∀ args w, (callFunc 264 args).run Tryz.prog w = .ok (.enter 264 args) w := enters_of Tryz.func264 (by kernel_rfl) rfl; have hS := search_any 264 #[.pointer (some (Ad (w.heap.size + 1 + 1) 0)), .pointer (some (Ad w.heap.size 0)), .pointer (some (Ad (w.heap.size + 1) 0))] n (fun i => !decide (bk R (lo + (i : Int) + P) ≤ room)) W0 ec (by omega)
  (fun m os i hi => by
   have k : Gro W0 (grow (W0.drewN m) os) := ⟨m, os, rfl⟩
   exact (asks_any g _ _ _ L H N P M R x lo i _ _ s0 (by omega) eg (hg _ (by omega) (by omega)) (Zak k.below cf) (keepG7 (w := w) k ⟨ca, gro⟩).1 (Zak k.below cl)))
  (fun a b hab hb h => by
   have m := Zfd (R := R) (f := lo + (a : Int) + P) (g := lo + (b : Int) + P) (by omega) (by omega)
   simp at h ⊢; omega)
 have H0 : Hid (IsHi R P lo hi room (lo + (if ((List.range n).countP (fun i : Nat => decide (bk R (lo + (i : Int) + P) ≤ room)) : Int) - 1 ≤ 0 then 0 else ((List.range n).countP (fun i : Nat => decide (bk R (lo + (i : Int) + P) ≤ room)) : Int) - 1))) := Zab (isHi_count r0 (by omega) hlh)
 have hc : (List.range n).countP (fun i : Nat => decide (bk R (lo + (i : Int) + P) ≤ room)) ≤ n := by
  have := List.countP_le_length (p := fun i : Nat => decide (bk R (lo + (i : Int) + P) ≤ room)) (l := List.range n)
  simpa using this
 simp only [Bool.not_not] at hS; generalize (List.range n).countP (fun i : Nat => decide (bk R (lo + (i : Int) + P) ≤ room)) = c at *; rw [hn] at hS; have x2 := fun ts t p q w => run_maxG ts t p q w
 have hcz : (0 : Int) ≤ (c : Int) := by omega
 have hcn : (c : Int) ≤ 8001 := by omega
 have HG := Zab gro.below; have CL := Zab cl; clear gro sz ca cl cf ec hg hc eg
 by_cases hc0 : (c : Int) - 1 < 0
 · have H1 : Hid (IsHi R P lo hi room lo) := by
    have := H0.out; rw [if_pos (by omega), Int.add_zero] at this; exact Zab this
   clear H0
   go_enter Tryz.func242, Tryz.ntmps242
   go_wp2_with (go_at_call 246; rw [← hW0]; refine hS.mono ?_; rintro e w' ⟨rfl, q, os, hq⟩; have HW : Hid (Gro W0 w') := Zab ⟨q, os, hq⟩; have q1 : w'.cell? (Ad (w.heap.size + 1) 0) = some (Vi lo) := Zak HW.out.below CL.out; clear hq); go_ret; exact ⟨⟨_, rfl, H1.out⟩, Zac HG.out HW.out.below⟩
 · have H1 : Hid (IsHi R P lo hi room (lo + ((c : Int) - 1))) := by
    have := H0.out
    by_cases e : (c : Int) - 1 ≤ 0
    · rw [if_pos e] at this; rw [show (c : Int) - 1 = 0 by omega]; exact Zab this
    · rw [if_neg e] at this; exact Zab this
   clear H0
   go_enter Tryz.func242, Tryz.ntmps242
   go_wp2_with (go_at_call 246; rw [← hW0]; refine hS.mono ?_; rintro e w' ⟨rfl, q, os, hq⟩; have HW : Hid (Gro W0 w') := Zab ⟨q, os, hq⟩; have q1 : w'.cell? (Ad (w.heap.size + 1) 0) = some (Vi lo) := Zak HW.out.below CL.out; clear hq); go_ret; exact ⟨⟨_, rfl, H1.out⟩, Zac HG.out HW.out.below⟩
def GS (w u : World) (L H N P M R : Int) : Prop := (u.cell? (Ad w.heap.size 0) = some (Vi L) ∧ u.cell? (Ad w.heap.size 1) = some (Vi H) ∧ u.cell? (Ad w.heap.size 2) = some (Vi N) ∧ u.cell? (Ad w.heap.size 3) = some (Vi P) ∧ u.cell? (Ad w.heap.size 4) = some (Vi M) ∧ u.cell? (Ad w.heap.size 5) = some (Vi R)) ∧ (u.cell? (Ad (w.heap.size + 1) 0) = some (Vi 0) ∧ u.cell? (Ad (w.heap.size + 1) 1) = some (Vi 0) ∧ u.frozen? (Ad (w.heap.size + 1) 0) = false ∧ u.frozen? (Ad (w.heap.size + 1) 1) = false) ∧ Below w.heap.size w u
theorem Zei {w w' : World} {B j : Nat} {v : Value} (hb : Below w.heap.size w w') (h : w.cell? (Ad B j) = some v) (k : w.frozen? (Ad B j) = false) : w'.frozen? (Ad B j) = false :=
 (hb.frozen (p := ⟨B, j, none⟩) (World.block_lt_of_cell? w _ h)).trans k
theorem r2_later {w u : World} {B : Nat} (h : (w.cell? (Ad B 0) = some (Vi 0) ∧ w.cell? (Ad B 1) = some (Vi 0) ∧ w.frozen? (Ad B 0) = false ∧ w.frozen? (Ad B 1) = false)) (hb : Below w.heap.size w u) : (u.cell? (Ad B 0) = some (Vi 0) ∧ u.cell? (Ad B 1) = some (Vi 0) ∧ u.frozen? (Ad B 0) = false ∧ u.frozen? (Ad B 1) = false) :=
 ⟨Zak hb h.1, Zak hb h.2.1, Zei hb h.1 h.2.2.1, Zei hb h.2.1 h.2.2.2⟩
theorem GS.later {w u u' : World} {L H N P M R : Int} (h : GS w u L H N P M R) (hb : Below u.heap.size u u') : GS w u' L H N P M R := ⟨B6.later h.1 hb, r2_later h.2.1 hb, Zac h.2.2 hb⟩
theorem keepGS {w u u' : World} {L H N P M R : Int} (hb : Below u.heap.size u u') (h : (u.cell? (Ad w.heap.size 0) = some (Vi L) ∧ u.cell? (Ad w.heap.size 1) = some (Vi H) ∧ u.cell? (Ad w.heap.size 2) = some (Vi N) ∧ u.cell? (Ad w.heap.size 3) = some (Vi P) ∧ u.cell? (Ad w.heap.size 4) = some (Vi M) ∧ u.cell? (Ad w.heap.size 5) = some (Vi R)) ∧ (u.cell? (Ad (w.heap.size + 1) 0) = some (Vi 0) ∧ u.cell? (Ad (w.heap.size + 1) 1) = some (Vi 0) ∧ u.frozen? (Ad (w.heap.size + 1) 0) = false ∧ u.frozen? (Ad (w.heap.size + 1) 1) = false) ∧ Below w.heap.size w u) : (u'.cell? (Ad w.heap.size 0) = some (Vi L) ∧ u'.cell? (Ad w.heap.size 1) = some (Vi H) ∧ u'.cell? (Ad w.heap.size 2) = some (Vi N) ∧ u'.cell? (Ad w.heap.size 3) = some (Vi P) ∧ u'.cell? (Ad w.heap.size 4) = some (Vi M) ∧ u'.cell? (Ad w.heap.size 5) = some (Vi R)) ∧ (u'.cell? (Ad (w.heap.size + 1) 0) = some (Vi 0) ∧ u'.cell? (Ad (w.heap.size + 1) 1) = some (Vi 0) ∧ u'.frozen? (Ad (w.heap.size + 1) 0) = false ∧ u'.frozen? (Ad (w.heap.size + 1) 1) = false) ∧ Below w.heap.size w u' := GS.later h hb
theorem GS.new (w : World) (L H N P M R : Int) : GS w ((w.alloc (.cells #[Vi L, Vi H, Vi N, Vi P, Vi M, Vi R] 99)).alloc (.cells #[Vi 0, Vi 0] 105)) L H N P M R := by
 refine ⟨(B6.new w L H N P M R 99).later (Zaa _ _), ⟨?_, ?_, ?_, ?_⟩, Zac (Zaa _ _) (Zaa _ _)⟩ <;> simp [go_sem]
def B7 (u : World) (Q : Nat) (L H N P M R x : Int) : Prop := (u.cell? (Ad Q 0) = some (Vi L) ∧ u.cell? (Ad Q 1) = some (Vi H) ∧ u.cell? (Ad Q 2) = some (Vi N) ∧ u.cell? (Ad Q 3) = some (Vi P) ∧ u.cell? (Ad Q 4) = some (Vi M) ∧ u.cell? (Ad Q 5) = some (Vi R) ∧ u.cell? (Ad Q 6) = some (Vi x))
theorem B7.later {u u' : World} {Q : Nat} {L H N P M R x : Int} (h : B7 u Q L H N P M R x) (hb : Below u.heap.size u u') : B7 u' Q L H N P M R x :=
 ⟨Zak hb h.1, Zak hb h.2.1, Zak hb h.2.2.1, Zak hb h.2.2.2.1, Zak hb h.2.2.2.2.1, Zak hb h.2.2.2.2.2.1, Zak hb h.2.2.2.2.2.2⟩
theorem keepG8 {w u u' : World} {Q : Nat} {L H N P M R y : Int} (hb : Below u.heap.size u u') (h : (u.cell? (Ad Q 0) = some (Vi L) ∧ u.cell? (Ad Q 1) = some (Vi H) ∧ u.cell? (Ad Q 2) = some (Vi N) ∧ u.cell? (Ad Q 3) = some (Vi P) ∧ u.cell? (Ad Q 4) = some (Vi M) ∧ u.cell? (Ad Q 5) = some (Vi R) ∧ u.cell? (Ad Q 6) = some (Vi y)) ∧ Below w.heap.size w u) : (u'.cell? (Ad Q 0) = some (Vi L) ∧ u'.cell? (Ad Q 1) = some (Vi H) ∧ u'.cell? (Ad Q 2) = some (Vi N) ∧ u'.cell? (Ad Q 3) = some (Vi P) ∧ u'.cell? (Ad Q 4) = some (Vi M) ∧ u'.cell? (Ad Q 5) = some (Vi R) ∧ u'.cell? (Ad Q 6) = some (Vi y)) ∧ Below w.heap.size w u' := ⟨B7.later h.1 hb, Zac h.2 hb⟩
theorem Zcx {w : World} {B Q i j : Nat} {v c : Value} (hQ : B ≠ Q) (h : w.cell? (Ad Q i) = some c) : (w.setCell (Ad B j) v).cell? (Ad Q i) = some c := by
 rw [World.cell?_setCell_other _ _ _ _ (fun e => hQ (congrArg Addr.block e))]; exact h
theorem keepG8s {w u : World} {Q j : Nat} {v : Value} {L H N P M R y : Int} (hQ : w.heap.size + 1 ≠ Q) (h : (u.cell? (Ad Q 0) = some (Vi L) ∧ u.cell? (Ad Q 1) = some (Vi H) ∧ u.cell? (Ad Q 2) = some (Vi N) ∧ u.cell? (Ad Q 3) = some (Vi P) ∧ u.cell? (Ad Q 4) = some (Vi M) ∧ u.cell? (Ad Q 5) = some (Vi R) ∧ u.cell? (Ad Q 6) = some (Vi y)) ∧ Below w.heap.size w u) : ((u.setCell (Ad (w.heap.size + 1) j) v).cell? (Ad Q 0) = some (Vi L) ∧ (u.setCell (Ad (w.heap.size + 1) j) v).cell? (Ad Q 1) = some (Vi H) ∧ (u.setCell (Ad (w.heap.size + 1) j) v).cell? (Ad Q 2) = some (Vi N) ∧ (u.setCell (Ad (w.heap.size + 1) j) v).cell? (Ad Q 3) = some (Vi P) ∧ (u.setCell (Ad (w.heap.size + 1) j) v).cell? (Ad Q 4) = some (Vi M) ∧ (u.setCell (Ad (w.heap.size + 1) j) v).cell? (Ad Q 5) = some (Vi R) ∧ (u.setCell (Ad (w.heap.size + 1) j) v).cell? (Ad Q 6) = some (Vi y)) ∧ Below w.heap.size w (u.setCell (Ad (w.heap.size + 1) j) v) :=
 ⟨⟨Zcx hQ h.1.1, Zcx hQ h.1.2.1, Zcx hQ h.1.2.2.1, Zcx hQ h.1.2.2.2.1, Zcx hQ h.1.2.2.2.2.1, Zcx hQ h.1.2.2.2.2.2.1, Zcx hQ h.1.2.2.2.2.2.2⟩, h.2.setCell (by simp) _⟩
theorem keepG9 {w u u' : World} {Q : Nat} {L H N P M R y : Int} (hb : Below u.heap.size u u') (h : (u.cell? (Ad w.heap.size 0) = some (Vi L) ∧ u.cell? (Ad w.heap.size 1) = some (Vi H) ∧ u.cell? (Ad w.heap.size 2) = some (Vi N) ∧ u.cell? (Ad w.heap.size 3) = some (Vi P) ∧ u.cell? (Ad w.heap.size 4) = some (Vi M) ∧ u.cell? (Ad w.heap.size 5) = some (Vi R)) ∧ (u.cell? (Ad Q 0) = some (Vi L) ∧ u.cell? (Ad Q 1) = some (Vi H) ∧ u.cell? (Ad Q 2) = some (Vi N) ∧ u.cell? (Ad Q 3) = some (Vi P) ∧ u.cell? (Ad Q 4) = some (Vi M) ∧ u.cell? (Ad Q 5) = some (Vi R) ∧ u.cell? (Ad Q 6) = some (Vi y)) ∧ (u.cell? (Ad (w.heap.size + 1) 0) = some (Vi 0) ∧ u.cell? (Ad (w.heap.size + 1) 1) = some (Vi 0) ∧ u.frozen? (Ad (w.heap.size + 1) 0) = false ∧ u.frozen? (Ad (w.heap.size + 1) 1) = false) ∧ Below w.heap.size w u) : (u'.cell? (Ad w.heap.size 0) = some (Vi L) ∧ u'.cell? (Ad w.heap.size 1) = some (Vi H) ∧ u'.cell? (Ad w.heap.size 2) = some (Vi N) ∧ u'.cell? (Ad w.heap.size 3) = some (Vi P) ∧ u'.cell? (Ad w.heap.size 4) = some (Vi M) ∧ u'.cell? (Ad w.heap.size 5) = some (Vi R)) ∧ (u'.cell? (Ad Q 0) = some (Vi L) ∧ u'.cell? (Ad Q 1) = some (Vi H) ∧ u'.cell? (Ad Q 2) = some (Vi N) ∧ u'.cell? (Ad Q 3) = some (Vi P) ∧ u'.cell? (Ad Q 4) = some (Vi M) ∧ u'.cell? (Ad Q 5) = some (Vi R) ∧ u'.cell? (Ad Q 6) = some (Vi y)) ∧ (u'.cell? (Ad (w.heap.size + 1) 0) = some (Vi 0) ∧ u'.cell? (Ad (w.heap.size + 1) 1) = some (Vi 0) ∧ u'.frozen? (Ad (w.heap.size + 1) 0) = false ∧ u'.frozen? (Ad (w.heap.size + 1) 1) = false) ∧ Below w.heap.size w u' := ⟨B6.later h.1 hb, B7.later h.2.1 hb, r2_later h.2.2.1 hb, Zac h.2.2.2 hb⟩
theorem B7.new (w : World) (L H N P M R x : Int) (t : TypeId) : B7 (w.alloc (.cells #[Vi L, Vi H, Vi N, Vi P, Vi M, Vi R, Vi x] t)) w.heap.size L H N P M R x := by
 refine ⟨?_, ?_, ?_, ?_, ?_, ?_, ?_⟩ <;> simp [go_sem]
theorem gmE_ok {L H N P M R q : Int} (he : gmE L H N P M R q = 0) : GOK L H N P M R ∧ -M ≤ q ∧ q ≤ M := by
 have he1 : grE L H N P M R = 0 := by unfold gmE at he; split at he <;> simp_all
 have hs : betw q (-M) M = true := by
  unfold gmE at he; rw [if_pos he1] at he
  by_cases h : betw q (-M) M = true
  · exact h
  · rw [if_neg h] at he; cases he
 exact ⟨grE_ok he1, (Zal hs).1, (Zal hs).2⟩
theorem gBounds_ok (L H N P M R x q : Int) (he : gmE L H N P M R q = 0) (w : World) :
 Calls Tryz.prog 219 #[.agg #[Vi L, Vi H, Vi N, Vi P, Vi M, Vi R], Vi x, Vi q] w fun e w' => (∃ a b, e = .returned (.tuple #[.agg #[Vi (-a), Vi b], .nilIface]) ∧ IsHi R P (-Zdm M R q) (-Zdl M R q) (Zar x (-2000000) 2000000 - N - L) a ∧ IsHi R P (Zdl M R q) (Zdm M R q) (H - N - Zar x (-2000000) 2000000) b) ∧ Below w.heap.size w w' := by
 have hc := checkMove_any L H N P M R q; rw [he, Zaq] at hc; obtain ⟨g, k0, k1⟩ := gmE_ok he; have HX := Zab (GS.new w L H N P M R); have gg := g; obtain ⟨⟨l0, l1, h0, h1, n0, n1, p0, p1, m0, m1, r0, r1⟩, pm, pr, room⟩ := g; have hcl := Zav x (-2000000) 2000000
 have x0 : -2000000 ≤ Zar x (-2000000) 2000000 := by unfold Zar; split <;> (try split) <;> (try split) <;> omega
 have x1 : Zar x (-2000000) 2000000 ≤ 2000000 := by unfold Zar; split <;> (try split) <;> (try split) <;> omega
 have cn := can_le r0 m0 k0 k1; have c0 := canLo_or M R q
 have mx : ∀ ts t w, (Builtin.max_ ts t #[Vi (q - R), Vi (-M)]).run Tryz.prog w = .ok (Vi (Zdl M R q)) w := fun ts t w => by rw [run_maxG]; congr 2; unfold Zdl; split <;> split <;> congr 1 <;> omega
 have mn : ∀ ts t w, (Builtin.min_ ts t #[Vi (q + R), Vi M]).run Tryz.prog w = .ok (Vi (Zdm M R q)) w := fun ts t w => by rw [run_minG]; congr 2; unfold Zdm; split <;> split <;> congr 1 <;> omega
 have v1 : IntKind.i64.wrap (q - R) = q - R := Zas (by omega) (by omega); have v2 : IntKind.i64.wrap (q + R) = q + R := Zas (by omega) (by omega); generalize Zar x (-2000000) 2000000 = y at *; generalize Zdl M R q = lo at *; generalize Zdm M R q = hi at *; obtain ⟨cn0, cn1, cn2, cn3, cn4⟩ := cn; have v3 : IntKind.i64.wrap (-M) = -M := Zas (by omega) (by omega); have v4 : IntKind.i64.wrap (-hi) = -hi := Zas (by omega) (by omega); have v5 : IntKind.i64.wrap (-lo) = -lo := Zas (by omega) (by omega); have hA := highest_any 243 L H N P M R y (-hi) (-lo) (y - N - L) r0 (by omega) (by omega) (by omega) (enters_of Tryz.func243 (by kernel_rfl) rfl) (stopsLo_any L H N P M R y gg.toGR x0 x1); have hB := highest_any 244 L H N P M R y lo hi (H - N - y) r0 (by omega) (by omega) (by omega) (enters_of Tryz.func244 (by kernel_rfl) rfl) (stopsHi_any L H N P M R y gg.toGR x0 x1); clear he room gg c0
 go_enter Tryz.func219, Tryz.ntmps219
 go_upto_region 4 with (go_at_call 241; refine Sb (hc _) fun w1 hb1 => ?_; have HX := Zab (HX.out.later hb1); obtain ⟨⟨q0, q1, q2, q3, q4, q5⟩, ⟨z0, z1, f0, f1⟩, _⟩ := HX.out; clear hb1); have S0 : (w1.cell? (Ad w.heap.size 0) = some (Vi L) ∧ w1.cell? (Ad w.heap.size 1) = some (Vi H) ∧ w1.cell? (Ad w.heap.size 2) = some (Vi N) ∧ w1.cell? (Ad w.heap.size 3) = some (Vi P) ∧ w1.cell? (Ad w.heap.size 4) = some (Vi M) ∧ w1.cell? (Ad w.heap.size 5) = some (Vi R)) ∧ (w1.cell? (Ad (w.heap.size + 1) 0) = some (Vi 0) ∧ w1.cell? (Ad (w.heap.size + 1) 1) = some (Vi 0) ∧ w1.frozen? (Ad (w.heap.size + 1) 0) = false ∧ w1.frozen? (Ad (w.heap.size + 1) 1) = false) ∧ Below w.heap.size w w1 := HX.out; have Z := Zab S0
 go_region_held3 (fun u => (u.cell? (Ad w.heap.size 0) = some (Vi L) ∧ u.cell? (Ad w.heap.size 1) = some (Vi H) ∧ u.cell? (Ad w.heap.size 2) = some (Vi N) ∧ u.cell? (Ad w.heap.size 3) = some (Vi P) ∧ u.cell? (Ad w.heap.size 4) = some (Vi M) ∧ u.cell? (Ad w.heap.size 5) = some (Vi R)) ∧ (u.cell? (Ad (w.heap.size + 1) 0) = some (Vi 0) ∧ u.cell? (Ad (w.heap.size + 1) 1) = some (Vi 0) ∧ u.frozen? (Ad (w.heap.size + 1) 0) = false ∧ u.frozen? (Ad (w.heap.size + 1) 1) = false) ∧ Below w.heap.size w u)
  (first
   | (with_reducible assumption)
   | (with_reducible apply keepGS; with_reducible assumption; with_reducible assumption)
   | (refine keepGS ?_ Z.out; exact (Below.refl _ _).drew)
   | (refine keepGS ?_ Z.out; exact Zaa _ _)
   | (refine keepGS ?_ Z.out; exact (Zaa _ _).drew))
  (first
   | (go_at_call 172; refine (hcl _).mono ?_; rintro e w' ⟨rfl, rfl⟩))
 all_goals
  rename_i hH
  clear hH Z S0 q0 q1 q2 q3 q4 q5 z0 z1 f0 f1; have S1 : (fun Q u => (u.cell? (Ad w.heap.size 0) = some (Vi L) ∧ u.cell? (Ad w.heap.size 1) = some (Vi H) ∧ u.cell? (Ad w.heap.size 2) = some (Vi N) ∧ u.cell? (Ad w.heap.size 3) = some (Vi P) ∧ u.cell? (Ad w.heap.size 4) = some (Vi M) ∧ u.cell? (Ad w.heap.size 5) = some (Vi R)) ∧ (u.cell? (Ad Q 0) = some (Vi L) ∧ u.cell? (Ad Q 1) = some (Vi H) ∧ u.cell? (Ad Q 2) = some (Vi N) ∧ u.cell? (Ad Q 3) = some (Vi P) ∧ u.cell? (Ad Q 4) = some (Vi M) ∧ u.cell? (Ad Q 5) = some (Vi R) ∧ u.cell? (Ad Q 6) = some (Vi y)) ∧ (u.cell? (Ad (w.heap.size + 1) 0) = some (Vi 0) ∧ u.cell? (Ad (w.heap.size + 1) 1) = some (Vi 0) ∧ u.frozen? (Ad (w.heap.size + 1) 0) = false ∧ u.frozen? (Ad (w.heap.size + 1) 1) = false) ∧ Below w.heap.size w u) w1.heap.size (w1.alloc (.cells #[Vi L, Vi H, Vi N, Vi P, Vi M, Vi R, Vi y] 337)).drew :=
   ⟨(HX.out.later (Zaa _ _).drew).1, (B7.new w1 L H N P M R y 337).later (Below.refl _ _).drew, (HX.out.later (Zaa _ _).drew).2.1, (HX.out.later (Zaa _ _).drew).2.2⟩
  generalize (w1.alloc (.cells #[Vi L, Vi H, Vi N, Vi P, Vi M, Vi R, Vi y] 337)).drew = w2 at *
  have hQ : w.heap.size + 1 ≠ w1.heap.size := by have := World.block_lt_of_cell? w1 ⟨w.heap.size + 1, 0, none⟩ HX.out.2.1.1; simp at this; omega
  generalize w1.heap.size = Q at *; have Z := Zab S1; clear HX S1
  go_upto_region 5 with fail; obtain ⟨⟨q0, q1, q2, q3, q4, q5⟩, _⟩ := Z.out; have S0 : (w2.cell? (Ad w.heap.size 0) = some (Vi L) ∧ w2.cell? (Ad w.heap.size 1) = some (Vi H) ∧ w2.cell? (Ad w.heap.size 2) = some (Vi N) ∧ w2.cell? (Ad w.heap.size 3) = some (Vi P) ∧ w2.cell? (Ad w.heap.size 4) = some (Vi M) ∧ w2.cell? (Ad w.heap.size 5) = some (Vi R)) ∧ (w2.cell? (Ad Q 0) = some (Vi L) ∧ w2.cell? (Ad Q 1) = some (Vi H) ∧ w2.cell? (Ad Q 2) = some (Vi N) ∧ w2.cell? (Ad Q 3) = some (Vi P) ∧ w2.cell? (Ad Q 4) = some (Vi M) ∧ w2.cell? (Ad Q 5) = some (Vi R) ∧ w2.cell? (Ad Q 6) = some (Vi y)) ∧ (w2.cell? (Ad (w.heap.size + 1) 0) = some (Vi 0) ∧ w2.cell? (Ad (w.heap.size + 1) 1) = some (Vi 0) ∧ w2.frozen? (Ad (w.heap.size + 1) 0) = false ∧ w2.frozen? (Ad (w.heap.size + 1) 1) = false) ∧ Below w.heap.size w w2 := Z.out
  go_region_held3 (fun u => (u.cell? (Ad w.heap.size 0) = some (Vi L) ∧ u.cell? (Ad w.heap.size 1) = some (Vi H) ∧ u.cell? (Ad w.heap.size 2) = some (Vi N) ∧ u.cell? (Ad w.heap.size 3) = some (Vi P) ∧ u.cell? (Ad w.heap.size 4) = some (Vi M) ∧ u.cell? (Ad w.heap.size 5) = some (Vi R)) ∧ (u.cell? (Ad Q 0) = some (Vi L) ∧ u.cell? (Ad Q 1) = some (Vi H) ∧ u.cell? (Ad Q 2) = some (Vi N) ∧ u.cell? (Ad Q 3) = some (Vi P) ∧ u.cell? (Ad Q 4) = some (Vi M) ∧ u.cell? (Ad Q 5) = some (Vi R) ∧ u.cell? (Ad Q 6) = some (Vi y)) ∧ (u.cell? (Ad (w.heap.size + 1) 0) = some (Vi 0) ∧ u.cell? (Ad (w.heap.size + 1) 1) = some (Vi 0) ∧ u.frozen? (Ad (w.heap.size + 1) 0) = false ∧ u.frozen? (Ad (w.heap.size + 1) 1) = false) ∧ Below w.heap.size w u)
   (first
    | (with_reducible assumption)
    | (with_reducible apply keepG9; with_reducible assumption; with_reducible assumption)
    | (refine keepG9 ?_ Z.out; exact (Below.refl _ _).drew))
   (fail)
  all_goals
   rename_i hH
   clear hH S0 q0 q1 q2 q3 q4 q5; have S1 : (fun u => (u.cell? (Ad w.heap.size 0) = some (Vi L) ∧ u.cell? (Ad w.heap.size 1) = some (Vi H) ∧ u.cell? (Ad w.heap.size 2) = some (Vi N) ∧ u.cell? (Ad w.heap.size 3) = some (Vi P) ∧ u.cell? (Ad w.heap.size 4) = some (Vi M) ∧ u.cell? (Ad w.heap.size 5) = some (Vi R)) ∧ (u.cell? (Ad Q 0) = some (Vi L) ∧ u.cell? (Ad Q 1) = some (Vi H) ∧ u.cell? (Ad Q 2) = some (Vi N) ∧ u.cell? (Ad Q 3) = some (Vi P) ∧ u.cell? (Ad Q 4) = some (Vi M) ∧ u.cell? (Ad Q 5) = some (Vi R) ∧ u.cell? (Ad Q 6) = some (Vi y)) ∧ (u.cell? (Ad (w.heap.size + 1) 0) = some (Vi 0) ∧ u.cell? (Ad (w.heap.size + 1) 1) = some (Vi 0) ∧ u.frozen? (Ad (w.heap.size + 1) 0) = false ∧ u.frozen? (Ad (w.heap.size + 1) 1) = false) ∧ Below w.heap.size w u) w2.drew := keepG9 (Below.refl _ _).drew Z.out; generalize w2.drew = w3 at *; clear Z; have Z := Zab S1; clear S1
   go_upto_region 6 with fail; obtain ⟨_, ⟨q0, q1, q2, q3, q4, q5, q6⟩, ⟨z0, z1, f0, f1⟩, _⟩ := Z.out; have S0 : (w3.cell? (Ad Q 0) = some (Vi L) ∧ w3.cell? (Ad Q 1) = some (Vi H) ∧ w3.cell? (Ad Q 2) = some (Vi N) ∧ w3.cell? (Ad Q 3) = some (Vi P) ∧ w3.cell? (Ad Q 4) = some (Vi M) ∧ w3.cell? (Ad Q 5) = some (Vi R) ∧ w3.cell? (Ad Q 6) = some (Vi y)) ∧ Below w.heap.size w w3 := ⟨Z.out.2.1, Z.out.2.2.2⟩
   go_region_held3 (fun u => (u.cell? (Ad Q 0) = some (Vi L) ∧ u.cell? (Ad Q 1) = some (Vi H) ∧ u.cell? (Ad Q 2) = some (Vi N) ∧ u.cell? (Ad Q 3) = some (Vi P) ∧ u.cell? (Ad Q 4) = some (Vi M) ∧ u.cell? (Ad Q 5) = some (Vi R) ∧ u.cell? (Ad Q 6) = some (Vi y)) ∧ Below w.heap.size w u)
    (first
     | (with_reducible assumption)
     | (with_reducible apply keepG8; with_reducible assumption; with_reducible assumption)
     | (refine keepG8s ?_ (keepG8s ?_ ?_); with_reducible assumption; with_reducible assumption; with_reducible assumption)
     | (refine keepG8 ?_ ⟨Z.out.2.1, Z.out.2.2.2⟩; exact (Below.refl _ _).drew))
    (first
     | ((first | go_at_call_of 242 (Vi (-hi)) | go_at_call_of 242 (Value.int .i64 (-hi))); refine (hA _).mono ?_; rintro e w' ⟨⟨a, rfl, ha⟩, hb⟩; have HHA := Zab ha; have va : IntKind.i64.wrap (-a) = -a := Zas (by have := ha.2.1; omega) (by have := ha.1; omega); have ya0 : w'.cell? (Ad (w.heap.size + 1) 0) = some (Vi 0) := Zak hb (by first | with_reducible assumption | exact z0); have yaf0 : w'.frozen? (Ad (w.heap.size + 1) 0) = false := Zei hb (by first | with_reducible assumption | exact z0) (by first | with_reducible assumption | exact f0); have ya1 : w'.cell? (Ad (w.heap.size + 1) 1) = some (Vi 0) := Zak hb (by first | with_reducible assumption | exact z1); have yaf1 : w'.frozen? (Ad (w.heap.size + 1) 1) = false := Zei hb (by first | with_reducible assumption | exact z1) (by first | with_reducible assumption | exact f1); clear ha)
     | ((first | go_at_call_of 242 (Vi lo) | go_at_call_of 242 (Value.int .i64 lo)); refine (hB _).mono ?_; rintro e w' ⟨⟨b, rfl, hhb⟩, hb⟩; have HHB := Zab hhb; have yb0 : w'.cell? (Ad (w.heap.size + 1) 0) = some (Vi 0) := Zak hb (by first | with_reducible assumption | exact z0); have ybf0 : w'.frozen? (Ad (w.heap.size + 1) 0) = false := Zei hb (by first | with_reducible assumption | exact z0) (by first | with_reducible assumption | exact f0); have yb1 : w'.cell? (Ad (w.heap.size + 1) 1) = some (Vi 0) := Zak hb (by first | with_reducible assumption | exact z1); have ybf1 : w'.frozen? (Ad (w.heap.size + 1) 1) = false := Zei hb (by first | with_reducible assumption | exact z1) (by first | with_reducible assumption | exact f1); clear hhb))
   all_goals
    rename_i hH
    have HB := Zab hH.2; clear hH; go_wp2_with fail; refine bodyPost_ret (v := .tuple #[.agg #[Vi (-a), Vi b], .nilIface]) ?_ rfl ⟨⟨a, b, rfl, HHA.out, HHB.out⟩, HB.out⟩
    simp [results, Tryz.results219, go_sem, yb0, yb1]
end Go.Proofs.YtnfdfiholcelaaaGreatDoor
namespace Go.Proofs.YtnfdfiholcelaaaGreatDoor
open Go.RowKit Plain
theorem bounds_free (L H N P M R k p v n q : Int) (hn : betw n 0 1 = false) (hq : -100000 ≤ q ∧ q ≤ 100000) (hR : -100000 ≤ R ∧ R ≤ 100000) (w : World) :
 Calls Tryz.prog 169 #[.agg #[Vi L, Vi H, Vi N, Vi P, Vi M, Vi R], .agg #[Vi k, Vi p, Vi v, Vi n, Vi q]] w fun e w' => e = .returned (.tuple #[.agg #[Vi (q - R), Vi (q + R)], .nilIface]) ∧ Below w.heap.size w w' := by
 have hg := Zhd n; rw [hn] at hg; obtain ⟨q0, q1⟩ := hq; obtain ⟨r0, r1⟩ := hR
 go_enter Tryz.func169, Tryz.ntmps169
 go_wp2_with (first
  | (go_at_call 216; refine (hg _).mono ?_; rintro e w' ⟨rfl, rfl⟩))
 exact bodyPost_ret (v := .tuple #[.agg #[Vi (q - R), Vi (q + R)], .nilIface]) (by simp [results, Tryz.results169, go_sem]) rfl ⟨rfl, Zac (Zac (Zaa _ _) (Zaa _ _)) (Zaa _ _)⟩
theorem bounds_kept (L H N P M R k p v n q : Int) (hn : betw n 0 1 = true) (he : gmE L H N P M R q = 0) (w : World) :
 Calls Tryz.prog 169 #[.agg #[Vi L, Vi H, Vi N, Vi P, Vi M, Vi R], .agg #[Vi k, Vi p, Vi v, Vi n, Vi q]] w fun e w' => (∃ a b, e = .returned (.tuple #[.agg #[Vi (-a), Vi b], .nilIface]) ∧ IsHi R P (-Zdm M R q) (-Zdl M R q) (Zar p (-2000000) 2000000 - N - L) a ∧ IsHi R P (Zdl M R q) (Zdm M R q) (H - N - Zar p (-2000000) 2000000) b) ∧ Below w.heap.size w w' := by
 have hg := Zhd n; rw [hn] at hg; have hb := gBounds_ok L H N P M R p q he; clear he
 have HY : Hid (Blk 105 (((w.alloc (.cells #[Vi L, Vi H, Vi N, Vi P, Vi M, Vi R] 99)).alloc (.cells #[Vi k, Vi p, Vi v, Vi n, Vi q] 110)).alloc (.cells #[Vi 0, Vi 0] 105)) (w.heap.size + 1 + 1) [Vi 0, Vi 0]) := Zab (by
  have := Blk.new ((w.alloc (.cells #[Vi L, Vi H, Vi N, Vi P, Vi M, Vi R] 99)).alloc (.cells #[Vi k, Vi p, Vi v, Vi n, Vi q] 110)) 105 [Vi 0, Vi 0]; rw [World.size_alloc, World.size_alloc] at this; exact this)
 have HB : Hid (Below w.heap.size w (((w.alloc (.cells #[Vi L, Vi H, Vi N, Vi P, Vi M, Vi R] 99)).alloc (.cells #[Vi k, Vi p, Vi v, Vi n, Vi q] 110)).alloc (.cells #[Vi 0, Vi 0] 105))) := Zab (Zac (Zac (Zaa _ _) (Zaa _ _)) (Zaa _ _))
 go_enter Tryz.func169, Tryz.ntmps169
 go_wp2_with (first
  | (go_at_call 216; refine (hg _).mono ?_; rintro e w' ⟨rfl, rfl⟩)
  | (go_at_call 219; refine (hb _).mono ?_; rintro e w1 ⟨⟨x, y, rfl, hx, hy⟩, hb1⟩; have HYv := Zab (HY.out.later hb1); have HBv := Zab (Zac HB.out hb1); have HX := Zab hx; have HZ := Zab hy; clear hx hy hb1 HY HB; have c0 := (HYv.out.cell (j := 0) rfl).1; have c1 := (HYv.out.cell (j := 1) rfl).1; have f0 := (HYv.out.cell (j := 0) rfl).2; have f1 := (HYv.out.cell (j := 1) rfl).2))
 exact bodyPost_ret (v := .tuple #[.agg #[Vi (-x), Vi y], .nilIface]) (by simp [results, Tryz.results169, go_sem, c0, c1]) rfl ⟨⟨x, y, rfl, HX.out, HZ.out⟩, (HBv.out.setCell (by simp; omega) _).setCell (by simp; omega) _⟩
def stB (L H M A D W : Int) : Bool := betw A L H && betw D (-M) M && betw W 0 3
def asB (M k n q : Int) : Bool := betw k (-100) 100 && betw n 0 3 && betw q (-M) M
theorem stB_true {L H M A D W : Int} (h : stB L H M A D W = true) : (L ≤ A ∧ A ≤ H) ∧ (-M ≤ D ∧ D ≤ M) ∧ 0 ≤ W ∧ W ≤ 3 := by
 simp only [stB, Bool.and_eq_true] at h; exact ⟨Zal h.1.1, Zal h.1.2, Zal h.2⟩
theorem asB_true {M k n q : Int} (h : asB M k n q = true) : (-100 ≤ k ∧ k ≤ 100) ∧ (0 ≤ n ∧ n ≤ 3) ∧ -M ≤ q ∧ q ≤ M := by
 simp only [asB, Bool.and_eq_true] at h; exact ⟨Zal h.1.1, Zal h.1.2, Zal h.2⟩
def hoE (L H U B M : Int) (al zl : List Int) (A D W k n q : Int) : Int := if ruE L H U B M al zl = 0 then (if stB L H M A D W then (if asB M k n q then 0 else 1) else 3) else ruE L H U B M al zl
theorem Zgj {L H U B M : Int} {al zl : List Int} {A D W k n q : Int} (h : hoE L H U B M al zl A D W k n q = 0) : ruE L H U B M al zl = 0 ∧ stB L H M A D W = true ∧ asB M k n q = true := by
 unfold hoE at h
 split at h
 · rename_i h0
   split at h
   · rename_i h1
     split at h
     · rename_i h2; exact ⟨h0, h1, h2⟩
     · cases h
   · cases h
 · rename_i h0; exact absurd h h0
theorem keepHS {w u u' : World} {L H U B M : Int} {a z : Option Addr} {ca cz : Nat} {al zl : List Int} {A D W k p v n q : Int} (hb : Below u.heap.size u u') (h : (u.cell? (Ad w.heap.size 0) = some (Vi L) ∧ u.cell? (Ad w.heap.size 1) = some (Vi H) ∧ u.cell? (Ad w.heap.size 2) = some (Vi U) ∧ u.cell? (Ad w.heap.size 3) = some (Vi B) ∧ u.cell? (Ad w.heap.size 4) = some (Vi M) ∧ u.cell? (Ad w.heap.size 5) = some (.slice a al.length ca) ∧ u.cell? (Ad w.heap.size 6) = some (.slice z zl.length cz)) ∧ (u.cell? (Ad (w.heap.size + 1) 0) = some (Vi A) ∧ u.cell? (Ad (w.heap.size + 1) 1) = some (Vi D) ∧ u.cell? (Ad (w.heap.size + 1) 2) = some (Vi W)) ∧ (u.cell? (Ad (w.heap.size + 1 + 1) 0) = some (Vi k) ∧ u.cell? (Ad (w.heap.size + 1 + 1) 1) = some (Vi p) ∧ u.cell? (Ad (w.heap.size + 1 + 1) 2) = some (Vi v) ∧ u.cell? (Ad (w.heap.size + 1 + 1) 3) = some (Vi n) ∧ u.cell? (Ad (w.heap.size + 1 + 1) 4) = some (Vi q)) ∧ Lst u a al ∧ Lst u z zl ∧ Below w.heap.size w u) : (u'.cell? (Ad w.heap.size 0) = some (Vi L) ∧ u'.cell? (Ad w.heap.size 1) = some (Vi H) ∧ u'.cell? (Ad w.heap.size 2) = some (Vi U) ∧ u'.cell? (Ad w.heap.size 3) = some (Vi B) ∧ u'.cell? (Ad w.heap.size 4) = some (Vi M) ∧ u'.cell? (Ad w.heap.size 5) = some (.slice a al.length ca) ∧ u'.cell? (Ad w.heap.size 6) = some (.slice z zl.length cz)) ∧ (u'.cell? (Ad (w.heap.size + 1) 0) = some (Vi A) ∧ u'.cell? (Ad (w.heap.size + 1) 1) = some (Vi D) ∧ u'.cell? (Ad (w.heap.size + 1) 2) = some (Vi W)) ∧ (u'.cell? (Ad (w.heap.size + 1 + 1) 0) = some (Vi k) ∧ u'.cell? (Ad (w.heap.size + 1 + 1) 1) = some (Vi p) ∧ u'.cell? (Ad (w.heap.size + 1 + 1) 2) = some (Vi v) ∧ u'.cell? (Ad (w.heap.size + 1 + 1) 3) = some (Vi n) ∧ u'.cell? (Ad (w.heap.size + 1 + 1) 4) = some (Vi q)) ∧ Lst u' a al ∧ Lst u' z zl ∧ Below w.heap.size w u' := by
 obtain ⟨⟨h0, h1, h2, h3, h4, h5, h6⟩, ⟨s0, s1, s2⟩, ⟨r0, r1, r2, r3, r4⟩, k1, k2, k3⟩ := h; exact ⟨⟨cell_later hb h0, cell_later hb h1, cell_later hb h2, cell_later hb h3, cell_later hb h4, cell_later hb h5, cell_later hb h6⟩, ⟨cell_later hb s0, cell_later hb s1, cell_later hb s2⟩, ⟨cell_later hb r0, cell_later hb r1, cell_later hb r2, cell_later hb r3, cell_later hb r4⟩, k1.later hb, k2.later hb, Zac k3 hb⟩
theorem newHS (L H U B M : Int) (a z : Option Addr) (ca cz : Nat) (al zl : List Int) (A D W k p v n q : Int) (w : World) (ha : Lst w a al) (hz : Lst w z zl) : (fun u => (u.cell? (Ad w.heap.size 0) = some (Vi L) ∧ u.cell? (Ad w.heap.size 1) = some (Vi H) ∧ u.cell? (Ad w.heap.size 2) = some (Vi U) ∧ u.cell? (Ad w.heap.size 3) = some (Vi B) ∧ u.cell? (Ad w.heap.size 4) = some (Vi M) ∧ u.cell? (Ad w.heap.size 5) = some (.slice a al.length ca) ∧ u.cell? (Ad w.heap.size 6) = some (.slice z zl.length cz)) ∧ (u.cell? (Ad (w.heap.size + 1) 0) = some (Vi A) ∧ u.cell? (Ad (w.heap.size + 1) 1) = some (Vi D) ∧ u.cell? (Ad (w.heap.size + 1) 2) = some (Vi W)) ∧ (u.cell? (Ad (w.heap.size + 1 + 1) 0) = some (Vi k) ∧ u.cell? (Ad (w.heap.size + 1 + 1) 1) = some (Vi p) ∧ u.cell? (Ad (w.heap.size + 1 + 1) 2) = some (Vi v) ∧ u.cell? (Ad (w.heap.size + 1 + 1) 3) = some (Vi n) ∧ u.cell? (Ad (w.heap.size + 1 + 1) 4) = some (Vi q)) ∧ Lst u a al ∧ Lst u z zl ∧ Below w.heap.size w u) (((w.alloc (.cells #[Vi L, Vi H, Vi U, Vi B, Vi M, .slice a al.length ca, .slice z zl.length cz] 107)).alloc (.cells #[Vi A, Vi D, Vi W] 38)).alloc (.cells #[Vi k, Vi p, Vi v, Vi n, Vi q] 110)) := by
 refine ⟨?_, ?_, ?_, ((ha.later (Zaa _ _)).later (Zaa _ _)).later (Zaa _ _), ((hz.later (Zaa _ _)).later (Zaa _ _)).later (Zaa _ _), Zac (Zac (Zaa _ _) (Zaa _ _)) (Zaa _ _)⟩
 · refine ⟨?_, ?_, ?_, ?_, ?_, ?_, ?_⟩ <;> simp [go_sem]
 · refine ⟨?_, ?_, ?_⟩ <;> simp [go_sem]
 · refine ⟨?_, ?_, ?_, ?_, ?_⟩ <;> simp [go_sem]
theorem fixIn_any (x lo hi : Int) (w : World) :
 Calls Tryz.prog 128 #[Vi x, .agg #[Vi lo, Vi hi]] w fun e w' => e = .returned (.bool (betw x lo hi)) ∧ Below w.heap.size w w' :=
 (fixIn_ex x lo hi w).mono fun e w' h => ⟨h.1, by rw [h.2]; exact Zaa _ _⟩
theorem Zfz (L H U B M : Int) (a z : Option Addr) (ca cz : Nat) (al zl : List Int) (A D W k p v n q : Int) (hm : al.length ≤ 9223372036854775807) (hn : zl.length ≤ 9223372036854775807) (hca : al.length ≤ ca) (w : World) (ha : Lst w a al) (hz : Lst w z zl) :
 Calls Tryz.prog 215 #[.agg #[Vi L, Vi H, Vi U, Vi B, Vi M, .slice a al.length ca, .slice z zl.length cz], .agg #[Vi A, Vi D, Vi W], .agg #[Vi k, Vi p, Vi v, Vi n, Vi q]] w fun e w' => e = .returned (errV (hoE L H U B M al zl A D W k n q)) ∧ Below w.heap.size w w' := by
 have hck := fun u (h1 : Lst u a al) (h2 : Lst u z zl) => Zhx L H U B M a z ca cz al zl hm hn hca u h1 h2; have HX := Zab (newHS L H U B M a z ca cz al zl A D W k p v n q w ha hz)
 dsimp only at HX
 clear ha hz
 by_cases h0 : ruE L H U B M al zl = 0
 · obtain ⟨_, _, _, _, m0, m1⟩ := Zeo (Zen h0).1; have HE := Zab (show hoE L H U B M al zl A D W k n q = if stB L H M A D W then (if asB M k n q then 0 else 1) else 3 by unfold hoE; rw [if_pos h0]); simp only [h0, Zaq] at hck; have f1 := fixIn_any A L H; have f2 := Zex D (-M) M; have f3 := Zfu W; have f4 := Zex k (-100) 100; have f5 := Zfu n; have f6 := Zex q (-M) M
   unfold stB asB at HE
   generalize hoE L H U B M al zl A D W k n q = E at *; clear h0; generalize betw A L H = x1 at *; generalize betw D (-M) M = x2 at *; generalize betw W 0 3 = x3 at *; generalize betw k (-100) 100 = y1 at *; generalize betw n 0 3 = y2 at *; generalize betw q (-M) M = y3 at *
   rcases (show (E = 3 ∧ (x1 = false ∨ (x1 = true ∧ x2 = false) ∨ (x1 = true ∧ x2 = true ∧ x3 = false))) ∨ (E = 1 ∧ x1 = true ∧ x2 = true ∧ x3 = true ∧ (y1 = false ∨ (y1 = true ∧ y2 = false) ∨ (y1 = true ∧ y2 = true ∧ y3 = false))) ∨ (E = 0 ∧ x1 = true ∧ x2 = true ∧ x3 = true ∧ y1 = true ∧ y2 = true ∧ y3 = true) by
    have := HE.out; cases x1 <;> cases x2 <;> cases x3 <;> cases y1 <;> cases y2 <;> cases y3 <;> simp_all) with
    ⟨rfl, (rfl | ⟨rfl, rfl⟩ | ⟨rfl, rfl, rfl⟩)⟩ | ⟨rfl, rfl, rfl, rfl, (rfl | ⟨rfl, rfl⟩ | ⟨rfl, rfl, rfl⟩)⟩ | ⟨rfl, rfl, rfl, rfl, rfl, rfl, rfl⟩
   all_goals
    clear HE
    go_enter Tryz.func215, Tryz.ntmps215
    go_wp2_with (first
     | (go_at_call 184; refine Sb (hck _ HX.out.2.2.2.1 HX.out.2.2.2.2.1) fun w1 hb => ?_; have HX := Zab (keepHS hb HX.out); obtain ⟨⟨q0, q1, q2, q3, q4, q5, q6⟩, ⟨s0, s1, s2⟩, ⟨r0, r1, r2, r3, r4⟩, _⟩ := HX.out; clear hb)
     | (go_at_call 128; refine Sb (f1 _) fun w2 hb => ?_; have HX := Zab (keepHS hb HX.out); obtain ⟨⟨q0, q1, q2, q3, q4, q5, q6⟩, ⟨s0, s1, s2⟩, ⟨r0, r1, r2, r3, r4⟩, _⟩ := HX.out; clear hb)
     | ((first | go_at_call_of 76 (Vi D) | go_at_call_of 76 (Value.int .i64 D)); refine Sb (f2 _) fun w3 hb => ?_; have HX := Zab (keepHS hb HX.out); obtain ⟨⟨q0, q1, q2, q3, q4, q5, q6⟩, ⟨s0, s1, s2⟩, ⟨r0, r1, r2, r3, r4⟩, _⟩ := HX.out; clear hb)
     | ((first | go_at_call_of 165 (Vi W) | go_at_call_of 165 (Value.int .i64 W)); refine Sb (f3 _) fun w4 hb => ?_; have HX := Zab (keepHS hb HX.out); obtain ⟨⟨q0, q1, q2, q3, q4, q5, q6⟩, ⟨s0, s1, s2⟩, ⟨r0, r1, r2, r3, r4⟩, _⟩ := HX.out; clear hb)
     | ((first | go_at_call_of 76 (Vi k) | go_at_call_of 76 (Value.int .i64 k)); refine Sb (f4 _) fun w5 hb => ?_; have HX := Zab (keepHS hb HX.out); obtain ⟨⟨q0, q1, q2, q3, q4, q5, q6⟩, ⟨s0, s1, s2⟩, ⟨r0, r1, r2, r3, r4⟩, _⟩ := HX.out; clear hb)
     | ((first | go_at_call_of 165 (Vi n) | go_at_call_of 165 (Value.int .i64 n)); refine Sb (f5 _) fun w6 hb => ?_; have HX := Zab (keepHS hb HX.out); obtain ⟨⟨q0, q1, q2, q3, q4, q5, q6⟩, ⟨s0, s1, s2⟩, ⟨r0, r1, r2, r3, r4⟩, _⟩ := HX.out; clear hb)
     | ((first | go_at_call_of 76 (Vi q) | go_at_call_of 76 (Value.int .i64 q)); refine Sb (f6 _) fun w7 hb => ?_; have HX := Zab (keepHS hb HX.out); obtain ⟨⟨q0, q1, q2, q3, q4, q5, q6⟩, ⟨s0, s1, s2⟩, ⟨r0, r1, r2, r3, r4⟩, _⟩ := HX.out; clear hb))
    go_ret; exact ⟨rfl, HX.out.2.2.2.2.2⟩
 · have HE := Zab (show hoE L H U B M al zl A D W k n q = ruE L H U B M al zl by unfold hoE; rw [if_neg h0]); rw [HE.out]; simp only [Zbe h0] at hck ⊢; clear h0 HE; generalize ruE L H U B M al zl = E at *
   go_enter Tryz.func215, Tryz.ntmps215
   go_wp2_with (first
    | (go_at_call 184; refine Sb (hck _ HX.out.2.2.2.1 HX.out.2.2.2.2.1) fun w1 hb => ?_; have HX := Zab (keepHS hb HX.out); obtain ⟨⟨q0, q1, q2, q3, q4, q5, q6⟩, ⟨s0, s1, s2⟩, ⟨r0, r1, r2, r3, r4⟩, _⟩ := HX.out; clear hb))
   go_ret; exact ⟨rfl, HX.out.2.2.2.2.2⟩
end Go.Proofs.YtnfdfiholcelaaaGreatDoor
