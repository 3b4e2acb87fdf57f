/-
  The iterator of the numbers at which a line may turn: what it hands out, for every loop body that keeps what it reads.
-/
import Derived.Test.YtngedehfaidphaaLineI
import Derived.RangeFuncNested
import Derived.RangeFuncBound
import Derived.RangeFuncCalls
import Derived.RangeFuncLeaves
import Derived.Shelf.Abstract
import Derived.Shelf.RegionOpen
import Derived.WalkKit
import Derived.OwnWalkIn
import Derived.TacticsInMore
import Derived.LoopNIn
import Derived.LoopIn
namespace Go.Proofs.Ytngedehfaidphaa
open Go.RowKit Go.Shelf Plain
attribute [local go_sem] Oper.semAt_some

theorem in_ex (x lo hi : Int) (w : World) :
    Calls Try.prog 23 #[.int .i64 x, .agg #[.int .i64 lo, .int .i64 hi]] w fun e w' => e = .returned (.bool (decide (lo ≤ x) && decide (x ≤ hi))) ∧ w' = w.alloc (.cells #[.int .i64 lo, .int .i64 hi] 37) := by
  by_cases g1 : lo ≤ x
  · by_cases g2 : x ≤ hi
    · rw [decide_eq_true g1, decide_eq_true g2]
      go_enter Try.func23, Try.ntmps23
      go_wp2
      go_ret
      exact ⟨rfl, rfl⟩
    · rw [decide_eq_true g1, decide_eq_false g2]
      go_enter Try.func23, Try.ntmps23
      go_wp2
      go_ret
      exact ⟨by simp, rfl⟩
  · rw [decide_eq_false g1]
    go_enter Try.func23, Try.ntmps23
    go_wp2
    go_ret
    exact ⟨rfl, rfl⟩

/-- The places of the first k that lie in a span. -/
def turnsL (al : List Int) (lo hi : Int) : Nat → List Int
  | 0 => []
  | k + 1 => if decide (lo ≤ at0 al k) && decide (at0 al k ≤ hi) then turnsL al lo hi k ++ [at0 al k] else turnsL al lo hi k
theorem turnsL_len (al : List Int) (lo hi : Int) : ∀ k, (turnsL al lo hi k).length ≤ k
  | 0 => Nat.le_refl _
  | k + 1 => by
    have := turnsL_len al lo hi k
    simp only [turnsL]; split
    · simp; omega
    · omega

/-- Whatever lies below M, block O aside, lies as it lay. -/
structure KpO (O M : Nat) (W W' : World) : Prop where
  size : W.heap.size ≤ W'.heap.size
  block : ∀ k, k < M → k ≠ O → k < W.heap.size → W'.heap[k]? = W.heap[k]?
theorem KpO.refl (O M : Nat) (W : World) : KpO O M W W := ⟨Nat.le_refl _, fun _ _ _ _ => rfl⟩
theorem KpO.trans {O M : Nat} {A B C : World} (h : KpO O M A B) (k : KpO O M B C) : KpO O M A C := ⟨Nat.le_trans h.size k.size, fun i hi ho hs => (k.block i hi ho (Nat.lt_of_lt_of_le hs h.size)).trans (h.block i hi ho hs)⟩
theorem KpO.cell {O M : Nat} {W W' : World} (h : KpO O M W W') {p : Addr} (hp : p.block < M) (ho : p.block ≠ O) {v : Value} (hv : W.cell? p = some v) : W'.cell? p = some v :=
  (World.cell?_of_block (w := W) (h.block p.block hp ho (World.block_lt_of_cell? W p hv))).trans hv
theorem KpO.of_below {O M : Nat} {W W' : World} (h : Below W.heap.size W W') : KpO O M W W' := ⟨h.size, fun k _ _ hs => h.block k hs⟩
theorem KpO.set {O M o : Nat} {A W : World} (h : KpO O M A W) (v : Value) : KpO O M A (W.setCell ⟨O, o, none⟩ v) := ⟨by simpa using h.size, fun k hk ho hs => (Below.heap_setCell W ⟨O, o, none⟩ v k ho).trans (h.block k hk ho hs)⟩

set_option maxRecDepth 100000 in
set_option maxHeartbeats 2000000 in
theorem turns1_in (n : Nat) (hn : 3 ≤ n) (l Bl Bs O M ba oa ca : Nat) (al : List Int) (lo hi : Int) (hl : al.length ≤ 8) (h3 : Bs < M) (h4 : Bs ≠ O) (h5 : ba < M) (h6 : ba ≠ O)
    (J Jx : List Int → World → Prop) (W : World) (hJ : AbidesFrom W.heap.size J)
    (hY : ∀ pre x W1, J pre W1 → pre.length < 8 → YieldAt Fence.wide (n - 1) Try.prog l #[.int .i64 x] W1 fun e W' =>
      (e = .returned (.bool true) ∧ J (pre ++ [x]) W' ∧ KpO O M W1 W') ∨ (e = .returned (.bool false) ∧ Jx (pre ++ [x]) W'))
    (b0 : W.cell? ⟨Bl, 0, none⟩ = some (.slice (some ⟨ba, oa, none⟩) al.length ca)) (s0 : W.cell? ⟨Bs, 0, none⟩ = some (.int .i64 lo)) (s1 : W.cell? ⟨Bs, 1, none⟩ = some (.int .i64 hi))
    (hc : ∀ j, j < al.length → W.cell? ⟨ba, oa + j, none⟩ = some (.int .i64 (at0 al j))) (hJ0 : J [] W) :
    CallsIn Fence.wide n Try.prog 45 #[.func (.yield l) #[] #[], .pointer (some ⟨Bl, 0, none⟩), .pointer (some ⟨Bs, 0, none⟩)] W fun e W' => (∃ v, e = .returned v) ∧
      ((∃ ys, ys = turnsL al lo hi al.length ∧ J ys W') ∨ (∃ pre : List Int, True ∧ Jx pre W')) := by
  have HC : Hid (∀ j, j < al.length → W.cell? ⟨ba, oa + j, none⟩ = some (.int .i64 (at0 al j))) := hc
  clear hc
  refine callsIn_of_wp Try.func45 rfl trivial ?_ rfl
  simp only [Try.ntmps45, List.size_toArray, List.length_cons, List.length_nil, Nat.reduceAdd, Nat.reduceSub, Array.replicate_succ, Array.replicate_zero, List.push_toArray, List.append_toArray, List.nil_append, List.cons_append]
  gi_wp2
  gi_loopw [9] (fun i wr => ∃ k : Nat, k ≤ al.length ∧ i = .int .i64 k ∧ J (turnsL al lo hi k) wr ∧ KpO O M W wr) (fun i _ => al.length - (intOf i).toNat)
  case atStart => exact ⟨0, Nat.zero_le _, rfl, hJ0, KpO.refl _ _ _⟩
  case round =>
    obtain ⟨k, hk, rfl, hJs, hkp⟩ := hrel
    by_cases hlt : k < al.length
    · have hcx := hkp.cell (p := ⟨ba, oa + k, none⟩) h5 h6 (HC.out k hlt)
      have q0 := hkp.cell (p := ⟨Bs, 0, none⟩) h3 h4 s0
      have q1 := hkp.cell (p := ⟨Bs, 1, none⟩) h3 h4 s1
      have hlen := turnsL_len al lo hi k
      have hs : turnsL al lo hi (k + 1) = if decide (lo ≤ at0 al k) && decide (at0 al k ≤ hi) then turnsL al lo hi k ++ [at0 al k] else turnsL al lo hi k := rfl
      have hal : KpO O M wr (wr.alloc (.cells #[.int .i64 lo, .int .i64 hi] 37)) := KpO.of_below (below_alloc _ _)
      have hJa : J (turnsL al lo hi k) (wr.alloc (.cells #[.int .i64 lo, .int .i64 hi] 37)) := hJ _ _ _ none hJs (World.grownBy_alloc wr _ none) (fun r e => by cases e)
      generalize at0 al k = z at *
      have hin := in_ex z lo hi wr
      cases hb : (decide (lo ≤ z) && decide (z ≤ hi))
      · rw [hb] at hin hs
        simp only [Bool.false_eq_true, if_false] at hs
        have HS : Hid (turnsL al lo hi (k + 1) = turnsL al lo hi k) := hs
        clear hs hb
        gi_wp2
        refine ⟨trivial, fun _ => by omega, (callsIn_wide.2 hin).mono ?_⟩
        rintro e w' ⟨rfl, rfl⟩
        gi_wp2
        refine ⟨fun _ h => (by cases h), ?_⟩
        gi_wp2
        go_roundw
        case rel => exact ⟨k + 1, by omega, by go_num, by rw [HS.out]; exact hJa, hkp.trans hal⟩
        case measure => simp [intOf]; omega
      · rw [hb] at hin hs
        simp only [if_true] at hs
        have HS : Hid (turnsL al lo hi (k + 1) = turnsL al lo hi k ++ [z]) := hs
        clear hs hb
        obtain ⟨fn, tmps, assign, body, hy, hR⟩ := hY _ z _ hJa (by omega)
        gi_wp2
        refine ⟨trivial, fun _ => by omega, (callsIn_wide.2 hin).mono ?_⟩
        rintro e w' ⟨rfl, rfl⟩
        gi_wp2
        refine ⟨fun _ => by omega, hR.mono ?_⟩
        rintro e W3 (⟨rfl, hJ3, hk3⟩ | ⟨rfl, hJx3⟩)
        · gi_wp2
          go_roundw
          case rel => exact ⟨k + 1, by omega, by go_num, by rw [HS.out]; exact hJ3, (hkp.trans hal).trans hk3⟩
          case measure => simp [intOf]; omega
        · gi_wp2
          refine bodyPost_ret (results_none rfl _ _ _) rfl ?_
          exact ⟨⟨_, rfl⟩, .inr ⟨_, trivial, hJx3⟩⟩
    · obtain rfl : k = al.length := by omega
      gi_wp2
      go_end0
      exact ⟨⟨_, rfl⟩, .inl ⟨_, rfl, hJs⟩⟩

theorem turns_stops (n : Nat) (hn : 3 ≤ n) (Bl Bs O M ba oa ca : Nat) (al : List Int) (lo hi : Int) (hl : al.length ≤ 8) (h3 : Bs < M) (h4 : Bs ≠ O) (h5 : ba < M) (h6 : ba ≠ O) (w : World)
    (b0 : w.cell? ⟨Bl, 0, none⟩ = some (.slice (some ⟨ba, oa, none⟩) al.length ca)) (s0 : w.cell? ⟨Bs, 0, none⟩ = some (.int .i64 lo)) (s1 : w.cell? ⟨Bs, 1, none⟩ = some (.int .i64 hi))
    (hc : ∀ j, j < al.length → w.cell? ⟨ba, oa + j, none⟩ = some (.int .i64 (at0 al j))) :
    SeqStopsK Fence.wide n Try.prog 45 #[.pointer (some ⟨Bl, 0, none⟩), .pointer (some ⟨Bs, 0, none⟩)] (fun x : Int => #[Value.int .i64 x]) (KpO O M) (fun ys => ys = turnsL al lo hi al.length) (fun _ => True) 8 w := fun l J Jx W hW hJ _ hY h0 =>
  turns1_in n hn l Bl Bs O M ba oa ca al lo hi hl h3 h4 h5 h6 J Jx W hJ hY (cell_later hW b0) (cell_later hW s0) (cell_later hW s1) (fun j hj => cell_later hW (hc j hj)) h0

theorem turns_any (a z : Option Addr) (la ca lz cz : Nat) (lo hi : Int) (w : World) :
    Calls Try.prog 35 #[.agg #[.slice a la ca, .slice z lz cz], .agg #[.int .i64 lo, .int .i64 hi]] w fun e w' => e = .returned (.func (.func 45) #[] #[.pointer (some ⟨w.heap.size, 0, none⟩), .pointer (some ⟨w.heap.size + 1, 0, none⟩)]) ∧
      w' = (w.alloc (.cells #[.slice a la ca, .slice z lz cz] 24)).alloc (.cells #[.int .i64 lo, .int .i64 hi] 37) := by
  go_enter Try.func35, Try.ntmps35
  go_wp2
  go_ret
  exact ⟨rfl, rfl⟩

end Go.Proofs.Ytngedehfaidphaa
