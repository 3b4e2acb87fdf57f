/-
  maps.Values over a map of readings: each comes once, in some order.
-/
import Derived.Test.YtheihcpacpoliaaGathM
import Derived.RangeFuncSeq
import Derived.RangeFuncGives
import Derived.RangeFuncBound
import Derived.RangeFuncCalls
import Derived.Shelf.Abstract
import Derived.Shelf.RegionOpen
import Derived.Sort.MapsRangeIn
import Derived.WalkKit
import Derived.OwnWalkIn
import Derived.TacticsInMore
import Derived.LoopNIn
import Derived.LoopIn
namespace Go.Proofs.Ytheihcpacpoliaa
open Go.RowKit Go.Shelf Plain Go.Maps
attribute [local go_sem] Oper.semAt_some

theorem map_under : Try.prog.underlying 69 = some (.map 73 33) := by kernel_rfl

set_option maxRecDepth 100000 in
set_option maxHeartbeats 2000000 in
theorem vals1_in {H : Type} (n : Nat) (hn : 1 ≤ n) (l Bm b nn : Nat) (D0 : DataW H) (ls : List Rd) (hrep : RepM D0 ls) (hwf : ∀ z ∈ ls, wfR z) (hso : ls.Pairwise (fun x y => rlt x y = true)) (J : List Rd → World → Prop)
    (hY : ∀ pre x W, J pre W → pre.length < ls.length → YieldAt Fence.wide (n - 1) Try.prog l #[rdV x] W fun e W' => e = .returned (.bool true) ∧ J (pre ++ [x]) W' ∧ KeepsWalks W W')
    (W : World) (hJ : AbidesFrom W.heap.size J) (hm : W.cell? ⟨Bm, 0, none⟩ = some (.map (some b))) (hown : W.ownsMap Try.prog 73 (rdRead (H := H)) b nn D0) (h0 : J [] W) :
    CallsIn Fence.wide n Try.prog 45 #[.func (.yield l) #[] #[], .pointer (some ⟨Bm, 0, none⟩)] W fun e W' => (∃ v, e = .returned v) ∧ ∃ ss : List Rd, ss.Perm ls ∧ J ss W' := by
  have hsz := hrep.size
  refine callsIn_of_wp Try.func45 rfl trivial ?_ rfl
  simp only [Try.ntmps45, List.size_toArray, List.length_cons, List.length_nil, Nat.reduceAdd, Nat.reduceSub, Array.replicate_succ, Array.replicate_zero, List.push_toArray, List.append_toArray, List.nil_append, List.cons_append]
  gi_wp2_with (first
    | (gi_at_range; refine wpListIn_range_own _ rfl _ 69 rfl 73 33 who_keyed map_under _ b nn _ rfl hown ?_; intro w0 hrg0 hg0 hs0)
    | gi_in)
  go_frame
  gi_loopw [7] (fun _ wr => ∃ (left : Lit → Bool) (cnt : Nat) (ss : List Rd), wr.ranges Try.prog 73 (rdRead (H := H)) b W.heap.size nn D0 left cnt ∧ ss.length + cnt ≤ ls.length ∧ (ColR D0 left ss ∧ ∀ r ∈ ss, r ∈ ls) ∧ J ss wr)
    (fun _ wr => wr.rangeLeft b W.heap.size)
  case atStart =>
    exact ⟨_, _, [], hrg0, by simp [hsz], ⟨ColR.start D0, by simp⟩, hJ [] W w0 none h0 hg0 (fun r e => by cases e)⟩
  case round =>
    obtain ⟨left, cnt, ss, hrg, hcs, ⟨hC, hin⟩, hJs⟩ := hrel
    gi_wp2_with (first
      | (gi_at_next; refine wpListIn_next_ranges _ rfl _ rfl 73 who_keyed (rdRead (H := H)) (id : Value → Value) (fun r : Rd => Value.agg #[.int .i64 r.1, .int .i64 r.2.1, .int .i64 r.2.2.1, .int .i64 r.2.2.2]) (fun key kl hk => ⟨key, rfl⟩) (fun v y h => by obtain ⟨r, hr, _⟩ := rdRead_inv h; exact ⟨r, hr⟩) b W.heap.size nn _ _ _ rfl hrg ?_ ?_)
      | gi_in)
    · intro hc0 hl0
      gi_wp2
      go_end0
      exact ⟨⟨_, rfl⟩, ss, hC.perm hrep hwf hso hin hl0, hJs⟩
    · intro x c1 c2 c3 c4 kl yd yp w2 cnt2 hkey hlk hv hat hrg2 hlt hg2 hs2 hen
      obtain ⟨c, hcc⟩ : ∃ c : Rd, c = (c1, c2, c3, c4) := ⟨_, rfl⟩
      obtain ⟨c', hc', hy⟩ := rdRead_inv hv
      obtain rfl : c = c' := by rw [hcc]; exact rdV_inj hc'
      obtain ⟨rfl, rfl, rfl, rfl⟩ : c1 = c.1 ∧ c2 = c.2.1 ∧ c3 = c.2.2.1 ∧ c4 = c.2.2.2 := by rw [hcc]; exact ⟨rfl, rfl, rfl, rfl⟩
      clear hcc
      have hat : ∀ zd, D0.atKey kl zd = datR c := fun zd => (hat zd).trans (congrArg Prod.fst hy)
      obtain ⟨hcl, rfl⟩ := hrep.found hat
      have hJ2 : J ss w2 := hJ ss wr w2 (some W.heap.size) hJs hg2 (fun r e => by cases e; exact ⟨Nat.le_refl _, hrg.iter_walk⟩)
      have hJ2a : J ss (w2.alloc (.cells #[.int .i64 c.1, .int .i64 c.2.1, .int .i64 c.2.2.1, .int .i64 c.2.2.2] 33)) := hJ _ _ _ none hJ2 (World.grownBy_alloc w2 _ none) (fun r e => by cases e)
      obtain ⟨fn, tmps, assign, body, hy, hR⟩ := hY ss c _ hJ2a (by omega)
      have hrg2 := hrg2.alloc (.cells #[.int .i64 c.1, .int .i64 c.2.1, .int .i64 c.2.2.1, .int .i64 c.2.2.2] 33)
      unfold rdV at hy
      clear hs2 hv hc'
      gi_wp2
      refine hR.mono ?_
      rintro e W3 ⟨rfl, hJ3, hk3⟩
      gi_wp2
      have hrg3 := hrg2.of_walks hk3
      go_roundw
      case rel => exact ⟨_, cnt2, ss ++ [c], hrg3, by simp; omega, ⟨hC.step hlk, fun r hr => by rcases List.mem_append.1 hr with hr | hr; exact hin r hr; simp at hr; subst hr; exact hcl⟩, hJ3⟩
      case measure => rw [hrg3.left_eq, hrg.left_eq]; exact hlt

end Go.Proofs.Ytheihcpacpoliaa
