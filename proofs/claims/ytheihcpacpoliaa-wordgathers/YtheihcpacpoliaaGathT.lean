/-
  slices.Collect and slices.SortedFunc at readings, against whatever iterator: a new slice that holds what came, in order.
-/
import Derived.Test.YtheihcpacpoliaaGathS
import Derived.Sort.OwnSorted
namespace Go.Proofs.Ytheihcpacpoliaa
open Go.RowKit Go.Sort Go.Shelf Plain

theorem encL_get : ∀ (l : List Rd) (t : Nat), t < l.length * 4 → (encL l)[t]? = (encR (rat l (t / 4)))[t % 4]?
  | [], t, h => by simp at h
  | r :: s, t, h => by
    show (encR r ++ encL s)[t]? = _
    by_cases ht : t < 4
    · rw [List.getElem?_append_left (by rw [encR_len]; exact ht), Nat.div_eq_of_lt ht, Nat.mod_eq_of_lt ht]
      rfl
    · rw [List.getElem?_append_right (by rw [encR_len]; omega), encR_len, encL_get s (t - 4) (by simp at h; omega)]
      have e1 : t / 4 = (t - 4) / 4 + 1 := by omega
      have e2 : t % 4 = (t - 4) % 4 := by omega
      rw [e1, e2]
      rfl
theorem getD_bang (l : List Rd) (k : Nat) (h : k < l.length) : l.toArray[k]! = rat l k := by
  rw [rat_eq h]
  simp [h]
theorem bang_of {l : List Value} {k : Nat} {u : Value} (h : l[k]? = some u) : l[k]! = u := by
  simp [getElem!_def, h]
theorem encR_some (r : Rd) (k : Nat) (h : k < 4) : (encR r)[k]? = some (encR r)[k]! := by
  rw [getElem!_pos _ k (by rw [encR_len]; exact h)]
  exact List.getElem?_eq_getElem _
theorem flat_encL (l : List Rd) : (flatK encR 4 l.toArray).toList = encL l := by
  apply List.ext_getElem?
  intro t
  by_cases ht : t < l.length * 4
  · rw [encL_get l t ht, encR_some _ _ (Nat.mod_lt _ (by decide)), ← getD_bang l (t / 4) (by omega)]
    simp [flatK, ht]
  · rw [List.getElem?_eq_none (by simp; omega), List.getElem?_eq_none (by rw [encL_length]; omega)]

theorem holdsK_of_block {w : World} {g : Nat} {cur : Array Value} {e : TypeId} {l : List Rd} (hb : w.heap[g]? = some (.cells cur e (0, 0))) (ht : cur.toList.take (l.length * 4) = encL l) : HoldsK encR 4 w g 0 l.toArray := by
  intro j hj
  have hj' : j < l.length * 4 := by simpa using hj
  refine ⟨?_, by simp [World.frozen?, hb]⟩
  have h1 : (cur.toList.take (l.length * 4))[j]? = (encL l)[j]? := by rw [ht]
  rw [List.getElem?_take_of_lt hj', ← flat_encL, Array.getElem?_toList, Array.getElem?_toList] at h1
  simp only [World.cell?, hb, Nat.zero_add]
  simp only [Option.isSome_none, Bool.false_eq_true, if_false]
  rw [h1, getElem!_pos _ j hj]
  exact Array.getElem?_eq_getElem _
theorem heap_sortK {w : World} {g n : Nat} {os : Array Obj} {cur : Array Value} {e : TypeId} {fr : Nat × Nat} (d : Array Value) (hb : w.heap[g]? = some (.cells cur e fr)) :
    (grow (putRow id (Sort.ahead w n) g 0 d) os).heap[g]? = some (.cells (putCells id 0 d cur) e fr) := by
  have hg : g < w.heap.size := (Array.getElem?_eq_some_iff.1 hb).1
  rw [heap_grow_old _ _ (by simpa using hg)]
  simp [putRow, mapBlock, Sort.ahead, Array.getElem?_modify, hb, onCells]
theorem grownBy_sortK {w : World} {g n : Nat} {os : Array Obj} (d : Array Value) : w.grownBy (grow (putRow id (Sort.ahead w n) g 0 d) os) (some g) := by
  refine ⟨rfl, rfl, rfl, by simp, fun k hk hne => ?_⟩
  rw [heap_grow_old _ _ (by simpa using hk)]
  have : g ≠ k := fun e => hne (by rw [e])
  simp [putRow, mapBlock, Sort.ahead, Array.getElem?_modify, this]
theorem take_putK (cur : Array Value) (ts : List Value) (h : ts.length ≤ cur.size) : (putCells id 0 ts.toArray cur).toList.take ts.length = ts := by
  apply List.ext_getElem?
  intro j
  by_cases hj : j < ts.length
  · rw [List.getElem?_take_of_lt hj, Array.getElem?_toList]
    simp [putCells, hj, show j < cur.size by omega]
  · rw [List.getElem?_take_eq_none (by omega), List.getElem?_eq_none (by omega)]
theorem sortWorld_is (w : World) (g n : Nat) (l : List Rd) (os : Array Obj) : sortWorldK encR 4 w g 0 n l.toArray os = grow (putRow id (Sort.ahead w n) g 0 (encL l).toArray) os := by
  have : flatK encR 4 l.toArray = (encL l).toArray := by rw [← flat_encL]
  unfold sortWorldK putRowK
  rw [this]

theorem collect_any (gf : Nat) (lb : Array Value) (eg : ∀ args w, (callFunc gf args).run Try.prog w = .ok (.enter gf args) w) (S : List Rd → Prop) (N : Nat) (hN : N ≤ 1000) (w : World) (hseq : SeqGives Fence.wide 7 Try.prog gf lb rdV S N w) :
    Calls Try.prog 43 #[.func (.func gf) #[] lb] w fun e w' => ∃ (v : Value) (ss : List Rd), e = .returned v ∧ S ss ∧ OwnL w.heap.size v ss w' ∧ Below w.heap.size w w' := by
  have ha := appendSeq_any gf lb eg S N hN w hseq
  go_enter Try.func43, Try.ntmps43
  go_wp2_with (go_at_call 65; refine ha.mono ?_; rintro e w' ⟨v, ss, rfl, hS, ho, hb⟩)
  go_ret
  exact ⟨v, ss, rfl, hS, ho, hb⟩

theorem cmp_lays (blk off n : Nat) (w : World) : CmpLays Try.prog 24 #[] encR 4 rcf blk off n w := fun _ _ _ _ x y =>
  (wcompare_any x.1 x.2.1 x.2.2.1 x.2.2.2 y.1 y.2.1 y.2.2.1 y.2.2.2 _).mono fun _ _ h => ⟨h.1, h.2⟩
theorem enters_cmp : ∀ args w, (callFunc 24 args).run Try.prog w = .ok (.enter 24 args) w := enters_of Try.func24 (by kernel_rfl) rfl

set_option maxHeartbeats 2000000 in
theorem sortedFunc_any (gf : Nat) (lb : Array Value) (eg : ∀ args w, (callFunc gf args).run Try.prog w = .ok (.enter gf args) w) (l : List Rd) (hso : l.Pairwise (fun x y => rlt x y = true)) (hN : l.length ≤ 1000) (w : World) (hseq : SeqGives Fence.wide 7 Try.prog gf lb rdV (fun ss => ss.Perm l) l.length w) :
    Calls Try.prog 22 #[.func (.func gf) #[] lb, .func (.func 24) #[] #[]] w fun e w' => ∃ v, e = .returned v ∧ OwnL w.heap.size v l w' ∧ Below w.heap.size w w' := by
  have hc := collect_any gf lb eg _ _ hN w hseq
  go_enter Try.func22, Try.ntmps22
  go_upto_region 2 with (go_at_call 43; refine hc.mono ?_; rintro e W ⟨v, ss, rfl, hS, ⟨hrow, hnil⟩, hb⟩)
  have hlen := hS.length_eq
  rcases hrow.2 with ⟨rfl, hz⟩ | ⟨g, cap, cur, rfl, hbase, hgb, r1, r2, r3, r4⟩
  · have hss : ss = [] := List.eq_nil_of_length_eq_zero hz
    subst hss
    obtain rfl : l = [] := List.eq_nil_of_length_eq_zero (by simpa using hlen.symm)
    clear hlen hz
    go_wp2_with (go_at_call 44; refine (sortF_none none 0 _ W).mono ?_; rintro e w' ⟨rfl, rfl⟩)
    go_ret
    exact ⟨.slice none 0 0, rfl, ⟨hrow, by simp⟩, hb⟩
  · have hH : HoldsK encR 4 W g 0 ss.toArray := holdsK_of_block hgb r4
    have hgl : g < W.heap.size := (Array.getElem?_eq_some_iff.1 hgb).1
    have cS := sortF_any 24 #[] g 0 cap ss.toArray W enters_cmp (cmp_lays g 0 _ W) hH hgl (by simp; omega)
    rw [List.size_toArray] at cS
    have HL : Hid (ss.length = l.length) := hlen
    have HNL := ghide hnil
    clear hlen hnil
    go_wp2_with (go_at_call 44; refine cS.mono ?_; rintro e w' ⟨rfl, d', n, os, hp, hsd, rfl⟩)
    go_ret
    have hd : d' = l.toArray := by
      have := sortedIn_is (d := ss.toArray) (d' := d') hso (by simpa using hS) (by simpa using hp) (by simpa using hsd)
      rw [← this]
    subst hd
    rw [sortWorld_is]
    refine ⟨.slice (some ⟨g, 0, none⟩) ss.length cap, rfl, ⟨?_, ?_⟩, hb.grown (grownBy_sortK _) hb.size (fun j hj => by cases hj; exact hbase)⟩
    · rw [HL.out]
      refine ⟨encL_length l, .inr ⟨g, cap, _, rfl, hbase, heap_sortK _ hgb, by rw [← HL.out]; exact r1, r2, by simp [putCells, r3], ?_⟩⟩
      rw [← encL_length]
      exact take_putK cur _ (by rw [encL_length, r3, ← HL.out]; omega)
    · have : ss = [] ↔ l = [] := by rw [← List.length_eq_zero_iff, ← List.length_eq_zero_iff, HL.out]
      rw [HNL.out, this]

end Go.Proofs.Ytheihcpacpoliaa
