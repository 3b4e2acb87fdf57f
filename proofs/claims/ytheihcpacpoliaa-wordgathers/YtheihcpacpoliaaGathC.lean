/-
  slices.AppendSeq and slices.Collect at readings, against whatever iterator: a new slice that holds just what came, in that order.
-/
import Derived.Test.YtheihcpacpoliaaGathV
import Derived.Test.YtheihcpacpoliaaGathB
import Derived.Shelf.SlIter.Collect
namespace Go.Proofs.Ytheihcpacpoliaa
open Go.RowKit Go.Shelf Plain Go.Maps
attribute [local go_sem] Oper.semAt_some

theorem rds_under : Try.prog.underlying 25 = some (.slice 33) := by kernel_rfl
theorem rd_info : (Try.prog.info? 33).map (fun i => (i.zero, i.size, i.bytes)) = some (some (.agg #[.int .i64 0, .int .i64 0, .int .i64 0, .int .i64 0]), 4, 32) := by kernel_rfl

/-- The block of one reading. -/
def rdO (r : Rd) : Obj := .cells #[.int .i64 r.1, .int .i64 r.2.1, .int .i64 r.2.2.1, .int .i64 r.2.2.2] 33
/-- The cells of readings. -/
def encL (l : List Rd) : List Value := l.flatMap encR
theorem encL_snoc (l : List Rd) (r : Rd) : encL (l ++ [r]) = encL l ++ encR r := by simp [encL]
theorem encL_length : ∀ l : List Rd, (encL l).length = l.length * 4
  | [] => rfl
  | r :: t => by
    have := encL_length t
    simp [encL, encR] at this ⊢
    omega
theorem cell_rd_new (w : World) (r : Rd) : ∀ j u, (encR r)[j]? = some u → (w.alloc (.cells #[.int .i64 r.1, .int .i64 r.2.1, .int .i64 r.2.2.1, .int .i64 r.2.2.2] 33)).cell? ((⟨w.heap.size, 0, none⟩ : Addr).add j) = some u := by
  intro j u hj
  match j, hj with
  | 0, hj => simp [encR] at hj; subst hj; simp [go_sem, Addr.add]
  | 1, hj => simp [encR] at hj; subst hj; simp [go_sem, Addr.add]
  | 2, hj => simp [encR] at hj; subst hj; simp [go_sem, Addr.add]
  | 3, hj => simp [encR] at hj; subst hj; simp [go_sem, Addr.add]
  | j + 4, hj => simp [encR] at hj
theorem encR_one (r : Rd) : ∀ u ∈ encR r, u.oneCell' = true := by
  intro u hu
  simp [encR] at hu
  rcases hu with rfl | rfl | rfl | rfl <;> rfl

/-- A slice that holds these readings in memory of its own, from a block on. -/
def OwnL (B : Nat) (v : Value) (l : List Rd) (W : World) : Prop := W.ownsRow B 33 4 v l.length (encL l) ∧ (v = .slice none 0 0 ↔ l = [])
/-- The box of such a slice. -/
def BoxL (B Bs : Nat) (l : List Rd) (W : World) : Prop := ∃ v, W.heap[Bs]? = some (.cells #[v] 25 (0, 0)) ∧ OwnL B v l W
theorem rd_ne : (25 : TypeId) ≠ 33 := by decide
theorem ownsRow_others {W W' : World} {row : Option Nat} {base : Nat} {e : TypeId} {size : Nat} {v : Value} {k : Nat} {xs : List Value} (h : W.ownsRow base e size v k xs) (hg : W.grownBy W' row)
    (hrow : ∀ r, row = some r → ∃ o : Obj, W.heap[r]? = some o ∧ o.isCells = false) : W'.ownsRow base e size v k xs := by
  refine h.kept hg ?_
  rcases h.2 with ⟨rfl, _⟩ | ⟨g, cap, cur, rfl, _, hgb, _⟩
  · exact .inl rfl
  · refine .inr fun e' => ?_
    obtain ⟨o, ho, hw⟩ := hrow g (by simpa [Value.ownBlock] using e'.symm)
    rw [hgb] at ho; cases ho; cases hw
theorem boxL_own (B Bs : Nat) : Own (fun (l : List Rd) W => BoxL B Bs l W) := fun l W W' row h hg hr => by
  obtain ⟨v, hv, ho, hn⟩ := h
  exact ⟨v, (grownBy_keeps_cells hg hr hv rfl).trans hv, ownsRow_others ho hg hr, hn⟩

set_option maxRecDepth 100000 in
set_option maxHeartbeats 4000000 in
theorem appendSeq_any (gf : Nat) (lb : Array Value) (eg : ∀ args w, (callFunc gf args).run Try.prog w = .ok (.enter gf args) w) (S : List Rd → Prop) (N : Nat) (hN : N ≤ 1000) (w : World) (hseq : SeqGives Fence.wide 7 Try.prog gf lb rdV S N w) :
    Calls Try.prog 65 #[.slice none 0 0, .func (.func gf) #[] lb] w fun e w' => ∃ (v : Value) (ss : List Rd), e = .returned v ∧ S ss ∧ OwnL w.heap.size v ss w' ∧ Below w.heap.size w w' := by
  obtain ⟨i0, hi, hz0, hz1, hz2⟩ := info_parts rd_info
  refine (callsIn_wide (n := 8)).1 ?_
  refine callsIn_of_wp_marks Try.func65 rfl trivial ?_ rfl
  simp only [Try.ntmps65, List.size_toArray, List.length_cons, List.length_nil, Nat.reduceAdd, Nat.reduceSub, Array.replicate_succ, Array.replicate_zero, List.push_toArray, List.append_toArray, List.nil_append, List.cons_append]
  gi_wp2
  obtain ⟨W0, hW0⟩ : ∃ W0, w.alloc (.cells #[.slice none 0 0] 25) = W0 := ⟨_, rfl⟩
  have hs0 : W0.heap.size = w.heap.size + 1 := by rw [← hW0]; simp
  have hv0 : W0.heap[w.heap.size]? = some (.cells #[.slice none 0 0] 25 (0, 0)) := by rw [← hW0]; exact World.alloc_heap_new w _
  have hb0 : Below w.heap.size w W0 := by rw [← hW0]; exact (Below.refl _ w).alloc (Nat.le_refl _) _
  rw [hW0]
  clear hW0
  refine rangeFunc_box (F := Fence.wide) (n := 8) rfl (by omega) (gf := gf) (lb := lb) rfl trivial eg (enc := rdV) (S := S) (N := N) (hseq.later hb0) rfl
    (fun pre W => BoxL w.heap.size w.heap.size pre W ∧ Below w.heap.size w W) (OwnFrom.and (Own.from (boxL_own _ _) _) (ownFrom_below (Nat.le_refl _) (by omega)))
    ⟨⟨_, hv0, ⟨rfl, .inl ⟨rfl, rfl⟩⟩, by simp⟩, hb0⟩ rdO
    (fun x b => { tmps := #[.slice none 0 0, .func (.func gf) #[] lb, .pointer (some ⟨w.heap.size, 0, none⟩), undef, .slice none 0 0, .pointer (some ⟨b, 0, none⟩), .func (.func gf) #[] lb, rdV x, undef, undef, undef, undef, undef], defers := [] }) ?assign ?body ?done
  case assign =>
    intro l x W K hK
    obtain ⟨x1, x2, x3, x4⟩ := x
    unfold rdV rdO at hK
    unfold rdV
    gi_wp2
    exact hK
  case body =>
    clear hs0 hv0 hb0
    rintro l pre x W b hob ⟨⟨v, hv, hrow, hnil⟩, hbl⟩ hlen
    obtain ⟨hc, hf⟩ := cell_of_box_a hv
    unfold rdO at hob
    have c0 : W.cell? ⟨b, 0, none⟩ = some (.int .i64 x.1) := by simp [World.cell?, hob]
    have c1 : W.cell? ⟨b, 1, none⟩ = some (.int .i64 x.2.1) := by simp [World.cell?, hob]
    have c2 : W.cell? ⟨b, 2, none⟩ = some (.int .i64 x.2.2.1) := by simp [World.cell?, hob]
    have c3 : W.cell? ⟨b, 3, none⟩ = some (.int .i64 x.2.2.2) := by simp [World.cell?, hob]
    have hBlt : w.heap.size < W.heap.size := (Array.getElem?_eq_some_iff.1 hv).1
    have hml : pre.length + 1 ≤ 1000 := by omega
    clear hob
    have ne_of : ∀ {j : Nat} {o : Obj}, W.heap[j]? = some o → (∀ cur, o ≠ .cells cur 33 (0, 0)) → some j ≠ v.ownBlock := fun hj hno => by
      rcases ownsRow_ne_a hrow hj hno with e | e
      · rw [e]; simp
      · exact fun e' => e e'.symm
    have hne := ne_of hv (fun cur e => rd_ne (Obj.cells.inj e).2.1)
    have HOT : ∀ (W3 : World), (W.alloc (.cells #[.int .i64 x.1, .int .i64 x.2.1, .int .i64 x.2.2.1, .int .i64 x.2.2.2] 33)).grownBy W3 v.ownBlock → KeepsOthers W W3 := fun W3 hg => ⟨Nat.le_trans (by simp) hg.size, fun k o hk ho => (hg.block k (by have := (Array.getElem?_eq_some_iff.1 hk).1; simp; omega) (ne_of hk (fun cur e => by subst e; cases ho))).trans ((Below.heap_alloc _ _ k (Array.getElem?_eq_some_iff.1 hk).1).trans hk)⟩
    clear ne_of
    unfold rdV
    gi_wp2_with (first
      | (gi_at_builtin; refine wpListIn_append_own _ rfl _ _ 25 rfl w.heap.size 33 i0 (.agg #[.int .i64 0, .int .i64 0, .int .i64 0, .int .i64 0]) 4 32 rds_under hi hz0 hz1 hz2 rfl (by decide) _ _ _ rfl (hrow.alloc _) ⟨W.heap.size, 0, none⟩ 1 1 (encR x) rfl rfl (cell_rd_new _ _) (encR_one _) (by unfold maxLen; omega) (by omega) (by simp; omega) ?_; intro v' w3 hown' hg3 hnil3
         have hv3 : w3.heap[w.heap.size]? = some (.cells #[v] 25 (0, 0)) := (hg3.block w.heap.size (by simp; omega) hne).trans ((Below.heap_alloc _ _ _ hBlt).trans hv)
         obtain ⟨hc3, hf3⟩ := cell_of_box_a hv3
         obtain ⟨g', cap', cur', rfl, hrest⟩ : ∃ g' cap' cur', v' = .slice (some ⟨g', 0, none⟩) (pre.length + 1) cap' ∧ (w.heap.size ≤ g' ∧ w3.heap[g']? = some (.cells cur' 33 (0, 0))) := by
           rcases hown'.2 with ⟨_, h0⟩ | ⟨g', cap', cur', h1, h2, h3, _⟩
           · exact absurd h0 (by omega)
           · exact ⟨g', cap', cur', h1, h2, h3⟩
         go_frame)
      | gi_in)
    have hg3' : (W.alloc (.cells #[.int .i64 x.1, .int .i64 x.2.1, .int .i64 x.2.2.1, .int .i64 x.2.2.2] 33)).grownBy w3 v.ownBlock := hg3
    have hk3 := HOT w3 hg3'
    have hb3 : Below w.heap.size w w3 := (hbl.alloc hbl.size _).grown hg3' (by have := hbl.size; simp; omega) (fun k e => (hrow.lt k e).1)
    have hg4 : w3.grownBy (w3.setCell ⟨w.heap.size, 0, none⟩ (.slice (some ⟨g', 0, none⟩) (pre.length + 1) cap')) (some w.heap.size) := grownBy_setCell0_a _ _ _
    refine ⟨hk3.trans (KeepsOthers.setCell _ _ _), ⟨_, heap_setCell_box_a _ hv3, ?_, by simp⟩, hb3.grown hg4 hb3.size (fun k e => by cases e; exact Nat.le_refl _)⟩
    rw [encL_snoc, List.length_append, List.length_singleton]
    exact hown'.kept hg4 (ownsRow_ne_a hown' hv3 (fun cur e => rd_ne (Obj.cells.inj e).2.1))
  case done =>
    rintro D ss W hD hS ⟨⟨v, hv, hrow, hnil⟩, hbl⟩ hK
    obtain ⟨hc, hf⟩ := cell_of_box_a hv
    gi_wp2
    refine ⟨by simp, .inl ⟨_, _, rfl, run_takeDeferred hK, ?_⟩⟩
    exact ⟨_, results_tmp rfl _ _ _, v, ss, rfl, hS, ⟨ownsRow_others hrow (grownBy_putObj' _ _ _) (fun r e => by cases e; exact ⟨_, hK, rfl⟩), hnil⟩, hbl.grown (grownBy_putObj' _ _ _) hbl.size (fun k e => by cases e; omega)⟩

end Go.Proofs.Ytheihcpacpoliaa
