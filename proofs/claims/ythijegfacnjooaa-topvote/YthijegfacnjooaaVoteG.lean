/-
  The contract of vote.counting: what those channels say that count, rising.
-/
import Derived.Test.YthijegfacnjooaaSortL
import Derived.Sort.OwnSortedInts
import Derived.Deep.AppendLies
import Derived.OwnWalk
namespace Go.Proofs.Ythijegfacnjooaa
open Go.RowKit Plain

theorem infoInt : (Try.prog.info? 3).map (fun i => (i.zero, i.size, i.bytes)) = some (some (.int .i64 0), 1, 8) := by kernel_rfl
/-- What those say that count. -/
def cntL (t o : Nat → Bool) (s : Nat → Int) : Nat → List Int
  | 0 => []
  | k + 1 => if cntB t o k then cntL t o s k ++ [s k] else cntL t o s k
theorem cntL_len (t o : Nat → Bool) (s : Nat → Int) : ∀ k : Nat, (cntL t o s k).length ≤ k
  | 0 => by simp [cntL]
  | k + 1 => by have := cntL_len t o s k; simp only [cntL]; split <;> simp <;> omega
/-- The same, rising. -/
def risL (l : List Int) : List Int := l.mergeSort fun x y => decide (x ≤ y)
theorem risL_len (l : List Int) : (risL l).length = l.length := List.length_mergeSort l

theorem owns_base {w : World} {B B' : Nat} {e : TypeId} {size : Nat} {v : Value} {n : Nat} {xs : List Value} (h : w.ownsRow B e size v n xs) (hb : B' ≤ B) : w.ownsRow B' e size v n xs := by
  refine ⟨h.1, ?_⟩
  rcases h.2 with h | ⟨g, cap, cur, h1, h2, h3⟩
  · exact .inl h
  · exact .inr ⟨g, cap, cur, h1, Nat.le_trans hb h2, h3⟩

set_option maxRecDepth 100000 in
set_option maxHeartbeats 1000000 in
theorem counting_any (b : Nat → Int) (o : Nat → Bool) (l : Int) (t : Nat → Bool) (s : Nat → Int) (w : World) :
    Calls Try.prog 38 #[.agg #[.int .i64 (b 0), .int .i64 (b 1), .int .i64 (b 2), .bool (o 0), .bool (o 1), .bool (o 2), .int .i64 l], .agg #[.bool (t 0), .int .i64 (s 0), .bool (t 1), .int .i64 (s 1), .bool (t 2), .int .i64 (s 2)]] w
      fun e w' => (∃ v, e = .returned v ∧ w'.ownsRow w.heap.size 3 1 v (risL (cntL t o s 3)).length ((risL (cntL t o s 3)).map (Value.int .i64))) ∧ Below w.heap.size w w' := by
  obtain ⟨i0, hi, hz0, hz1, hz2⟩ := info_parts infoInt
  have H2 := hide (show Below w.heap.size w ((w.alloc (.cells #[.int .i64 (b 0), .int .i64 (b 1), .int .i64 (b 2), .bool (o 0), .bool (o 1), .bool (o 2), .int .i64 l] 33)).alloc (.cells #[.bool (t 0), .int .i64 (s 0), .bool (t 1), .int .i64 (s 1), .bool (t 2), .int .i64 (s 2)] 39)) from vbelow_up (vbelow_alloc _ _) (vbelow_alloc _ _))
  have B2 : Hid (BankAt ((w.alloc (.cells #[.int .i64 (b 0), .int .i64 (b 1), .int .i64 (b 2), .bool (o 0), .bool (o 1), .bool (o 2), .int .i64 l] 33)).alloc (.cells #[.bool (t 0), .int .i64 (s 0), .bool (t 1), .int .i64 (s 1), .bool (t 2), .int .i64 (s 2)] 39)) w.heap.size b o l) := by
    refine ⟨?_, ?_, ?_, ?_, ?_, ?_, ?_⟩ <;> simp [go_sem, World.cell?_alloc_past]
  go_enter Try.func38, Try.ntmps38
  go_wp2
  generalize ((w.alloc (.cells #[.int .i64 (b 0), .int .i64 (b 1), .int .i64 (b 2), .bool (o 0), .bool (o 1), .bool (o 2), .int .i64 l] 33)).alloc (.cells #[.bool (t 0), .int .i64 (s 0), .bool (t 1), .int .i64 (s 1), .bool (t 2), .int .i64 (s 2)] 39)) = w2 at *
  go_loopw [5, 9] (fun v i wr => ∃ (k : Nat) (ao : Option Addr) (cv : Nat), k ≤ 3 ∧ i = .int .i64 k ∧ v = .slice ao (cntL t o s k).length cv ∧ wr.ownsRow w2.heap.size 3 1 v (cntL t o s k).length ((cntL t o s k).map (Value.int .i64)) ∧ Below w2.heap.size w2 wr) (fun _ i _ => 3 - (intOf i).toNat)
  case atStart => exact ⟨0, none, 0, by omega, rfl, rfl, World.ownsRow_nil _ _ _ _, Below.refl _ _⟩
  case round =>
    obtain ⟨k, ao, cv, hk, rfl, rfl, hown, hnx⟩ := hrel
    have hsize := hnx.size
    by_cases hlt : k < 3
    · have hix := idxS t s k hlt
      have c3 : ∀ ob, (wr.alloc ob).cell? ⟨w.heap.size, 3 + k, none⟩ = some (.bool (o k)) := fun ob => cell_later (vbelow_alloc wr ob) ((B2.out.later hnx).out k hlt)
      have hl := cntL_len t o s k
      have HS := hide (show cntL t o s (k + 1) = (if (t k && !o k) then cntL t o s k ++ [s k] else cntL t o s k) from rfl)
      have HN := hide hnx
      clear hnx
      have i0' : (0 : Int) ≤ (k : Int) := by omega
      have i1' : (k : Int) < 3 := by omega
      generalize cntL t o s k = q at *
      cases h1 : t k
      · rw [h1] at hix HS
        have HO := hide hown
        clear hown
        go_wp2
        go_roundw
        case rel => exact ⟨k + 1, ao, cv, by omega, by go_num, by rw [HS.out]; rfl, by rw [HS.out]; exact HO.out.alloc _, vbelow_up HN.out (vbelow_alloc _ _)⟩
        case measure => simp [intOf]; omega
      · rw [h1] at hix HS
        cases h2 : o k
        · rw [h2] at c3 HS
          generalize s k = z at *
          have hnew : ∀ (s1 : Obj) (j : Nat) (u : Value), [Value.int .i64 z][j]? = some u → ((wr.alloc s1).alloc (.cells #[.int .i64 z] 3)).cell? ((⟨wr.heap.size + 1, 0, none⟩ : Addr).add j) = some u := by
            intro s1 j u hu
            cases j with
            | zero => simp at hu; subst hu; simp [go_sem, Addr.add]
            | succ j => simp at hu
          go_wp2_with (first
            | (at_builtin; refine wpList_append_lies _ rfl _ _ 50 rfl w2.heap.size 3 i0 (.int .i64 0) 1 8 Try.underlying50 hi hz0 hz1 hz2 rfl (by decide) _ _ _ rfl ((hown.alloc _).alloc _) ⟨wr.heap.size + 1, 0, none⟩ 1 1 [.int .i64 z] rfl rfl (hnew _) (fun x hx => by simp at hx; subst hx; rfl) (by omega) (by unfold maxLen; omega) (by omega) (by simp; omega) _ rfl ?_; intro g cap w3 hown' hgrow hat hlt3))
          go_roundw
          case rel =>
            refine ⟨k + 1, some ⟨g, 0, none⟩, cap, by omega, by go_num, by rw [HS.out]; simp, ?_, ?_⟩
            · rw [HS.out, show (if (true && !false) = true then q ++ [z] else q) = q ++ [z] from rfl, List.map_append, List.length_append]; exact hown'
            · exact ((HN.out.alloc hsize _).alloc (by simp; omega) _).grown hgrow (by simp; omega) (fun q hq => (hown.lt q hq).1)
          case measure => simp [intOf]; omega
        · rw [h2] at c3 HS
          have HO := hide hown
          clear hown
          go_wp2
          go_roundw
          case rel => exact ⟨k + 1, ao, cv, by omega, by go_num, by rw [HS.out]; rfl, by rw [HS.out]; exact HO.out.alloc _, vbelow_up HN.out (vbelow_alloc _ _)⟩
          case measure => simp [intOf]; omega
    · have e : k = 3 := by omega
      subst e
      have HN := hide hnx
      clear hnx
      have H2W : Hid (w.heap.size ≤ w2.heap.size) := H2.out.size
      have hl := cntL_len t o s 3
      obtain ⟨q, HQE⟩ : ∃ q, Hid (cntL t o s 3 = q) := ⟨_, rfl⟩
      rw [HQE.out] at hown hl ⊢
      by_cases hq : q.length = 0
      · have HQ : Hid (q = []) := List.length_eq_zero_iff.mp hq
        rw [hq]
        have HO := hide hown
        clear hown hq
        go_wp2_with (go_at_call 67; refine (sort_none _ _ _).mono ?_; rintro e w' ⟨rfl, rfl⟩)
        go_ret
        refine ⟨⟨_, rfl, ?_⟩, vbelow_up H2.out HN.out⟩
        rw [HQE.out, HQ.out, show risL [] = [] by simp [risL]]
        rw [HQ.out] at HO
        exact owns_base HO.out H2W.out
      · obtain ⟨g, cap, cur, hv, hg0, hg, hc1, hc2, hc3, hc4⟩ := hown.2.resolve_left (fun h => hq h.2)
        simp only [Value.slice.injEq] at hv
        obtain ⟨rfl, _, rfl⟩ := hv
        have hH := holds_of_blockI hg (by rw [Nat.mul_one] at hc4; exact hc4)
        have hgl : g < wr.heap.size := by
          rcases Nat.lt_or_ge g wr.heap.size with h | h
          · exact h
          · rw [Array.getElem?_eq_none h] at hg; cases hg
        have hso := sort_int g 0 cv q wr hH hgl (by omega)
        have HR : Hid (∀ n os, (Go.Sort.grow (Go.Sort.putRow (Value.int .i64) (Go.Sort.ahead wr n) g 0 (q.mergeSort fun x y => decide (x ≤ y)).toArray) os).ownsRow w2.heap.size 3 1 (.slice (some ⟨g, 0, none⟩) q.length cv) q.length ((risL q).map (Value.int .i64)) ∧ Below w2.heap.size w2 (Go.Sort.grow (Go.Sort.putRow (Value.int .i64) (Go.Sort.ahead wr n) g 0 (q.mergeSort fun x y => decide (x ≤ y)).toArray) os)) := by
          intro n os
          refine ⟨ownsRow_sortedI (risL_len q) hg0 hg hc1 hc2 hc3, ?_⟩
          exact HN.out.grown (grownBy_sortedI _) hsize (fun k hk => by cases hk; exact hg0)
        clear hH hg hc4 hc3 hown
        go_wp2_with (go_at_call 67; refine hso.mono ?_; rintro e w' ⟨rfl, n, os, hw'⟩; have HW := hide hw'; clear hw')
        go_ret
        have hr := HR.out n os
        rw [← HW.out] at hr
        refine ⟨⟨_, rfl, ?_⟩, vbelow_up H2.out hr.2⟩
        rw [HQE.out, risL_len]
        exact owns_base hr.1 H2W.out

end Go.Proofs.Ythijegfacnjooaa
