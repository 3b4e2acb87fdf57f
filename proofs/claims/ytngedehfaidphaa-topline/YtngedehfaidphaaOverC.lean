/-
  Contracts of table.Over where it tells an error, of fulmarref.SpanMay and fulmarref.Over: each returns what the plain words say, and nothing that was there has turned.
-/
import Derived.Test.YtngedehfaidphaaOverB
namespace Go.Proofs.Ytngedehfaidphaa
open Go.RowKit Plain

theorem over_bad (a z : Option Addr) (ca cz : Nat) (al zl : List Int) (lo hi : Int) (w : World) (hm : al.length ≤ 9223372036854775807) (hn : zl.length ≤ 9223372036854775807) (hca : al.length ≤ ca) (ha : Lst w a al) (hz : Lst w z zl) (h : lineI al zl ≠ 0) :
    Calls Try.prog 16 #[.agg #[.slice a al.length ca, .slice z zl.length cz], .agg #[.int .i64 lo, .int .i64 hi]] w fun r w' => r = .returned (.tuple #[.agg #[.int .i64 0, .int .i64 0], errV (lineI al zl)]) ∧ Below w.heap.size w w' := by
  have h3 : Below w.heap.size w (((w.alloc (.cells #[.slice a al.length ca, .slice z zl.length cz] 24)).alloc (.cells #[.int .i64 lo, .int .i64 hi] 37)).alloc (.cells #[.int .i64 0, .int .i64 0] 37)) :=
    (((Below.refl _ _).alloc (Nat.le_refl _) _).alloc (by simp) _).alloc (by simp; omega) _
  have ck := check_any a z ca cz al zl _ hm hn hca (ha.later h3) (hz.later h3)
  rw [errV_ne h] at ck ⊢
  have ck' : Calls Try.prog 11 #[.agg #[.slice a al.length ca, .slice z zl.length cz]] (((w.alloc (.cells #[.slice a al.length ca, .slice z zl.length cz] 24)).alloc (.cells #[.int .i64 lo, .int .i64 hi] 37)).alloc (.cells #[.int .i64 0, .int .i64 0] 37))
      fun r w' => r = .returned (.iface 25 (.int .i64 (lineI al zl))) ∧ Lies w' (w.heap.size + 1 + 1) 0 0 ∧ Below w.heap.size w w' :=
    ck.mono fun _ u ⟨h1, hb⟩ => ⟨h1, Lies.later ⟨by simp [go_sem], by simp [go_sem], by simp [go_sem], by simp [go_sem], by simp [go_sem]⟩ hb, below_up h3 hb⟩
  clear ck ha hz h h3
  go_enter Try.func16, Try.ntmps16
  go_wp2_with (go_at_call 11; refine ck'.mono ?_; rintro e w1 ⟨rfl, ⟨l1, l2, l3, l4, l5⟩, hb⟩)
  exact bodyPost_ret (v := .tuple #[.agg #[.int .i64 0, .int .i64 0], .iface 25 (.int .i64 (lineI al zl))]) (by simp [results, Try.results16, go_sem, *]) rfl ⟨rfl, (hb.setCell (by simp; omega) _).setCell (by simp; omega) _⟩

theorem startO (ba oa ca bz oz cz : Nat) (al zl : List Int) (lo hi : Int) (w : World) (h : Line w ba oa bz oz al zl) : ∀ u, Below (((w.alloc (.cells #[.slice (some ⟨ba, oa, none⟩) al.length ca, .slice (some ⟨bz, oz, none⟩) zl.length cz] 24)).alloc (.cells #[.int .i64 lo, .int .i64 hi] 37)).alloc (.cells #[.int .i64 0, .int .i64 0] 37)).heap.size (((w.alloc (.cells #[.slice (some ⟨ba, oa, none⟩) al.length ca, .slice (some ⟨bz, oz, none⟩) zl.length cz] 24)).alloc (.cells #[.int .i64 lo, .int .i64 hi] 37)).alloc (.cells #[.int .i64 0, .int .i64 0] 37)) u → (u.cell? ⟨w.heap.size, 0, none⟩ = some (.slice (some ⟨ba, oa, none⟩) al.length ca) ∧ u.cell? ⟨w.heap.size, 1, none⟩ = some (.slice (some ⟨bz, oz, none⟩) zl.length cz) ∧ u.cell? ⟨w.heap.size + 1, 0, none⟩ = some (.int .i64 lo) ∧ u.cell? ⟨w.heap.size + 1, 1, none⟩ = some (.int .i64 hi)) ∧ RstO w w.heap.size ba oa bz oz al zl u := by
  intro u hb
  have h3 : Below w.heap.size w (((w.alloc (.cells #[.slice (some ⟨ba, oa, none⟩) al.length ca, .slice (some ⟨bz, oz, none⟩) zl.length cz] 24)).alloc (.cells #[.int .i64 lo, .int .i64 hi] 37)).alloc (.cells #[.int .i64 0, .int .i64 0] 37)) := (((Below.refl _ _).alloc (Nat.le_refl _) _).alloc (by simp) _).alloc (by simp; omega) _
  exact keepO hb ⟨⟨by simp [go_sem], by simp [go_sem], by simp [go_sem], by simp [go_sem]⟩, h.later h3, ⟨by simp [go_sem], by simp [go_sem], by simp [go_sem], by simp [go_sem], by simp [go_sem]⟩, h3⟩

theorem over_span (ba oa ca bz oz cz : Nat) (al zl : List Int) (lo hi : Int) (w : World) (hca : al.length ≤ ca) (h : Line w ba oa bz oz al zl) (hs : mayB lo hi = false) :
    Calls Try.prog 16 #[.agg #[.slice (some ⟨ba, oa, none⟩) al.length ca, .slice (some ⟨bz, oz, none⟩) zl.length cz], .agg #[.int .i64 lo, .int .i64 hi]] w fun r w' => r = .returned (.tuple #[.agg #[.int .i64 0, .int .i64 0], errV 3]) ∧ Below w.heap.size w w' := by
  have st := startO ba oa ca bz oz cz al zl lo hi w h
  have kC : Calls Try.prog 11 #[.agg #[.slice (some ⟨ba, oa, none⟩) al.length ca, .slice (some ⟨bz, oz, none⟩) zl.length cz]] (((w.alloc (.cells #[.slice (some ⟨ba, oa, none⟩) al.length ca, .slice (some ⟨bz, oz, none⟩) zl.length cz] 24)).alloc (.cells #[.int .i64 lo, .int .i64 hi] 37)).alloc (.cells #[.int .i64 0, .int .i64 0] 37)) fun r u => r = .returned .nilIface ∧ (u.cell? ⟨w.heap.size, 0, none⟩ = some (.slice (some ⟨ba, oa, none⟩) al.length ca) ∧ u.cell? ⟨w.heap.size, 1, none⟩ = some (.slice (some ⟨bz, oz, none⟩) zl.length cz) ∧ u.cell? ⟨w.heap.size + 1, 0, none⟩ = some (.int .i64 lo) ∧ u.cell? ⟨w.heap.size + 1, 1, none⟩ = some (.int .i64 hi)) ∧ Lies u (w.heap.size + 1 + 1) 0 0 ∧ Below w.heap.size w u :=
    (check_ok ba oa ca bz oz cz al zl _ hca (st _ (Below.refl _ _)).2.1).mono fun _ u ⟨e, hb⟩ => ⟨e, (st u hb).1, (st u hb).2.2.1, (st u hb).2.2.2⟩
  have kS : ∀ u, Lies u (w.heap.size + 1 + 1) 0 0 → Below w.heap.size w u → Calls Try.prog 34 #[.agg #[.int .i64 lo, .int .i64 hi]] u fun r u' => r = .returned (.iface 25 (.int .i64 3)) ∧ Lies u' (w.heap.size + 1 + 1) 0 0 ∧ Below w.heap.size w u' :=
    fun u l hB => (scheck_no lo hi hs u).mono fun _ _ ⟨e, hb⟩ => ⟨e, l.later hb, below_up hB hb⟩
  clear h st hs
  go_enter Try.func16, Try.ntmps16
  go_wp2_with (first
    | (go_at_call 11; refine kC.mono ?_; rintro e w1 ⟨rfl, ⟨c1, c2, c3, c4⟩, L1, hB1⟩)
    | (go_at_call 34; refine (kS _ L1 hB1).mono ?_; rintro e w2 ⟨rfl, ⟨l1, l2, l3, l4, l5⟩, hb⟩))
  exact bodyPost_ret (v := .tuple #[.agg #[.int .i64 0, .int .i64 0], .iface 25 (.int .i64 3)]) (by simp [results, Try.results16, go_sem, *]) rfl ⟨rfl, (hb.setCell (by simp; omega) _).setCell (by simp; omega) _⟩

theorem spanMay_any (lo hi : Int) (w : World) :
    Calls Try.prog 14 #[.agg #[.int .i64 lo, .int .i64 hi]] w fun e w' => e = .returned (.int .i64 (if mayB lo hi then 0 else 3)) ∧ Below w.heap.size w w' := by
  cases h : mayB lo hi
  · have hh := may_false h
    clear h
    by_cases g1 : hi < lo
    · clear hh
      go_enter Try.func14, Try.ntmps14
      go_wp2_with (go_at_call 24; refine (when_true _ _).mono ?_; rintro e w' ⟨rfl, rfl⟩)
      go_ret
      exact ⟨rfl, (Below.refl _ _).alloc (Nat.le_refl _) _⟩
    · by_cases g2 : lo < -2147483647
      · clear hh
        go_enter Try.func14, Try.ntmps14
        go_wp2_with (go_at_call 24; refine (when_true _ _).mono ?_; rintro e w' ⟨rfl, rfl⟩)
        go_ret
        exact ⟨rfl, (Below.refl _ _).alloc (Nat.le_refl _) _⟩
      · have g3 : 2147483647 < hi := by omega
        clear hh
        go_enter Try.func14, Try.ntmps14
        go_wp2_with (go_at_call 24; refine (when_true _ _).mono ?_; rintro e w' ⟨rfl, rfl⟩)
        go_ret
        exact ⟨rfl, (Below.refl _ _).alloc (Nat.le_refl _) _⟩
  · obtain ⟨h1, h2, h3⟩ := may_true h
    clear h
    have g1 : ¬ hi < lo := by omega
    have g2 : ¬ lo < -2147483647 := by omega
    have g3 : ¬ 2147483647 < hi := by omega
    go_enter Try.func14, Try.ntmps14
    go_wp2_with (go_at_call 24; refine (when_false _ _).mono ?_; rintro e w' ⟨rfl, rfl⟩)
    go_ret
    exact ⟨rfl, (Below.refl _ _).alloc (Nat.le_refl _) _⟩

end Go.Proofs.Ytngedehfaidphaa
