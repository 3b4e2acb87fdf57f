/-
  The contract of fcc.Check, itself.
-/
import Derived.Test.YtaonbbimnenehaaDoorFccE
namespace Go.Proofs.YtaonbbimnenehaaDoor
open Go.RowKit Plain

theorem own_later {u u' : World} {base e size n : Nat} {v : Value} {xs : List Value} (h : u.ownsRow base e size v n xs) (hb : Below u.heap.size u u') : u'.ownsRow base e size v n xs := by
  obtain ⟨hl, h | ⟨g, cap, cur, hv, hg, hh, hr⟩⟩ := h
  · exact ⟨hl, .inl h⟩
  · exact ⟨hl, .inr ⟨g, cap, cur, hv, hg, (hb.block g (Array.getElem?_eq_some_iff.1 hh).1).trans hh, hr⟩⟩
theorem own_lt {u : World} {base e size n : Nat} {v : Value} {xs : List Value} (h : u.ownsRow base e size v n xs) : ∀ k, v.ownBlock = some k → base ≤ k := by
  obtain ⟨hl, ⟨rfl, _⟩ | ⟨g, cap, cur, rfl, hg, _⟩⟩ := h
  · intro k e; cases e
  · intro k e; cases e; exact hg
theorem lst13 (B0 B1 B k : Nat) (hk : k < 13) : (([.func (.func 34) #[] #[.pointer (some ⟨B0, 0, none⟩)], .func (.func 36) #[] #[.pointer (some ⟨B0, 0, none⟩)], .func (.func 38) #[] #[.pointer (some ⟨B0, 0, none⟩)], .func (.func 41) #[] #[.pointer (some ⟨B0, 0, none⟩)], .func (.func 44) #[] #[.pointer (some ⟨B0, 0, none⟩)], .func (.func 47) #[] #[.pointer (some ⟨B0, 0, none⟩)]] ++ [.func (.func 34) #[] #[.pointer (some ⟨B1, 0, none⟩)], .func (.func 36) #[] #[.pointer (some ⟨B1, 0, none⟩)], .func (.func 38) #[] #[.pointer (some ⟨B1, 0, none⟩)], .func (.func 41) #[] #[.pointer (some ⟨B1, 0, none⟩)], .func (.func 44) #[] #[.pointer (some ⟨B1, 0, none⟩)], .func (.func 47) #[] #[.pointer (some ⟨B1, 0, none⟩)]] ++ [.func (.func 19) #[] #[.pointer (some ⟨B, 0, none⟩)]]) : List Value)[k]? = some (.func (.func (gCr k)) #[] (cbCr B0 B1 B k)) := by
  rcases (show k = 0 ∨ k = 1 ∨ k = 2 ∨ k = 3 ∨ k = 4 ∨ k = 5 ∨ k = 6 ∨ k = 7 ∨ k = 8 ∨ k = 9 ∨ k = 10 ∨ k = 11 ∨ k = 12 by omega) with rfl | rfl | rfl | rfl | rfl | rfl | rfl | rfl | rfl | rfl | rfl | rfl | rfl <;> rfl
theorem hent13 (k : Nat) (hk : k < 13) (args : Array Value) (w : World) : (callFunc (gCr k) args).run Tryd.prog w = .ok (.enter (gCr k) args) w := by
  rcases (show k = 0 ∨ k = 1 ∨ k = 2 ∨ k = 3 ∨ k = 4 ∨ k = 5 ∨ k = 6 ∨ k = 7 ∨ k = 8 ∨ k = 9 ∨ k = 10 ∨ k = 11 ∨ k = 12 by omega) with rfl | rfl | rfl | rfl | rfl | rfl | rfl | rfl | rfl | rfl | rfl | rfl | rfl <;> kernel_rfl
theorem own13 {u : World} {base : Nat} {v : Value} {B0 B1 B : Nat} (h : u.ownsRow base 65 1 v 13 ([.func (.func 34) #[] #[.pointer (some ⟨B0, 0, none⟩)], .func (.func 36) #[] #[.pointer (some ⟨B0, 0, none⟩)], .func (.func 38) #[] #[.pointer (some ⟨B0, 0, none⟩)], .func (.func 41) #[] #[.pointer (some ⟨B0, 0, none⟩)], .func (.func 44) #[] #[.pointer (some ⟨B0, 0, none⟩)], .func (.func 47) #[] #[.pointer (some ⟨B0, 0, none⟩)]] ++ [.func (.func 34) #[] #[.pointer (some ⟨B1, 0, none⟩)], .func (.func 36) #[] #[.pointer (some ⟨B1, 0, none⟩)], .func (.func 38) #[] #[.pointer (some ⟨B1, 0, none⟩)], .func (.func 41) #[] #[.pointer (some ⟨B1, 0, none⟩)], .func (.func 44) #[] #[.pointer (some ⟨B1, 0, none⟩)], .func (.func 47) #[] #[.pointer (some ⟨B1, 0, none⟩)]] ++ [.func (.func 19) #[] #[.pointer (some ⟨B, 0, none⟩)]])) : ∃ g cap, v = .slice (some ⟨g, 0, none⟩) 13 cap ∧ Clos u (some ⟨g, 0, none⟩) 13 gCr (cbCr B0 B1 B) := by
  obtain ⟨hl, ⟨_, h⟩ | ⟨g, cap, cur, rfl, hg, hh, h1, h2, h3, h4⟩⟩ := h
  · cases h
  · refine ⟨g, cap, rfl, .inr ⟨g, 0, rfl, fun k hk => ?_⟩⟩
    have := lst13 B0 B1 B k hk
    rw [← h4, List.getElem?_take] at this
    simp only [World.cell?, hh, Nat.zero_add]
    simp only [Option.isSome_none, Bool.false_eq_true, if_false]
    rw [if_pos (by omega)] at this
    simpa using this
theorem infoF' : ∃ i, Tryd.prog.info? 65 = some i ∧ i.zero = some Value.nilFunc ∧ i.size = 1 ∧ i.bytes = 8 := by
  have h := infoF
  cases hh : Tryd.prog.info? 65 with
  | none => rw [hh] at h; cases h
  | some i =>
    rw [hh] at h
    simp only [Option.map_some, Option.some.injEq, Prod.mk.injEq] at h
    exact ⟨i, rfl, h.1, h.2.1, h.2.2⟩
set_option maxHeartbeats 4000000 in
theorem craftCheck_any (a0 a1 a2 a3 a4 a5 a6 a7 a8 a9 a10 a11 a14 : Int) (p q : Option Addr) (al zl : List Int) (cn cm : Nat) (b0 b1 b2 b3 b4 b5 b6 b7 b8 b9 b10 b11 b14 : Int) (r s : Option Addr) (bl yl : List Int) (dn dm : Nat) (c0 c1 : Int) (w : World) (hg : GV w)
    (hla : al.length ≤ 9223372036854775807 ∧ zl.length ≤ 9223372036854775807 ∧ al.length ≤ cn ∧ Lst w p al ∧ Lst w q zl) (hlb : bl.length ≤ 9223372036854775807 ∧ yl.length ≤ 9223372036854775807 ∧ bl.length ≤ dn ∧ Lst w r bl ∧ Lst w s yl) :
    Calls Tryd.prog 9 #[.agg #[.int .i64 a0, .int .i64 a1, .int .i64 a2, .int .i64 a3, .int .i64 a4, .int .i64 a5, .int .i64 a6, .int .i64 a7, .int .i64 a8, .int .i64 a9, .int .i64 a10, .int .i64 a11, .slice p al.length cn, .slice q zl.length cm, .int .i64 a14, .int .i64 b0, .int .i64 b1, .int .i64 b2, .int .i64 b3, .int .i64 b4, .int .i64 b5, .int .i64 b6, .int .i64 b7, .int .i64 b8, .int .i64 b9, .int .i64 b10, .int .i64 b11, .slice r bl.length dn, .slice s yl.length dm, .int .i64 b14, .int .i64 c0, .int .i64 c1]] w fun e w' => e = .returned (errV (fstN (eCr a0 a1 a2 a3 a4 a5 a6 a7 a8 a9 a10 a11 a14 al zl b0 b1 b2 b3 b4 b5 b6 b7 b8 b9 b10 b11 b14 bl yl c0 c1) 13)) ∧ Below w.heap.size w w' := by
  have HG := ahide hg
  have HLA := ahide hla
  have HLB := ahide hlb
  have HC0 : Hid (CrH (w.alloc (.cells #[.int .i64 a0, .int .i64 a1, .int .i64 a2, .int .i64 a3, .int .i64 a4, .int .i64 a5, .int .i64 a6, .int .i64 a7, .int .i64 a8, .int .i64 a9, .int .i64 a10, .int .i64 a11, .slice p al.length cn, .slice q zl.length cm, .int .i64 a14, .int .i64 b0, .int .i64 b1, .int .i64 b2, .int .i64 b3, .int .i64 b4, .int .i64 b5, .int .i64 b6, .int .i64 b7, .int .i64 b8, .int .i64 b9, .int .i64 b10, .int .i64 b11, .slice r bl.length dn, .slice s yl.length dm, .int .i64 b14, .int .i64 c0, .int .i64 c1] 29)) w.heap.size [.int .i64 a0, .int .i64 a1, .int .i64 a2, .int .i64 a3, .int .i64 a4, .int .i64 a5, .int .i64 a6, .int .i64 a7, .int .i64 a8, .int .i64 a9, .int .i64 a10, .int .i64 a11, .slice p al.length cn, .slice q zl.length cm, .int .i64 a14, .int .i64 b0, .int .i64 b1, .int .i64 b2, .int .i64 b3, .int .i64 b4, .int .i64 b5, .int .i64 b6, .int .i64 b7, .int .i64 b8, .int .i64 b9, .int .i64 b10, .int .i64 b11, .slice r bl.length dn, .slice s yl.length dm, .int .i64 b14, .int .i64 c0, .int .i64 c1]) := ahide (World.alloc_heap_new w _)
  have HR : Hid ((w.alloc (.cells #[.int .i64 a0, .int .i64 a1, .int .i64 a2, .int .i64 a3, .int .i64 a4, .int .i64 a5, .int .i64 a6, .int .i64 a7, .int .i64 a8, .int .i64 a9, .int .i64 a10, .int .i64 a11, .slice p al.length cn, .slice q zl.length cm, .int .i64 a14, .int .i64 b0, .int .i64 b1, .int .i64 b2, .int .i64 b3, .int .i64 b4, .int .i64 b5, .int .i64 b6, .int .i64 b7, .int .i64 b8, .int .i64 b9, .int .i64 b10, .int .i64 b11, .slice r bl.length dn, .slice s yl.length dm, .int .i64 b14, .int .i64 c0, .int .i64 c1] 29)).rangeAt w.heap.size 0 [.int .i64 a0, .int .i64 a1, .int .i64 a2, .int .i64 a3, .int .i64 a4, .int .i64 a5, .int .i64 a6, .int .i64 a7, .int .i64 a8, .int .i64 a9, .int .i64 a10, .int .i64 a11, .slice p al.length cn, .slice q zl.length cm, .int .i64 a14, .int .i64 b0, .int .i64 b1, .int .i64 b2, .int .i64 b3, .int .i64 b4, .int .i64 b5, .int .i64 b6, .int .i64 b7, .int .i64 b8, .int .i64 b9, .int .i64 b10, .int .i64 b11, .slice r bl.length dn, .slice s yl.length dm, .int .i64 b14]) := ahide (range_sub (n := 30) HC0.out.range 0)
  have HB0 : Hid (Below w.heap.size w (w.alloc (.cells #[.int .i64 a0, .int .i64 a1, .int .i64 a2, .int .i64 a3, .int .i64 a4, .int .i64 a5, .int .i64 a6, .int .i64 a7, .int .i64 a8, .int .i64 a9, .int .i64 a10, .int .i64 a11, .slice p al.length cn, .slice q zl.length cm, .int .i64 a14, .int .i64 b0, .int .i64 b1, .int .i64 b2, .int .i64 b3, .int .i64 b4, .int .i64 b5, .int .i64 b6, .int .i64 b7, .int .i64 b8, .int .i64 b9, .int .i64 b10, .int .i64 b11, .slice r bl.length dn, .slice s yl.length dm, .int .i64 b14, .int .i64 c0, .int .i64 c1] 29))) := ahide (abelow_alloc _ _)
  have hia := idx_a (.int .i64 a0) (.int .i64 a1) (.int .i64 a2) (.int .i64 a3) (.int .i64 a4) (.int .i64 a5) (.int .i64 a6) (.int .i64 a7) (.int .i64 a8) (.int .i64 a9) (.int .i64 a10) (.int .i64 a11) (.slice p al.length cn) (.slice q zl.length cm) (.int .i64 a14) (.int .i64 b0) (.int .i64 b1) (.int .i64 b2) (.int .i64 b3) (.int .i64 b4) (.int .i64 b5) (.int .i64 b6) (.int .i64 b7) (.int .i64 b8) (.int .i64 b9) (.int .i64 b10) (.int .i64 b11) (.slice r bl.length dn) (.slice s yl.length dm) (.int .i64 b14)
  have hib := idx_b (.int .i64 a0) (.int .i64 a1) (.int .i64 a2) (.int .i64 a3) (.int .i64 a4) (.int .i64 a5) (.int .i64 a6) (.int .i64 a7) (.int .i64 a8) (.int .i64 a9) (.int .i64 a10) (.int .i64 a11) (.slice p al.length cn) (.slice q zl.length cm) (.int .i64 a14) (.int .i64 b0) (.int .i64 b1) (.int .i64 b2) (.int .i64 b3) (.int .i64 b4) (.int .i64 b5) (.int .i64 b6) (.int .i64 b7) (.int .i64 b8) (.int .i64 b9) (.int .i64 b10) (.int .i64 b11) (.slice r bl.length dn) (.slice s yl.length dm) (.int .i64 b14)
  have HCS := ahide (closures_say a0 a1 a2 a3 a4 a5 a6 a7 a8 a9 a10 a11 a14 p q al zl cn cm b0 b1 b2 b3 b4 b5 b6 b7 b8 b9 b10 b11 b14 r s bl yl dn dm c0 c1)
  obtain ⟨i0, hi, hz0, hz1, hz2⟩ := infoF'
  clear hg hla hlb
  go_enter Tryd.func9, Tryd.ntmps9
  go_wp2_with (first
    | (refine isLoadX _ rfl ?_; refine wpList_load_mid rfl 27 (.tmp 6) rfl w.heap.size 0 rfl [.int .i64 a0, .int .i64 a1, .int .i64 a2, .int .i64 a3, .int .i64 a4, .int .i64 a5, .int .i64 a6, .int .i64 a7, .int .i64 a8, .int .i64 a9, .int .i64 a10, .int .i64 a11, .slice p al.length cn, .slice q zl.length cm, .int .i64 a14, .int .i64 b0, .int .i64 b1, .int .i64 b2, .int .i64 b3, .int .i64 b4, .int .i64 b5, .int .i64 b6, .int .i64 b7, .int .i64 b8, .int .i64 b9, .int .i64 b10, .int .i64 b11, .slice r bl.length dn, .slice s yl.length dm, .int .i64 b14] _ HR.out Tryd.underlying27 rfl infoX ?_))
  refine wp_loop_rounds 3 ?_
  rw [rounds_succ]
  go_wp2_with (first
    | (go_at_call 18; refine (axisChecks_ab a0 a1 a2 a3 a4 a5 a6 a7 a8 a9 a10 a11 a14 p q al.length zl.length cn cm _).mono ?_; rintro e w1 ⟨B0, G0, rfl, hA, hL0, hb1⟩; have HA1 := ahide hA; have HL0 := ahide hL0; have HB1 := ahide (abelow_up (abelow_up HB0.out (abelow_alloc _ _)) hb1); have HC1 := ahide ((HC0.out.later (abelow_alloc _ _)).later hb1); clear hA hL0 hb1)
    | (at_builtin; refine wpList_append_own _ rfl _ _ 61 rfl w.heap.size 65 i0 Value.nilFunc 1 8 Tryd.underlying61 hi hz0 hz1 hz2 rfl (by decide) _ _ _ rfl (nilf_own _ _) ⟨G0, 0, none⟩ 6 6 [.func (.func 34) #[] #[.pointer (some ⟨B0, 0, none⟩)], .func (.func 36) #[] #[.pointer (some ⟨B0, 0, none⟩)], .func (.func 38) #[] #[.pointer (some ⟨B0, 0, none⟩)], .func (.func 41) #[] #[.pointer (some ⟨B0, 0, none⟩)], .func (.func 44) #[] #[.pointer (some ⟨B0, 0, none⟩)], .func (.func 47) #[] #[.pointer (some ⟨B0, 0, none⟩)]] rfl rfl HL0.out (func_one _ (by simp)) (by unfold maxLen; omega) (by omega) HB1.out.size ?_; intro v1 w2 ho1 hg1 hn1; have HO1 := ahide ho1; have HA2 := ahide (HA1.out.grown (nilf_own w.heap.size w1) hg1); have HC2 := ahide (HC1.out.grown (nilf_own w.heap.size w1) hg1); have HB2 := ahide (HB1.out.grown hg1 HB1.out.size (own_lt (nilf_own w.heap.size w1))); clear ho1 hg1 hn1))
  rw [rounds_succ]
  go_wp2_with (first
    | (go_at_call 18; refine (axisChecks_ab b0 b1 b2 b3 b4 b5 b6 b7 b8 b9 b10 b11 b14 r s bl.length yl.length dn dm _).mono ?_; rintro e w3 ⟨B1, G1, rfl, hA, hL0, hb3⟩; have HD3 := ahide hA; have HL1 := ahide hL0; have HB3 := ahide (abelow_up (abelow_up HB2.out (abelow_alloc _ _)) hb3); have HC3 := ahide ((HC2.out.later (abelow_alloc _ _)).later hb3); have HA3 := ahide ((HA2.out.later (abelow_alloc _ _)).later hb3); have HO3 := ahide (own_later (own_later HO1.out (abelow_alloc _ _)) hb3); clear hA hL0 hb3)
    | (at_builtin; refine wpList_append_own _ rfl _ _ 61 rfl w.heap.size 65 i0 Value.nilFunc 1 8 Tryd.underlying61 hi hz0 hz1 hz2 rfl (by decide) _ _ _ rfl (HO3.out) ⟨G1, 0, none⟩ 6 6 [.func (.func 34) #[] #[.pointer (some ⟨B1, 0, none⟩)], .func (.func 36) #[] #[.pointer (some ⟨B1, 0, none⟩)], .func (.func 38) #[] #[.pointer (some ⟨B1, 0, none⟩)], .func (.func 41) #[] #[.pointer (some ⟨B1, 0, none⟩)], .func (.func 44) #[] #[.pointer (some ⟨B1, 0, none⟩)], .func (.func 47) #[] #[.pointer (some ⟨B1, 0, none⟩)]] rfl rfl HL1.out (func_one _ (by simp)) (by unfold maxLen; omega) (by omega) HB3.out.size ?_; intro v2 w4 ho4 hg4 hn4; have HO4 := ahide ho4; have HA4 := ahide (HA3.out.grown HO3.out hg4); have HD4 := ahide (HD3.out.grown HO3.out hg4); have HC4 := ahide (HC3.out.grown HO3.out hg4); have HB4 := ahide (HB3.out.grown hg4 HB3.out.size (own_lt HO3.out)); clear ho4 hg4 hn4))
  rw [rounds_succ]
  go_wp2_with (first
    | (at_builtin; refine wpList_append_own _ rfl _ _ 61 rfl w.heap.size 65 i0 Value.nilFunc 1 8 Tryd.underlying61 hi hz0 hz1 hz2 rfl (by decide) _ _ _ rfl (own_later HO4.out (abelow_alloc _ _)) ⟨w4.heap.size, 0, none⟩ 1 1 [.func (.func 19) #[] #[.pointer (some ⟨w.heap.size, 0, none⟩)]] rfl rfl (cell_one_new _ _ _) (func_one _ (by simp)) (by unfold maxLen; omega) (by omega) (abelow_up HB4.out (abelow_alloc _ _)).size ?_; intro v3 w6 ho6 hg6 hn6; have HA6 := ahide ((HA4.out.later (abelow_alloc _ _)).grown (own_later HO4.out (abelow_alloc _ _)) hg6); have HD6 := ahide ((HD4.out.later (abelow_alloc _ _)).grown (own_later HO4.out (abelow_alloc _ _)) hg6); have HC6 := ahide ((HC4.out.later (abelow_alloc _ _)).grown (own_later HO4.out (abelow_alloc _ _)) hg6); have HB6 := ahide ((abelow_up HB4.out (abelow_alloc _ _)).grown hg6 (abelow_up HB4.out (abelow_alloc _ _)).size (own_lt HO4.out)); obtain ⟨g9, cap9, rfl, hcl9⟩ := own13 ho6; have HCL := ahide hcl9; clear ho6 hg6 hn6 hcl9)
    | (go_at_call 22; refine (firstError_any (some ⟨g9, 0, none⟩) 13 cap9 gCr (cbCr B0 B1 w.heap.size) (eCr a0 a1 a2 a3 a4 a5 a6 a7 a8 a9 a10 a11 a14 al zl b0 b1 b2 b3 b4 b5 b6 b7 b8 b9 b10 b11 b14 bl yl c0 c1) (by decide) w6 HCL.out (HG.out.later HB6.out) hent13 (HCS.out B0 B1 w.heap.size w w6 HB6.out HA6.out HD6.out HC6.out HLA.out HLB.out)).mono ?_; rintro e w7 ⟨rfl, hb7⟩))
  go_ret
  exact ⟨rfl, abelow_up HB6.out hb7⟩

end Go.Proofs.YtaonbbimnenehaaDoor
