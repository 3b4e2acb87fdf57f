/-
  Contract of fulmarref.Over: it returns what the plain words say, and nothing that was there has turned.
-/
import Derived.Test.YtngedehfaidphaaOverC
import Derived.BigRegion
namespace Go.Proofs.Ytngedehfaidphaa
open Go.RowKit Plain

/-- What lies between two rounds of fulmarref.Over. -/
def InvR (w : World) (O ba oa bz oz : Nat) (al zl : List Int) (x y : Int) (u : World) : Prop := Line u ba oa bz oz al zl ∧ Lies u O x y ∧ Lies u (w.heap.size + 1 + 1) 0 0 ∧ Below w.heap.size w u
theorem InvR.later {w : World} {O ba oa bz oz : Nat} {al zl : List Int} {x y : Int} {u u' : World} (h : InvR w O ba oa bz oz al zl x y u) (hb : Below u.heap.size u u') : InvR w O ba oa bz oz al zl x y u' :=
  ⟨h.1.later hb, h.2.1.later hb, h.2.2.1.later hb, below_up h.2.2.2 hb⟩
theorem Lies.setSame {w : World} {b : Nat} {x y : Int} (h : Lies w b x y) (u v : Int) : Lies ((w.setCell ⟨b, 0, none⟩ (.int .i64 u)).setCell ⟨b, 1, none⟩ (.int .i64 v)) b u v := by
  obtain ⟨h1, h2, h3, h4, h5⟩ := h
  exact ⟨by simp [go_sem, h1], by simp [go_sem, h2], by simp [go_sem, h3], by simp [go_sem, h4], by simpa [go_sem] using h5⟩
theorem Lies.setElse {w : World} {b c o : Nat} {x y : Int} {v : Value} (h : Lies w b x y) (hc : c ≠ b) : Lies (w.setCell ⟨c, o, none⟩ v) b x y := by
  obtain ⟨h1, h2, h3, h4, h5⟩ := h
  exact ⟨cell_else h1 hc, cell_else h2 hc, by simp [go_sem, h3], by simp [go_sem, h4], by simpa [go_sem] using h5⟩
theorem InvR.set {w : World} {O ba oa bz oz : Nat} {al zl : List Int} {x y : Int} {u : World} (h : InvR w O ba oa bz oz al zl x y u) (x' y' : Int) (e2 : O ≠ w.heap.size + 1 + 1) (e3 : O ≠ ba) (e4 : O ≠ bz) (e5 : w.heap.size ≤ O) :
    InvR w O ba oa bz oz al zl x' y' ((u.setCell ⟨O, 0, none⟩ (.int .i64 x')).setCell ⟨O, 1, none⟩ (.int .i64 y')) :=
  ⟨⟨h.1.may, fun k hk => cell_else (cell_else (h.1.at' k hk) e3) e3, fun k hk => cell_else (cell_else (h.1.is' k hk) e4) e4⟩, h.2.1.setSame _ _, (h.2.2.1.setElse e2).setElse e2, (h.2.2.2.setCell (p := ⟨O, 0, none⟩) e5 _).setCell (p := ⟨O, 1, none⟩) e5 _⟩

set_option maxRecDepth 100000 in
set_option maxHeartbeats 2000000 in
theorem refOver_ok (ba oa ca bz oz cz : Nat) (al zl : List Int) (lo hi : Int) (w : World) (h : Line w ba oa bz oz al zl) :
    Calls Try.prog 15 #[.agg #[.slice (some ⟨ba, oa, none⟩) al.length ca, .slice (some ⟨bz, oz, none⟩) zl.length cz], .agg #[.int .i64 lo, .int .i64 hi]] w
      fun r w' => r = .returned (.agg #[.int .i64 (overLo al zl lo hi al.length), .int .i64 (overHi al zl lo hi al.length)]) ∧ Below w.heap.size w w' := by
  have BL : Hid (ba < w.heap.size ∧ bz < w.heap.size) := ⟨World.block_lt_of_cell? w ⟨ba, oa + 0, none⟩ (h.at' 0 (by have := h.len; omega)), World.block_lt_of_cell? w ⟨bz, oz + 0, none⟩ (h.is' 0 (by have := h.len; omega))⟩
  have HL : Hid (al.length = zl.length ∧ al.length ≤ 8) := ⟨h.len.2.2, h.len.2.1⟩
  have Z : Hid (∀ u, Below (((w.alloc (.cells #[.slice (some ⟨ba, oa, none⟩) al.length ca, .slice (some ⟨bz, oz, none⟩) zl.length cz] 24)).alloc (.cells #[.int .i64 lo, .int .i64 hi] 37)).alloc (.cells #[.int .i64 0, .int .i64 0] 37)).heap.size (((w.alloc (.cells #[.slice (some ⟨ba, oa, none⟩) al.length ca, .slice (some ⟨bz, oz, none⟩) zl.length cz] 24)).alloc (.cells #[.int .i64 lo, .int .i64 hi] 37)).alloc (.cells #[.int .i64 0, .int .i64 0] 37)) u → (u.cell? ⟨w.heap.size, 0, none⟩ = some (.slice (some ⟨ba, oa, none⟩) al.length ca) ∧ u.cell? ⟨w.heap.size, 1, none⟩ = some (.slice (some ⟨bz, oz, none⟩) zl.length cz) ∧ u.cell? ⟨w.heap.size + 1, 0, none⟩ = some (.int .i64 lo) ∧ u.cell? ⟨w.heap.size + 1, 1, none⟩ = some (.int .i64 hi)) ∧ RstO w w.heap.size ba oa bz oz al zl u) := startO ba oa ca bz oz cz al zl lo hi w h
  have kA : ∀ u (x : Int), (u.cell? ⟨w.heap.size, 0, none⟩ = some (.slice (some ⟨ba, oa, none⟩) al.length ca) ∧ u.cell? ⟨w.heap.size, 1, none⟩ = some (.slice (some ⟨bz, oz, none⟩) zl.length cz) ∧ u.cell? ⟨w.heap.size + 1, 0, none⟩ = some (.int .i64 lo) ∧ u.cell? ⟨w.heap.size + 1, 1, none⟩ = some (.int .i64 hi)) ∧ RstO w w.heap.size ba oa bz oz al zl u →
      Calls Try.prog 8 #[.agg #[.slice (some ⟨ba, oa, none⟩) al.length ca, .slice (some ⟨bz, oz, none⟩) zl.length cz], .int .i64 x] u fun r u' => r = .returned (.int .i64 (lookI al zl x)) ∧ Below u.heap.size u u' :=
    fun u x hu => refLook_ok ba oa ca bz oz cz al zl x u hu.2.1
  clear h
  have P0 : Hid (overLo al zl lo hi 0 = mnO (lookI al zl lo) (lookI al zl hi) ∧ overHi al zl lo hi 0 = mxO (lookI al zl lo) (lookI al zl hi)) := ⟨rfl, rfl⟩
  have ka1 := fun u hu => kA u lo hu
  have ka2 := fun u hu => kA u hi hu
  clear kA
  generalize lookI al zl lo = p at *
  generalize lookI al zl hi = q at *
  have m2 := fun ts t p q w => run_min2 ts t p q w
  have x2 := fun ts t p q w => run_max2 ts t p q w
  go_enter Try.func15, Try.ntmps15
  go_upto_region 1 with fail
  go_region_held3 (fun u => (u.cell? ⟨w.heap.size, 0, none⟩ = some (.slice (some ⟨ba, oa, none⟩) al.length ca) ∧ u.cell? ⟨w.heap.size, 1, none⟩ = some (.slice (some ⟨bz, oz, none⟩) zl.length cz) ∧ u.cell? ⟨w.heap.size + 1, 0, none⟩ = some (.int .i64 lo) ∧ u.cell? ⟨w.heap.size + 1, 1, none⟩ = some (.int .i64 hi)) ∧ RstO w w.heap.size ba oa bz oz al zl u)
    (first
      | (with_reducible assumption)
      | (with_reducible apply keepO; with_reducible assumption; with_reducible assumption)
      | (refine Z.out _ ?_; exact (Below.refl _ _).drew))
    (first
      | (go_at_call_of 8 (Value.int IntKind.i64 lo); refine (ka1 _ ?_).mono ?_; (with_reducible assumption); rintro e w' ⟨rfl, hb⟩)
      | (go_at_call_of 8 (Value.int IntKind.i64 hi); refine (ka2 _ ?_).mono ?_; (with_reducible assumption); rintro e w' ⟨rfl, hb⟩))
  rename_i hH
  obtain ⟨⟨d1, d2, d3, d4⟩, R3⟩ := hH
  have Z3 : Hid (Line w' ba oa bz oz al zl ∧ Lies w' (w.heap.size + 1 + 1) 0 0 ∧ Below w.heap.size w w') := R3
  clear R3 ka1 ka2 Z
  rename World => w3
  go_upto_region 3 with fail
  obtain ⟨w5, hw5⟩ : ∃ w5, w3.alloc (.cells #[.int .i64 (mnO p q), .int .i64 (mxO p q)] 37) = w5 := ⟨_, rfl⟩
  have b5 : Below w3.heap.size w3 w5 := by rw [← hw5]; exact below_alloc _ _
  have o5 : Lies w5 w3.heap.size (mnO p q) (mxO p q) := by rw [← hw5]; exact ⟨by simp [go_sem], by simp [go_sem], by simp [go_sem], by simp [go_sem], by simp [go_sem]⟩
  rw [hw5]
  clear hw5
  have I5 : w5.cell? ⟨w.heap.size, 0, none⟩ = some (.slice (some ⟨ba, oa, none⟩) al.length ca) ∧ w5.cell? ⟨w.heap.size, 1, none⟩ = some (.slice (some ⟨bz, oz, none⟩) zl.length cz) ∧ w5.cell? ⟨w.heap.size + 1, 0, none⟩ = some (.int .i64 lo) ∧ w5.cell? ⟨w.heap.size + 1, 1, none⟩ = some (.int .i64 hi) ∧ InvR w w3.heap.size ba oa bz oz al zl (overLo al zl lo hi 0) (overHi al zl lo hi 0) w5 :=
    ⟨cell_later b5 d1, cell_later b5 d2, cell_later b5 d3, cell_later b5 d4, Z3.out.1.later b5, by rw [P0.out.1, P0.out.2]; exact o5, Z3.out.2.1.later b5, below_up Z3.out.2.2 b5⟩
  have HX : Hid (w3.heap.size ≠ w.heap.size + 1 + 1 ∧ w3.heap.size ≠ ba ∧ w3.heap.size ≠ bz ∧ w.heap.size ≤ w3.heap.size) := by
    have := Z3.out.2.1.2.2.2.2
    have := BL.out
    exact ⟨by omega, by omega, by omega, by omega⟩
  have HO : Hid (w3.heap.size ≠ w.heap.size ∧ w3.heap.size ≠ w.heap.size + 1) := by
    have := Z3.out.2.1.2.2.2.2
    exact ⟨by omega, by omega⟩
  have I5' : Hid (w5.cell? ⟨w.heap.size, 0, none⟩ = some (.slice (some ⟨ba, oa, none⟩) al.length ca) ∧ w5.cell? ⟨w.heap.size, 1, none⟩ = some (.slice (some ⟨bz, oz, none⟩) zl.length cz) ∧ w5.cell? ⟨w.heap.size + 1, 0, none⟩ = some (.int .i64 lo) ∧ w5.cell? ⟨w.heap.size + 1, 1, none⟩ = some (.int .i64 hi) ∧ InvR w w3.heap.size ba oa bz oz al zl (overLo al zl lo hi 0) (overHi al zl lo hi 0) w5) := I5
  clear I5 o5 b5 d1 d2 d3 d4 Z3 P0 BL
  go_wp2_with fail
  go_loopw [8] (fun i wr => ∃ k : Nat, k ≤ al.length ∧ i = .int .i64 k ∧ wr.cell? ⟨w.heap.size, 0, none⟩ = some (.slice (some ⟨ba, oa, none⟩) al.length ca) ∧ wr.cell? ⟨w.heap.size, 1, none⟩ = some (.slice (some ⟨bz, oz, none⟩) zl.length cz) ∧ wr.cell? ⟨w.heap.size + 1, 0, none⟩ = some (.int .i64 lo) ∧ wr.cell? ⟨w.heap.size + 1, 1, none⟩ = some (.int .i64 hi) ∧ InvR w w3.heap.size ba oa bz oz al zl (overLo al zl lo hi k) (overHi al zl lo hi k) wr) (fun i _ => al.length - (intOf i).toNat)
  case atStart => exact ⟨0, Nat.zero_le _, rfl, I5'.out⟩
  case round =>
    obtain ⟨k, hk, rfl, d1, d2, d3, d4, inv⟩ := hrel
    have HI : Hid (InvR w w3.heap.size ba oa bz oz al zl (overLo al zl lo hi k) (overHi al zl lo hi k) wr) := inv
    clear I5'
    have hl8 : al.length ≤ 8 := HL.out.2
    by_cases hlt : k < al.length
    · have hlz : k < zl.length := by have := HL.out; omega
      have a0 := inv.1.at' k hlt
      have z0 := inv.1.is' k hlz
      have s1 : overLo al zl lo hi (k + 1) = if decide (lo ≤ at0 al k) && decide (at0 al k ≤ hi) then mnO (overLo al zl lo hi k) (at0 zl k) else overLo al zl lo hi k := rfl
      have s2 : overHi al zl lo hi (k + 1) = if decide (lo ≤ at0 al k) && decide (at0 al k ≤ hi) then mxO (overHi al zl lo hi k) (at0 zl k) else overHi al zl lo hi k := rfl
      obtain ⟨_, ⟨o1, o2, o3, o4, _⟩, _, _⟩ := inv
      generalize at0 al k = ax at *
      generalize at0 zl k = zx at *
      generalize overLo al zl lo hi k = x at *
      generalize overHi al zl lo hi k = y at *
      have kb := fun w => between_any ax lo hi w
      cases hb : (decide (lo ≤ ax) && decide (ax ≤ hi))
      · rw [hb] at s1 s2
        simp only [Bool.false_eq_true, if_false] at s1 s2
        have HS : Hid (overLo al zl lo hi (k + 1) = x ∧ overHi al zl lo hi (k + 1) = y) := ⟨s1, s2⟩
        simp only [hb] at kb
        clear s1 s2 hb
        have dd : Below wr.heap.size wr wr := Below.refl _ _
        have K : Hid (∀ n, ((wr.drewN n).cell? ⟨w.heap.size, 0, none⟩ = some (.slice (some ⟨ba, oa, none⟩) al.length ca) ∧ (wr.drewN n).cell? ⟨w.heap.size, 1, none⟩ = some (.slice (some ⟨bz, oz, none⟩) zl.length cz) ∧ (wr.drewN n).cell? ⟨w.heap.size + 1, 0, none⟩ = some (.int .i64 lo) ∧ (wr.drewN n).cell? ⟨w.heap.size + 1, 1, none⟩ = some (.int .i64 hi)) ∧ InvR w w3.heap.size ba oa bz oz al zl x y (wr.drewN n)) := fun n => ⟨⟨cell_later (below_drewN dd n) d1, cell_later (below_drewN dd n) d2, cell_later (below_drewN dd n) d3, cell_later (below_drewN dd n) d4⟩, HI.out.later (below_drewN dd n)⟩
        clear dd
        go_wp2_with fail
        go_quiet ((go_at_call 33; exact Calls.quiet_of_same (kb _)))
        go_wp2_with fail
        go_roundw
        case rel =>
          refine ⟨k + 1, by omega, by go_num, (K.out _).1.1, (K.out _).1.2.1, (K.out _).1.2.2.1, (K.out _).1.2.2.2, ?_⟩
          rw [HS.out.1, HS.out.2]; exact (K.out _).2
        case measure => simp [intOf]; omega
      · rw [hb] at s1 s2
        simp only [if_true] at s1 s2
        have HS : Hid (overLo al zl lo hi (k + 1) = mnO x zx ∧ overHi al zl lo hi (k + 1) = mxO y zx) := ⟨s1, s2⟩
        simp only [hb] at kb
        clear s1 s2 hb
        go_upto_region 6 with fail
        go_quiet ((go_at_call 33; exact Calls.quiet_of_same (kb _)))
        go_upto_region 7 with fail
        obtain ⟨w7, hw7⟩ : ∃ w7, wr.drewN nq = w7 := ⟨_, rfl⟩
        have b7 : Below wr.heap.size wr w7 := by rw [← hw7]; exact below_drewN (Below.refl _ _) _
        rw [hw7]
        clear hw7
        have I7 : Hid (InvR w w3.heap.size ba oa bz oz al zl x y w7) := HI.out.later b7
        have e1 := cell_later b7 d1
        have e2 := cell_later b7 d2
        have e3 := cell_later b7 d3
        have e4 := cell_later b7 d4
        have e5 := cell_later b7 z0
        have e6 := I7.out.2.1.1
        have e7 := I7.out.2.1.2.1
        have e8 := I7.out.2.1.2.2.1
        have e9 := I7.out.2.1.2.2.2.1
        clear b7 d1 d2 d3 d4 z0 a0 o1 o2 o3 o4 HI kb
        have n1 : w3.heap.size ≠ bz := HX.out.2.2.1
        have n2 : w3.heap.size ≠ w.heap.size := HO.out.1
        have f1 : (w7.setCell ⟨w3.heap.size, 0, none⟩ (.int .i64 (mnO x zx))).cell? ⟨bz, oz + k, none⟩ = some (.int .i64 zx) := cell_else e5 n1
        have f2 : (w7.setCell ⟨w3.heap.size, 1, none⟩ (.int .i64 (mxO y zx))).cell? ⟨bz, oz + k, none⟩ = some (.int .i64 zx) := cell_else e5 n1
        have f3 : (w7.setCell ⟨w3.heap.size, 0, none⟩ (.int .i64 (mnO x zx))).cell? ⟨w.heap.size, 1, none⟩ = some (.slice (some ⟨bz, oz, none⟩) zl.length cz) := cell_else e2 n2
        have f4 : (w7.setCell ⟨w3.heap.size, 1, none⟩ (.int .i64 (mxO y zx))).cell? ⟨w.heap.size, 1, none⟩ = some (.slice (some ⟨bz, oz, none⟩) zl.length cz) := cell_else e2 n2
        have n0 : (0 : Int) ≤ (k : Int) := by omega
        have n3 : (k : Int) < (zl.length : Int) := by omega
        have K : Hid (∀ v, v = (w7.setCell ⟨w3.heap.size, 0, none⟩ (.int .i64 (mnO x zx))).setCell ⟨w3.heap.size, 1, none⟩ (.int .i64 (mxO y zx)) → (v.cell? ⟨w.heap.size, 0, none⟩ = some (.slice (some ⟨ba, oa, none⟩) al.length ca) ∧ v.cell? ⟨w.heap.size, 1, none⟩ = some (.slice (some ⟨bz, oz, none⟩) zl.length cz) ∧ v.cell? ⟨w.heap.size + 1, 0, none⟩ = some (.int .i64 lo) ∧ v.cell? ⟨w.heap.size + 1, 1, none⟩ = some (.int .i64 hi)) ∧ InvR w w3.heap.size ba oa bz oz al zl (mnO x zx) (mxO y zx) v) := by
          rintro v rfl
          exact ⟨⟨cell_else (cell_else e1 n2) n2, cell_else (cell_else e2 n2) n2, cell_else (cell_else e3 HO.out.2) HO.out.2, cell_else (cell_else e4 HO.out.2) HO.out.2⟩, I7.out.set _ _ HX.out.1 HX.out.2.1 HX.out.2.2.1 HX.out.2.2.2⟩
        go_region
        clear e1 e2 e3 e4 e5 e6 e7 e8 e9 f1 f2 f3 f4
        go_wp2_with fail
        go_roundw
        case rel =>
          have K2 := K.out _ rfl
          have dr := (Below.refl ((w7.setCell ⟨w3.heap.size, 0, none⟩ (.int .i64 (mnO x zx))).setCell ⟨w3.heap.size, 1, none⟩ (.int .i64 (mxO y zx))).heap.size ((w7.setCell ⟨w3.heap.size, 0, none⟩ (.int .i64 (mnO x zx))).setCell ⟨w3.heap.size, 1, none⟩ (.int .i64 (mxO y zx)))).drew
          refine ⟨k + 1, by omega, by go_num, cell_later dr K2.1.1, cell_later dr K2.1.2.1, cell_later dr K2.1.2.2.1, cell_later dr K2.1.2.2.2, ?_⟩
          rw [HS.out.1, HS.out.2]; exact K2.2.later dr
        case measure => simp [intOf]; omega
    · obtain rfl : k = al.length := by omega
      obtain ⟨_, ⟨o1, o2, o3, o4, _⟩, ⟨r1, r2, r3, r4, r5⟩, hB⟩ := inv
      generalize g1 : overLo al zl lo hi al.length = x at o1
      generalize g2 : overHi al zl lo hi al.length = y at o2
      have HG : Hid (overLo al zl lo hi al.length = x ∧ overHi al zl lo hi al.length = y) := ⟨g1, g2⟩
      clear HI g1 g2
      go_wp2_with fail
      exact bodyPost_ret (v := .agg #[.int .i64 x, .int .i64 y]) (by simp [results, Try.results15, go_sem, *]) rfl ⟨by rw [HG.out.1, HG.out.2], (hB.setCell (by simp; omega) _).setCell (by simp; omega) _⟩

end Go.Proofs.Ytngedehfaidphaa
