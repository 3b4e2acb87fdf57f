/-
  The law TopLine, walked at the lines that may be, where they fall somewhere.
-/
import Derived.Test.YtngedehfaidphaaTopN
namespace Go.Proofs.Ytngedehfaidphaa
open Go.RowKit Plain

set_option maxRecDepth 100000 in
set_option maxHeartbeats 4000000 in
theorem topLine_fall (ba oa ca bz oz cz : Nat) (al zl : List Int) (x y : Int) (w : World) (hca : al.length ≤ ca) (h : Line w ba oa bz oz al zl) (hrs : risesU zl (zl.length - 1) = false) :
    Calls Try.prog 6 #[.agg #[.slice (some ⟨ba, oa, none⟩) al.length ca, .slice (some ⟨bz, oz, none⟩) zl.length cz], .int .i64 x, .int .i64 y] w fun r w' => r = .returned (.bool true) ∧ Below w.heap.size w w' := by
  have hl := h.len
  have PL := (line_of h.may).2.1
  have R0 : RL w w.heap.size ba oa bz oz al zl (w.alloc (.cells #[.slice (some ⟨ba, oa, none⟩) al.length ca, .slice (some ⟨bz, oz, none⟩) zl.length cz] 24)) := ⟨h.later (below_alloc _ _), below_alloc _ _, World.block_lt_of_cell? w ⟨ba, oa + 0, none⟩ (h.at' 0 (by omega)), World.block_lt_of_cell? w ⟨bz, oz + 0, none⟩ (h.is' 0 (by omega))⟩
  have c0 : (w.alloc (.cells #[.slice (some ⟨ba, oa, none⟩) al.length ca, .slice (some ⟨bz, oz, none⟩) zl.length cz] 24)).cell? ⟨w.heap.size, 0, none⟩ = some (.slice (some ⟨ba, oa, none⟩) al.length ca) := by simp [go_sem]
  have c1 : (w.alloc (.cells #[.slice (some ⟨ba, oa, none⟩) al.length ca, .slice (some ⟨bz, oz, none⟩) zl.length cz] 24)).cell? ⟨w.heap.size, 1, none⟩ = some (.slice (some ⟨bz, oz, none⟩) zl.length cz) := by simp [go_sem]
  have kD : ∀ u, (u.cell? ⟨w.heap.size, 0, none⟩ = some (.slice (some ⟨ba, oa, none⟩) al.length ca) ∧ u.cell? ⟨w.heap.size, 1, none⟩ = some (.slice (some ⟨bz, oz, none⟩) zl.length cz)) ∧ RL w w.heap.size ba oa bz oz al zl u →
      Calls Try.prog 21 #[] u fun r u' => r = .returned (.bool true) ∧ (u'.cell? ⟨w.heap.size, 0, none⟩ = some (.slice (some ⟨ba, oa, none⟩) al.length ca) ∧ u'.cell? ⟨w.heap.size, 1, none⟩ = some (.slice (some ⟨bz, oz, none⟩) zl.length cz)) ∧ RL w w.heap.size ba oa bz oz al zl u' :=
    fun u hu => (lined_any u).mono fun _ _ ⟨e, hb⟩ => ⟨e, keepRL hb hu⟩
  have kM : ∀ u, (u.cell? ⟨w.heap.size, 0, none⟩ = some (.slice (some ⟨ba, oa, none⟩) al.length ca) ∧ u.cell? ⟨w.heap.size, 1, none⟩ = some (.slice (some ⟨bz, oz, none⟩) zl.length cz)) ∧ RL w w.heap.size ba oa bz oz al zl u →
      Calls Try.prog 7 #[.agg #[.slice (some ⟨ba, oa, none⟩) al.length ca, .slice (some ⟨bz, oz, none⟩) zl.length cz]] u fun r u' => r = .returned (.int .i64 0) ∧ (u'.cell? ⟨w.heap.size, 0, none⟩ = some (.slice (some ⟨ba, oa, none⟩) al.length ca) ∧ u'.cell? ⟨w.heap.size, 1, none⟩ = some (.slice (some ⟨bz, oz, none⟩) zl.length cz)) ∧ RL w w.heap.size ba oa bz oz al zl u' :=
    fun u hu => (lineMay_any _ _ ca cz al zl u (by omega) (by omega) hu.2.1.lstA hu.2.1.lstZ).mono fun _ _ ⟨e, hb⟩ => ⟨by rw [e, h.may], keepRL hb hu⟩
  have kL : ∀ v u, (u.cell? ⟨w.heap.size, 0, none⟩ = some (.slice (some ⟨ba, oa, none⟩) al.length ca) ∧ u.cell? ⟨w.heap.size, 1, none⟩ = some (.slice (some ⟨bz, oz, none⟩) zl.length cz)) ∧ RL w w.heap.size ba oa bz oz al zl u →
      Calls Try.prog 9 #[.agg #[.slice (some ⟨ba, oa, none⟩) al.length ca, .slice (some ⟨bz, oz, none⟩) zl.length cz], .int .i64 v] u fun r u' => r = .returned (.tuple #[.int .i64 (lookI al zl v), .nilIface]) ∧ (u'.cell? ⟨w.heap.size, 0, none⟩ = some (.slice (some ⟨ba, oa, none⟩) al.length ca) ∧ u'.cell? ⟨w.heap.size, 1, none⟩ = some (.slice (some ⟨bz, oz, none⟩) zl.length cz)) ∧ RL w w.heap.size ba oa bz oz al zl u' :=
    fun v u hu => (look_ok ba oa ca bz oz cz al zl v u hca hu.2.1).mono fun _ _ ⟨e, hb⟩ => ⟨e, keepRL hb hu⟩
  have kR : ∀ u, (u.cell? ⟨w.heap.size, 0, none⟩ = some (.slice (some ⟨ba, oa, none⟩) al.length ca) ∧ u.cell? ⟨w.heap.size, 1, none⟩ = some (.slice (some ⟨bz, oz, none⟩) zl.length cz)) ∧ RL w w.heap.size ba oa bz oz al zl u →
      Calls Try.prog 12 #[.agg #[.slice (some ⟨ba, oa, none⟩) al.length ca, .slice (some ⟨bz, oz, none⟩) zl.length cz]] u fun r u' => r = .returned (.bool (risesU zl (zl.length - 1))) ∧ (u'.cell? ⟨w.heap.size, 0, none⟩ = some (.slice (some ⟨ba, oa, none⟩) al.length ca) ∧ u'.cell? ⟨w.heap.size, 1, none⟩ = some (.slice (some ⟨bz, oz, none⟩) zl.length cz)) ∧ RL w w.heap.size ba oa bz oz al zl u' :=
    fun u hu => (rises_any _ _ ca cz al zl u (by omega) (by omega) hca hu.2.1.lstA hu.2.1.lstZ).mono fun _ _ ⟨e, hb⟩ => ⟨by rw [e, h.may]; simp, keepRL hb hu⟩
  have kO : ∀ u, (u.cell? ⟨w.heap.size, 0, none⟩ = some (.slice (some ⟨ba, oa, none⟩) al.length ca) ∧ u.cell? ⟨w.heap.size, 1, none⟩ = some (.slice (some ⟨bz, oz, none⟩) zl.length cz)) ∧ RL w w.heap.size ba oa bz oz al zl u →
      Calls Try.prog 16 #[.agg #[.slice (some ⟨ba, oa, none⟩) al.length ca, .slice (some ⟨bz, oz, none⟩) zl.length cz], .agg #[.int .i64 (ofI (mnO x y)), .int .i64 (ofI (mxO x y))]] u fun r u' => r = .returned (.tuple #[.agg #[.int .i64 (overLo al zl (ofI (mnO x y)) (ofI (mxO x y)) al.length), .int .i64 (overHi al zl (ofI (mnO x y)) (ofI (mxO x y)) al.length)], .nilIface]) ∧ Below u.heap.size u u' :=
    fun u hu => over_ok ba oa ca bz oz cz al zl _ _ u hca hu.2.1 (mayB_of (by unfold mnO mxO; omega))
  have HH : Hid (Places al ∧ al.length = zl.length ∧ al.length ≤ 8) := ⟨PL, hl.2.2, hl.2.1⟩
  have l1 : (al.length : Int) ≤ 20 := by omega
  clear h PL hl
  have m2 := fun ts t p q w => run_min2 ts t p q w
  have x2 := fun ts t p q w => run_max2 ts t p q w
  go_enter Try.func6, Try.ntmps6
  go_wp2_with (first
    | (go_at_call 21; refine (kD _ ⟨⟨c0, c1⟩, R0⟩).mono ?_; rintro e w1 ⟨rfl, ⟨d0, d1⟩, R1⟩; clear c0 c1 R0)
    | (go_at_call 7; refine (kM _ ⟨⟨d0, d1⟩, R1⟩).mono ?_; rintro e w2 ⟨rfl, ⟨e0, e1⟩, R2⟩))
  clear kD kM d0 d1 R1
  go_loopw [7] (fun i wr => ∃ k : Nat, k ≤ al.length ∧ i = .int .i64 k ∧ (wr.cell? ⟨w.heap.size, 0, none⟩ = some (.slice (some ⟨ba, oa, none⟩) al.length ca) ∧ wr.cell? ⟨w.heap.size, 1, none⟩ = some (.slice (some ⟨bz, oz, none⟩) zl.length cz)) ∧ RL w w.heap.size ba oa bz oz al zl wr) (fun i _ => al.length - (intOf i).toNat)
  case atStart => exact ⟨0, Nat.zero_le _, rfl, ⟨e0, e1⟩, R2⟩
  case round =>
    obtain ⟨k, hk, rfl, ⟨f0, f1⟩, R3⟩ := hrel
    clear e0 e1 R2
    have hl8 : al.length ≤ 8 := HH.out.2.2
    by_cases hlt : k < al.length
    · have hlz : k < zl.length := by have := HH.out.2.1; omega
      have kLk : ∀ u, RL w w.heap.size ba oa bz oz al zl u → Calls Try.prog 9 #[.agg #[.slice (some ⟨ba, oa, none⟩) al.length ca, .slice (some ⟨bz, oz, none⟩) zl.length cz], .int .i64 (at0 al k)] u fun r u' => r = .returned (.tuple #[.int .i64 (lookI al zl (at0 al k)), .nilIface]) ∧ Below u.heap.size u u' := fun u hu => look_ok ba oa ca bz oz cz al zl _ u hca hu.1
      rw [look_point HH.out.1 k hlt] at kLk
      have hax := R3.1.at' k hlt
      have HZ : Hid (∀ u, RL w w.heap.size ba oa bz oz al zl u → u.cell? ⟨bz, oz + k, none⟩ = some (.int .i64 (at0 zl k))) := fun u hu => hu.1.is' k hlz
      generalize at0 al k = ax at *
      generalize at0 zl k = zx at *
      have kLL : ∀ u, (u.cell? ⟨w.heap.size, 0, none⟩ = some (.slice (some ⟨ba, oa, none⟩) al.length ca) ∧ u.cell? ⟨w.heap.size, 1, none⟩ = some (.slice (some ⟨bz, oz, none⟩) zl.length cz) ∧ u.cell? ⟨ba, oa + k, none⟩ = some (.int .i64 ax)) ∧ RL w w.heap.size ba oa bz oz al zl u →
          Calls Try.prog 9 #[.agg #[.slice (some ⟨ba, oa, none⟩) al.length ca, .slice (some ⟨bz, oz, none⟩) zl.length cz], .int .i64 ax] u fun r u' => r = .returned (.tuple #[.int .i64 zx, .nilIface]) ∧ Below u.heap.size u u' := fun u hu => kLk u hu.2
      clear kL kLk kR kO
      have Z : Hid (∀ u, Below wr.heap.size wr u → (u.cell? ⟨w.heap.size, 0, none⟩ = some (.slice (some ⟨ba, oa, none⟩) al.length ca) ∧ u.cell? ⟨w.heap.size, 1, none⟩ = some (.slice (some ⟨bz, oz, none⟩) zl.length cz) ∧ u.cell? ⟨ba, oa + k, none⟩ = some (.int .i64 ax)) ∧ RL w w.heap.size ba oa bz oz al zl u) := fun u hb => keepRLk hb ⟨⟨f0, f1, hax⟩, R3⟩
      go_upto_region 6 with fail
      clear R3
      go_region_held3 (fun u => (u.cell? ⟨w.heap.size, 0, none⟩ = some (.slice (some ⟨ba, oa, none⟩) al.length ca) ∧ u.cell? ⟨w.heap.size, 1, none⟩ = some (.slice (some ⟨bz, oz, none⟩) zl.length cz) ∧ u.cell? ⟨ba, oa + k, none⟩ = some (.int .i64 ax)) ∧ RL w w.heap.size ba oa bz oz al zl u)
        (first
          | (with_reducible assumption)
          | (with_reducible apply keepRLk; with_reducible assumption; with_reducible assumption)
          | (refine Z.out _ ?_; exact (Below.refl _ _).drew))
        (first
          | (go_at_call 9; refine (kLL _ ?_).mono ?_; (with_reducible assumption); rintro e w' ⟨rfl, hb⟩))
      rename_i hH
      obtain ⟨⟨g0, g1, _⟩, R4⟩ := hH
      have g2 := HZ.out _ R4
      clear kLL Z f0 f1 hax HZ hb
      go_wp2_with fail
      go_roundw
      case rel => exact ⟨k + 1, by omega, by go_num, ⟨g0, g1⟩, R4⟩
      case measure => simp [intOf]; omega
    · have hxy : mnO x y ≤ mxO x y := by unfold mnO mxO; omega
      have hr : risesU zl (zl.length - 1) = true → lookI al zl (mnO x y) ≤ lookI al zl (mxO x y) := fun e => look_rises HH.out.1 (fun k hk => (rises_iff zl _).mp e k (by have := HH.out.2.1; omega)) hxy
      have hov := over_le al zl (ofI (mnO x y)) (ofI (mxO x y)) al.length
      rw [look_of HH.out.1, look_of HH.out.1] at hov
      have kx := kL (mnO x y)
      have ky := kL (mxO x y)
      have hge : (al.length : Int) ≤ (k : Int) := by omega
      clear kL hlt
      rw [hrs] at hr kR
      generalize lookI al zl (mnO x y) = p at *
      generalize lookI al zl (mxO x y) = q at *
      generalize overLo al zl (ofI (mnO x y)) (ofI (mxO x y)) al.length = s1 at *
      generalize overHi al zl (ofI (mnO x y)) (ofI (mxO x y)) al.length = s2 at *
      have o1 : s1 ≤ p := by omega
      have o2 : s1 ≤ q := by omega
      have o3 : p ≤ s2 := by omega
      have o4 : q ≤ s2 := by omega
      clear hov
      · clear hr
        go_upto_region 14 with (first
          | (go_at_call_of 9 (Value.int IntKind.i64 (mnO x y)); refine (kx _ ⟨⟨f0, f1⟩, R3⟩).mono ?_; rintro e w4 ⟨rfl, ⟨g0, g1⟩, R4⟩)
          | (go_at_call_of 9 (Value.int IntKind.i64 (mxO x y)); refine (ky _ ⟨⟨g0, g1⟩, R4⟩).mono ?_; rintro e w5 ⟨rfl, ⟨h0, h1⟩, R5⟩)
          | (go_at_call 12; refine (kR _ ⟨⟨h0, h1⟩, R5⟩).mono ?_; rintro e w6 ⟨rfl, ⟨i0, i1⟩, R6⟩))
        have HS : Hid (∀ u, Below w6.heap.size w6 u → (u.cell? ⟨w.heap.size, 0, none⟩ = some (.slice (some ⟨ba, oa, none⟩) al.length ca) ∧ u.cell? ⟨w.heap.size, 1, none⟩ = some (.slice (some ⟨bz, oz, none⟩) zl.length cz)) ∧ RL w w.heap.size ba oa bz oz al zl u) := fun u hb => keepRL hb ⟨⟨i0, i1⟩, R6⟩
        have HN : Hid (w.heap.size < w6.heap.size) := World.block_lt_of_cell? w6 ⟨w.heap.size, 0, none⟩ i0
        clear f0 f1 R3 g0 g1 R4 h0 h1 R5 R6 kx ky kR
        go_cut [14, 15] (fun s t w' => ∃ n, s = .pointer (some ⟨n, 0, none⟩) ∧ t = .nilIface ∧ w'.cell? ⟨n, 0, none⟩ = some (.int .i64 s1) ∧ w'.cell? ⟨n, 1, none⟩ = some (.int .i64 s2) ∧ Below w.heap.size w w')
        case first =>
          have hn6 : w.heap.size < w6.heap.size := HN.out
          have kOO : ∀ u, (u.cell? ⟨w.heap.size, 0, none⟩ = some (.slice (some ⟨ba, oa, none⟩) al.length ca) ∧ u.cell? ⟨w.heap.size, 1, none⟩ = some (.slice (some ⟨bz, oz, none⟩) zl.length cz)) ∧ RL w w.heap.size ba oa bz oz al zl u →
              Calls Try.prog 16 #[.agg #[.slice (some ⟨ba, oa, none⟩) al.length ca, .slice (some ⟨bz, oz, none⟩) zl.length cz], .agg #[.int .i64 (ofI (mnO x y)), .int .i64 (ofI (mxO x y))]] u fun r u' => r = .returned (.tuple #[.agg #[.int .i64 s1, .int .i64 s2], .nilIface]) ∧ Below u.heap.size u u' ∧ w.heap.size < u'.heap.size ∧ (u'.cell? ⟨w.heap.size, 0, none⟩ = some (.slice (some ⟨ba, oa, none⟩) al.length ca) ∧ u'.cell? ⟨w.heap.size, 1, none⟩ = some (.slice (some ⟨bz, oz, none⟩) zl.length cz)) ∧ RL w w.heap.size ba oa bz oz al zl u' :=
            fun u hu => (kO u hu).mono fun _ _ ⟨e, hb⟩ => ⟨e, hb, Nat.lt_of_lt_of_le (World.block_lt_of_cell? u ⟨w.heap.size, 0, none⟩ hu.1.1) hb.size, keepRL hb hu⟩
          go_region_held3 (fun u => (u.cell? ⟨w.heap.size, 0, none⟩ = some (.slice (some ⟨ba, oa, none⟩) al.length ca) ∧ u.cell? ⟨w.heap.size, 1, none⟩ = some (.slice (some ⟨bz, oz, none⟩) zl.length cz)) ∧ RL w w.heap.size ba oa bz oz al zl u)
            (first
              | (with_reducible assumption)
              | (with_reducible refine keepRL (below_alloc _ _) ?_; with_reducible assumption)
              | (with_reducible refine keepSet ?_ ?_; (with_reducible assumption); with_reducible assumption)
              | (with_reducible apply keepRL; with_reducible assumption; with_reducible assumption)
              | (refine HS.out _ ?_; exact (Below.refl _ _).drew)
              | (refine HS.out _ ?_; exact ((Below.refl _ _).alloc (Nat.le_refl _) _).drew))
            (first
              | (go_at_call 22; refine (refOf_any _ _).mono ?_; rintro e w' ⟨rfl, rfl⟩)
              | (go_at_call 16; refine (kOO _ ?_).mono ?_; (with_reducible assumption); rintro e w7 ⟨rfl, hb, hn7, hS7⟩; first | (have t1 : Lies w7 w6.heap.size 0 0 := fresh_drew hb; obtain ⟨t11, t12, t13, t14, t15⟩ := t1) | (have t1 : Lies w7 w6.heap.size 0 0 := fresh_later hb; obtain ⟨t11, t12, t13, t14, t15⟩ := t1) | skip))
          all_goals (
            rename_i hH
            have hBf := hH.2.2.1
            clear hH HS
            go_wp2_with fail
            go_meet
            case rel => exact ⟨_, rfl, rfl, by simp [go_sem, *], by simp [go_sem, *], hBf⟩)
        case rest =>
          obtain ⟨n, rfl, rfl, q1, q2, hB⟩ := hcut
          rename World => wb
          clear HS kO i0 i1
          have ix := in_ex p s1 s2
          have iy := in_ex q s1 s2
          rw [decide_eq_true o1, decide_eq_true o3] at ix
          rw [decide_eq_true o2, decide_eq_true o4] at iy
          have b8 := below_alloc wb (.cells #[.int .i64 s1, .int .i64 s2] 37)
          have q3 := cell_later b8 q1
          have q4 := cell_later b8 q2
          have HB : Hid (Below w.heap.size w ((wb.alloc (.cells #[.int .i64 s1, .int .i64 s2] 37)).alloc (.cells #[.int .i64 s1, .int .i64 s2] 37))) := below_up (below_up hB b8) (below_alloc _ _)
          clear hB b8
          go_wp2_with (first
            | (go_at_call_of 23 (Value.int IntKind.i64 p); refine (ix _).mono ?_; rintro e w' ⟨rfl, rfl⟩)
            | (go_at_call_of 23 (Value.int IntKind.i64 q); refine (iy _).mono ?_; rintro e w' ⟨rfl, rfl⟩))
          go_ret
          exact ⟨rfl, HB.out⟩

end Go.Proofs.Ytngedehfaidphaa
