/-
  Contracts of fulmarref.LineMay and fulmarref.Look: each returns what the plain words say, and nothing that was there has turned.
-/
import Derived.Test.YtheihcpacpoliaaLineF
namespace Go.Proofs.Ytheihcpacpoliaa
open Go.RowKit Plain

/-- A line's box, its lists, and nothing below turned. -/
theorem keepL {B ca cz la lz : Nat} {W u u' : World} {a z : Option Addr} {al zl : List Int} (hb : Below u.heap.size u u')
    (h : (u.cell? ⟨B, 0, none⟩ = some (.slice a la ca) ∧ u.cell? ⟨B, 1, none⟩ = some (.slice z lz cz)) ∧ Lst u a al ∧ Lst u z zl ∧ Below B W u) :
    (u'.cell? ⟨B, 0, none⟩ = some (.slice a la ca) ∧ u'.cell? ⟨B, 1, none⟩ = some (.slice z lz cz)) ∧ Lst u' a al ∧ Lst u' z zl ∧ Below B W u' := by
  obtain ⟨⟨h1, h2⟩, h3, h4, h5⟩ := h
  have hs := World.block_lt_of_cell? u ⟨B, 0, none⟩ h1
  exact ⟨⟨cell_later hb h1, cell_later hb h2⟩, h3.later hb, h4.later hb, h5.trans (hb.mono (Nat.le_of_lt hs))⟩

theorem line_first (al zl : List Int) (x : Int) (hx : x = if ((al.length : Int) != (zl.length : Int)) = true then 3 else 0) : firstI [x, risingI al, worthI zl] = lineI al zl := by
  subst hx
  unfold lineI
  by_cases h : al.length = zl.length
  · have e : ((al.length : Int) != (zl.length : Int)) = false := by simp; omega
    rw [e, if_pos h]; simp only [firstI]; simp
    rcases worth_cases zl with q | q <;> simp [q]
  · have e : ((al.length : Int) != (zl.length : Int)) = true := by simp; omega
    rw [e, if_neg h]; rfl

theorem lineMay_any (a z : Option Addr) (ca cz : Nat) (al zl : List Int) (w : World) (hm : al.length ≤ 9223372036854775807) (hn : zl.length ≤ 9223372036854775807) (ha : Lst w a al) (hz : Lst w z zl) :
    Calls Try.prog 63 #[.agg #[.slice a al.length ca, .slice z zl.length cz]] w fun r w' => r = .returned (.int .i64 (lineI al zl)) ∧ Below w.heap.size w w' := by
  have hA := tbelow_alloc w (.cells #[.slice a al.length ca, .slice z zl.length cz] 43)
  have ST : Hid (∀ u, Below (w.alloc (.cells #[.slice a al.length ca, .slice z zl.length cz] 43)).heap.size (w.alloc (.cells #[.slice a al.length ca, .slice z zl.length cz] 43)) u →
      (u.cell? ⟨w.heap.size, 0, none⟩ = some (.slice a al.length ca) ∧ u.cell? ⟨w.heap.size, 1, none⟩ = some (.slice z zl.length cz)) ∧ Lst u a al ∧ Lst u z zl ∧ Below w.heap.size w u) := fun u hb =>
    keepL hb ⟨⟨by simp [go_sem], by simp [go_sem]⟩, ha.later hA, hz.later hA, hA⟩
  have hr : ∀ u, (u.cell? ⟨w.heap.size, 0, none⟩ = some (.slice a al.length ca) ∧ u.cell? ⟨w.heap.size, 1, none⟩ = some (.slice z zl.length cz)) ∧ Lst u a al ∧ Lst u z zl ∧ Below w.heap.size w u →
    Calls Try.prog 79 #[.slice a al.length ca] u fun r w' => r = .returned (.int .i64 (risingI al)) ∧ Below u.heap.size u w' := fun u h => rising_any a ca al u hm h.2.1
  have hw : ∀ u, (u.cell? ⟨w.heap.size, 0, none⟩ = some (.slice a al.length ca) ∧ u.cell? ⟨w.heap.size, 1, none⟩ = some (.slice z zl.length cz)) ∧ Lst u a al ∧ Lst u z zl ∧ Below w.heap.size w u →
    Calls Try.prog 80 #[.slice z zl.length cz] u fun r w' => r = .returned (.int .i64 (worthI zl)) ∧ w' = u := fun u h => worth_any z cz zl u hn h.2.2.1
  clear ha hz hA
  go_enter Try.func63, Try.ntmps63
  go_upto_region 1 with fail
  go_region_held3 (fun u => (u.cell? ⟨w.heap.size, 0, none⟩ = some (.slice a al.length ca) ∧ u.cell? ⟨w.heap.size, 1, none⟩ = some (.slice z zl.length cz)) ∧ Lst u a al ∧ Lst u z zl ∧ Below w.heap.size w u)
    (first
      | (with_reducible assumption)
      | (with_reducible refine keepL (tbelow_alloc _ _) ?_; with_reducible assumption)
      | (with_reducible apply keepL; with_reducible assumption; with_reducible assumption)
      | (refine ST.out _ ?_; exact (Below.refl _ _).drew))
    (first
      | (go_at_call 5; refine (when_named _ _ _).mono ?_; rintro e w' ⟨x, rfl, hx, rfl⟩)
      | (go_at_call 79; refine (hr _ ?_).mono ?_; (with_reducible assumption); rintro e w' ⟨rfl, hb⟩)
      | (go_at_call 80; refine (hw _ ?_).mono ?_; (with_reducible assumption); rintro e w' ⟨rfl, rfl⟩)
      | (go_at_call 53; refine (first_new3 _ _ _ _ _).mono ?_; rintro e w' ⟨rfl, rfl⟩))
  all_goals (
    rename_i hH
    have hBf := hH.2.2.2
    clear hH ST
    go_wp2
    go_ret
    exact ⟨by rw [line_first al zl _ hx.out]; rfl, hBf⟩)

theorem refLook_ok (ba oa ca bz oz cz : Nat) (a z : List Int) (x : Int) (w : World) (h : Line w ba oa bz oz a z) :
    Calls Try.prog 31 #[.agg #[.slice (some ⟨ba, oa, none⟩) a.length ca, .slice (some ⟨bz, oz, none⟩) z.length cz], .int .i64 x] w fun r w' => r = .returned (.int .i64 (lookI a z x)) ∧ Below w.heap.size w w' := by
  obtain ⟨hl, p, hz⟩ := line_of h.may
  have hl2 := p.lo
  have hl8 := p.hi
  have hA := tbelow_alloc w (.cells #[.slice (some ⟨ba, oa, none⟩) a.length ca, .slice (some ⟨bz, oz, none⟩) z.length cz] 43)
  have h' := h.later hA
  have a0 := h'.at' 0 (by omega)
  have a1 := h'.at' (a.length - 1) (by omega)
  have t1 : ((a.length : Int) - 1).toNat = a.length - 1 := by omega
  rw [Nat.add_zero] at a0
  by_cases c1 : at0 a (a.length - 1) ≤ x
  · rw [look_last p c1]
    have z1 := h'.is' (a.length - 1) (by omega)
    have i1 : (a.length : Int) - 1 < (z.length : Int) := by omega
    have i0 : (0 : Int) ≤ (a.length : Int) - 1 := by omega
    clear h h' hz p hl a0
    generalize at0 a (a.length - 1) = p1 at *
    generalize at0 z (a.length - 1) = p2 at *
    go_enter Try.func31, Try.ntmps31
    go_wp2_with fail
    go_ret
    exact ⟨rfl, hA⟩
  by_cases c2 : x ≤ at0 a 0
  · rw [look_first p c2]
    have z1 := h'.is' 0 (by omega)
    rw [Nat.add_zero] at z1
    have i1 : (0 : Int) < (z.length : Int) := by omega
    clear h h' hz p hl
    generalize at0 a (a.length - 1) = p1 at *
    generalize at0 a 0 = p3 at *
    generalize at0 z 0 = p2 at *
    go_enter Try.func31, Try.ntmps31
    go_wp2_with fail
    go_ret
    exact ⟨rfl, hA⟩
  have H : Hid (Line (w.alloc (.cells #[.slice (some ⟨ba, oa, none⟩) a.length ca, .slice (some ⟨bz, oz, none⟩) z.length cz] 43)) ba oa bz oz a z ∧ Places a ∧ worthI z = 0 ∧ a.length = z.length ∧ at0 a 0 ≤ x ∧ x ≤ at0 a (a.length - 1)) := ⟨h', p, hz, hl, by omega, by omega⟩
  have W0 := worth_all p.worth 0 (by omega)
  have W1 := worth_all p.worth (a.length - 1) (by omega)
  have x0 : -1000000 ≤ x := by omega
  have x1 : x ≤ 1000000 := by omega
  clear h h' hz p hl W0 W1
  have START : Hid (a.length - 2 + 1 < a.length ∧ (a.length - 2 + 2 < a.length → x < at0 a (a.length - 2 + 1)) ∧ x ≤ at0 a (a.length - 2 + 1)) := by
    have e : a.length - 2 + 1 = a.length - 1 := by omega
    refine ⟨by omega, fun q => by omega, ?_⟩
    rw [e]; exact H.out.2.2.2.2.2
  go_enter Try.func31, Try.ntmps31
  go_wp2_with fail
  clear a0 a1 c1 c2 t1
  go_loop [6] (fun i => ∃ k : Nat, i = .int .i64 k ∧ Hid (k + 1 < a.length ∧ (k + 2 < a.length → x < at0 a (k + 1)) ∧ x ≤ at0 a (k + 1))) (fun i => (intOf i).toNat)
  case atStart => exact ⟨a.length - 2, by congr 1; omega, START⟩
  case round =>
    obtain ⟨k, rfl, hf⟩ := hrel
    have k1 := hf.out.1
    have a0 := H.out.1.at' k (by omega)
    by_cases hlt : x < at0 a k
    · have k0 : 0 < k := by
        rcases Nat.eq_zero_or_pos k with q | q
        · subst q; have := H.out.2.2.2.2.1; omega
        · exact q
      have ek : k - 1 + 1 = k := by omega
      have HS : Hid (k - 1 + 1 < a.length ∧ (k - 1 + 2 < a.length → x < at0 a (k - 1 + 1)) ∧ x ≤ at0 a (k - 1 + 1)) := by
        rw [ek]; exact ⟨by omega, fun _ => hlt, by omega⟩
      clear hf
      generalize at0 a k = y at a0 hlt
      go_wp2_with fail
      go_round
      case rel => exact ⟨k - 1, by congr 1; omega, HS⟩
      case measure => simp [intOf]; omega
    · have st : Stands a x k := ⟨hf.out.1, by omega, hf.out.2.2, hf.out.2.1⟩
      have HL : Hid (lookI a z x = heightI a z x k) := look_mid H.out.2.1 H.out.2.2.2.2.1 H.out.2.2.2.2.2 st
      have k2 : k + 1 < z.length := by have := H.out.2.2.2.1; omega
      have a1 := H.out.1.at' (k + 1) (by omega)
      have z0 := H.out.1.is' k (by omega)
      have z1 := H.out.1.is' (k + 1) (by omega)
      have q0 := worth_all H.out.2.1.worth k (by omega)
      have q1 := worth_all H.out.2.1.worth (k + 1) (by omega)
      have r0 := worth_all H.out.2.2.1 k (by omega)
      have r1 := worth_all H.out.2.2.1 (k + 1) (by omega)
      have u := H.out.2.1.up k (by omega)
      have s0 := st.past
      have s1 := st.left
      unfold heightI at HL
      clear hf st
      generalize at0 a k = p0 at *
      generalize at0 a (k + 1) = p1 at *
      generalize at0 z k = y0 at *
      generalize at0 z (k + 1) = y1 at *
      have t1 : ((k : Int) + 1).toNat = k + 1 := by omega
      have m0 := mul_bdT (a := y0) (b := p1 - x) (A := 1000000) (B := 2000000) (by omega) (by omega) (by omega) (by omega)
      have m1 := mul_bdT (a := y1) (b := x - p0) (A := 1000000) (B := 2000000) (by omega) (by omega) (by omega) (by omega)
      have hn : ∀ w, Calls Try.prog 51 #[.int .i64 (y0 * (p1 - x) + y1 * (x - p0)), .int .i64 (p1 - p0)] w _ := fun w => up_any (y0 * (p1 - x) + y1 * (x - p0)) (p1 - p0) (by omega) (by omega) (by omega) (by omega) w
      go_upto_region 9 with fail
      go_quiet (fail)
      go_upto_region 10 with fail
      obtain ⟨w1, hw1⟩ : ∃ w1, (w.alloc (.cells #[.slice (some ⟨ba, oa, none⟩) a.length ca, .slice (some ⟨bz, oz, none⟩) z.length cz] 43)).drewN nq = w1 := ⟨_, rfl⟩
      have b0 : w1.cell? ⟨w.heap.size, 0, none⟩ = some (.slice (some ⟨ba, oa, none⟩) a.length ca) := by rw [← hw1]; simp [go_sem]
      have b1 : w1.cell? ⟨w.heap.size, 1, none⟩ = some (.slice (some ⟨bz, oz, none⟩) z.length cz) := by rw [← hw1]; simp [go_sem]
      have hq : Below (w.alloc (.cells #[.slice (some ⟨ba, oa, none⟩) a.length ca, .slice (some ⟨bz, oz, none⟩) z.length cz] 43)).heap.size (w.alloc (.cells #[.slice (some ⟨ba, oa, none⟩) a.length ca, .slice (some ⟨bz, oz, none⟩) z.length cz] 43)) w1 := by rw [← hw1]; exact below_drewN (Below.refl _ _) _
      have hB := tbelow_up hA hq
      have a0' := cell_later hq a0
      have a1' := cell_later hq a1
      have z0' := cell_later hq z0
      have z1' := cell_later hq z1
      rw [hw1]
      clear hw1 hq a0 a1 z0 z1
      go_quiet ((go_at_call 51; exact Calls.quiet_of_same (hn _)))
      go_wp2
      go_ret
      exact ⟨by rw [HL.out]; rfl, below_drewN hB _⟩

end Go.Proofs.Ytheihcpacpoliaa
