/-
  The law LineOver, walked: it returns true, and nothing that was there has turned.
-/
import Derived.Test.YtngedehfaidphaaOverD
import Derived.Deep.DeepCutAuto
namespace Go.Proofs.Ytngedehfaidphaa
open Go.RowKit Plain

/-- What lies while the law is walked: the boxes of the line and of the span, the lists; nothing below has turned. -/
theorem keepS {B ca cz la lz : Nat} {W u u' : World} {a z : Option Addr} {al zl : List Int} {lo hi : Int} (hb : Below u.heap.size u u')
    (h : (u.cell? ⟨B, 0, none⟩ = some (.slice a la ca) ∧ u.cell? ⟨B, 1, none⟩ = some (.slice z lz cz) ∧ u.cell? ⟨B + 1, 0, none⟩ = some (.int .i64 lo) ∧ u.cell? ⟨B + 1, 1, none⟩ = some (.int .i64 hi)) ∧ Rst W B a z al zl u) :
    (u'.cell? ⟨B, 0, none⟩ = some (.slice a la ca) ∧ u'.cell? ⟨B, 1, none⟩ = some (.slice z lz cz) ∧ u'.cell? ⟨B + 1, 0, none⟩ = some (.int .i64 lo) ∧ u'.cell? ⟨B + 1, 1, none⟩ = some (.int .i64 hi)) ∧ Rst W B a z al zl u' := by
  obtain ⟨⟨h1, h2, h3, h4⟩, h5⟩ := h
  obtain ⟨k1, k2, k3⟩ := keepR h1 h2 h5 hb
  exact ⟨⟨k1, k2, cell_later hb h3, cell_later hb h4⟩, k3⟩

/-- What table.Over answers: its span, and its error. -/
def spanV (al zl : List Int) (lo hi : Int) : Value := if lineI al zl = 0 ∧ mayB lo hi = true then .agg #[.int .i64 (overLo al zl lo hi al.length), .int .i64 (overHi al zl lo hi al.length)] else .agg #[.int .i64 0, .int .i64 0]
def overE (al zl : List Int) (lo hi : Int) : Int := if lineI al zl = 0 then (if mayB lo hi then 0 else 3) else lineI al zl
theorem over_first (al zl : List Int) (lo hi : Int) : firstI [lineI al zl, if mayB lo hi then 0 else 3] = overE al zl lo hi := by
  unfold overE; simp only [firstI]
  split
  · cases mayB lo hi <;> simp
  · rfl
theorem over_any (a z : Option Addr) (ca cz : Nat) (al zl : List Int) (lo hi : Int) (w : World) (hm : al.length ≤ 9223372036854775807) (hn : zl.length ≤ 9223372036854775807) (hca : al.length ≤ ca) (ha : Lst w a al) (hz : Lst w z zl) :
    Calls Try.prog 16 #[.agg #[.slice a al.length ca, .slice z zl.length cz], .agg #[.int .i64 lo, .int .i64 hi]] w fun r w' => ∃ x y : Int, r = .returned (.tuple #[.agg #[.int .i64 x, .int .i64 y], errV (overE al zl lo hi)]) ∧ Hid (spanV al zl lo hi = .agg #[.int .i64 x, .int .i64 y]) ∧ Below w.heap.size w w' := by
  by_cases h : lineI al zl = 0
  · obtain ⟨ba, oa, bz, oz, rfl, rfl, hl⟩ := line_lies h ha hz
    cases hs : mayB lo hi
    · have e1 : overE al zl lo hi = 3 := by unfold overE; rw [if_pos h, hs]; rfl
      have e2 : spanV al zl lo hi = .agg #[.int .i64 0, .int .i64 0] := by unfold spanV; rw [if_neg (by rw [hs]; simp)]
      rw [e1]
      exact (over_span ba oa ca bz oz cz al zl lo hi w hca hl hs).mono fun _ _ ⟨e, hb⟩ => ⟨0, 0, e, e2, hb⟩
    · have e1 : overE al zl lo hi = 0 := by unfold overE; rw [if_pos h, hs]; rfl
      have e2 : spanV al zl lo hi = .agg #[.int .i64 (overLo al zl lo hi al.length), .int .i64 (overHi al zl lo hi al.length)] := by unfold spanV; rw [if_pos ⟨h, hs⟩]
      rw [e1]
      exact (over_ok ba oa ca bz oz cz al zl lo hi w hca hl hs).mono fun _ _ ⟨e, hb⟩ => ⟨_, _, e, e2, hb⟩
  · have e1 : overE al zl lo hi = lineI al zl := by unfold overE; rw [if_neg h]
    have e2 : spanV al zl lo hi = .agg #[.int .i64 0, .int .i64 0] := by unfold spanV; rw [if_neg (fun q => h q.1)]
    rw [e1]
    exact (over_bad a z ca cz al zl lo hi w hm hn hca ha hz h).mono fun _ _ ⟨e, hb⟩ => ⟨0, 0, e, e2, hb⟩

theorem startS (a z : Option Addr) (ca cz : Nat) (al zl : List Int) (lo hi : Int) (w : World) (ha : Lst w a al) (hz : Lst w z zl) (u : World)
    (hu : Below ((w.alloc (.cells #[.slice a al.length ca, .slice z zl.length cz] 24)).alloc (.cells #[.int .i64 lo, .int .i64 hi] 37)).heap.size ((w.alloc (.cells #[.slice a al.length ca, .slice z zl.length cz] 24)).alloc (.cells #[.int .i64 lo, .int .i64 hi] 37)) u) :
    (u.cell? ⟨w.heap.size, 0, none⟩ = some (.slice a al.length ca) ∧ u.cell? ⟨w.heap.size, 1, none⟩ = some (.slice z zl.length cz) ∧ u.cell? ⟨w.heap.size + 1, 0, none⟩ = some (.int .i64 lo) ∧ u.cell? ⟨w.heap.size + 1, 1, none⟩ = some (.int .i64 hi)) ∧ Rst w w.heap.size a z al zl u := by
  have h2 : Below w.heap.size w ((w.alloc (.cells #[.slice a al.length ca, .slice z zl.length cz] 24)).alloc (.cells #[.int .i64 lo, .int .i64 hi] 37)) := ((Below.refl _ _).alloc (Nat.le_refl _) _).alloc (by simp) _
  exact keepS hu ⟨⟨by simp [go_sem], by simp [go_sem], by simp [go_sem], by simp [go_sem]⟩, ha.later h2, hz.later h2, h2⟩

theorem Lst.setElse {w : World} {a : Option Addr} {l : List Int} (h : Lst w a l) {c o : Nat} (hc : ∀ b off, a = some ⟨b, off, none⟩ → l ≠ [] → c ≠ b) (v : Value) : Lst (w.setCell ⟨c, o, none⟩ v) a l := by
  rcases h with h | ⟨b, off, h, hk⟩
  · exact .inl h
  · by_cases e : l = []
    · exact .inl e
    · exact .inr ⟨b, off, h, fun k q => cell_else (hk k q) (hc b off h e)⟩
theorem Lst.lt {w : World} {a : Option Addr} {l : List Int} (h : Lst w a l) (b off : Nat) (ha : a = some ⟨b, off, none⟩) (hl : l ≠ []) : b < w.heap.size := by
  obtain ⟨b', off', e, hk⟩ := h.at hl
  rw [e] at ha; cases ha
  exact World.block_lt_of_cell? w ⟨b, off + 0, none⟩ (hk 0 (List.length_pos_iff.mpr hl))

set_option maxRecDepth 100000 in
set_option maxHeartbeats 2000000 in
theorem lineOver_in (a z : Option Addr) (ca cz : Nat) (al zl : List Int) (lo hi : Int) (w : World) (hm : al.length ≤ 20) (hn : zl.length ≤ 20) (hca : al.length ≤ ca) (ha : Lst w a al) (hz : Lst w z zl) :
    Calls Try.prog 4 #[.agg #[.slice a al.length ca, .slice z zl.length cz], .agg #[.int .i64 lo, .int .i64 hi]] w fun r w' => r = .returned (.bool true) ∧ Below w.heap.size w w' := by
  have FR : Hid ((∀ b off, a = some ⟨b, off, none⟩ → al ≠ [] → b < w.heap.size) ∧ (∀ b off, z = some ⟨b, off, none⟩ → zl ≠ [] → b < w.heap.size)) := ⟨ha.lt, hz.lt⟩
  have Z : Hid (∀ u, _ → _) := startS a z ca cz al zl lo hi w ha hz
  have kM : ∀ u, (u.cell? ⟨w.heap.size, 0, none⟩ = some (.slice a al.length ca) ∧ u.cell? ⟨w.heap.size, 1, none⟩ = some (.slice z zl.length cz) ∧ u.cell? ⟨w.heap.size + 1, 0, none⟩ = some (.int .i64 lo) ∧ u.cell? ⟨w.heap.size + 1, 1, none⟩ = some (.int .i64 hi)) ∧ Rst w w.heap.size a z al zl u →
      Calls Try.prog 7 #[.agg #[.slice a al.length ca, .slice z zl.length cz]] u fun r u' => r = .returned (.int .i64 (lineI al zl)) ∧ Below u.heap.size u u' := fun u h => lineMay_any a z ca cz al zl u (by omega) (by omega) h.2.1 h.2.2.1
  have kS := fun u => spanMay_any lo hi u
  have kF : lineI al zl = 0 → mayB lo hi = true → ∀ u, (u.cell? ⟨w.heap.size, 0, none⟩ = some (.slice a al.length ca) ∧ u.cell? ⟨w.heap.size, 1, none⟩ = some (.slice z zl.length cz) ∧ u.cell? ⟨w.heap.size + 1, 0, none⟩ = some (.int .i64 lo) ∧ u.cell? ⟨w.heap.size + 1, 1, none⟩ = some (.int .i64 hi)) ∧ Rst w w.heap.size a z al zl u →
      Calls Try.prog 15 #[.agg #[.slice a al.length ca, .slice z zl.length cz], .agg #[.int .i64 lo, .int .i64 hi]] u fun r u' => r = .returned (spanV al zl lo hi) ∧ Below u.heap.size u u' := by
    intro h hs u hu
    obtain ⟨ba, oa, bz, oz, rfl, rfl, hl⟩ := line_lies h hu.2.1 hu.2.2.1
    have e2 : spanV al zl lo hi = .agg #[.int .i64 (overLo al zl lo hi al.length), .int .i64 (overHi al zl lo hi al.length)] := by unfold spanV; rw [if_pos ⟨h, hs⟩]
    rw [e2]; exact refOver_ok ba oa ca bz oz cz al zl lo hi u hl
  have kO : ∀ u, (u.cell? ⟨w.heap.size, 0, none⟩ = some (.slice a al.length ca) ∧ u.cell? ⟨w.heap.size, 1, none⟩ = some (.slice z zl.length cz) ∧ u.cell? ⟨w.heap.size + 1, 0, none⟩ = some (.int .i64 lo) ∧ u.cell? ⟨w.heap.size + 1, 1, none⟩ = some (.int .i64 hi)) ∧ Rst w w.heap.size a z al zl u →
      Calls Try.prog 16 #[.agg #[.slice a al.length ca, .slice z zl.length cz], .agg #[.int .i64 lo, .int .i64 hi]] u fun r u' => ∃ x y : Int, r = .returned (.tuple #[.agg #[.int .i64 x, .int .i64 y], errV (overE al zl lo hi)]) ∧ Hid (spanV al zl lo hi = .agg #[.int .i64 x, .int .i64 y]) ∧ Below u.heap.size u u' :=
    fun u h => over_any a z ca cz al zl lo hi u (by omega) (by omega) hca h.2.1 h.2.2.1
  have HF := over_first al zl lo hi
  have EF : Hid (overE al zl lo hi = 0 → lineI al zl = 0 ∧ mayB lo hi = true) := by
    intro h; unfold overE at h
    by_cases q : lineI al zl = 0
    · rw [if_pos q] at h; cases e : mayB lo hi
      · rw [e] at h; simp at h
      · exact ⟨q, rfl⟩
    · rw [if_neg q] at h; exact absurd h q
  have SV : Hid (overE al zl lo hi ≠ 0 → spanV al zl lo hi = .agg #[.int .i64 0, .int .i64 0]) := by
    intro h; unfold spanV; rw [if_neg]; intro q; apply h; unfold overE; rw [if_pos q.1, q.2]; rfl
  have m1 : (al.length : Int) ≤ 20 := by omega
  have n1 : (zl.length : Int) ≤ 20 := by omega
  clear ha hz
  generalize hsm : (if mayB lo hi = true then (0 : Int) else 3) = sm at kS HF
  have HFH : Hid (firstI [lineI al zl, sm] = overE al zl lo hi) := HF
  clear HF hsm
  go_enter Try.func4, Try.ntmps4
  go_upto_region 3 with fail
  go_cut [5] (fun e w' => e = .int .i64 (overE al zl lo hi) ∧ (w'.cell? ⟨w.heap.size, 0, none⟩ = some (.slice a al.length ca) ∧ w'.cell? ⟨w.heap.size, 1, none⟩ = some (.slice z zl.length cz) ∧ w'.cell? ⟨w.heap.size + 1, 0, none⟩ = some (.int .i64 lo) ∧ w'.cell? ⟨w.heap.size + 1, 1, none⟩ = some (.int .i64 hi)) ∧ Rst w w.heap.size a z al zl w')
  case first =>
    go_region_held3 (fun u => (u.cell? ⟨w.heap.size, 0, none⟩ = some (.slice a al.length ca) ∧ u.cell? ⟨w.heap.size, 1, none⟩ = some (.slice z zl.length cz) ∧ u.cell? ⟨w.heap.size + 1, 0, none⟩ = some (.int .i64 lo) ∧ u.cell? ⟨w.heap.size + 1, 1, none⟩ = some (.int .i64 hi)) ∧ Rst w w.heap.size a z al zl u)
      (first
        | (with_reducible assumption)
        | (with_reducible refine keepS (below_alloc _ _) ?_; with_reducible assumption)
        | (with_reducible apply keepS; with_reducible assumption; with_reducible assumption)
        | (refine Z.out _ ?_; exact (Below.refl _ _).drew))
      (first
        | (go_at_call 7; refine (kM _ ?_).mono ?_; (with_reducible assumption); rintro e w' ⟨rfl, hb⟩)
        | (go_at_call 14; refine (kS _).mono ?_; rintro e w' ⟨rfl, hb⟩)
        | (go_at_call 13; refine (first_new2 _ _ _ _).mono ?_; rintro e w' ⟨rfl, rfl⟩))
    all_goals (
      rename_i hH
      go_wp2_with fail
      go_meet
      case rel => exact ⟨by rw [← HFH.out], hH.1, hH.2⟩)
  case rest =>
    obtain ⟨rfl, hS⟩ := hcut
    rename World => wb
    have nb : w.heap.size < wb.heap.size := World.block_lt_of_cell? wb ⟨w.heap.size, 0, none⟩ hS.1.1
    have nb1 : w.heap.size + 1 < wb.heap.size := World.block_lt_of_cell? wb ⟨w.heap.size + 1, 0, none⟩ hS.1.2.2.1
    clear Z kM kS HFH
    have st : Hid ((wb.cell? ⟨w.heap.size, 0, none⟩ = some (.slice a al.length ca) ∧ wb.cell? ⟨w.heap.size, 1, none⟩ = some (.slice z zl.length cz) ∧ wb.cell? ⟨w.heap.size + 1, 0, none⟩ = some (.int .i64 lo) ∧ wb.cell? ⟨w.heap.size + 1, 1, none⟩ = some (.int .i64 hi)) ∧ Rst w w.heap.size a z al zl wb) := hS
    have N1 : Hid (wb.heap.size ≠ w.heap.size ∧ wb.heap.size ≠ w.heap.size + 1 ∧ w.heap.size ≤ wb.heap.size) := ⟨by omega, by omega, by omega⟩
    clear hS nb nb1
    by_cases h0 : overE al zl lo hi = 0
    · obtain ⟨p, q, hpq⟩ : ∃ p q : Int, spanV al zl lo hi = .agg #[.int .i64 p, .int .i64 q] := ⟨_, _, by unfold spanV; rw [if_pos (EF.out h0)]⟩
      have kF' := kF (EF.out h0).1 (EF.out h0).2
      rw [hpq] at kF' kO
      rw [h0] at kO ⊢
      have PQ : Hid (spanV al zl lo hi = .agg #[.int .i64 p, .int .i64 q]) := hpq
      clear kF EF SV hpq h0
      go_upto_region 5 with fail
      obtain ⟨w4, hw4⟩ : ∃ w4, wb.alloc (.cells #[.int .i64 0, .int .i64 0] 37) = w4 := ⟨_, rfl⟩
      have b4 : Below wb.heap.size wb w4 := by rw [← hw4]; exact below_alloc _ _
      have l4 : Lies w4 wb.heap.size 0 0 := by rw [← hw4]; exact ⟨by simp [go_sem], by simp [go_sem], by simp [go_sem], by simp [go_sem], by simp [go_sem]⟩
      rw [hw4]
      clear hw4
      have S4 := keepS b4 st.out
      have L4 : Hid (Lies w4 wb.heap.size 0 0) := l4
      obtain ⟨⟨c1, c2, c3, c4⟩, R4⟩ := id S4
      clear b4 l4 st
      go_upto_region 7 with (go_at_call 15; refine (kF' _ S4).mono ?_; rintro e w5 ⟨rfl, hb5⟩; obtain ⟨l1, l2, l3, l4, l5⟩ := L4.out.later hb5)
      have S5 := keepS hb5 S4
      obtain ⟨w6, hw6⟩ : ∃ w6, (w5.setCell ⟨wb.heap.size, 0, none⟩ (.int .i64 p)).setCell ⟨wb.heap.size, 1, none⟩ (.int .i64 q) = w6 := ⟨_, rfl⟩
      have l6 : Lies w6 wb.heap.size p q := by rw [← hw6]; exact (L4.out.later hb5).setSame p q
      have S6 : (w6.cell? ⟨w.heap.size, 0, none⟩ = some (.slice a al.length ca) ∧ w6.cell? ⟨w.heap.size, 1, none⟩ = some (.slice z zl.length cz) ∧ w6.cell? ⟨w.heap.size + 1, 0, none⟩ = some (.int .i64 lo) ∧ w6.cell? ⟨w.heap.size + 1, 1, none⟩ = some (.int .i64 hi)) ∧ Rst w w.heap.size a z al zl w6 := by
        rw [← hw6]
        obtain ⟨n1, n2, n3⟩ := N1.out
        obtain ⟨⟨x1, x2, x3, x4⟩, r1, r2, r3⟩ := S5
        refine ⟨⟨cell_else (cell_else x1 n1) n1, cell_else (cell_else x2 n1) n1, cell_else (cell_else x3 n2) n2, cell_else (cell_else x4 n2) n2⟩, ?_, ?_, (r3.setCell (p := ⟨wb.heap.size, 0, none⟩) n3 _).setCell (p := ⟨wb.heap.size, 1, none⟩) n3 _⟩
        · have hne : ∀ b off, a = some ⟨b, off, none⟩ → al ≠ [] → wb.heap.size ≠ b := fun b off e q => by have := FR.out.1 b off e q; omega
          exact (r1.setElse hne _).setElse hne _
        · have hne : ∀ b off, z = some ⟨b, off, none⟩ → zl ≠ [] → wb.heap.size ≠ b := fun b off e q => by have := FR.out.2 b off e q; omega
          exact (r2.setElse hne _).setElse hne _
      rw [hw6]
      clear hw6 l1 l2 l3 l4 l5 c1 c2 c3 c4 R4 S4 L4 S5 hb5 kF'
      have L6 : Hid (Lies w6 wb.heap.size p q) := l6
      clear l6
      obtain ⟨⟨c1, c2, c3, c4⟩, R6⟩ := id S6
      go_upto_region 8 with (go_at_call 16; refine (kO _ S6).mono ?_; rintro e w7 ⟨x, y, rfl, hv, hb7⟩)
      have hv' := hv.out
      simp only [Value.agg.injEq] at hv'
      have e1 : p = x := by simpa using congrArg (fun l => l.getD 0 .nilIface) hv'
      have e2 : q = y := by simpa using congrArg (fun l => l.getD 1 .nilIface) hv'
      subst e1 e2
      clear hv hv' c1 c2 c3 c4
      have S7 := keepS hb7 S6
      have L7 := L6.out.later hb7
      have b8 := below_alloc w7 (.cells #[.int .i64 p, .int .i64 q] 37)
      have f1 := cell_later b8 L7.1
      have f2 := cell_later b8 L7.2.1
      have HB : Hid (Below w.heap.size w (w7.alloc (.cells #[.int .i64 p, .int .i64 q] 37))) := below_up S7.2.2.2 b8
      clear S7 L7 b8 S6 L6 hb7 R6 kO
      go_wp2_with (go_at_call 10; refine (is_any _ _ _).mono ?_; rintro e w' ⟨rfl, rfl⟩)
      go_ret
      exact ⟨by simp, HB.out⟩
    · have hpq := SV.out h0
      rw [hpq] at kO
      have h0' : (overE al zl lo hi == 0) = false := by simpa using h0
      clear kF EF SV hpq h0
      generalize overE al zl lo hi = er at *
      go_upto_region 5 with fail
      obtain ⟨w4, hw4⟩ : ∃ w4, wb.alloc (.cells #[.int .i64 0, .int .i64 0] 37) = w4 := ⟨_, rfl⟩
      have b4 : Below wb.heap.size wb w4 := by rw [← hw4]; exact below_alloc _ _
      have l4 : Lies w4 wb.heap.size 0 0 := by rw [← hw4]; exact ⟨by simp [go_sem], by simp [go_sem], by simp [go_sem], by simp [go_sem], by simp [go_sem]⟩
      rw [hw4]
      clear hw4
      have S4 := keepS b4 st.out
      have L4 : Hid (Lies w4 wb.heap.size 0 0) := l4
      obtain ⟨⟨c1, c2, c3, c4⟩, R4⟩ := id S4
      clear b4 l4 st
      go_upto_region 8 with (go_at_call 16; refine (kO _ S4).mono ?_; rintro e w7 ⟨x, y, rfl, hv, hb7⟩)
      have hv' := hv.out
      simp only [Value.agg.injEq] at hv'
      have e1 : 0 = x := by simpa using congrArg (fun l => l.getD 0 .nilIface) hv'
      have e2 : 0 = y := by simpa using congrArg (fun l => l.getD 1 .nilIface) hv'
      subst e1 e2
      clear hv hv' c1 c2 c3 c4
      have S7 := keepS hb7 S4
      have L7 := L4.out.later hb7
      have b8 := below_alloc w7 (.cells #[.int .i64 0, .int .i64 0] 37)
      have f1 := cell_later b8 L7.1
      have f2 := cell_later b8 L7.2.1
      have HB : Hid (Below w.heap.size w (w7.alloc (.cells #[.int .i64 0, .int .i64 0] 37))) := below_up S7.2.2.2 b8
      clear S7 L7 b8 S4 L4 hb7 R4 kO
      go_wp2_with (go_at_call 10; refine (is_any _ _ _).mono ?_; rintro e w' ⟨rfl, rfl⟩)
      go_ret
      exact ⟨by simp, HB.out⟩

theorem lineOver_walk (a z : Option Addr) (ca cz : Nat) (al zl : List Int) (lo hi : Int) (w : World) (hca : al.length ≤ ca) (ha : Lst w a al) (hz : Lst w z zl) :
    Calls Try.prog 4 #[.agg #[.slice a al.length ca, .slice z zl.length cz], .agg #[.int .i64 lo, .int .i64 hi]] w fun r w' => r = .returned (.bool true) ∧ Below w.heap.size w w' := by
  by_cases hm : al.length ≤ 20
  · by_cases hn : zl.length ≤ 20
    · exact lineOver_in a z ca cz al zl lo hi w hm hn hca ha hz
    · have m1 : (al.length : Int) ≤ 20 := by omega
      have n1 : 20 < (zl.length : Int) := by omega
      clear ha hz
      go_enter Try.func4, Try.ntmps4
      go_wp2_with fail
      go_ret
      exact ⟨rfl, ((Below.refl _ _).alloc (Nat.le_refl _) _).alloc (by simp) _⟩
  · have m1 : 20 < (al.length : Int) := by omega
    clear ha hz
    go_enter Try.func4, Try.ntmps4
    go_wp2_with fail
    go_ret
    exact ⟨rfl, ((Below.refl _ _).alloc (Nat.le_refl _) _).alloc (by simp) _⟩

end Go.Proofs.Ytngedehfaidphaa
