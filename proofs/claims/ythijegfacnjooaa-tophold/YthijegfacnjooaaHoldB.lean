/-
  Contracts of hold.Check and fulmarref.HoldRuleMay: may a rule be?
-/
import Derived.Test.YthijegfacnjooaaHoldA
namespace Go.Proofs.Ythijegfacnjooaa
open Go.RowKit Plain

theorem isFrom_any' (x lo hi : Int) (w : World) :
    Calls Try.prog 69 #[.int .i64 x, .int .i64 lo, .int .i64 hi] w fun e w' => e = .returned (.bool (betw x lo hi)) ∧ Below w.heap.size w w' :=
  (isFrom_ex x lo hi w).mono fun e w' h => ⟨h.1, by rw [h.2]; exact abelow_alloc _ _⟩

/-- What is wrong of the first k gains. -/
def gaU (z : List Int) : Nat → Int
  | 0 => 0
  | k + 1 => firstI [gaU z k, if betw (at0 z k) 0 65536 then 0 else 1]
theorem firstI_two (x y : Int) : firstI [x, y] = if x = 0 then y else x := by
  simp only [firstI]
  by_cases h : y = 0
  · rw [if_pos h, h]
  · rw [if_neg h]
theorem gaU_step (z : List Int) (k : Nat) : gaU z (k + 1) = if gaU z k = 0 then (if betw (at0 z k) 0 65536 then 0 else 1) else gaU z k := firstI_two _ _
theorem gaU_stay {z : List Int} {k : Nat} (h : gaU z k ≠ 0) : ∀ m, k ≤ m → gaU z m = gaU z k := by
  intro m hm
  induction m with
  | zero =>
            have : k = 0 := by omega
            subst this; rfl
  | succ m ih =>
    by_cases e : k = m + 1
    · subst e; rfl
    · have i := ih (by omega)
      rw [gaU_step, i, if_neg h]
theorem gaU_all {z : List Int} : ∀ {n : Nat}, gaU z n = 0 → ∀ k, k < n → betw (at0 z k) 0 65536 = true
  | 0, _, k, hk => by omega
  | n + 1, h, k, hk => by
    rw [gaU_step] at h
    split at h
    · rename_i h0
      by_cases e : k = n
      · subst e
        by_cases q : betw (at0 z k) 0 65536 = true
        · exact q
        · rw [if_neg q] at h; cases h
      · exact gaU_all h0 k (by omega)
    · rename_i h0; exact absurd h h0
/-- What is wrong of a rule, but for its gains; of a rule. -/
def r0E (L H U B M : Int) (al zl : List Int) : Int := firstI [if ruB L H U B M then 0 else 1, if H < L then 3 else 0, lineI al zl]
def ruE (L H U B M : Int) (al zl : List Int) : Int := if r0E L H U B M al zl = 0 then gaU zl zl.length else r0E L H U B M al zl
def rkE (L H U B M : Int) (al zl : List Int) (k : Nat) : Int := if r0E L H U B M al zl = 0 then gaU zl k else r0E L H U B M al zl
theorem rkE_zero (L H U B M : Int) (al zl : List Int) : rkE L H U B M al zl 0 = r0E L H U B M al zl := by
  unfold rkE; split
  · rename_i h; rw [h]; rfl
  · rfl
theorem rkE_step (L H U B M : Int) (al zl : List Int) (k : Nat) : rkE L H U B M al zl (k + 1) = firstI [rkE L H U B M al zl k, if betw (at0 zl k) 0 65536 then 0 else 1] := by
  unfold rkE; split
  · rfl
  · rename_i h; simp only [firstI]; rw [if_neg h]
theorem r0E_zero {L H U B M : Int} {al zl : List Int} (h : r0E L H U B M al zl = 0) : ruB L H U B M = true ∧ L ≤ H ∧ lineI al zl = 0 := by
  unfold r0E at h
  by_cases h1 : ruB L H U B M = true
  · rw [if_pos h1] at h
    by_cases h2 : H < L
    · rw [if_pos h2] at h; cases h
    · rw [if_neg h2] at h
      refine ⟨h1, by omega, ?_⟩
      simp only [firstI] at h; simp at h; exact Classical.byContradiction fun q => q (h q)
  · rw [if_neg h1] at h; cases h
theorem ruE_zero {L H U B M : Int} {al zl : List Int} (h : ruE L H U B M al zl = 0) : ruB L H U B M = true ∧ L ≤ H ∧ lineI al zl = 0 ∧ gaU zl zl.length = 0 := by
  unfold ruE at h
  split at h
  · rename_i h0; obtain ⟨a, b, c⟩ := r0E_zero h0; exact ⟨a, b, c, h⟩
  · rename_i h0; exact absurd h h0

/-- A rule's box, its lists, and nothing below turned. -/
theorem keepHR {Q : Nat} {W u u' : World} {L H U B M : Int} {a z : Option Addr} {ca cz : Nat} {al zl : List Int} (hb : Below u.heap.size u u') (h : (u.cell? ⟨Q, 0, none⟩ = some (.int .i64 L) ∧ u.cell? ⟨Q, 1, none⟩ = some (.int .i64 H) ∧ u.cell? ⟨Q, 2, none⟩ = some (.int .i64 U) ∧ u.cell? ⟨Q, 3, none⟩ = some (.int .i64 B) ∧ u.cell? ⟨Q, 4, none⟩ = some (.int .i64 M) ∧ u.cell? ⟨Q, 5, none⟩ = some (.slice a al.length ca) ∧ u.cell? ⟨Q, 6, none⟩ = some (.slice z zl.length cz)) ∧ Lst u a al ∧ Lst u z zl ∧ Below Q W u) : (u'.cell? ⟨Q, 0, none⟩ = some (.int .i64 L) ∧ u'.cell? ⟨Q, 1, none⟩ = some (.int .i64 H) ∧ u'.cell? ⟨Q, 2, none⟩ = some (.int .i64 U) ∧ u'.cell? ⟨Q, 3, none⟩ = some (.int .i64 B) ∧ u'.cell? ⟨Q, 4, none⟩ = some (.int .i64 M) ∧ u'.cell? ⟨Q, 5, none⟩ = some (.slice a al.length ca) ∧ u'.cell? ⟨Q, 6, none⟩ = some (.slice z zl.length cz)) ∧ Lst u' a al ∧ Lst u' z zl ∧ Below Q W u' := by
  obtain ⟨⟨h0, h1, h2, h3, h4, h5, h6⟩, k1, k2, k3⟩ := h
  have hs := World.block_lt_of_cell? u ⟨Q, 0, none⟩ h0
  exact ⟨⟨cell_later hb h0, cell_later hb h1, cell_later hb h2, cell_later hb h3, cell_later hb h4, cell_later hb h5, cell_later hb h6⟩, k1.later hb, k2.later hb, k3.trans (hb.mono (Nat.le_of_lt hs))⟩
theorem newHR (L H U B M : Int) (a z : Option Addr) (ca cz : Nat) (al zl : List Int) (w : World) (ha : Lst w a al) (hz : Lst w z zl) : (fun u => (u.cell? ⟨w.heap.size, 0, none⟩ = some (.int .i64 L) ∧ u.cell? ⟨w.heap.size, 1, none⟩ = some (.int .i64 H) ∧ u.cell? ⟨w.heap.size, 2, none⟩ = some (.int .i64 U) ∧ u.cell? ⟨w.heap.size, 3, none⟩ = some (.int .i64 B) ∧ u.cell? ⟨w.heap.size, 4, none⟩ = some (.int .i64 M) ∧ u.cell? ⟨w.heap.size, 5, none⟩ = some (.slice a al.length ca) ∧ u.cell? ⟨w.heap.size, 6, none⟩ = some (.slice z zl.length cz)) ∧ Lst u a al ∧ Lst u z zl ∧ Below w.heap.size w u) (w.alloc (.cells #[.int .i64 L, .int .i64 H, .int .i64 U, .int .i64 B, .int .i64 M, .slice a al.length ca, .slice z zl.length cz] 95)) :=
  ⟨by refine ⟨?_, ?_, ?_, ?_, ?_, ?_, ?_⟩ <;> simp [go_sem], ha.later (abelow_alloc _ _), hz.later (abelow_alloc _ _), abelow_alloc _ _⟩

set_option maxRecDepth 100000 in
set_option maxHeartbeats 2000000 in
theorem holdCheck_any (L H U B M : Int) (a z : Option Addr) (ca cz : Nat) (al zl : List Int) (hm : al.length ≤ 9223372036854775807) (hn : zl.length ≤ 9223372036854775807) (hca : al.length ≤ ca) (w : World) (ha : Lst w a al) (hz : Lst w z zl) :
    Calls Try.prog 80 #[.agg #[.int .i64 L, .int .i64 H, .int .i64 U, .int .i64 B, .int .i64 M, .slice a al.length ca, .slice z zl.length cz]] w fun e w' => e = .returned (errV (ruE L H U B M al zl)) ∧ Below w.heap.size w w' := by
  have hir := inRange_any L H U B M a z al.length zl.length ca cz
  have hck := fun u (h1 : Lst u a al) (h2 : Lst u z zl) => tcheck_any a z ca cz al zl u hm hn hca h1 h2
  have HX := ahide (newHR L H U B M a z ca cz al zl w ha hz)
  dsimp only at HX
  clear ha hz
  by_cases h1 : ruB L H U B M = true
  · rw [h1] at hir
    by_cases h2 : H < L
    · have HE := ahide (show ruE L H U B M al zl = 3 by unfold ruE r0E; rw [if_pos h1, if_pos h2]; rfl)
      clear h1 hck
      go_enter Try.func80, Try.ntmps80
      go_wp2_with (first
      | (go_at_call 98; refine (hir _).mono ?_; rintro e w1 ⟨rfl, hb1⟩; have HX := ahide (keepHR hb1 HX.out); obtain ⟨⟨q0, q1, q2, q3, q4, q5, q6⟩, _⟩ := HX.out; clear hb1)
      | (go_at_call 99; refine (hck _ HX.out.2.1 HX.out.2.2.1).mono ?_; rintro e w2 ⟨rfl, hb2⟩; have HX := ahide (keepHR hb2 HX.out); obtain ⟨⟨q0, q1, q2, q3, q4, q5, q6⟩, _⟩ := HX.out; clear hb2))
      go_ret
      exact ⟨by rw [HE.out]; rfl, HX.out.2.2.2⟩
    · by_cases h3 : lineI al zl = 0
      · have H0 := ahide (show ruE L H U B M al zl = gaU zl zl.length by unfold ruE; rw [if_pos]; unfold r0E; rw [if_pos h1, if_neg h2, h3]; rfl)
        simp only [h3, errV_zero] at hck
        clear h1 h3
        go_enter Try.func80, Try.ntmps80
        go_wp2_with (first
      | (go_at_call 98; refine (hir _).mono ?_; rintro e w1 ⟨rfl, hb1⟩; have HX := ahide (keepHR hb1 HX.out); obtain ⟨⟨q0, q1, q2, q3, q4, q5, q6⟩, _⟩ := HX.out; clear hb1)
      | (go_at_call 99; refine (hck _ HX.out.2.1 HX.out.2.2.1).mono ?_; rintro e w2 ⟨rfl, hb2⟩; have HX := ahide (keepHR hb2 HX.out); obtain ⟨⟨q0, q1, q2, q3, q4, q5, q6⟩, _⟩ := HX.out; clear hb2))
        go_loopw [28] (fun i wr => ∃ k : Nat, k ≤ zl.length ∧ i = .int .i64 k ∧ Hid (gaU zl k = 0) ∧ Lst wr z zl ∧ Below w.heap.size w wr) (fun i _ => zl.length - (intOf i).toNat)
        case atStart => exact ⟨0, Nat.zero_le _, rfl, rfl, HX.out.2.2.1, HX.out.2.2.2⟩
        case round =>
          clear HX q0 q1 q2 q3 q4 q5 q6
          obtain ⟨k, hk, rfl, hg, hl, hb⟩ := hrel
          by_cases hlt : k < zl.length
          · obtain ⟨bz, oz, rfl, hcs⟩ := hl.at (ne_nil_of_lt hlt)
            have hc := hcs k hlt
            have HL := ahide hl
            have HB := ahide hb
            have HT := ahide (gaU_step zl k)
            have hfr := isFrom_any' (at0 zl k) 0 65536
            have j0 : (0 : Int) ≤ (k : Int) := by omega
            have j1 : (k : Int) < (zl.length : Int) := by omega
            clear hcs hl hb
            by_cases hq : betw (at0 zl k) 0 65536 = true
            · have HS := ahide (show gaU zl (k + 1) = 0 by rw [HT.out, if_pos hg.out, if_pos hq])
              rw [hq] at hfr
              clear hq HT
              generalize at0 zl k = x at *
              go_wp2_with (go_at_call 69; refine (hfr _).mono ?_; rintro e w3 ⟨rfl, hb3⟩)
              go_roundw
              case rel => exact ⟨k + 1, by omega, by go_num, HS, HL.out.later hb3, abelow_up HB.out hb3⟩
              case measure => simp [intOf]; omega
            · have hs1 : gaU zl (k + 1) = 1 := by rw [HT.out, if_pos hg.out, if_neg hq]
              have HF := ahide (show ruE L H U B M al zl = 1 by rw [H0.out, gaU_stay (k := k + 1) (by rw [hs1]; decide) _ (by omega), hs1])
              rw [show betw (at0 zl k) 0 65536 = false by simpa using hq] at hfr
              clear hq hs1 HT
              generalize at0 zl k = x at *
              go_wp2_with (go_at_call 69; refine (hfr _).mono ?_; rintro e w3 ⟨rfl, hb3⟩)
              go_ret
              exact ⟨by rw [HF.out]; rfl, abelow_up HB.out hb3⟩
          · have e : k = zl.length := by omega
            subst e
            go_wp2
            go_ret
            exact ⟨by rw [H0.out, hg.out]; rfl, hb⟩
      · have HE := ahide (show ruE L H U B M al zl = lineI al zl by
          have e : r0E L H U B M al zl = lineI al zl := by unfold r0E; rw [if_pos h1, if_neg h2]; simp only [firstI]; simp [h3]
          unfold ruE; rw [e, if_neg h3])
        rw [HE.out]
        simp only [errV_ne h3] at hck ⊢
        clear h1 h3 HE
        generalize lineI al zl = E at *
        go_enter Try.func80, Try.ntmps80
        go_wp2_with (first
      | (go_at_call 98; refine (hir _).mono ?_; rintro e w1 ⟨rfl, hb1⟩; have HX := ahide (keepHR hb1 HX.out); obtain ⟨⟨q0, q1, q2, q3, q4, q5, q6⟩, _⟩ := HX.out; clear hb1)
      | (go_at_call 99; refine (hck _ HX.out.2.1 HX.out.2.2.1).mono ?_; rintro e w2 ⟨rfl, hb2⟩; have HX := ahide (keepHR hb2 HX.out); obtain ⟨⟨q0, q1, q2, q3, q4, q5, q6⟩, _⟩ := HX.out; clear hb2))
        go_ret
        exact ⟨rfl, HX.out.2.2.2⟩
  · have HE := ahide (show ruE L H U B M al zl = 1 by unfold ruE r0E; rw [if_neg h1]; rfl)
    rw [show ruB L H U B M = false by simpa using h1] at hir
    clear h1 hck
    go_enter Try.func80, Try.ntmps80
    go_wp2_with (first
      | (go_at_call 98; refine (hir _).mono ?_; rintro e w1 ⟨rfl, hb1⟩; have HX := ahide (keepHR hb1 HX.out); obtain ⟨⟨q0, q1, q2, q3, q4, q5, q6⟩, _⟩ := HX.out; clear hb1)
      | (go_at_call 99; refine (hck _ HX.out.2.1 HX.out.2.2.1).mono ?_; rintro e w2 ⟨rfl, hb2⟩; have HX := ahide (keepHR hb2 HX.out); obtain ⟨⟨q0, q1, q2, q3, q4, q5, q6⟩, _⟩ := HX.out; clear hb2))
    go_ret
    exact ⟨by rw [HE.out]; rfl, HX.out.2.2.2⟩

end Go.Proofs.Ythijegfacnjooaa
