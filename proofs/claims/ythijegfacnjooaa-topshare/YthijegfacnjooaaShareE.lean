/-
  The contract of share.deal: each is dealt what it takes at the level, and one more, as long as something is left.
-/
import Derived.Test.YthijegfacnjooaaShareD
namespace Go.Proofs.Ythijegfacnjooaa
open Go.RowKit Plain

/-- n numbers lie in a block, and may be written. -/
def DA (w : World) (D n : Nat) (f : Nat → Int) : Prop := ∀ j, j < n → w.cell? ⟨D, j, none⟩ = some (.int .i64 (f j)) ∧ w.frozen? ⟨D, j, none⟩ = false
theorem DA.later {w w' : World} {D n : Nat} {f : Nat → Int} (h : DA w D n f) (hb : Below w.heap.size w w') : DA w' D n f := fun j hj =>
  ⟨cell_later hb (h j hj).1, (hb.frozen (p := ⟨D, j, none⟩) (World.block_lt_of_cell? w ⟨D, j, none⟩ (h j hj).1)).trans (h j hj).2⟩
def updD (f : Nat → Int) (k : Nat) (v : Int) (j : Nat) : Int := if j = k then v else f j
theorem DA.set {w : World} {D n : Nat} {f : Nat → Int} (h : DA w D n f) (k : Nat) (v : Int) : DA (w.setCell ⟨D, k, none⟩ (.int .i64 v)) D n (updD f k v) := fun j hj => by
  refine ⟨?_, by simpa [go_sem] using (h j hj).2⟩
  unfold updD
  by_cases e : j = k
  · subst e; rw [if_pos rfl]; exact scell_same (h j hj).1
  · rw [if_neg e]; exact scell_other (h j hj).1 (sne_off (Ne.symm e))
theorem DA.new (w : World) (n : Nat) (t : TypeId) : DA (w.alloc (.cells (madeCells #[.int .i64 0] n) t)) w.heap.size n (fun _ => 0) := fun j hj => by
  have e : (madeCells #[.int .i64 0] n)[j]? = some (.int .i64 0) := by rw [← Array.getElem?_toList, toList_madeCells_one, List.getElem?_replicate, if_pos hj]
  exact ⟨by simp [go_sem, e], by simp [go_sem]⟩
theorem bset {w0 w : World} {K D k : Nat} {v : Value} (h : Below K w0 w) (hD : K ≤ D) : Below K w0 (w.setCell ⟨D, k, none⟩ v) := h.setCell hD v
/-- The first k as they are dealt. -/
def mixD (T R : Int) (l : List Sv) (v s : Int) (k j : Nat) : Int := if j < k then dlI T R l v s j else 0
theorem mixD_step (T R : Int) (l : List Sv) (v s : Int) (k : Nat) : mixD T R l v s (k + 1) = updD (mixD T R l v s k) k (dlI T R l v s k) := by
  funext j; simp only [mixD, updD]; by_cases h1 : j = k
  · subst h1; simp
  · by_cases h2 : j < k
    · rw [if_pos (by omega), if_neg h1, if_pos h2]
    · rw [if_neg (by omega), if_neg h1, if_neg h2]
theorem updD_twice {f g : Nat → Int} {k : Nat} {a b : Int} (h : updD f k a = g) : updD f k b = updD g k b := by
  subst h; funext j; simp only [updD]; split <;> rfl
theorem keepD {w u u' : World} {D k n : Nat} {t : Int} {f : Nat → Int} (hb : Below u.heap.size u u') (h : u.cell? ⟨D, k, none⟩ = some (.int .i64 t) ∧ DA u D n f ∧ Below w.heap.size w u) : u'.cell? ⟨D, k, none⟩ = some (.int .i64 t) ∧ DA u' D n f ∧ Below w.heap.size w u' :=
  ⟨cell_later hb h.1, h.2.1.later hb, abelow_up h.2.2 hb⟩
theorem infoDInt : (Try.prog.info? 3).map (fun i => (i.zero, i.size, i.bytes)) = some (some (.int .i64 0), 1, 8) := by kernel_rfl
theorem make_ints (n : Nat) (hn : n ≤ 9) (w : World) : (Instr.makeSlice 50 (.int .i64 (n : Int)) (.int .i64 (n : Int))).run Try.prog w = .ok (.slice (some ⟨w.heap.size, 0, none⟩) n n) (w.alloc (.cells (madeCells #[.int .i64 0] n) 3)) := by
  obtain ⟨i0, hi, hz0, hz1, hz2⟩ := info_parts infoDInt
  have h := run_make (P := Try.prog) (w := w) 50 3 i0 (.int .i64 0) Try.underlying50 hi hz0 .i64 .i64 (n : Int) (n : Int) (by omega) (by omega) (by rw [hz2]; omega) (by omega)
  rw [hz1, Int.toNat_natCast, Nat.mul_one] at h
  exact h
theorem dl_ils {w : World} {D n : Nat} {T R : Int} {l : List Sv} {v s : Int} (hn : n = l.length) (h : DA w D n (mixD T R l v s n)) : ILs w (some ⟨D, 0, none⟩) (dlU T R l v s l.length) := by
  subst hn
  right
  refine ⟨D, 0, rfl, fun k hk => ?_⟩
  rw [dlU_len] at hk
  show w.cell? _ = _
  rw [Nat.zero_add, (h k hk).1]
  have e : mixD T R l v s l.length k = dlI T R l v s k := if_pos hk
  have g : ∀ n k, k < n → (dlU T R l v s n).getD k 0 = dlI T R l v s k := by
    intro n
    induction n with
    | zero => intro k h; omega
    | succ n ih =>
      intro k h
      rw [dlU, List.getD_eq_getElem?_getD]
      by_cases e : k = n
      · subst e; rw [List.getElem?_append_right (by rw [dlU_len]; omega), dlU_len]; simp
      · rw [List.getElem?_append_left (by rw [dlU_len]; omega), ← List.getD_eq_getElem?_getD]; exact ih k (by omega)
  rw [e, g _ k hk]

set_option maxRecDepth 100000 in
set_option maxHeartbeats 4000000 in
theorem deal_at (T R S C v sm : Int) (l : List Sv) (a : Option Addr) (ca : Nat) (v0 : -2000 ≤ v) (v1 : v ≤ 2000) (m0 : -20000 ≤ sm) (m1 : sm ≤ 20000) (hok : AllOk T R S C l) (hl : l.length ≤ 9) (w : World) (hw : WLs w a T R l) :
    Calls Try.prog 73 #[.slice a l.length ca, .int .i64 v, .int .i64 sm] w fun e w' => (∃ g cap, e = .returned (.slice (some ⟨g, 0, none⟩) l.length cap) ∧ w.heap.size ≤ g ∧ ILs w' (some ⟨g, 0, none⟩) (dlU T R l v (sm - tot T R l v) l.length)) ∧ Below w.heap.size w w' := by
  have HW := ahide hw
  have HOK := ahide hok
  have htg := together_any T R S C l v a ca hok hl w hw
  have htb := tot_bd hok hl v
  have hmk := make_ints l.length hl
  have hme := free_method
  have hml := lost_method
  obtain ⟨s, HSE⟩ : ∃ s, Hid (sm - tot T R l v = s) := ⟨_, rfl⟩
  have s0 : -30000 ≤ s ∧ s ≤ 30000 := by have := HSE.out; omega
  clear hw hok
  go_enter Try.func73, Try.ntmps73
  go_wp2_with (go_at_call 72; refine htg.mono ?_; rintro e w0 ⟨rfl, hb0⟩)
  have HD := ahide (DA.new w0 l.length 3)
  have HB := ahide (abelow_up hb0 (abelow_alloc w0 (.cells (madeCells #[.int .i64 0] l.length) 3)))
  have hDW := hb0.size
  generalize w0.alloc (.cells (madeCells #[.int .i64 0] l.length) 3) = w3 at *
  generalize w0.heap.size = D at *
  clear hb0 htg hmk
  rw [HSE.out]
  go_loopw [7, 21] (fun x i wr => ∃ k : Nat, k ≤ l.length ∧ i = .int .i64 k ∧ x = .int .i64 (lfU T R l v s k) ∧ DA wr D l.length (mixD T R l v s k) ∧ Below w.heap.size w wr) (fun _ i _ => l.length - (intOf i).toNat)
  case atStart => exact ⟨0, Nat.zero_le _, rfl, rfl, HD.out, HB.out⟩
  case round =>
    clear HD HB
    obtain ⟨k, hk, rfl, rfl, hD, hb⟩ := hrel
    by_cases hlt : k < l.length
    · obtain ⟨bb, off, rfl, hc⟩ := (HW.out.later hb).at hlt
      have HD := ahide hD
      have HB := ahide hb
      have hlb := lfU_bd T R l v s k
      have htb1 := tk_bd HOK.out hlt v
      have htb2 := tk_bd HOK.out hlt (v + 1)
      have HS := ahide (show lfU T R l v s (k + 1) = if 0 < lfU T R l v s k ∧ tk T R (svAt l k) v < tk T R (svAt l k) (v + 1) then lfU T R l v s k - 1 else lfU T R l v s k from rfl)
      have HI := ahide (show dlI T R l v s k = if 0 < lfU T R l v s k ∧ tk T R (svAt l k) v < tk T R (svAt l k) (v + 1) then tk T R (svAt l k) v + 1 else tk T R (svAt l k) v from rfl)
      have htk : ∀ u, tk T R (svAt l k) u = clipI u (loR T R (svAt l k).1 (svAt l k).2.2) (hiR T R (svAt l k).1 (svAt l k).2.2) := fun _ => rfl
      have j0 : (0 : Int) ≤ (k : Int) := by omega
      have j1 : (k : Int) < (l.length : Int) := by omega
      clear hD hb htb
      generalize lfU T R l v s k = x at *
      cases ho : (svAt l k).2.2
      · have h1 := freeTakes_any (loR T R (svAt l k).1 (svAt l k).2.2) (hiR T R (svAt l k).1 (svAt l k).2.2) v
        have h2 := freeTakes_any (loR T R (svAt l k).1 (svAt l k).2.2) (hiR T R (svAt l k).1 (svAt l k).2.2) (v + 1)
        rw [← htk] at h1 h2
        unfold tv at hc
        rw [if_neg (by simp [ho])] at hc
        clear htk ho
        generalize tk T R (svAt l k) v = t at *
        generalize tk T R (svAt l k) (v + 1) = t2 at *
        generalize loR T R (svAt l k).1 (svAt l k).2.2 = lo at *
        generalize hiR T R (svAt l k).1 (svAt l k).2.2 = hi at *
        go_upto_region 7 with (go_at_call 144; refine (h1 _).mono ?_; rintro e w1 ⟨rfl, hb1⟩; have HD := ahide (HD.out.later hb1); have HB := ahide (abelow_up HB.out hb1); have c0 := (HD.out k hlt).1; have c1 := (HD.out k hlt).2; clear hb1)
        have HD := ahide (HD.out.set k t)
        have HB := ahide (bset (k := k) (v := .int .i64 t) HB.out hDW)
        generalize w1.setCell ⟨D, k, none⟩ (.int .i64 t) = w2 at *
        clear c0 c1
        obtain ⟨f, HFE⟩ : ∃ f, Hid (updD (mixD T R l v s k) k t = f) := ⟨_, rfl⟩
        rw [HFE.out] at HD
        have c0 := (HD.out k hlt).1
        have c1 := (HD.out k hlt).2
        have HFK : Hid (f k = t) := by show f k = t; rw [← HFE.out]; exact if_pos rfl
        rw [HFK.out] at c0
        by_cases hp : 0 < x
        · have S0 : w2.cell? ⟨D, k, none⟩ = some (.int .i64 t) ∧ DA w2 D l.length f ∧ Below w.heap.size w w2 := ⟨c0, HD.out, HB.out⟩
          have Z := ahide S0
          have v1 : IntKind.i64.wrap (v + 1) = v + 1 := swrap_id (by omega) (by omega)
          by_cases hq : t < t2
          · rw [if_pos ⟨hp, hq⟩] at HS HI
            go_region_held3 (fun u => u.cell? ⟨D, k, none⟩ = some (.int .i64 t) ∧ DA u D l.length f ∧ Below w.heap.size w u)
              (first
                | (with_reducible assumption)
                | (with_reducible apply keepD; with_reducible assumption; with_reducible assumption)
                | (refine keepD ?_ Z.out; exact (Below.refl _ _).drew))
              (first
                | (go_at_call 144; refine (h2 _).mono ?_; rintro e w' ⟨rfl, hb⟩))
            all_goals
              rename_i hH
              have HD2 := ahide hH.2.1
              have HB2 := ahide hH.2.2
              have d0 := hH.1
              have d1 := (hH.2.1 k hlt).2
              clear hH c0 c1
              go_wp2_with fail
              go_roundw
              (case rel => exact ⟨k + 1, by omega, by go_num, by rw [HS.out], by rw [mixD_step, HI.out, updD_twice HFE.out]; exact HD2.out.set k (t + 1), bset HB2.out hDW⟩)
              (case measure => simp [intOf]; omega)
          · rw [if_neg (fun h => hq h.2)] at HS HI
            go_region_held3 (fun u => u.cell? ⟨D, k, none⟩ = some (.int .i64 t) ∧ DA u D l.length f ∧ Below w.heap.size w u)
              (first
                | (with_reducible assumption)
                | (with_reducible apply keepD; with_reducible assumption; with_reducible assumption)
                | (refine keepD ?_ Z.out; exact (Below.refl _ _).drew))
              (first
                | (go_at_call 144; refine (h2 _).mono ?_; rintro e w' ⟨rfl, hb⟩))
            all_goals
              rename_i hH
              have HD2 := ahide hH.2.1
              have HB2 := ahide hH.2.2
              clear hH c0 c1
              go_wp2_with fail
              go_roundw
              (case rel => exact ⟨k + 1, by omega, by go_num, by rw [HS.out], by rw [mixD_step, HI.out, HFE.out]; exact HD2.out, HB2.out⟩)
              (case measure => simp [intOf]; omega)
        · have hp' : decide (0 < x) = false := by simpa using hp
          rw [if_neg (fun h => hp h.1)] at HS HI
          go_quiet (fail)
          go_wp2
          go_roundw
          case rel => exact ⟨k + 1, by omega, by go_num, by rw [HS.out], by rw [mixD_step, HI.out, HFE.out]; exact HD.out.later (below_drewN (Below.refl _ _) _), abelow_up HB.out (below_drewN (Below.refl _ _) _)⟩
          case measure => simp [intOf]; omega
      · have h1 := lostTakes_any v
        have h2 := lostTakes_any (v + 1)
        rw [← tk_lost (T := T) (R := R) (v := v) ho] at h1
        rw [← tk_lost (T := T) (R := R) (v := v + 1) ho] at h2
        unfold tv at hc
        rw [if_pos ho] at hc
        clear htk ho
        generalize tk T R (svAt l k) v = t at *
        generalize tk T R (svAt l k) (v + 1) = t2 at *
        go_upto_region 7 with (go_at_call 143; refine (h1 _).mono ?_; rintro e w1 ⟨rfl, hb1⟩; have HD := ahide (HD.out.later hb1); have HB := ahide (abelow_up HB.out hb1); have c0 := (HD.out k hlt).1; have c1 := (HD.out k hlt).2; clear hb1)
        have HD := ahide (HD.out.set k t)
        have HB := ahide (bset (k := k) (v := .int .i64 t) HB.out hDW)
        generalize w1.setCell ⟨D, k, none⟩ (.int .i64 t) = w2 at *
        clear c0 c1
        obtain ⟨f, HFE⟩ : ∃ f, Hid (updD (mixD T R l v s k) k t = f) := ⟨_, rfl⟩
        rw [HFE.out] at HD
        have c0 := (HD.out k hlt).1
        have c1 := (HD.out k hlt).2
        have HFK : Hid (f k = t) := by show f k = t; rw [← HFE.out]; exact if_pos rfl
        rw [HFK.out] at c0
        by_cases hp : 0 < x
        · have S0 : w2.cell? ⟨D, k, none⟩ = some (.int .i64 t) ∧ DA w2 D l.length f ∧ Below w.heap.size w w2 := ⟨c0, HD.out, HB.out⟩
          have Z := ahide S0
          have v1 : IntKind.i64.wrap (v + 1) = v + 1 := swrap_id (by omega) (by omega)
          by_cases hq : t < t2
          · rw [if_pos ⟨hp, hq⟩] at HS HI
            go_region_held3 (fun u => u.cell? ⟨D, k, none⟩ = some (.int .i64 t) ∧ DA u D l.length f ∧ Below w.heap.size w u)
              (first
                | (with_reducible assumption)
                | (with_reducible apply keepD; with_reducible assumption; with_reducible assumption)
                | (refine keepD ?_ Z.out; exact (Below.refl _ _).drew))
              (first
                | (go_at_call 143; refine (h2 _).mono ?_; rintro e w' ⟨rfl, hb⟩))
            all_goals
              rename_i hH
              have HD2 := ahide hH.2.1
              have HB2 := ahide hH.2.2
              have d0 := hH.1
              have d1 := (hH.2.1 k hlt).2
              clear hH c0 c1
              go_wp2_with fail
              go_roundw
              (case rel => exact ⟨k + 1, by omega, by go_num, by rw [HS.out], by rw [mixD_step, HI.out, updD_twice HFE.out]; exact HD2.out.set k (t + 1), bset HB2.out hDW⟩)
              (case measure => simp [intOf]; omega)
          · rw [if_neg (fun h => hq h.2)] at HS HI
            go_region_held3 (fun u => u.cell? ⟨D, k, none⟩ = some (.int .i64 t) ∧ DA u D l.length f ∧ Below w.heap.size w u)
              (first
                | (with_reducible assumption)
                | (with_reducible apply keepD; with_reducible assumption; with_reducible assumption)
                | (refine keepD ?_ Z.out; exact (Below.refl _ _).drew))
              (first
                | (go_at_call 143; refine (h2 _).mono ?_; rintro e w' ⟨rfl, hb⟩))
            all_goals
              rename_i hH
              have HD2 := ahide hH.2.1
              have HB2 := ahide hH.2.2
              clear hH c0 c1
              go_wp2_with fail
              go_roundw
              (case rel => exact ⟨k + 1, by omega, by go_num, by rw [HS.out], by rw [mixD_step, HI.out, HFE.out]; exact HD2.out, HB2.out⟩)
              (case measure => simp [intOf]; omega)
        · have hp' : decide (0 < x) = false := by simpa using hp
          rw [if_neg (fun h => hp h.1)] at HS HI
          go_quiet (fail)
          go_wp2
          go_roundw
          case rel => exact ⟨k + 1, by omega, by go_num, by rw [HS.out], by rw [mixD_step, HI.out, HFE.out]; exact HD.out.later (below_drewN (Below.refl _ _) _), abelow_up HB.out (below_drewN (Below.refl _ _) _)⟩
          case measure => simp [intOf]; omega
    · have e : k = l.length := by omega
      have HL := ahide (dl_ils e (by subst e; exact hD))
      subst e
      clear hD
      go_wp2
      go_ret
      exact ⟨⟨_, _, rfl, hDW, by rw [HSE.out]; exact HL.out⟩, hb⟩


theorem deal_any (T R S C v sm : Int) (l : List Sv) (a : Option Addr) (ca : Nat) (v0 : -2000 ≤ v) (v1 : v ≤ 2000) (m0 : -20000 ≤ sm) (m1 : sm ≤ 20000) (hok : AllOk T R S C l) (hl : l.length ≤ 9) (w : World) (hw : WLs w a T R l) :
    Calls Try.prog 73 #[.slice a l.length ca, .int .i64 v, .int .i64 sm] w fun e w' => (∃ x cap, e = .returned (.slice x l.length cap) ∧ ILs w' x (dlU T R l v (sm - tot T R l v) l.length)) ∧ Below w.heap.size w w' :=
  (deal_at T R S C v sm l a ca v0 v1 m0 m1 hok hl w hw).mono fun _ _ ⟨⟨_, cap, h1, _, h2⟩, hb⟩ => ⟨⟨_, cap, h1, h2⟩, hb⟩

end Go.Proofs.Ythijegfacnjooaa
