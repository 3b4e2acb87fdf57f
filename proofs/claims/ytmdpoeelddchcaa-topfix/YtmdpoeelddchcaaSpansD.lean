/-
  The contract of fix.corners: the least and the greatest of what is made of the four corners.
-/
import Derived.Test.YtmdpoeelddchcaaSpansB
import Derived.Deep.DeepCutAuto
namespace Go.Proofs.Ytmdpoeelddchcaa
open Go.RowKit Plain

/-- Four numbers lie at block n. -/
def Made (w : World) (n : Nat) (p q r s : Int) : Prop := w.cell? ⟨n, 0, none⟩ = some (.int .i64 p) ∧ w.cell? ⟨n, 1, none⟩ = some (.int .i64 q) ∧ w.cell? ⟨n, 2, none⟩ = some (.int .i64 r) ∧ w.cell? ⟨n, 3, none⟩ = some (.int .i64 s)

/-- The lesser and the greater of two, the least and the greatest of some. -/
def mnI (x y : Int) : Int := if y < x then y else x
def mxI (x y : Int) : Int := if x < y then y else x
def lowL (p : Int) (l : List Int) (k : Nat) : Int := (l.take k).foldl mnI p
def highL (p : Int) (l : List Int) (k : Nat) : Int := (l.take k).foldl mxI p
theorem lowL_step (p : Int) (l : List Int) (k : Nat) (h : k < l.length) : lowL p l (k + 1) = mnI (lowL p l k) (l.getD k 0) := by
  unfold lowL; rw [List.take_succ_eq_append_getElem h, List.foldl_append, List.getD_eq_getElem?_getD, List.getElem?_eq_getElem h]; rfl
theorem highL_step (p : Int) (l : List Int) (k : Nat) (h : k < l.length) : highL p l (k + 1) = mxI (highL p l k) (l.getD k 0) := by
  unfold highL; rw [List.take_succ_eq_append_getElem h, List.foldl_append, List.getD_eq_getElem?_getD, List.getElem?_eq_getElem h]; rfl
theorem mnI_lt {x y : Int} (h : y < x) : mnI x y = y := if_pos h
theorem mnI_ge {x y : Int} (h : ¬ y < x) : mnI x y = x := if_neg h
theorem mxI_lt {x y : Int} (h : x < y) : mxI x y = y := if_pos h
theorem mxI_ge {x y : Int} (h : ¬ x < y) : mxI x y = x := if_neg h

/-- The sum of two. -/
def addG (x y : Int) : Int := ofI (ofI x + ofI y)

theorem idx4_0 (p q r s : Int) (w : World) : (Instr.index 46 (.agg #[.int .i64 p, .int .i64 q, .int .i64 r, .int .i64 s]) (.int .i64 0)).run Try.prog w = .ok (.int .i64 p) w := by kernel_rfl
theorem idx4_1 (p q r s : Int) (w : World) : (Instr.index 46 (.agg #[.int .i64 p, .int .i64 q, .int .i64 r, .int .i64 s]) (.int .i64 1)).run Try.prog w = .ok (.int .i64 q) w := by kernel_rfl
theorem idx4_2 (p q r s : Int) (w : World) : (Instr.index 46 (.agg #[.int .i64 p, .int .i64 q, .int .i64 r, .int .i64 s]) (.int .i64 2)).run Try.prog w = .ok (.int .i64 r) w := by kernel_rfl
theorem idx4_3 (p q r s : Int) (w : World) : (Instr.index 46 (.agg #[.int .i64 p, .int .i64 q, .int .i64 r, .int .i64 s]) (.int .i64 3)).run Try.prog w = .ok (.int .i64 s) w := by kernel_rfl
theorem idx4 (p q r s : Int) (k : Nat) (h : k < 4) (w : World) : (Instr.index 46 (.agg #[.int .i64 p, .int .i64 q, .int .i64 r, .int .i64 s]) (.int .i64 k)).run Try.prog w = .ok (.int .i64 ([p, q, r, s].getD k 0)) w := by
  match k, h with
  | 0, _ => exact idx4_0 p q r s w
  | 1, _ => exact idx4_1 p q r s w
  | 2, _ => exact idx4_2 p q r s w
  | 3, _ => exact idx4_3 p q r s w

theorem Lies.setSame {w : World} {b : Nat} {x y : Int} (h : Lies w b x y) (u v : Int) : Lies ((w.setCell ⟨b, 0, none⟩ (.int .i64 u)).setCell ⟨b, 1, none⟩ (.int .i64 v)) b u v := by
  obtain ⟨h1, h2, h3, h4, h5⟩ := h
  exact ⟨by simp [go_sem, h1], by simp [go_sem, h2], by simp [go_sem, h3], by simp [go_sem, h4], by simpa [go_sem] using h5⟩
theorem Lies.setElse {w : World} {b c o : Nat} {x y : Int} {v : Value} (h : Lies w b x y) (hc : c ≠ b) : Lies (w.setCell ⟨c, o, none⟩ v) b x y := by
  obtain ⟨h1, h2, h3, h4, h5⟩ := h
  exact ⟨(World.cell?_setCell_other _ _ _ _ (fun e => hc (congrArg Addr.block e))).trans h1, (World.cell?_setCell_other _ _ _ _ (fun e => hc (congrArg Addr.block e))).trans h2, by simp [go_sem, h3], by simp [go_sem, h4], by simpa [go_sem] using h5⟩

set_option maxHeartbeats 8000000 in
theorem corners_add (a b c d : Int) (w : World) :
    Calls Try.prog 40 #[.agg #[.int .i64 a, .int .i64 b], .agg #[.int .i64 c, .int .i64 d], .func (.func 35) #[] #[]] w fun e w' =>
      e = .returned (.agg #[.int .i64 (lowL (addG a c) [addG a c, addG a d, addG b c, addG b d] 4), .int .i64 (highL (addG a c) [addG a c, addG a d, addG b c, addG b d] 4)]) ∧ Below w.heap.size w w' := by
  go_enter Try.func40, Try.ntmps40
  go_upto_region 1 with fail
  go_cut [7] (fun p w' => ∃ n, p = .pointer (some ⟨n, 0, none⟩) ∧ Made w' n (addG a c) (addG a d) (addG b c) (addG b d) ∧ Lies w' (w.heap.size + 1 + 1) 0 0 ∧ Below w.heap.size w w')
  case first =>
    go_region_held3 (fun w' => w'.cell? ⟨w.heap.size, 0, none⟩ = some (.int .i64 a) ∧ w'.cell? ⟨w.heap.size, 1, none⟩ = some (.int .i64 b) ∧ w'.cell? ⟨w.heap.size + 1, 0, none⟩ = some (.int .i64 c) ∧ w'.cell? ⟨w.heap.size + 1, 1, none⟩ = some (.int .i64 d))
      (simp [go_sem, World.cell?_alloc_past])
      (first
        | (go_at_call 35; refine (addFn_ex _ _ _).mono ?_; rintro e w' ⟨rfl, rfl⟩))
    all_goals
      go_wp2_with fail
      go_meet
      exact ⟨_, rfl, ⟨by simp [go_sem, addG], by simp [go_sem, addG], by simp [go_sem, addG], by simp [go_sem, addG]⟩, ⟨by simp [go_sem], by simp [go_sem], by simp [go_sem], by simp [go_sem], by simp [go_sem]⟩, by repeat (first | exact Below.refl _ _ | apply Below.drew | (refine Below.alloc ?_ (by simp <;> omega) _))⟩
  case rest =>
    obtain ⟨n, rfl, hm, hl, hb⟩ := hcut
    have HG : ∃ p q r s, Hid (addG a c = p ∧ addG a d = q ∧ addG b c = r ∧ addG b d = s) := ⟨_, _, _, _, rfl, rfl, rfl, rfl⟩
    obtain ⟨p, q, r, s, HG⟩ := HG
    rw [HG.out.1, HG.out.2.1, HG.out.2.2.1, HG.out.2.2.2] at hm
    obtain ⟨m0, m1, m2, m3⟩ := hm
    have hn : n < wc.heap.size := World.block_lt_of_cell? wc ⟨n, 0, none⟩ m0
    have hl5 := hl.2.2.2.2
    go_wp2
    go_loopw [42] (fun i wr => ∃ k : Nat, k ≤ 4 ∧ i = .int .i64 k ∧ Lies wr wc.heap.size (lowL p [p, q, r, s] k) (highL p [p, q, r, s] k) ∧ Lies wr (w.heap.size + 1 + 1) 0 0 ∧ Below w.heap.size w wr) (fun i _ => 4 - (intOf i).toNat)
    case atStart =>
      refine ⟨0, by omega, rfl, ?_, ?_, ?_⟩
      · exact ⟨by simp [go_sem, lowL], by simp [go_sem, highL], by simp [go_sem], by simp [go_sem], by simp [go_sem]⟩
      · exact hl.later ((Below.refl _ _).alloc (Nat.le_refl _) _)
      · exact hb.alloc (by omega) _
    case round =>
      obtain ⟨k, hk, rfl, hs, hr, hbr⟩ := hrel
      by_cases hlt : k < 4
      · have hi := idx4 p q r s k hlt
        have hlo := lowL_step p [p, q, r, s] k hlt
        have hhi := highL_step p [p, q, r, s] k hlt
        generalize [p, q, r, s].getD k 0 = z at hi hlo hhi
        generalize lowL p [p, q, r, s] k = lo at *
        generalize highL p [p, q, r, s] k = hi' at *
        have HL : Hid (lowL p [p, q, r, s] (k + 1) = mnI lo z ∧ highL p [p, q, r, s] (k + 1) = mxI hi' z) := ⟨hlo, hhi⟩
        clear hlo hhi
        have HS : Hid (Lies wr wc.heap.size lo hi') := hs
        obtain ⟨s1, s2, s3, s4, s5⟩ := hs
        by_cases z1 : z < lo
        · by_cases z2 : hi' < z
          · go_wp2
            go_roundw
            case rel =>
              refine ⟨k + 1, by omega, by go_num, ?_, (hr.setElse (by omega)).setElse (by omega), (hbr.setCell (by simp; omega) _).setCell (by simp; omega) _⟩
              rw [HL.out.1, HL.out.2, mnI_lt z1, mxI_lt z2]
              exact HS.out.setSame _ _
            case measure => simp [intOf]; omega
          · go_wp2
            go_roundw
            case rel =>
              refine ⟨k + 1, by omega, by go_num, ?_, (hr.setElse (by omega)).setElse (by omega), (hbr.setCell (by simp; omega) _).setCell (by simp; omega) _⟩
              rw [HL.out.1, HL.out.2, mnI_lt z1, mxI_ge z2]
              exact HS.out.setSame _ _
            case measure => simp [intOf]; omega
        · by_cases z2 : hi' < z
          · go_wp2
            go_roundw
            case rel =>
              refine ⟨k + 1, by omega, by go_num, ?_, (hr.setElse (by omega)).setElse (by omega), (hbr.setCell (by simp; omega) _).setCell (by simp; omega) _⟩
              rw [HL.out.1, HL.out.2, mnI_ge z1, mxI_lt z2]
              exact HS.out.setSame _ _
            case measure => simp [intOf]; omega
          · go_wp2
            go_roundw
            case rel =>
              refine ⟨k + 1, by omega, by go_num, ?_, (hr.setElse (by omega)).setElse (by omega), (hbr.setCell (by simp; omega) _).setCell (by simp; omega) _⟩
              rw [HL.out.1, HL.out.2, mnI_ge z1, mxI_ge z2]
              exact HS.out.setSame _ _
            case measure => simp [intOf]; omega
      · have e : k = 4 := by omega
        subst e
        obtain ⟨s1, s2, s3, s4, s5⟩ := hs
        obtain ⟨r1, r2, r3, r4, r5⟩ := hr
        have HE : ∃ lo hi', Hid (lowL p [p, q, r, s] 4 = lo ∧ highL p [p, q, r, s] 4 = hi') := ⟨_, _, rfl, rfl⟩
        obtain ⟨lo, hi', HE⟩ := HE
        rw [HE.out.1] at s1
        rw [HE.out.2] at s2
        go_wp2
        exact bodyPost_ret (v := .agg #[.int .i64 lo, .int .i64 hi']) (by simp [results, Try.results40, go_sem, *]) rfl ⟨by rw [HG.out.1, HG.out.2.1, HG.out.2.2.1, HG.out.2.2.2, HE.out.1, HE.out.2], (hbr.setCell (by simp; omega) _).setCell (by simp; omega) _⟩
set_option maxHeartbeats 8000000 in
theorem corners_mul (a b c d : Int) (w : World) :
    Calls Try.prog 40 #[.agg #[.int .i64 a, .int .i64 b], .agg #[.int .i64 c, .int .i64 d], .func (.func 36) #[] #[]] w fun e w' =>
      e = .returned (.agg #[.int .i64 (lowL (mulI a c) [mulI a c, mulI a d, mulI b c, mulI b d] 4), .int .i64 (highL (mulI a c) [mulI a c, mulI a d, mulI b c, mulI b d] 4)]) ∧ Below w.heap.size w w' := by
  go_enter Try.func40, Try.ntmps40
  go_upto_region 1 with fail
  go_cut [7] (fun p w' => ∃ n, p = .pointer (some ⟨n, 0, none⟩) ∧ Made w' n (mulI a c) (mulI a d) (mulI b c) (mulI b d) ∧ Lies w' (w.heap.size + 1 + 1) 0 0 ∧ Below w.heap.size w w')
  case first =>
    go_region_held3 (fun w' => w'.cell? ⟨w.heap.size, 0, none⟩ = some (.int .i64 a) ∧ w'.cell? ⟨w.heap.size, 1, none⟩ = some (.int .i64 b) ∧ w'.cell? ⟨w.heap.size + 1, 0, none⟩ = some (.int .i64 c) ∧ w'.cell? ⟨w.heap.size + 1, 1, none⟩ = some (.int .i64 d))
      (simp [go_sem, World.cell?_alloc_past])
      (first
        | (go_at_call 36; refine (mulFn_ex _ _ _).mono ?_; rintro e w' ⟨rfl, rfl⟩))
    all_goals
      go_wp2_with fail
      go_meet
      exact ⟨_, rfl, ⟨by simp [go_sem, mulI], by simp [go_sem, mulI], by simp [go_sem, mulI], by simp [go_sem, mulI]⟩, ⟨by simp [go_sem], by simp [go_sem], by simp [go_sem], by simp [go_sem], by simp [go_sem]⟩, by repeat (first | exact Below.refl _ _ | apply Below.drew | (refine Below.alloc ?_ (by simp <;> omega) _))⟩
  case rest =>
    obtain ⟨n, rfl, hm, hl, hb⟩ := hcut
    have HG : ∃ p q r s, Hid (mulI a c = p ∧ mulI a d = q ∧ mulI b c = r ∧ mulI b d = s) := ⟨_, _, _, _, rfl, rfl, rfl, rfl⟩
    obtain ⟨p, q, r, s, HG⟩ := HG
    rw [HG.out.1, HG.out.2.1, HG.out.2.2.1, HG.out.2.2.2] at hm
    obtain ⟨m0, m1, m2, m3⟩ := hm
    have hn : n < wc.heap.size := World.block_lt_of_cell? wc ⟨n, 0, none⟩ m0
    have hl5 := hl.2.2.2.2
    go_wp2
    go_loopw [42] (fun i wr => ∃ k : Nat, k ≤ 4 ∧ i = .int .i64 k ∧ Lies wr wc.heap.size (lowL p [p, q, r, s] k) (highL p [p, q, r, s] k) ∧ Lies wr (w.heap.size + 1 + 1) 0 0 ∧ Below w.heap.size w wr) (fun i _ => 4 - (intOf i).toNat)
    case atStart =>
      refine ⟨0, by omega, rfl, ?_, ?_, ?_⟩
      · exact ⟨by simp [go_sem, lowL], by simp [go_sem, highL], by simp [go_sem], by simp [go_sem], by simp [go_sem]⟩
      · exact hl.later ((Below.refl _ _).alloc (Nat.le_refl _) _)
      · exact hb.alloc (by omega) _
    case round =>
      obtain ⟨k, hk, rfl, hs, hr, hbr⟩ := hrel
      by_cases hlt : k < 4
      · have hi := idx4 p q r s k hlt
        have hlo := lowL_step p [p, q, r, s] k hlt
        have hhi := highL_step p [p, q, r, s] k hlt
        generalize [p, q, r, s].getD k 0 = z at hi hlo hhi
        generalize lowL p [p, q, r, s] k = lo at *
        generalize highL p [p, q, r, s] k = hi' at *
        have HL : Hid (lowL p [p, q, r, s] (k + 1) = mnI lo z ∧ highL p [p, q, r, s] (k + 1) = mxI hi' z) := ⟨hlo, hhi⟩
        clear hlo hhi
        have HS : Hid (Lies wr wc.heap.size lo hi') := hs
        obtain ⟨s1, s2, s3, s4, s5⟩ := hs
        by_cases z1 : z < lo
        · by_cases z2 : hi' < z
          · go_wp2
            go_roundw
            case rel =>
              refine ⟨k + 1, by omega, by go_num, ?_, (hr.setElse (by omega)).setElse (by omega), (hbr.setCell (by simp; omega) _).setCell (by simp; omega) _⟩
              rw [HL.out.1, HL.out.2, mnI_lt z1, mxI_lt z2]
              exact HS.out.setSame _ _
            case measure => simp [intOf]; omega
          · go_wp2
            go_roundw
            case rel =>
              refine ⟨k + 1, by omega, by go_num, ?_, (hr.setElse (by omega)).setElse (by omega), (hbr.setCell (by simp; omega) _).setCell (by simp; omega) _⟩
              rw [HL.out.1, HL.out.2, mnI_lt z1, mxI_ge z2]
              exact HS.out.setSame _ _
            case measure => simp [intOf]; omega
        · by_cases z2 : hi' < z
          · go_wp2
            go_roundw
            case rel =>
              refine ⟨k + 1, by omega, by go_num, ?_, (hr.setElse (by omega)).setElse (by omega), (hbr.setCell (by simp; omega) _).setCell (by simp; omega) _⟩
              rw [HL.out.1, HL.out.2, mnI_ge z1, mxI_lt z2]
              exact HS.out.setSame _ _
            case measure => simp [intOf]; omega
          · go_wp2
            go_roundw
            case rel =>
              refine ⟨k + 1, by omega, by go_num, ?_, (hr.setElse (by omega)).setElse (by omega), (hbr.setCell (by simp; omega) _).setCell (by simp; omega) _⟩
              rw [HL.out.1, HL.out.2, mnI_ge z1, mxI_ge z2]
              exact HS.out.setSame _ _
            case measure => simp [intOf]; omega
      · have e : k = 4 := by omega
        subst e
        obtain ⟨s1, s2, s3, s4, s5⟩ := hs
        obtain ⟨r1, r2, r3, r4, r5⟩ := hr
        have HE : ∃ lo hi', Hid (lowL p [p, q, r, s] 4 = lo ∧ highL p [p, q, r, s] 4 = hi') := ⟨_, _, rfl, rfl⟩
        obtain ⟨lo, hi', HE⟩ := HE
        rw [HE.out.1] at s1
        rw [HE.out.2] at s2
        go_wp2
        exact bodyPost_ret (v := .agg #[.int .i64 lo, .int .i64 hi']) (by simp [results, Try.results40, go_sem, *]) rfl ⟨by rw [HG.out.1, HG.out.2.1, HG.out.2.2.1, HG.out.2.2.2, HE.out.1, HE.out.2], (hbr.setCell (by simp; omega) _).setCell (by simp; omega) _⟩

end Go.Proofs.Ytmdpoeelddchcaa
