/-
  vote.Step where it is an error, and fulmarlaw.samples: the first three of a list.
-/
import Derived.Test.YtmainmldndidhaaVoteI
namespace Go.Proofs.Ytmainmldndidhaa
open Go.RowKit Plain

theorem stepE_ne {b : Nat → Int} {l m c : Int} {t : Nat → Bool} {s : Nat → Int} (h : stepE b l m c t s ≠ 0) : stepE b l m c t s = 1 ∨ stepE b l m c t s = 3 := by
  unfold stepE at *
  split at h
  · split at h
    · split at h
      · exact absurd rfl h
      · rename_i h1 h2 h3; rw [if_pos h1, if_pos h2, if_neg h3]; exact .inl rfl
    · rename_i h1 h2; rw [if_pos h1, if_neg h2]; exact .inr (bankE_ne h2)
  · rename_i h1; rw [if_neg h1]; exact .inl (ruleE_ne h1)

set_option maxRecDepth 100000 in
theorem step_err (b : Nat → Int) (o : Nat → Bool) (l m c : Int) (t : Nat → Bool) (s : Nat → Int) (he : stepE b l m c t s ≠ 0) (w : World) :
    Calls Try.prog 18 #[.agg #[.int .i64 (b 0), .int .i64 (b 1), .int .i64 (b 2), .bool (o 0), .bool (o 1), .bool (o 2), .int .i64 l], .agg #[.int .i64 m, .int .i64 c], .agg #[.bool (t 0), .int .i64 (s 0), .bool (t 1), .int .i64 (s 1), .bool (t 2), .int .i64 (s 2)]] w
      fun e w' => e = .returned (.tuple #[.agg #[.int .i64 0, .int .i64 0, .int .i64 0, .bool false, .bool false, .bool false, .int .i64 0], .agg #[.int .i64 0, .int .i64 0], .iface 23 (.int .i64 (stepE b l m c t s))]) ∧ Below w.heap.size w w' := by
  have HX := hide (st_new w b o l m c t s)
  have hck := checkStep_any b o l m c t s
  rw [errV_ne he] at hck
  clear he
  generalize stepE b l m c t s = x at *
  go_enter Try.func18, Try.ntmps18
  go_upto_region 3 with (go_at_call 57; refine (hck _).mono ?_; rintro e w1 ⟨rfl, hb1⟩; have HX := hide (HX.out.later hb1); clear hb1)
  obtain ⟨_, _, _, ⟨⟨s0, s1, s2, s3, s4, s5, s6⟩, s7, _⟩, ⟨⟨p0, p1⟩, p2, _⟩, hB⟩ := HX.out
  have f0 := s7 0 (by omega)
  have f1 := s7 1 (by omega)
  have f2 := s7 2 (by omega)
  have f3 := s7 3 (by omega)
  have f4 := s7 4 (by omega)
  have f5 := s7 5 (by omega)
  have f6 := s7 6 (by omega)
  have g0 := p2 0 (by omega)
  have g1 := p2 1 (by omega)
  clear hB s7 p2
  rw [show zI 0 = 0 from rfl] at s0
  rw [show zI 1 = 0 from rfl] at s1
  rw [show zI 2 = 0 from rfl] at s2
  rw [show zB 0 = false from rfl] at s3
  rw [show zB 1 = false from rfl] at s4
  rw [show zB 2 = false from rfl] at s5
  go_wp2
  have an := hide (ansW_at HX.out.2.2.2.1.1 HX.out.2.2.2.2.1.1 (by omega) 0 0 0 false false false 0 0 0)
  have bl := hide (ansW_below HX.out.2.2.2.2.2 (B := w.heap.size + 1 + 1 + 1) (C := w.heap.size + 1 + 1 + 1 + 1) (by omega) (by omega) 0 0 0 false false false 0 0 0)
  change bodyPost _ _ _ Exit.ret _ (ansW w1 (w.heap.size + 1 + 1 + 1) (w.heap.size + 1 + 1 + 1 + 1) 0 0 0 false false false 0 0 0)
  generalize (ansW w1 (w.heap.size + 1 + 1 + 1) (w.heap.size + 1 + 1 + 1 + 1) 0 0 0 false false false 0 0 0) = w9 at *
  obtain ⟨⟨c0, c1, c2, c3, c4, c5, c6⟩, d0, d1⟩ := an.out
  exact bodyPost_ret (v := .tuple #[.agg #[.int .i64 0, .int .i64 0, .int .i64 0, .bool false, .bool false, .bool false, .int .i64 0], .agg #[.int .i64 0, .int .i64 0], .iface 23 (.int .i64 x)]) (by simp [results, Try.results18, go_sem, c0, c1, c2, c3, c4, c5, c6, d0, d1]) rfl ⟨rfl, bl.out⟩

/-- A list of samples lies at an address. -/
def SLst (w : World) (a : Option Addr) (l : List (Bool × Int)) : Prop := l = [] ∨ ∃ b off, a = some ⟨b, off, none⟩ ∧ ∀ k, k < l.length → w.cell? ⟨b, off + k * 2, none⟩ = some (.bool (l.getD k (false, 0)).1) ∧ w.cell? ⟨b, off + k * 2 + 1, none⟩ = some (.int .i64 (l.getD k (false, 0)).2)
theorem SLst.later {w w' : World} {a : Option Addr} {l : List (Bool × Int)} (h : SLst w a l) (hb : Below w.heap.size w w') : SLst w' a l := by
  rcases h with h | ⟨b, off, h, hc⟩
  · exact .inl h
  · exact .inr ⟨b, off, h, fun k hk => ⟨cell_later hb (hc k hk).1, cell_later hb (hc k hk).2⟩⟩
/-- The first three. -/
def tF (l : List (Bool × Int)) (k : Nat) : Bool := (l.getD k (false, 0)).1
def sF (l : List (Bool × Int)) (k : Nat) : Int := (l.getD k (false, 0)).2

theorem SampAt.put {w : World} {B : Nat} {t : Nat → Bool} {s : Nat → Int} (h : SampAt w B t s) (k : Nat) (hk : k < 3) (p : Bool) (q : Int) :
    SampAt ((w.setCell ⟨B, k * 2, none⟩ (.bool p)).setCell ⟨B, k * 2 + 1, none⟩ (.int .i64 q)) B (updB t k p) (updI s k q) := by
  obtain ⟨h0, h1, h2, h3, h4, h5⟩ := h
  rcases (show k = 0 ∨ k = 1 ∨ k = 2 by omega) with rfl | rfl | rfl
  · exact ⟨cell_other (cell_same h0) (ne_off (by decide)), cell_same (cell_other h1 (ne_off (by decide))), cell_other (cell_other h2 (ne_off (by decide))) (ne_off (by decide)), cell_other (cell_other h3 (ne_off (by decide))) (ne_off (by decide)), cell_other (cell_other h4 (ne_off (by decide))) (ne_off (by decide)), cell_other (cell_other h5 (ne_off (by decide))) (ne_off (by decide))⟩
  · exact ⟨cell_other (cell_other h0 (ne_off (by decide))) (ne_off (by decide)), cell_other (cell_other h1 (ne_off (by decide))) (ne_off (by decide)), cell_other (cell_same h2) (ne_off (by decide)), cell_same (cell_other h3 (ne_off (by decide))), cell_other (cell_other h4 (ne_off (by decide))) (ne_off (by decide)), cell_other (cell_other h5 (ne_off (by decide))) (ne_off (by decide))⟩
  · exact ⟨cell_other (cell_other h0 (ne_off (by decide))) (ne_off (by decide)), cell_other (cell_other h1 (ne_off (by decide))) (ne_off (by decide)), cell_other (cell_other h2 (ne_off (by decide))) (ne_off (by decide)), cell_other (cell_other h3 (ne_off (by decide))) (ne_off (by decide)), cell_other (cell_same h4) (ne_off (by decide)), cell_same (cell_other h5 (ne_off (by decide)))⟩

theorem mix_end {l : List (Bool × Int)} {k : Nat} (h : ¬ (k < 3 ∧ k < l.length)) (hk : k ≤ 3) (hkl : k ≤ l.length) : (∀ j, j < 3 → mixB k (tF l) zB j = tF l j) ∧ ∀ j, j < 3 → mixI k (sF l) zI j = sF l j := by
  refine ⟨fun j hj => ?_, fun j hj => ?_⟩
  · unfold mixB
    by_cases h1 : j < k
    · rw [if_pos h1]
    · rw [if_neg h1]; unfold tF zB; rw [List.getD_eq_getElem?_getD, List.getElem?_eq_none (by omega)]; rfl
  · unfold mixI
    by_cases h1 : j < k
    · rw [if_pos h1]
    · rw [if_neg h1]; unfold sF zI; rw [List.getD_eq_getElem?_getD, List.getElem?_eq_none (by omega)]; rfl

set_option maxRecDepth 100000 in
set_option maxHeartbeats 1000000 in
theorem samples_any (a : Option Addr) (cap : Nat) (l : List (Bool × Int)) (w : World) (hm : l.length ≤ 9223372036854775807) (hl : SLst w a l) :
    Calls Try.prog 19 #[.slice a l.length cap] w fun e w' => e = .returned (.agg #[.bool (tF l 0), .int .i64 (sF l 0), .bool (tF l 1), .int .i64 (sF l 1), .bool (tF l 2), .int .i64 (sF l 2)]) ∧ Below w.heap.size w w' := by
  have HL := hide hl
  clear hl
  go_enter Try.func19, Try.ntmps19
  go_wp2
  go_loopw [4] (fun i wr => ∃ k : Nat, k ≤ 3 ∧ k ≤ l.length ∧ i = .int .i64 k ∧ SampAt wr (w.heap.size + 1) (mixB k (tF l) zB) (mixI k (sF l) zI) ∧ Frz wr (w.heap.size + 1) 6 ∧ SampAt wr w.heap.size zB zI ∧ Frz wr w.heap.size 6 ∧ Below w.heap.size w wr) (fun i _ => 3 - (intOf i).toNat)
  case atStart =>
    refine ⟨0, by omega, by omega, rfl, ?_, ?_, ?_, ?_, ?_⟩
    · rw [mixB_zero, mixI_zero]; refine ⟨?_, ?_, ?_, ?_, ?_, ?_⟩ <;> simp [go_sem, zB, zI]
    · have : (w.alloc (.cells #[.bool false, .int .i64 0, .bool false, .int .i64 0, .bool false, .int .i64 0] 55)).heap.size = w.heap.size + 1 := by simp [go_sem]
      rw [← this]; exact Frz.new
    · refine SampAt.later ?_ (vbelow_alloc _ _); refine ⟨?_, ?_, ?_, ?_, ?_, ?_⟩ <;> simp [go_sem, zB, zI]
    · exact Frz.new.later (vbelow_alloc _ _)
    · exact vbelow_up (vbelow_alloc _ _) (vbelow_alloc _ _)
  case round =>
    obtain ⟨k, hk, hkl, rfl, h1, h2, h3, h4, h5⟩ := hrel
    by_cases hlt : k < 3 ∧ k < l.length
    · obtain ⟨hlt, hll⟩ := hlt
      rcases HL.out.later h5 with hn | ⟨bb, off, rfl, hc⟩
      · subst hn; simp at hll
      · obtain ⟨c0, c1⟩ := hc k hll
        have d0 := h1.there k hlt
        have d1 := h1.is k hlt
        have z0 := h2.1 (k * 2) (by omega)
        have z1 := h2.1 (k * 2 + 1) (by omega)
        have i0 : (0 : Int) ≤ (k : Int) := by omega
        have i1 : (k : Int) < 3 := by omega
        have i2 : (k : Int) < (l.length : Int) := by omega
        have HT := hide (show (l.getD k (false, 0)).1 = tF l k ∧ (l.getD k (false, 0)).2 = sF l k from ⟨rfl, rfl⟩)
        rw [HT.out.1] at c0
        rw [HT.out.2] at c1
        generalize hp : tF l k = p at *
        generalize hq : sF l k = q at *
        have HP := hide hp
        have HQ := hide hq
        have H1 := hide h1
        have H2 := hide h2
        have H3 := hide h3
        have H4 := hide h4
        have H5 := hide h5
        clear h1 h2 h3 h4 h5 hp hq HT hc
        go_wp2
        go_roundw
        case rel =>
          refine ⟨k + 1, by omega, by omega, by go_num, ?_, H2.out.set.set, (H3.out.set (by omega)).set (by omega), H4.out.set.set, (H5.out.setCell (by simp) _).setCell (by simp) _⟩
          rw [mixB_step, mixI_step, HP.out, HQ.out]
          exact H1.out.put k hlt p q
        case measure => simp [intOf]; omega
    · have HM := hide (show (∀ j, j < 3 → mixB k (tF l) zB j = tF l j) ∧ ∀ j, j < 3 → mixI k (sF l) zI j = sF l j from mix_end hlt hk hkl)
      have ht : (((k : Int) < (l.length : Int)) ∧ ((k : Int) < 3)) → False := by intro h; exact hlt ⟨by omega, by omega⟩
      obtain ⟨q0, q1, q2, q3, q4, q5⟩ := h1
      obtain ⟨r0, r1, r2, r3, r4, r5⟩ := h3
      have e0 := h4.1 0 (by omega)
      have e1 := h4.1 1 (by omega)
      have e2 := h4.1 2 (by omega)
      have e3 := h4.1 3 (by omega)
      have e4 := h4.1 4 (by omega)
      have e5 := h4.1 5 (by omega)
      rw [HM.out.1 0 (by omega)] at q0
      rw [HM.out.1 1 (by omega)] at q2
      rw [HM.out.1 2 (by omega)] at q4
      rw [HM.out.2 0 (by omega)] at q1
      rw [HM.out.2 1 (by omega)] at q3
      rw [HM.out.2 2 (by omega)] at q5
      have H5 := hide h5
      clear h2 h4 h5
      by_cases hc1 : (k : Int) < (l.length : Int)
      · have hc2 : ¬ (k : Int) < 3 := fun h => ht ⟨hc1, h⟩
        clear ht hlt
        go_wp2
        exact bodyPost_ret (v := .agg #[.bool (tF l 0), .int .i64 (sF l 0), .bool (tF l 1), .int .i64 (sF l 1), .bool (tF l 2), .int .i64 (sF l 2)]) (by simp [results, Try.results19, go_sem, r0, r1, r2, r3, r4, r5]) rfl ⟨rfl, (((((H5.out.setCell (by simp) _).setCell (by simp) _).setCell (by simp) _).setCell (by simp) _).setCell (by simp) _).setCell (by simp) _⟩
      · clear ht hlt
        go_wp2
        exact bodyPost_ret (v := .agg #[.bool (tF l 0), .int .i64 (sF l 0), .bool (tF l 1), .int .i64 (sF l 1), .bool (tF l 2), .int .i64 (sF l 2)]) (by simp [results, Try.results19, go_sem, r0, r1, r2, r3, r4, r5]) rfl ⟨rfl, (((((H5.out.setCell (by simp) _).setCell (by simp) _).setCell (by simp) _).setCell (by simp) _).setCell (by simp) _).setCell (by simp) _⟩

end Go.Proofs.Ytmainmldndidhaa
