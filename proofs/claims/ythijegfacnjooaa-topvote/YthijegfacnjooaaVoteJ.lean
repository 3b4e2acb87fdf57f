/-
  vote.Step where it is an error, and fulmarlaw.samples: the first three of a list.
-/
import Derived.Test.YthijegfacnjooaaVoteI
namespace Go.Proofs.Ythijegfacnjooaa
open Go.RowKit Plain

theorem stepE_ne {b : Nat → Int} {l m c : Int} {t : Nat → Bool} {s : Nat → Int} (h : stepE b l m c t s ≠ 0) : stepE b l m c t s = 1 ∨ stepE b l m c t s = 3 := by
  unfold stepE at *
  split at h
  · split at h
    · split at h
      · exact absurd rfl h
      · rename_i h1 h2 h3; rw [if_pos h1, if_pos h2, if_neg h3]; exact .inl rfl
    · rename_i h1 h2; rw [if_pos h1, if_neg h2]; exact .inr (bankE_ne h2)
  · rename_i h1; rw [if_neg h1]; exact .inl (ruleE_ne h1)

set_option maxRecDepth 100000 in
theorem step_err (b : Nat → Int) (o : Nat → Bool) (l m c : Int) (t : Nat → Bool) (s : Nat → Int) (he : stepE b l m c t s ≠ 0) (w : World) :
    Calls Try.prog 15 #[.agg #[.int .i64 (b 0), .int .i64 (b 1), .int .i64 (b 2), .bool (o 0), .bool (o 1), .bool (o 2), .int .i64 l], .agg #[.int .i64 m, .int .i64 c], .agg #[.bool (t 0), .int .i64 (s 0), .bool (t 1), .int .i64 (s 1), .bool (t 2), .int .i64 (s 2)]] w
      fun e w' => e = .returned (.tuple #[.agg #[.int .i64 0, .int .i64 0, .int .i64 0, .bool false, .bool false, .bool false, .int .i64 0], .agg #[.int .i64 0, .int .i64 0], .iface 26 (.int .i64 (stepE b l m c t s))]) ∧ Below w.heap.size w w' := by
  have HX := hide (st_new w b o l m c t s)
  have hck := checkStep_any b o l m c t s
  rw [errV_ne he] at hck
  clear he
  generalize stepE b l m c t s = x at *
  go_enter Try.func15, Try.ntmps15
  go_upto_region 3 with (go_at_call 36; refine (hck _).mono ?_; rintro e w1 ⟨rfl, hb1⟩; have HX := hide (HX.out.later hb1); clear hb1)
  obtain ⟨_, _, _, ⟨⟨s0, s1, s2, s3, s4, s5, s6⟩, s7, _⟩, ⟨⟨p0, p1⟩, p2, _⟩, hB⟩ := HX.out
  have f0 := s7 0 (by omega)
  have f1 := s7 1 (by omega)
  have f2 := s7 2 (by omega)
  have f3 := s7 3 (by omega)
  have f4 := s7 4 (by omega)
  have f5 := s7 5 (by omega)
  have f6 := s7 6 (by omega)
  have g0 := p2 0 (by omega)
  have g1 := p2 1 (by omega)
  clear hB s7 p2
  rw [show zI 0 = 0 from rfl] at s0
  rw [show zI 1 = 0 from rfl] at s1
  rw [show zI 2 = 0 from rfl] at s2
  rw [show zB 0 = false from rfl] at s3
  rw [show zB 1 = false from rfl] at s4
  rw [show zB 2 = false from rfl] at s5
  go_wp2
  have an := hide (ansW_at HX.out.2.2.2.1.1 HX.out.2.2.2.2.1.1 (by omega) 0 0 0 false false false 0 0 0)
  have bl := hide (ansW_below HX.out.2.2.2.2.2 (B := w.heap.size + 1 + 1 + 1) (C := w.heap.size + 1 + 1 + 1 + 1) (by omega) (by omega) 0 0 0 false false false 0 0 0)
  change bodyPost _ _ _ Exit.ret _ (ansW w1 (w.heap.size + 1 + 1 + 1) (w.heap.size + 1 + 1 + 1 + 1) 0 0 0 false false false 0 0 0)
  generalize (ansW w1 (w.heap.size + 1 + 1 + 1) (w.heap.size + 1 + 1 + 1 + 1) 0 0 0 false false false 0 0 0) = w9 at *
  obtain ⟨⟨c0, c1, c2, c3, c4, c5, c6⟩, d0, d1⟩ := an.out
  exact bodyPost_ret (v := .tuple #[.agg #[.int .i64 0, .int .i64 0, .int .i64 0, .bool false, .bool false, .bool false, .int .i64 0], .agg #[.int .i64 0, .int .i64 0], .iface 26 (.int .i64 x)]) (by simp [results, Try.results15, go_sem, c0, c1, c2, c3, c4, c5, c6, d0, d1]) rfl ⟨rfl, bl.out⟩

/-- A list of samples lies at an address. -/
def SLst (w : World) (a : Option Addr) (l : List (Bool × Int)) : Prop := l = [] ∨ ∃ b off, a = some ⟨b, off, none⟩ ∧ ∀ k, k < l.length → w.cell? ⟨b, off + k * 2, none⟩ = some (.bool (l.getD k (false, 0)).1) ∧ w.cell? ⟨b, off + k * 2 + 1, none⟩ = some (.int .i64 (l.getD k (false, 0)).2)
theorem SLst.later {w w' : World} {a : Option Addr} {l : List (Bool × Int)} (h : SLst w a l) (hb : Below w.heap.size w w') : SLst w' a l := by
  rcases h with h | ⟨b, off, h, hc⟩
  · exact .inl h
  · exact .inr ⟨b, off, h, fun k hk => ⟨cell_later hb (hc k hk).1, cell_later hb (hc k hk).2⟩⟩
/-- The first three. -/
def tF (l : List (Bool × Int)) (k : Nat) : Bool := (l.getD k (false, 0)).1
def sF (l : List (Bool × Int)) (k : Nat) : Int := (l.getD k (false, 0)).2

theorem SampAt.put {w : World} {B : Nat} {t : Nat → Bool} {s : Nat → Int} (h : SampAt w B t s) (k : Nat) (hk : k < 3) (p : Bool) (q : Int) :
    SampAt ((w.setCell ⟨B, k * 2, none⟩ (.bool p)).setCell ⟨B, k * 2 + 1, none⟩ (.int .i64 q)) B (updB t k p) (updI s k q) := by
  obtain ⟨h0, h1, h2, h3, h4, h5⟩ := h
  rcases (show k = 0 ∨ k = 1 ∨ k = 2 by omega) with rfl | rfl | rfl
  · exact ⟨cell_other (cell_same h0) (ne_off (by decide)), cell_same (cell_other h1 (ne_off (by decide))), cell_other (cell_other h2 (ne_off (by decide))) (ne_off (by decide)), cell_other (cell_other h3 (ne_off (by decide))) (ne_off (by decide)), cell_other (cell_other h4 (ne_off (by decide))) (ne_off (by decide)), cell_other (cell_other h5 (ne_off (by decide))) (ne_off (by decide))⟩
  · exact ⟨cell_other (cell_other h0 (ne_off (by decide))) (ne_off (by decide)), cell_other (cell_other h1 (ne_off (by decide))) (ne_off (by decide)), cell_other (cell_same h2) (ne_off (by decide)), cell_same (cell_other h3 (ne_off (by decide))), cell_other (cell_other h4 (ne_off (by decide))) (ne_off (by decide)), cell_other (cell_other h5 (ne_off (by decide))) (ne_off (by decide))⟩
  · exact ⟨cell_other (cell_other h0 (ne_off (by decide))) (ne_off (by decide)), cell_other (cell_other h1 (ne_off (by decide))) (ne_off (by decide)), cell_other (cell_other h2 (ne_off (by decide))) (ne_off (by decide)), cell_other (cell_other h3 (ne_off (by decide))) (ne_off (by decide)), cell_other (cell_same h4) (ne_off (by decide)), cell_same (cell_other h5 (ne_off (by decide)))⟩

theorem mix_end {l : List (Bool × Int)} {k : Nat} (h : ¬ (k < 3 ∧ k < l.length)) (hk : k ≤ 3) (hkl : k ≤ l.length) : (∀ j, j < 3 → mixB k (tF l) zB j = tF l j) ∧ ∀ j, j < 3 → mixI k (sF l) zI j = sF l j := by
  refine ⟨fun j hj => ?_, fun j hj => ?_⟩
  · unfold mixB
    by_cases h1 : j < k
    · rw [if_pos h1]
    · rw [if_neg h1]; unfold tF zB; rw [List.getD_eq_getElem?_getD, List.getElem?_eq_none (by omega)]; rfl
  · unfold mixI
    by_cases h1 : j < k
    · rw [if_pos h1]
    · rw [if_neg h1]; unfold sF zI; rw [List.getD_eq_getElem?_getD, List.getElem?_eq_none (by omega)]; rfl

end Go.Proofs.Ythijegfacnjooaa
