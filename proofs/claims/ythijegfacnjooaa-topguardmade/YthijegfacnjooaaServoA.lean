/-
  Lists of numbers and of samples that came in; what a servo is behind having been seen and moved, in plain words.
-/
import Derived.Test.YthijegfacnjooaaActF
namespace Go.Proofs.Ythijegfacnjooaa
open Go.RowKit Plain

theorem scell_other {w : World} {a c : Addr} {v u : Value} (h : w.cell? a = some u) (hc : c ≠ a) : (w.setCell c v).cell? a = some u := (World.cell?_setCell_other _ _ _ _ hc).trans h
theorem scell_same {w : World} {a : Addr} {v u : Value} (h : w.cell? a = some u) : (w.setCell a v).cell? a = some v := by simp [go_sem, h]
theorem sne_blk {C B q j : Nat} (hc : C ≠ B) : (⟨C, q, none⟩ : Addr) ≠ ⟨B, j, none⟩ := fun e => hc (congrArg Addr.block e)
theorem sne_off {B q j : Nat} (hc : q ≠ j) : (⟨B, q, none⟩ : Addr) ≠ ⟨B, j, none⟩ := fun e => hc (congrArg Addr.off e)
theorem B3.sset {w : World} {B C q : Nat} {a b c v : Value} (h : B3 w B a b c) (hc : C ≠ B) : B3 (w.setCell ⟨C, q, none⟩ v) B a b c := ⟨scell_other h.1 (sne_blk hc), scell_other h.2.1 (sne_blk hc), scell_other h.2.2 (sne_blk hc)⟩
theorem B4.sset {w : World} {B C q : Nat} {a b c d v : Value} (h : B4 w B a b c d) (hc : C ≠ B) : B4 (w.setCell ⟨C, q, none⟩ v) B a b c d := ⟨scell_other h.1 (sne_blk hc), scell_other h.2.1 (sne_blk hc), scell_other h.2.2.1 (sne_blk hc), scell_other h.2.2.2 (sne_blk hc)⟩
theorem B3.sput {w : World} {B : Nat} {a b c : Value} (h : B3 w B a b c) (p q r : Value) : B3 (((w.setCell ⟨B, 0, none⟩ p).setCell ⟨B, 1, none⟩ q).setCell ⟨B, 2, none⟩ r) B p q r :=
  ⟨scell_other (scell_other (scell_same h.1) (sne_off (by decide))) (sne_off (by decide)), scell_other (scell_same (scell_other h.2.1 (sne_off (by decide)))) (sne_off (by decide)), scell_same (scell_other (scell_other h.2.2 (sne_off (by decide))) (sne_off (by decide)))⟩

/-- A list of numbers, of samples, lies at an address. -/
def ILs (w : World) (a : Option Addr) (l : List Int) : Prop := l = [] ∨ ∃ b off, a = some ⟨b, off, none⟩ ∧ ∀ k, k < l.length → w.cell? ⟨b, off + k, none⟩ = some (.int .i64 (l.getD k 0))
theorem ILs.later {w w' : World} {a : Option Addr} {l : List Int} (h : ILs w a l) (hb : Below w.heap.size w w') : ILs w' a l := by
  rcases h with h | ⟨b, off, h, hc⟩
  · exact .inl h
  · exact .inr ⟨b, off, h, fun k hk => cell_later hb (hc k hk)⟩
theorem ILs.at {w : World} {a : Option Addr} {l : List Int} (h : ILs w a l) {k : Nat} (hk : k < l.length) : ∃ b off, a = some ⟨b, off, none⟩ ∧ w.cell? ⟨b, off + k, none⟩ = some (.int .i64 (l.getD k 0)) := by
  rcases h with h | ⟨b, off, h, hc⟩
  · subst h; simp at hk
  · exact ⟨b, off, h, hc k hk⟩
def SLs (w : World) (a : Option Addr) (l : List (Bool × Int)) : Prop := l = [] ∨ ∃ b off, a = some ⟨b, off, none⟩ ∧ ∀ k, k < l.length → w.cell? ⟨b, off + k * 2, none⟩ = some (.bool (l.getD k (false, 0)).1) ∧ w.cell? ⟨b, off + k * 2 + 1, none⟩ = some (.int .i64 (l.getD k (false, 0)).2)
theorem SLs.later {w w' : World} {a : Option Addr} {l : List (Bool × Int)} (h : SLs w a l) (hb : Below w.heap.size w w') : SLs w' a l := by
  rcases h with h | ⟨b, off, h, hc⟩
  · exact .inl h
  · exact .inr ⟨b, off, h, fun k hk => ⟨cell_later hb (hc k hk).1, cell_later hb (hc k hk).2⟩⟩
theorem SLs.at {w : World} {a : Option Addr} {l : List (Bool × Int)} (h : SLs w a l) {k : Nat} (hk : k < l.length) : ∃ b off, a = some ⟨b, off, none⟩ ∧ w.cell? ⟨b, off + k * 2, none⟩ = some (.bool (l.getD k (false, 0)).1) ∧ w.cell? ⟨b, off + k * 2 + 1, none⟩ = some (.int .i64 (l.getD k (false, 0)).2) := by
  rcases h with h | ⟨b, off, h, hc⟩
  · subst h; simp at hk
  · exact ⟨b, off, h, hc k hk⟩

theorem sv_mk {T C i b : Int} {o : Bool} (h1 : -T ≤ i ∧ i ≤ T) (h2 : 0 ≤ b ∧ b ≤ C) (h3 : o = true → i = 0) (h4 : o = false → b < C) : svB T C i b o = true := by
  simp only [svB, Bool.and_eq_true, Bool.or_eq_true, Bool.not_eq_true', beq_iff_eq, decide_eq_true_eq]
  refine ⟨⟨⟨betw_mk h1.1 h1.2, betw_mk h2.1 h2.2⟩, ?_⟩, ?_⟩
  · cases o
    · exact .inl rfl
    · exact .inr (h3 rfl)
  · cases o
    · exact .inr (h4 rfl)
    · exact .inl rfl
/-- What was seen. -/
theorem sv_watch {T R S C i b z : Int} {o y : Bool} (hr : arB T R S C = true) (hs : svB T C i b o = true) (ho : (b == C) = o) : svB T C (wI S C i b z o y) (wB S i b z o y) (wO S C i b z o y) = true ∧ (wB S i b z o y == C) = wO S C i b z o y := by
  obtain ⟨⟨t0, t1⟩, _, _, c0, c1⟩ := arB_true hr
  obtain ⟨h1, h2, h3, h4⟩ := svB_true hs
  cases hf : fineW S i z o y
  · have ho' : o = false := by unfold fineW at hf; simp only [Bool.or_eq_false_iff] at hf; exact hf.1
    have hlt := h4 ho'
    by_cases hq : b + 1 = C
    · obtain ⟨e1, e2, e3⟩ := w_last (C := C) (b := b) hf hq
      rw [e1, e2, e3]
      exact ⟨sv_mk ⟨by omega, by omega⟩ ⟨by omega, by omega⟩ (fun _ => rfl) (fun h => by cases h), by simpa using hq⟩
    · obtain ⟨e1, e2, e3⟩ := w_more (C := C) (b := b) hf hq
      rw [e1, e2, e3]
      exact ⟨sv_mk h1 ⟨by omega, by omega⟩ (fun h => by cases h) (fun _ => by omega), by simpa using hq⟩
  · obtain ⟨e1, e2, e3⟩ := w_fine (C := C) (b := b) hf
    rw [e1, e2, e3]; exact ⟨hs, ho⟩
/-- Where it goes. -/
theorem sv_move {T R S C i b : Int} {o : Bool} (tg : Int) (hr : arB T R S C = true) (hs : svB T C i b o = true) : svB T C (clipI tg (loR T R i o) (hiR T R i o)) b o = true ∧ (o = true → clipI tg (loR T R i o) (hiR T R i o) = 0) ∧ (o = false → -R ≤ clipI tg (loR T R i o) (hiR T R i o) - i ∧ clipI tg (loR T R i o) (hiR T R i o) - i ≤ R) := by
  obtain ⟨⟨t0, t1⟩, ⟨r0, r1⟩, _, c0, c1⟩ := arB_true hr
  obtain ⟨h1, h2, h3, h4⟩ := svB_true hs
  have hz : o = true → clipI tg (loR T R i o) (hiR T R i o) = 0 := by
    rintro rfl
    unfold clipI loR hiR; simp only [if_true]; split
    · rfl
    · split
      · rfl
      · split <;> omega
  have hb : o = false → (-R ≤ clipI tg (loR T R i o) (hiR T R i o) - i ∧ clipI tg (loR T R i o) (hiR T R i o) - i ≤ R) ∧ -T ≤ clipI tg (loR T R i o) (hiR T R i o) ∧ clipI tg (loR T R i o) (hiR T R i o) ≤ T := by
    rintro rfl
    unfold clipI loR hiR mxA mnA; simp only [Bool.false_eq_true, if_false]
    split
    · omega
    · split
      · omega
      · split <;> omega
  refine ⟨sv_mk ?_ h2 hz h4, hz, fun h => (hb h).1⟩
  cases o
  · exact (hb rfl).2
  · rw [hz rfl]; omega
theorem wI_was {S C i b z : Int} {o y : Bool} (h : wO S C i b z o y = false) : wI S C i b z o y = i := by
  unfold wO at h; unfold wI
  split at h
  · rw [if_pos (by assumption)]
  · rename_i hf; rw [if_neg hf, if_neg (by simpa using h)]
theorem swrap_id {x : Int} (h0 : -9223372036854775808 ≤ x) (h1 : x ≤ 9223372036854775807) : IntKind.i64.wrap x = x := by
  rw [IntKind.wrap_i64]; omega
theorem fine_wB {S i b z : Int} {o y : Bool} : wB S i b z o y = if !fineW S i z o y then b + 1 else b := by
  unfold wB; cases fineW S i z o y <;> simp

end Go.Proofs.Ythijegfacnjooaa
