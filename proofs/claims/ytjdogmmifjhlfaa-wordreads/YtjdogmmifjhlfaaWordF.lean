/-
  The walk of the law WordReads: for every word it returns true.
-/
import Derived.Test.YtjdogmmifjhlfaaWordE
namespace Go.Proofs.Ytjdogmmifjhlfaa
open Go.RowKit Plain

theorem wordReads_walk (x : Int) (h0 : 0 ≤ x) (h1 : x < 4294967296) (w : World) :
    Calls Try.prog 4 #[.int .u32 x] w fun e w' => e = .returned (.bool true) ∧ Below w.heap.size w w' := by
  have ho := odd_any x h0 h1
  by_cases h : ones x 32 % 2 = 1
  · rw [decide_eq_true h] at ho
    have hu := unpack_yes x h0 h1 h
    have hr := readingOf_any x h0 h1
    unfold readV at hu hr
    generalize labI x = a at *
    generalize srcI x = b at *
    generalize staI x = c at *
    generalize datI x = d at *
    have his := is_any 0 0
    rw [errV_zero] at his
    clear h
    go_enter Try.func4, Try.ntmps4
    go_wp2_with (first
      | (go_at_call 15; refine (ho _).mono ?_; rintro e w' ⟨rfl, hq⟩; have hq := hq.symm; subst hq)
      | (go_at_call 14; refine (when_false _ _).mono ?_; rintro e w' ⟨rfl, hq⟩; have hq := hq.symm; subst hq)
      | (go_at_call 16; refine (hr _).mono ?_; rintro e w1 ⟨rfl, hb1⟩; have HX : Hid (Box4 _ w.heap.size 0 0 0 0) := (Box4.new w 0 0 0 0 23).later hb1; have HB : Hid (Below w.heap.size w w1) := below_up (below_alloc _ _) hb1; obtain ⟨c0, c1, c2, c3, d0, d1, d2, d3, dl⟩ := HX.out; clear hb1)
      | (go_at_call 17; refine (hu _).mono ?_; rintro e w2 ⟨rfl, hb2⟩; have HY : Hid (Box4 _ w.heap.size a b c d) := (HX.out.set a b c d).later hb2; have HB2 : Hid (Below w.heap.size w w2) := below_up (below_set4 HB.out (Nat.le_refl _) _ _ _ _) hb2; obtain ⟨c0, c1, c2, c3, d0, d1, d2, d3, dl⟩ := HY.out; clear hb2)
      | (go_at_call 12; refine (his _).mono ?_; rintro e w' ⟨rfl, hq⟩; have hq := hq.symm; subst hq))
    go_ret
    exact ⟨rfl, below_up HB2.out (below_alloc _ _)⟩
  · rw [decide_eq_false h] at ho
    have hu := unpack_no x h0 h1 h
    have his := is_any 3 3
    rw [errV_ne (by decide)] at his hu
    clear h
    go_enter Try.func4, Try.ntmps4
    go_wp2_with (first
      | (go_at_call 15; refine (ho _).mono ?_; rintro e w' ⟨rfl, hq⟩; have hq := hq.symm; subst hq)
      | (go_at_call 14; refine (when_true _ _).mono ?_; rintro e w' ⟨rfl, hq⟩; have hq := hq.symm; subst hq)
      | (go_at_call 17; refine (hu _).mono ?_; rintro e w1 ⟨rfl, hb1⟩; have HX : Hid (Box4 _ w.heap.size 0 0 0 0) := (Box4.new w 0 0 0 0 23).later hb1; have HB : Hid (Below w.heap.size w w1) := below_up (below_alloc _ _) hb1; obtain ⟨c0, c1, c2, c3, d0, d1, d2, d3, dl⟩ := HX.out; clear hb1)
      | (go_at_call 12; refine (his _).mono ?_; rintro e w' ⟨rfl, hq⟩; have hq := hq.symm; subst hq))
    go_ret
    exact ⟨rfl, below_up HB.out (below_alloc _ _)⟩

end Go.Proofs.Ytjdogmmifjhlfaa
