/-
  The walk of the law WordSays: for every reading it returns true.
-/
import Derived.Test.YtomigbppimpohaaWordG2
import Derived.Test.YtomigbppimpohaaWordC
namespace Go.Proofs.Ytomigbppimpohaa
open Go.RowKit Plain

theorem word_any (a b c d : Int) (hm : mayR a b c d = true) (w : World) :
    Calls Try.prog 6 #[.agg #[.int .i64 a, .int .i64 b, .int .i64 c, .int .i64 d]] w fun e w' => e = .returned (.int .u32 (packI a b c d)) ∧ Below w.heap.size w w' := by
  by_cases hd : d < 0
  · exact word_below a b c d hm hd w
  · exact word_above a b c d hm (by omega) w

/-- A box of four numbers, behind whatever came, with nothing below turned. -/
theorem box_later {w w1 w2 : World} {a b c d : Int} (h : Box4 w1 w.heap.size a b c d ∧ Below w.heap.size w w1) (hb : Below w1.heap.size w1 w2) : Box4 w2 w.heap.size a b c d ∧ Below w.heap.size w w2 :=
  ⟨h.1.later hb, below_up h.2 hb⟩
theorem box_first (w : World) (a b c d : Int) (T : TypeId) : Box4 (w.alloc (.cells #[.int .i64 a, .int .i64 b, .int .i64 c, .int .i64 d] T)) w.heap.size a b c d ∧ Below w.heap.size w (w.alloc (.cells #[.int .i64 a, .int .i64 b, .int .i64 c, .int .i64 d] T)) :=
  ⟨Box4.new _ _ _ _ _ _, below_alloc _ _⟩

set_option maxHeartbeats 1000000 in
theorem wordSays_walk (a b c d : Int) (w : World) :
    Calls Try.prog 3 #[.agg #[.int .i64 a, .int .i64 b, .int .i64 c, .int .i64 d]] w fun e w' => e = .returned (.bool true) ∧ Below w.heap.size w w' := by
  have hr := readingMay_any a b c d
  have hc := check_any a b c d
  by_cases hm : mayR a b c d = true
  · have hp := pack_yes a b c d hm
    have hwd := word_any a b c d hm
    rw [if_pos hm] at hr hc
    rw [errV_zero] at hc
    have his := is_any 0 0
    rw [errV_zero] at his
    clear hm
    generalize packI a b c d = x at *
    go_enter Try.func3, Try.ntmps3
    go_wp2_with (first
      | (go_at_call 5; refine (hr _).mono ?_; rintro e w1 ⟨rfl, hb1⟩; have HX := box_later (box_first w a b c d 23) hb1; obtain ⟨c0, c1, c2, c3, _⟩ := HX.1; have HX : Hid _ := HX; clear hb1)
      | (go_at_call 6; refine (hwd _).mono ?_; rintro e w2 ⟨rfl, hb2⟩; have HX := box_later HX.out hb2; obtain ⟨c0, c1, c2, c3, _⟩ := HX.1; have HX : Hid _ := HX; clear hb2)
      | (go_at_call 7; refine (hp _).mono ?_; rintro e w3 ⟨rfl, hb3⟩; have HX := box_later HX.out hb3; obtain ⟨c0, c1, c2, c3, _⟩ := HX.1; have HX : Hid _ := HX; clear hb3)
      | (go_at_call 9; refine (hc _).mono ?_; rintro e w4 ⟨rfl, hb4⟩; have HX := box_later HX.out hb4; have HX : Hid _ := HX; clear hb4)
      | (go_at_call 8; refine (his _).mono ?_; rintro e w' ⟨rfl, rfl⟩))
    go_ret
    exact ⟨rfl, HX.out.2⟩
  · have hp := pack_no a b c d (by simpa using hm)
    rw [if_neg hm] at hr hc
    rw [errV_ne (by decide)] at hc hp
    have his := is_any 1 1
    rw [errV_ne (by decide)] at his
    clear hm
    go_enter Try.func3, Try.ntmps3
    go_wp2_with (first
      | (go_at_call 5; refine (hr _).mono ?_; rintro e w1 ⟨rfl, hb1⟩; have HX := box_later (box_first w a b c d 23) hb1; obtain ⟨c0, c1, c2, c3, _⟩ := HX.1; have HX : Hid _ := HX; clear hb1)
      | (go_at_call 7; refine (hp _).mono ?_; rintro e w3 ⟨rfl, hb3⟩; have HX := box_later HX.out hb3; obtain ⟨c0, c1, c2, c3, _⟩ := HX.1; have HX : Hid _ := HX; clear hb3)
      | (go_at_call 9; refine (hc _).mono ?_; rintro e w4 ⟨rfl, hb4⟩; have HX := box_later HX.out hb4; have HX : Hid _ := HX; clear hb4)
      | (go_at_call 8; refine (his _).mono ?_; rintro e w' ⟨rfl, rfl⟩))
    go_ret
    exact ⟨rfl, HX.out.2⟩

end Go.Proofs.Ytomigbppimpohaa
