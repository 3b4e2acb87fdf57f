/-
  The walk of the law WordGathers: for all words it returns true.
-/
import Derived.Test.YtheihcpacpoliaaGathR
namespace Go.Proofs.Ytheihcpacpoliaa
open Go.RowKit Plain

theorem fndV_tuple (x y : Int) (l : List Rd) : ∃ (r1 r2 r3 r4 : Int) (b : Bool), fndV x y l = .tuple #[.agg #[.int .i64 r1, .int .i64 r2, .int .i64 r3, .int .i64 r4], .bool b] := by
  unfold fndV
  split
  · exact ⟨_, _, _, _, _, rfl⟩
  · exact ⟨_, _, _, _, _, rfl⟩

set_option maxHeartbeats 4000000 in
theorem wordGathers_walk (a : Option Addr) (cap : Nat) (ws : List Int) (x y : Int) (w : World) (hw : Wds w a ws) :
    Calls Try.prog 3 #[.slice a ws.length cap, .int .i64 x, .int .i64 y] w fun e w' => e = .returned (.bool true) ∧ Below w.heap.size w w' := by
  have HW := ghide hw
  clear hw
  by_cases h200 : (200 : Int) < (ws.length : Int)
  · go_enter Try.func3, Try.ntmps3
    go_wp2
    go_ret
    exact ⟨rfl, Below.refl _ _⟩
  by_cases h64 : (64 : Int) < (ws.length : Int)
  · have hg := gather_many a ws.length cap (by omega)
    have hf := fun u => found_any none 0 [] x y (by simp) u (.inl rfl)
    have hd := fun u => find_any none 0 [] x y (by simp) u (.inl rfl)
    have hsm := fun u => sameReadings_any none none 0 0 [] (by simp) u (.inl rfl) (.inl rfl)
    have hz : fndV x y [] = .tuple #[.agg #[.int .i64 0, .int .i64 0, .int .i64 0, .int .i64 0], .bool false] := rfl
    rw [hz] at hf hd
    have his := is_any 2 2
    rw [errV_ne (by decide)] at his
    simp only [List.length_nil] at hf hd hsm
    clear hz
    go_enter Try.func3, Try.ntmps3
    go_wp2_with (first
      | (go_at_call 5; refine (when_true _ _).mono ?_; rintro e w' ⟨rfl, hq⟩; have hq := hq.symm; subst hq)
      | (go_at_call 7; refine (hg _).mono ?_; rintro e w' ⟨rfl, hq⟩; have hq := hq.symm; subst hq)
      | (go_at_call 8; refine (hf _).mono ?_; rintro e w1 ⟨rfl, hb1⟩; have HX := ghide (Box4.new w1 0 0 0 0 33); have HB := ghide (below_up hb1 (below_alloc w1 (.cells #[.int .i64 0, .int .i64 0, .int .i64 0, .int .i64 0] 33))); clear hb1)
      | (go_at_call 9; refine (hd _).mono ?_; rintro e w2 ⟨rfl, hb2⟩; have HX2 := ghide ((HX.out.later hb2).later (below_alloc w2 (.cells #[.int .i64 0, .int .i64 0, .int .i64 0, .int .i64 0] 33))); have HY := ghide (Box4.new w2 0 0 0 0 33); have HB2 := ghide (below_up (below_up HB.out hb2) (below_alloc w2 (.cells #[.int .i64 0, .int .i64 0, .int .i64 0, .int .i64 0] 33))); clear hb2)
      | (go_at_call 10; refine (his _).mono ?_; rintro e w' ⟨rfl, hq⟩; have hq := hq.symm; subst hq)
      | (go_at_call 11; refine (hsm _).mono ?_; rintro e w3 ⟨rfl, hb3⟩; have HX3 := ghide (HX2.out.later hb3); have HY3 := ghide (HY.out.later hb3); have HB3 := ghide (below_up HB2.out hb3); obtain ⟨c0, c1, c2, c3, _⟩ := HX3.out; obtain ⟨d0, d1, d2, d3, _⟩ := HY3.out; clear hb3))
    go_ret
    exact ⟨rfl, HB3.out⟩
  · have hr := gathered_any a cap ws (by omega) w HW.out
    have hgl := gat_length rdOf ws
    obtain ⟨L, hL⟩ : ∃ L, L = gat rdOf ws := ⟨_, rfl⟩
    have hg := fun u hb => gather_any a cap ws (by omega) u (HW.out.later hb)
    rw [← hL] at hr hgl
    simp only [← hL] at hg
    have hll : L.length ≤ 1000 := by omega
    have hf := fun c q u h => found_any c q L x y hll u h
    have hd := fun c q u h => find_any c q L x y hll u h
    have hsm := fun c q c2 q2 u h h2 => sameReadings_any c c2 q q2 L hll u h h2
    obtain ⟨r1, r2, r3, r4, b, hz⟩ := fndV_tuple x y L
    rw [hz] at hf hd
    have his := is_any 0 0
    rw [errV_zero] at his
    generalize bads rdOf ws = bd at *
    clear hz hL hgl
    go_enter Try.func3, Try.ntmps3
    go_wp2_with (first
      | (go_at_call 5; refine (when_false _ _).mono ?_; rintro e w' ⟨rfl, hq⟩; have hq := hq.symm; subst hq)
      | (go_at_call 6; refine hr.mono ?_; rintro e w1 ⟨⟨v, rfl, ho⟩, hb1⟩; obtain ⟨p, q, rfl, hrd⟩ := ho.rds; have HR1 := ghide hrd; have HB1 := ghide hb1; clear ho hrd hb1 hr)
      | (go_at_call 7; refine (hg _ HB1.out).mono ?_; rintro e w2 ⟨⟨v, rfl, ho⟩, hb2⟩; obtain ⟨p2, q2, rfl, hrd⟩ := ho.rds; have HR2 := ghide hrd; have HR1 := ghide (HR1.out.later hb2); have HB2 := ghide (below_up HB1.out hb2); clear ho hrd hb2 hg)
      | (go_at_call 8; refine (hf _ _ _ HR1.out).mono ?_; rintro e w3 ⟨rfl, hb3⟩; have HX := ghide (Box4.new w3 r1 r2 r3 r4 33); have hb3' := below_up hb3 (below_alloc w3 (.cells #[.int .i64 r1, .int .i64 r2, .int .i64 r3, .int .i64 r4] 33)); have HR1 := ghide (HR1.out.later hb3'); have HR2 := ghide (HR2.out.later hb3'); have HB3 := ghide (below_up HB2.out hb3'); clear hb3 hb3' hf)
      | (go_at_call 9; refine (hd _ _ _ HR1.out).mono ?_; rintro e w4 ⟨rfl, hb4⟩; have hb4' := below_up hb4 (below_alloc w4 (.cells #[.int .i64 r1, .int .i64 r2, .int .i64 r3, .int .i64 r4] 33)); have HX2 := ghide (HX.out.later hb4'); have HY := ghide (Box4.new w4 r1 r2 r3 r4 33); have HR1 := ghide (HR1.out.later hb4'); have HR2 := ghide (HR2.out.later hb4'); have HB4 := ghide (below_up HB3.out hb4'); clear hb4 hb4' hd)
      | (go_at_call 10; refine (his _).mono ?_; rintro e w' ⟨rfl, hq⟩; have hq := hq.symm; subst hq)
      | (go_at_call 11; refine (hsm _ _ _ _ _ HR2.out HR1.out).mono ?_; rintro e w5 ⟨rfl, hb5⟩; have HX3 := ghide (HX2.out.later hb5); have HY3 := ghide (HY.out.later hb5); have HB5 := ghide (below_up HB4.out hb5); obtain ⟨c0, c1, c2, c3, _⟩ := HX3.out; obtain ⟨d0, d1, d2, d3, _⟩ := HY3.out; clear hb5))
    go_ret
    exact ⟨by simp, HB5.out⟩

end Go.Proofs.Ytheihcpacpoliaa
