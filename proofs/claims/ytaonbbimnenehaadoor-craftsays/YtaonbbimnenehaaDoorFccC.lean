/-
  The closures of fcc.axisChecks: what each of them says of its axis.
-/
import Derived.Test.YtaonbbimnenehaaDoorFccB
namespace Go.Proofs.YtaonbbimnenehaaDoor
open Go.RowKit Plain

/-- How many surfaces, and how far it may be pushed. -/
def rgE (s p : Int) : Int := if betw s 2 4 && betw p 0 1000 then 0 else 1
theorem rgE_zero {s p : Int} (h : rgE s p = 0) : (2 ≤ s ∧ s ≤ 4) ∧ 0 ≤ p ∧ p ≤ 1000 := by
  unfold rgE at h
  split at h
  · rename_i h'
    simp only [Bool.and_eq_true] at h'
    exact ⟨betw_true h'.1, betw_true h'.2⟩
  · omega
/-- Two channels may be so far apart, and it begins at nought. -/
def fmE (l n lo hi : Int) : Int := if l < 2 * n ∨ 0 < lo ∨ hi < 0 then 3 else 0

set_option maxHeartbeats 1000000 in
theorem checkRange_any (a0 a1 a2 a3 a4 a5 a6 a7 a8 a9 a10 a11 a14 : Int) (p q : Option Addr) (n m cn cm : Nat) (w : World) : Calls Tryd.prog 35 #[.agg #[.int .i64 a0, .int .i64 a1, .int .i64 a2, .int .i64 a3, .int .i64 a4, .int .i64 a5, .int .i64 a6, .int .i64 a7, .int .i64 a8, .int .i64 a9, .int .i64 a10, .int .i64 a11, .slice p n cn, .slice q m cm, .int .i64 a14]] w fun e w' => e = .returned (errV (rgE a4 a3)) ∧ Below w.heap.size w w' := by
  have f1 := isFrom_ex a4 2 4
  have f2 := isFrom_ex a3 0 1000
  unfold rgE
  generalize betw a4 2 4 = x1 at *
  generalize betw a3 0 1000 = x2 at *
  cases x1
  · go_enter Tryd.func35, Tryd.ntmps35
    go_wp2_with (first | (go_at_call_of 52 (Value.int .i64 a4); refine (f1 _).mono ?_; rintro e w' ⟨rfl, rfl⟩) | (go_at_call_of 52 (Value.int .i64 a3); refine (f2 _).mono ?_; rintro e w' ⟨rfl, rfl⟩))
    go_ret
    exact ⟨rfl, by repeat (first | exact abelow_alloc _ _ | refine abelow_up ?_ (abelow_alloc _ _))⟩
  · cases x2
    · go_enter Tryd.func35, Tryd.ntmps35
      go_wp2_with (first | (go_at_call_of 52 (Value.int .i64 a4); refine (f1 _).mono ?_; rintro e w' ⟨rfl, rfl⟩) | (go_at_call_of 52 (Value.int .i64 a3); refine (f2 _).mono ?_; rintro e w' ⟨rfl, rfl⟩))
      go_ret
      exact ⟨rfl, by repeat (first | exact abelow_alloc _ _ | refine abelow_up ?_ (abelow_alloc _ _))⟩
    · go_enter Tryd.func35, Tryd.ntmps35
      go_wp2_with (first | (go_at_call_of 52 (Value.int .i64 a4); refine (f1 _).mono ?_; rintro e w' ⟨rfl, rfl⟩) | (go_at_call_of 52 (Value.int .i64 a3); refine (f2 _).mono ?_; rintro e w' ⟨rfl, rfl⟩))
      go_ret
      exact ⟨rfl, by repeat (first | exact abelow_alloc _ _ | refine abelow_up ?_ (abelow_alloc _ _))⟩

set_option maxHeartbeats 1000000 in
theorem checkForm_any (a0 a1 a2 a3 a4 a5 a6 a7 a8 a9 a10 a11 a14 : Int) (p q : Option Addr) (n m cn cm : Nat) (hn : 0 ≤ a2 ∧ a2 ≤ 1000) (w : World) : Calls Tryd.prog 48 #[.agg #[.int .i64 a0, .int .i64 a1, .int .i64 a2, .int .i64 a3, .int .i64 a4, .int .i64 a5, .int .i64 a6, .int .i64 a7, .int .i64 a8, .int .i64 a9, .int .i64 a10, .int .i64 a11, .slice p n cn, .slice q m cm, .int .i64 a14]] w fun e w' => e = .returned (errV (fmE a8 a2 a0 a1)) ∧ Below w.heap.size w w' := by
  obtain ⟨n0, n1⟩ := hn
  unfold fmE
  by_cases h1 : a8 < 2 * a2
  · rw [if_pos (.inl h1), errV_ne (by decide)]
    go_enter Tryd.func48, Tryd.ntmps48
    go_wp2
    go_ret
    exact ⟨rfl, abelow_alloc _ _⟩
  · by_cases h2 : 0 < a0
    · rw [if_pos (.inr (.inl h2)), errV_ne (by decide)]
      go_enter Tryd.func48, Tryd.ntmps48
      go_wp2
      go_ret
      exact ⟨rfl, abelow_alloc _ _⟩
    · by_cases h3 : a1 < 0
      · rw [if_pos (.inr (.inr h3)), errV_ne (by decide)]
        go_enter Tryd.func48, Tryd.ntmps48
        go_wp2
        go_ret
        exact ⟨rfl, abelow_alloc _ _⟩
      · rw [if_neg (by omega), errV_zero]
        go_enter Tryd.func48, Tryd.ntmps48
        go_wp2
        go_ret
        exact ⟨rfl, abelow_alloc _ _⟩

set_option maxHeartbeats 1000000 in
theorem clo1_any (a0 a1 a2 a3 a4 a5 a6 a7 a8 a9 a10 a11 a14 : Int) (p q : Option Addr) (n m cn cm : Nat) (B : Nat) (u : World) (h : AxB u B a0 a1 a2 a3 a4 a5 a6 a7 a8 a9 a10 a11 a14 p q n m cn cm) :
    Calls Tryd.prog 34 #[.pointer (some ⟨B, 0, none⟩)] u fun e w' => e = .returned (errV (rgE a4 a3)) ∧ Below u.heap.size u w' := by
  obtain ⟨c0, c1, c2, c3, c4, c5, c6, c7, c8, c9, c10, c11, c12, c13, c14⟩ := h
  go_enter Tryd.func34, Tryd.ntmps34
  go_wp2_with (first
    | (go_at_call 35; refine (checkRange_any a0 a1 a2 a3 a4 a5 a6 a7 a8 a9 a10 a11 a14 p q n m cn cm _).mono ?_; rintro e w1 ⟨rfl, hb1⟩))
  go_ret
  exact ⟨rfl, hb1⟩
set_option maxHeartbeats 1000000 in
theorem clo2_any (a0 a1 a2 a3 a4 a5 a6 a7 a8 a9 a10 a11 a14 : Int) (p q : Option Addr) (n m cn cm : Nat) (B : Nat) (u : World) (h : AxB u B a0 a1 a2 a3 a4 a5 a6 a7 a8 a9 a10 a11 a14 p q n m cn cm) :
    Calls Tryd.prog 36 #[.pointer (some ⟨B, 0, none⟩)] u fun e w' => e = .returned (errV (ruleE a8 a9)) ∧ Below u.heap.size u w' := by
  obtain ⟨c0, c1, c2, c3, c4, c5, c6, c7, c8, c9, c10, c11, c12, c13, c14⟩ := h
  go_enter Tryd.func36, Tryd.ntmps36
  go_wp2_with (first
    | (go_at_call 37; refine (fcc_voteRule_r a0 a1 a2 a3 a4 a5 a6 a7 a8 a9 a10 a11 a14 p q n m cn cm _).mono ?_; rintro e w1 ⟨rfl, hb1⟩)
    | (go_at_call 20; refine (checkRule_any a8 a9 _).mono ?_; rintro e w2 ⟨rfl, hb2⟩))
  go_ret
  exact ⟨rfl, abelow_up hb1 hb2⟩
set_option maxHeartbeats 1000000 in
theorem clo3_any (a0 a1 a2 a3 a4 a5 a6 a7 a8 a9 a10 a11 a14 : Int) (p q : Option Addr) (n m cn cm : Nat) (B : Nat) (u : World) (h : AxB u B a0 a1 a2 a3 a4 a5 a6 a7 a8 a9 a10 a11 a14 p q n m cn cm) :
    Calls Tryd.prog 38 #[.pointer (some ⟨B, 0, none⟩)] u fun e w' => e = .returned (errV (arE a5 a6 a7 a10)) ∧ Below u.heap.size u w' := by
  obtain ⟨c0, c1, c2, c3, c4, c5, c6, c7, c8, c9, c10, c11, c12, c13, c14⟩ := h
  go_enter Tryd.func38, Tryd.ntmps38
  go_wp2_with (first
    | (go_at_call 40; refine (fcc_actRule_r a0 a1 a2 a3 a4 a5 a6 a7 a8 a9 a10 a11 a14 p q n m cn cm _).mono ?_; rintro e w1 ⟨rfl, hb1⟩)
    | (go_at_call 39; refine (actRule_any a5 a6 a7 a10 _).mono ?_; rintro e w2 ⟨rfl, hb2⟩))
  go_ret
  exact ⟨rfl, abelow_up hb1 hb2⟩
set_option maxHeartbeats 1000000 in
theorem clo4_any (a0 a1 a2 a3 a4 a5 a6 a7 a8 a9 a10 a11 a14 : Int) (p q : Option Addr) (n m cn cm : Nat) (h4 : 2 ≤ a4 ∧ a4 ≤ 4) (h5 : 1 ≤ a5 ∧ a5 ≤ 1000) (h3 : 0 ≤ a3 ∧ a3 ≤ 1000) (h7 : 0 ≤ a7 ∧ a7 ≤ 1000) (h6 : 1 ≤ a6 ∧ a6 ≤ 1000) (B : Nat) (u : World) (h : AxB u B a0 a1 a2 a3 a4 a5 a6 a7 a8 a9 a10 a11 a14 p q n m cn cm) :
    Calls Tryd.prog 41 #[.pointer (some ⟨B, 0, none⟩)] u fun e w' => e = .returned (errV (grE a0 a1 a2 (a3 + a7) ((a4 - 1) * a5) ((a4 - 1) * a6))) ∧ Below u.heap.size u w' := by
  obtain ⟨c0, c1, c2, c3, c4, c5, c6, c7, c8, c9, c10, c11, c12, c13, c14⟩ := h
  go_enter Tryd.func41, Tryd.ntmps41
  go_wp2_with (first
    | (go_at_call 43; refine (fcc_guardRule_r a0 a1 a2 a3 a4 a5 a6 a7 a8 a9 a10 a11 a14 p q n m cn cm h4 h5 h3 h7 h6 _).mono ?_; rintro e w1 ⟨rfl, hb1⟩)
    | (go_at_call 42; refine (guardCheck_any a0 a1 a2 (a3 + a7) ((a4 - 1) * a5) ((a4 - 1) * a6) _).mono ?_; rintro e w2 ⟨rfl, hb2⟩))
  go_ret
  exact ⟨rfl, abelow_up hb1 hb2⟩
set_option maxHeartbeats 1000000 in
theorem clo5_any (a0 a1 a2 a3 a4 a5 a6 a7 a8 a9 a10 a11 a14 : Int) (p q : Option Addr) (al zl : List Int) (cn cm : Nat) (h4 : 2 ≤ a4 ∧ a4 ≤ 4) (h5 : 1 ≤ a5 ∧ a5 ≤ 1000) (h3 : 0 ≤ a3 ∧ a3 ≤ 1000) (h7 : 0 ≤ a7 ∧ a7 ≤ 1000) (h6 : 1 ≤ a6 ∧ a6 ≤ 1000) (hm : al.length ≤ 9223372036854775807) (hn : zl.length ≤ 9223372036854775807) (hca : al.length ≤ cn) (B : Nat) (u : World) (h : AxB u B a0 a1 a2 a3 a4 a5 a6 a7 a8 a9 a10 a11 a14 p q al.length zl.length cn cm) (ha : Lst u p al) (hz : Lst u q zl) :
    Calls Tryd.prog 44 #[.pointer (some ⟨B, 0, none⟩)] u fun e w' => e = .returned (errV (ruE a0 a1 a11 a14 ((a4 - 1) * a5) al zl)) ∧ Below u.heap.size u w' := by
  have HL := ahide (And.intro ha hz)
  clear ha hz
  obtain ⟨c0, c1, c2, c3, c4, c5, c6, c7, c8, c9, c10, c11, c12, c13, c14⟩ := h
  go_enter Tryd.func44, Tryd.ntmps44
  go_wp2_with (first
    | (go_at_call 46; refine (fcc_holdRule_r a0 a1 a2 a3 a4 a5 a6 a7 a8 a9 a10 a11 a14 p q al.length zl.length cn cm h4 h5 h3 h7 h6 _).mono ?_; rintro e w1 ⟨rfl, hb1⟩)
    | (go_at_call 45; refine (holdCheck_any a0 a1 a11 a14 ((a4 - 1) * a5) p q cn cm al zl hm hn hca _ (HL.out.1.later hb1) (HL.out.2.later hb1)).mono ?_; rintro e w2 ⟨rfl, hb2⟩))
  go_ret
  exact ⟨rfl, abelow_up hb1 hb2⟩
set_option maxHeartbeats 1000000 in
theorem clo6_any (a0 a1 a2 a3 a4 a5 a6 a7 a8 a9 a10 a11 a14 : Int) (p q : Option Addr) (n m cn cm : Nat) (hn : 0 ≤ a2 ∧ a2 ≤ 1000) (B : Nat) (u : World) (h : AxB u B a0 a1 a2 a3 a4 a5 a6 a7 a8 a9 a10 a11 a14 p q n m cn cm) :
    Calls Tryd.prog 47 #[.pointer (some ⟨B, 0, none⟩)] u fun e w' => e = .returned (errV (fmE a8 a2 a0 a1)) ∧ Below u.heap.size u w' := by
  obtain ⟨c0, c1, c2, c3, c4, c5, c6, c7, c8, c9, c10, c11, c12, c13, c14⟩ := h
  go_enter Tryd.func47, Tryd.ntmps47
  go_wp2_with (first
    | (go_at_call 48; refine (checkForm_any a0 a1 a2 a3 a4 a5 a6 a7 a8 a9 a10 a11 a14 p q n m cn cm hn _).mono ?_; rintro e w1 ⟨rfl, hb1⟩))
  go_ret
  exact ⟨rfl, hb1⟩

theorem axisChecks_any (a0 a1 a2 a3 a4 a5 a6 a7 a8 a9 a10 a11 a14 : Int) (p q : Option Addr) (n m cn cm : Nat) (w : World) : Calls Tryd.prog 18 #[.agg #[.int .i64 a0, .int .i64 a1, .int .i64 a2, .int .i64 a3, .int .i64 a4, .int .i64 a5, .int .i64 a6, .int .i64 a7, .int .i64 a8, .int .i64 a9, .int .i64 a10, .int .i64 a11, .slice p n cn, .slice q m cm, .int .i64 a14]] w fun e w' => e = .returned (.slice (some ⟨w.heap.size + 1, 0, none⟩) 6 6) ∧ w' = (w.alloc (.cells #[.int .i64 a0, .int .i64 a1, .int .i64 a2, .int .i64 a3, .int .i64 a4, .int .i64 a5, .int .i64 a6, .int .i64 a7, .int .i64 a8, .int .i64 a9, .int .i64 a10, .int .i64 a11, .slice p n cn, .slice q m cm, .int .i64 a14] 26)).alloc (.cells #[.func (.func 34) #[] #[.pointer (some ⟨w.heap.size, 0, none⟩)], .func (.func 36) #[] #[.pointer (some ⟨w.heap.size, 0, none⟩)], .func (.func 38) #[] #[.pointer (some ⟨w.heap.size, 0, none⟩)], .func (.func 41) #[] #[.pointer (some ⟨w.heap.size, 0, none⟩)], .func (.func 44) #[] #[.pointer (some ⟨w.heap.size, 0, none⟩)], .func (.func 47) #[] #[.pointer (some ⟨w.heap.size, 0, none⟩)]] 65) := by
  go_enter Tryd.func18, Tryd.ntmps18
  go_wp2
  go_ret
  exact ⟨rfl, rfl⟩

end Go.Proofs.YtaonbbimnenehaaDoor
