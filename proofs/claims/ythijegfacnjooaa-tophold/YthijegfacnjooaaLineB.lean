/-
  Contracts of the functions of packages table, slices and fulmarref that take a list of numbers: each returns what the plain words say, and nothing that was there has turned.
-/
import Derived.Test.YthijegfacnjooaaLineA
import Derived.Deep.RegionHeld3
import Derived.Deep.CutRange
namespace Go.Proofs.Ythijegfacnjooaa
open Go.RowKit Plain

/-- A list of numbers lies at an address. -/
def Lst (w : World) (a : Option Addr) (l : List Int) : Prop := l = [] ∨ ∃ b off, a = some ⟨b, off, none⟩ ∧ ∀ k, k < l.length → w.cell? ⟨b, off + k, none⟩ = some (.int .i64 (at0 l k))
theorem Lst.later {w w' : World} {a : Option Addr} {l : List Int} (h : Lst w a l) (hb : Below w.heap.size w w') : Lst w' a l := by
  rcases h with h | ⟨b, off, h, hc⟩
  · exact .inl h
  · exact .inr ⟨b, off, h, fun k hk => cell_later hb (hc k hk)⟩
theorem Lst.at {w : World} {a : Option Addr} {l : List Int} (h : Lst w a l) (hn : l ≠ []) : ∃ b off, a = some ⟨b, off, none⟩ ∧ ∀ k, k < l.length → w.cell? ⟨b, off + k, none⟩ = some (.int .i64 (at0 l k)) := by
  rcases h with h | h
  · exact absurd h hn
  · exact h
theorem ne_nil_of_lt {l : List Int} {k : Nat} (h : k < l.length) : l ≠ [] := by intro e; subst e; simp at h

theorem worth_any (a : Option Addr) (cap : Nat) (l : List Int) (w : World) (hm : l.length ≤ 9223372036854775807) (hc : Lst w a l) :
    Calls Try.prog 97 #[.slice a l.length cap] w fun r w' => r = .returned (.int .i64 (worthI l)) ∧ w' = w := by
  have HC : Hid (Lst w a l) := hc; clear hc
  go_enter Try.func97, Try.ntmps97
  go_wp2
  go_loop [3] (fun i => ∃ k : Nat, k ≤ l.length ∧ i = .int .i64 k ∧ Hid (worthI l = worthI (l.drop k))) (fun i => l.length - (intOf i).toNat)
  case atStart => exact ⟨0, Nat.zero_le _, rfl, by show worthI l = worthI (l.drop 0); rw [List.drop_zero]⟩
  case round =>
    obtain ⟨k, hk, rfl, hf⟩ := hrel
    by_cases hlt : k < l.length
    · obtain ⟨b, off, rfl, hcs⟩ := HC.out.at (ne_nil_of_lt hlt)
      have hcell := hcs k hlt
      clear hcs
      have hs := worth_step l k hlt
      generalize at0 l k = z at hcell hs
      by_cases hz : within z = true
      · rw [if_pos hz] at hs
        have HS : Hid (worthI l = worthI (l.drop (k + 1))) := hf.out.trans hs
        clear hs hf
        go_wp2_with (go_at_call 12; refine (between_worth _ _).mono ?_; rintro e w' ⟨rfl, rfl⟩)
        go_round
        case rel => exact ⟨k + 1, by omega, by go_num, HS⟩
        case measure => simp [intOf]; omega
      · rw [if_neg hz] at hs
        have HS : Hid (worthI l = 1) := hf.out.trans hs
        have hz' : within z = false := by simpa using hz
        clear hs hf hz
        go_wp2_with (go_at_call 12; refine (between_worth _ _).mono ?_; rintro e w' ⟨rfl, rfl⟩)
        go_ret
        exact ⟨by rw [HS.out]; rfl, rfl⟩
    · go_wp2
      go_ret
      have : k = l.length := by omega
      subst this
      exact ⟨by rw [hf.out, List.drop_length]; rfl, rfl⟩

/-- The first one beyond: its place, or -1. -/
def beyondI (l : List Int) : Nat → Int
  | 0 => -1
  | n + 1 => if within (at0 l (l.length - (n + 1))) then beyondI l n else ((l.length - (n + 1) : Nat) : Int)
theorem beyond_neg (l : List Int) : ∀ n, n ≤ l.length → (0 ≤ beyondI l n ↔ worthI (l.drop (l.length - n)) = 1)
  | 0, _ => by simp [beyondI, worthI]
  | n + 1, h => by
    have hs := worth_step l (l.length - (n + 1)) (by omega)
    have e : l.length - (n + 1) + 1 = l.length - n := by omega
    rw [e] at hs
    rw [hs]; simp only [beyondI]
    split
    · rw [beyond_neg l n (by omega)]
    · simp
theorem index_any (a : Option Addr) (cap : Nat) (l : List Int) (w : World) (hm : l.length ≤ 9223372036854775807) (hc : Lst w a l) :
    Calls Try.prog 126 #[.slice a l.length cap, .func (.func 123) #[] #[]] w fun r w' => r = .returned (.int .i64 (beyondI l l.length)) ∧ w' = w := by
  have HC : Hid (Lst w a l) := hc; clear hc
  go_enter Try.func126, Try.ntmps126
  go_wp2
  go_loop [8] (fun i => ∃ k : Nat, k ≤ l.length ∧ i = .int .i64 k ∧ Hid (beyondI l l.length = beyondI l (l.length - k))) (fun i => l.length - (intOf i).toNat)
  case atStart => exact ⟨0, Nat.zero_le _, rfl, rfl⟩
  case round =>
    obtain ⟨k, hk, rfl, hf⟩ := hrel
    by_cases hlt : k < l.length
    · obtain ⟨b, off, rfl, hcs⟩ := HC.out.at (ne_nil_of_lt hlt)
      have hcell := hcs k hlt
      clear hcs
      have hs : beyondI l (l.length - k) = if within (at0 l k) then beyondI l (l.length - (k + 1)) else (k : Int) := by
        have e : l.length - k = (l.length - (k + 1)) + 1 := by omega
        have e2 : l.length - (l.length - (k + 1) + 1) = k := by omega
        rw [e]; simp only [beyondI, e2]
      generalize at0 l k = z at hcell hs
      by_cases hz : within z = true
      · rw [if_pos hz] at hs
        have HS : Hid (beyondI l l.length = beyondI l (l.length - (k + 1))) := hf.out.trans hs
        clear hs hf
        go_wp2_with (go_at_call 123; refine (isBeyond_any _ _).mono ?_; rintro e w' ⟨rfl, rfl⟩)
        go_round
        case rel => exact ⟨k + 1, by omega, by go_num, HS⟩
        case measure => simp [intOf]; omega
      · rw [if_neg hz] at hs
        have HS : Hid (beyondI l l.length = k) := hf.out.trans hs
        have hz' : within z = false := by simpa using hz
        clear hs hf hz
        go_wp2_with (go_at_call 123; refine (isBeyond_any _ _).mono ?_; rintro e w' ⟨rfl, rfl⟩)
        go_ret
        exact ⟨by rw [HS.out]; rfl, rfl⟩
    · go_wp2
      go_ret
      have : k = l.length := by omega
      subst this
      exact ⟨by rw [hf.out, Nat.sub_self]; rfl, rfl⟩
theorem contains_any (a : Option Addr) (cap : Nat) (l : List Int) (w : World) (hm : l.length ≤ 9223372036854775807) (hc : Lst w a l) :
    Calls Try.prog 122 #[.slice a l.length cap, .func (.func 123) #[] #[]] w fun r w' => r = .returned (.bool (worthI l == 1)) ∧ w' = w := by
  have e := beyond_neg l l.length (Nat.le_refl _)
  rw [Nat.sub_self, List.drop_zero] at e
  have hi := index_any a cap l w hm hc
  generalize beyondI l l.length = n at e hi
  have e' : (worthI l == 1) = decide (0 ≤ n) := by
    by_cases h : 0 ≤ n
    · rw [decide_eq_true h]; simpa using e.mp h
    · rw [decide_eq_false h]; simpa using fun q => h (e.mpr q)
  rw [e']
  clear e e' hc
  go_enter Try.func122, Try.ntmps122
  go_wp2_with (go_at_call 126; refine hi.mono ?_; rintro e w' ⟨rfl, rfl⟩)
  go_ret
  exact ⟨rfl, rfl⟩
theorem checkWorths_any (a : Option Addr) (cap : Nat) (l : List Int) (w : World) (hm : l.length ≤ 9223372036854775807) (hc : Lst w a l) :
    Calls Try.prog 113 #[.slice a l.length cap] w fun r w' => r = .returned (errV (worthI l)) ∧ w' = w := by
  have hi := contains_any a cap l w hm hc
  clear hc
  rcases worth_cases l with h | h
  · rw [h] at hi ⊢
    go_enter Try.func113, Try.ntmps113
    go_wp2_with (go_at_call 122; refine hi.mono ?_; rintro e w' ⟨rfl, rfl⟩)
    go_ret
    exact ⟨rfl, rfl⟩
  · rw [h] at hi ⊢
    go_enter Try.func113, Try.ntmps113
    go_wp2_with (go_at_call 122; refine hi.mono ?_; rintro e w' ⟨rfl, rfl⟩)
    go_ret
    exact ⟨rfl, rfl⟩

end Go.Proofs.Ythijegfacnjooaa
