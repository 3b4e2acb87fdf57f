/-
  Contracts of table.checkPlaces, slices.IsSorted, table.ends, table.stand and fulmarref.Rising: each returns what the plain words say, and nothing that was there has turned.
-/
import Derived.Test.YthijegfacnjooaaLineB
namespace Go.Proofs.Ythijegfacnjooaa
open Go.RowKit Plain

theorem rising_first (l : List Int) (b : Bool) (hb : b = fallsU l (l.length - 1)) : firstI [if decide ((l.length : Int) < 2) = true then 3 else 0, if decide (8 < (l.length : Int)) = true then 2 else 0, worthI l, if b = true then 3 else 0] = risingI l := by
  subst hb
  unfold risingI
  by_cases h1 : l.length < 2
  · rw [if_pos h1, decide_eq_true (show (l.length : Int) < 2 by omega)]; rfl
  · rw [if_neg h1, decide_eq_false (show ¬ (l.length : Int) < 2 by omega)]
    by_cases h2 : 8 < l.length
    · rw [if_pos h2, decide_eq_true (show 8 < (l.length : Int) by omega)]; rfl
    · rw [if_neg h2, decide_eq_false (show ¬ 8 < (l.length : Int) by omega)]
      rcases worth_cases l with h | h
      · rw [h, if_pos rfl]; cases fallsU l (l.length - 1) <;> rfl
      · rw [h]; rfl

theorem rising_any (a : Option Addr) (cap : Nat) (l : List Int) (w : World) (hm : l.length ≤ 9223372036854775807) (hc : Lst w a l) :
    Calls Try.prog 96 #[.slice a l.length cap] w fun r w' => r = .returned (.int .i64 (risingI l)) ∧ Below w.heap.size w w' := by
  have HC : Hid (Lst w a l) := hc; clear hc
  go_enter Try.func96, Try.ntmps96
  go_wp2
  go_loopw [3, 4] (fun f i wr => ∃ j : Nat, j ≤ l.length - 1 ∧ i = .int .i64 ((j + 1 : Nat) : Int) ∧ f = .bool (fallsU l j) ∧ Below w.heap.size w wr) (fun f i _ => l.length - (intOf i).toNat)
  case atStart => exact ⟨0, Nat.zero_le _, rfl, rfl, Below.refl _ _⟩
  case round =>
    obtain ⟨j, hj, rfl, rfl, hbr⟩ := hrel
    by_cases hlt : j + 1 < l.length
    · obtain ⟨b, off, rfl, hcs⟩ := (HC.out.later hbr).at (ne_nil_of_lt hlt)
      have hcell1 := hcs (j + 1) hlt
      have hcell0 := hcs j (by omega)
      clear hcs
      have hs : fallsU l (j + 1) = (fallsU l j || decide (at0 l (j + 1) ≤ at0 l j)) := rfl
      generalize at0 l j = y at hcell0 hs
      generalize at0 l (j + 1) = z at hcell1 hs
      generalize fallsU l j = f at hs ⊢
      have HS : Hid (fallsU l (j + 1) = (f || decide (z ≤ y))) := hs
      clear hs
      have t1 : (((j + 1 : Nat) : Int) - 1).toNat = j := by omega
      have t0 : (((j + 1 : Nat) : Int)).toNat = j + 1 := by omega
      have b0 : (0 : Int) ≤ ((j + 1 : Nat) : Int) - 1 := by omega
      have b1 : ((j + 1 : Nat) : Int) - 1 < (l.length : Int) := by omega
      have b2 : ((j + 1 : Nat) : Int) < (l.length : Int) := by omega
      have b3 : (0 : Int) ≤ ((j + 1 : Nat) : Int) := by omega
      generalize hi : ((j + 1 : Nat) : Int) = i at *
      cases f
      · go_wp2
        go_quiet (fail)
        go_wp2
        go_roundw
        case rel => exact ⟨j + 1, by omega, by subst hi; go_num, by rw [HS.out]; simp, below_drewN hbr _⟩
        case measure => simp [intOf]; omega
      · go_wp2
        go_quiet (fail)
        go_wp2
        go_roundw
        case rel => exact ⟨j + 1, by omega, by subst hi; go_num, by rw [HS.out]; simp, below_drewN hbr _⟩
        case measure => simp [intOf]; omega
    · have ej : j = l.length - 1 := by omega
      have hw := worth_any a cap l wr hm (HC.out.later hbr)
      have b2 : ¬ ((j + 1 : Nat) : Int) < (l.length : Int) := by omega
      generalize hi : ((j + 1 : Nat) : Int) = i at *
      generalize hf : fallsU l j = f
      have hfirst := rising_first l f (by rw [← hf, ej])
      go_wp2_with (first
        | (go_at_call 35; refine (when_named _ _ _).mono ?_; rintro e w' ⟨x, rfl, hx, rfl⟩)
        | (go_at_call 97; refine hw.mono ?_; rintro e w' ⟨rfl, rfl⟩)
        | (go_at_call 52; refine (first_new4 _ _ _ _ _ _).mono ?_; rintro e w' ⟨rfl, rfl⟩))
      go_ret
      rename_i x0 h0 x1 h1
      rw [← hfirst]
      refine ⟨?_, hbr.alloc hbr.size _⟩
      rw [← h0.out, ← h1.out, ← hx.out]; rfl

theorem rises_iff (l : List Int) : ∀ n, risesU l n = true ↔ ∀ k, k < n → at0 l k ≤ at0 l (k + 1)
  | 0 => by simp [risesU]
  | n + 1 => by
    simp only [risesU, Bool.and_eq_true, decide_eq_true_eq, rises_iff l n]
    constructor
    · rintro ⟨h, q⟩ k hk
      by_cases e : k = n
      · subst e; exact q
      · exact h k (by omega)
    · intro h; exact ⟨fun k hk => h k (by omega), h n (by omega)⟩
theorem falls_iff (l : List Int) : ∀ n, fallsU l n = false ↔ ∀ k, k < n → at0 l k < at0 l (k + 1)
  | 0 => by simp [fallsU]
  | n + 1 => by
    simp only [fallsU, Bool.or_eq_false_iff, decide_eq_false_iff_not, falls_iff l n]
    constructor
    · rintro ⟨h, q⟩ k hk
      by_cases e : k = n
      · subst e; omega
      · exact h k (by omega)
    · intro h; exact ⟨fun k hk => h k (by omega), by have := h n (by omega); omega⟩

theorem checkPlaces_any (a : Option Addr) (cap : Nat) (l : List Int) (w : World) (hm : l.length ≤ 9223372036854775807) (hcap : l.length ≤ cap) (hc : Lst w a l) :
    Calls Try.prog 112 #[.slice a l.length cap] w fun r w' => r = .returned (errV (risingI l)) ∧ Below w.heap.size w w' := by
  have hw := checkWorths_any a cap l w hm hc
  by_cases h1 : l.length < 2
  · have e : risingI l = 3 := by unfold risingI; rw [if_pos h1]
    rw [e]; clear e
    have h1' : (l.length : Int) < 2 := by omega
    go_enter Try.func112, Try.ntmps112
    go_wp2_with fail
    go_ret
    exact ⟨rfl, Below.refl _ _⟩
  by_cases h2 : 8 < l.length
  · have e : risingI l = 2 := by unfold risingI; rw [if_neg h1, if_pos h2]
    rw [e]; clear e
    have h1' : ¬ (l.length : Int) < 2 := by omega
    have h2' : 8 < (l.length : Int) := by omega
    go_enter Try.func112, Try.ntmps112
    go_wp2_with fail
    go_ret
    exact ⟨rfl, Below.refl _ _⟩
  have h1' : ¬ (l.length : Int) < 2 := by omega
  have h2' : ¬ 8 < (l.length : Int) := by omega
  rcases worth_cases l with h3 | h3
  · have e : risingI l = if fallsU l (l.length - 1) then 3 else 0 := by unfold risingI; rw [if_neg h1, if_neg h2, if_pos h3]
    have HE : Hid (risingI l = if fallsU l (l.length - 1) then 3 else 0) := e
    clear e
    rw [h3] at hw
    obtain ⟨b, off, rfl, hcs⟩ := hc.at (ne_nil_of_lt (k := 0) (by omega))
    have HC : Hid (∀ k, k < l.length → w.cell? ⟨b, off + k, none⟩ = some (.int .i64 (at0 l k))) := hcs
    clear hc hcs h3
    have hw' : ∀ w0, w0 = w → Calls Try.prog 113 #[.slice (some ⟨b, off, none⟩) l.length cap] w0 fun r w' => r = .returned .nilIface ∧ w' = w0 := by rintro w0 rfl; exact hw
    clear hw
    go_enter Try.func112, Try.ntmps112
    go_wp2_with (go_at_call 113; refine (hw' _ rfl).mono ?_; rintro e w' ⟨rfl, rfl⟩)
    go_loop [22] (fun i => ∃ k : Nat, k + 1 ≤ l.length ∧ i = .int .i64 k ∧ Hid (fallsU l k = false)) (fun i => l.length - (intOf i).toNat)
    case atStart => exact ⟨0, by omega, rfl, rfl⟩
    case round =>
      obtain ⟨k, hk, rfl, hf⟩ := hrel
      by_cases hlt : k + 1 < l.length
      · have hcell0 := HC.out k (by omega)
        have hcell1 := HC.out (k + 1) hlt
        have ea : off + (k + 1) = off + 1 + k := by omega
        rw [ea] at hcell1
        by_cases hz : at0 l (k + 1) ≤ at0 l k
        · have HS : Hid (fallsU l (l.length - 1) = true) := by
            show fallsU l (l.length - 1) = true
            cases e : fallsU l (l.length - 1)
            · have := (falls_iff l _).mp e k (by omega); omega
            · rfl
          clear hf
          generalize at0 l (k + 1) = z at *
          generalize at0 l k = y at *
          go_wp2_with fail
          go_ret
          exact ⟨by rw [HE.out, HS.out]; rfl, Below.refl _ _⟩
        · have HS : Hid (fallsU l (k + 1) = false) := by
            show fallsU l (k + 1) = false
            simp only [fallsU, Bool.or_eq_false_iff, decide_eq_false_iff_not]; exact ⟨hf.out, hz⟩
          clear hf
          generalize at0 l (k + 1) = z at *
          generalize at0 l k = y at *
          go_wp2_with fail
          go_round
          case rel => exact ⟨k + 1, by omega, by go_num, HS⟩
          case measure => simp [intOf]; omega
      · have HS : Hid (fallsU l (l.length - 1) = false) := by
          have : k = l.length - 1 := by omega
          subst this; exact hf
        clear hf
        go_wp2_with fail
        go_ret
        exact ⟨by rw [HE.out, HS.out]; rfl, Below.refl _ _⟩
  · have e : risingI l = 1 := by unfold risingI; rw [if_neg h1, if_neg h2, h3]; rfl
    rw [e]; clear e
    rw [h3] at hw
    have hw' : Calls Try.prog 113 #[.slice a l.length cap] w fun r w' => r = .returned (.iface 26 (.int .i64 1)) ∧ w' = w := hw
    clear hw hc h3
    go_enter Try.func112, Try.ntmps112
    go_wp2_with (go_at_call 113; refine hw'.mono ?_; rintro e w' ⟨rfl, rfl⟩)
    go_ret
    exact ⟨rfl, Below.refl _ _⟩

end Go.Proofs.Ythijegfacnjooaa
