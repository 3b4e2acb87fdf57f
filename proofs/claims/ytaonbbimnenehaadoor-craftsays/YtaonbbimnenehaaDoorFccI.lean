/-
  Contracts of fulmarref.SameInts and fulmarref.SameServos, at equal ones.
-/
import Derived.Test.YtaonbbimnenehaaDoorFccE
import Derived.BigQuiet
namespace Go.Proofs.YtaonbbimnenehaaDoor
open Go.RowKit Plain

set_option maxHeartbeats 1000000 in
theorem sameInts_l (l : List Int) (a a' : Option Addr) (cap cap' : Nat) (hl : l.length ≤ 20) (w : World) (hv : Lst w a l) (hv' : Lst w a' l) :
    Calls Tryd.prog 24 #[.slice a l.length cap, .slice a' l.length cap'] w fun e w' => e = .returned (.bool true) ∧ Below w.heap.size w w' := by
  have HV := ahide hv
  have HW := ahide hv'
  clear hv hv'
  go_enter Tryd.func24, Tryd.ntmps24
  go_wp2
  go_loopw [5] (fun i wr => ∃ k : Nat, k ≤ l.length ∧ i = .int .i64 k ∧ Below w.heap.size w wr) (fun i _ => l.length - (intOf i).toNat)
  case atStart => exact ⟨0, Nat.zero_le _, rfl, Below.refl _ _⟩
  case round =>
    obtain ⟨k, hk, rfl, hb⟩ := hrel
    by_cases hlt : k < l.length
    · obtain ⟨bl, ol, rfl, d0⟩ := (HV.out.later hb).at (ne_nil_of_lt hlt)
      obtain ⟨bm, om, rfl, e0⟩ := (HW.out.later hb).at (ne_nil_of_lt hlt)
      have d0 := d0 k hlt
      have e0 := e0 k hlt
      have HB := ahide hb
      have j0 : (0 : Int) ≤ (k : Int) := by omega
      have j1 : (k : Int) < (l.length : Int) := by omega
      clear hb
      generalize at0 l k = x at *
      have hxx : (x != x) = false := by simp
      go_wp2
      go_quiet (fail)
      go_wp2
      go_roundw
      case rel => exact ⟨k + 1, by omega, by go_num, abelow_up HB.out (below_drewN (Below.refl _ _) _)⟩
      case measure => simp [intOf]; omega
    · have e : k = l.length := by omega
      subst e
      go_wp2
      go_ret
      exact ⟨rfl, hb⟩
/-- Servos, all of them at nought. -/
def ZS (w : World) (a : Option Addr) (n : Nat) : Prop := n = 0 ∨ ∃ b off, a = some ⟨b, off, none⟩ ∧ ∀ k, k < n → w.cell? ⟨b, off + k * 3, none⟩ = some (.int .i64 0) ∧ w.cell? ⟨b, off + k * 3 + 1, none⟩ = some (.int .i64 0) ∧ w.cell? ⟨b, off + k * 3 + 2, none⟩ = some (.bool false)
theorem ZS.later {w w' : World} {a : Option Addr} {n : Nat} (h : ZS w a n) (hb : Below w.heap.size w w') : ZS w' a n := by
  rcases h with h | ⟨b, off, h, hc⟩
  · exact .inl h
  · exact .inr ⟨b, off, h, fun k hk => ⟨cell_later hb (hc k hk).1, cell_later hb (hc k hk).2.1, cell_later hb (hc k hk).2.2⟩⟩
theorem ZS.at {w : World} {a : Option Addr} {n k : Nat} (h : ZS w a n) (hk : k < n) : ∃ b off, a = some ⟨b, off, none⟩ ∧ w.cell? ⟨b, off + k * 3, none⟩ = some (.int .i64 0) ∧ w.cell? ⟨b, off + k * 3 + 1, none⟩ = some (.int .i64 0) ∧ w.cell? ⟨b, off + k * 3 + 2, none⟩ = some (.bool false) := by
  rcases h with rfl | ⟨b, off, h, hc⟩
  · omega
  · exact ⟨b, off, h, hc k hk⟩
set_option maxHeartbeats 1000000 in
theorem sameServos_z (n : Nat) (a a' : Option Addr) (cap cap' : Nat) (hl : n ≤ 20) (w : World) (hv : ZS w a n) (hv' : ZS w a' n) :
    Calls Tryd.prog 23 #[.slice a n cap, .slice a' n cap'] w fun e w' => e = .returned (.bool true) ∧ Below w.heap.size w w' := by
  have HV := ahide hv
  have HW := ahide hv'
  clear hv hv'
  go_enter Tryd.func23, Tryd.ntmps23
  go_wp2
  go_loopw [5] (fun i wr => ∃ k : Nat, k ≤ n ∧ i = .int .i64 k ∧ Below w.heap.size w wr) (fun i _ => n - (intOf i).toNat)
  case atStart => exact ⟨0, Nat.zero_le _, rfl, Below.refl _ _⟩
  case round =>
    obtain ⟨k, hk, rfl, hb⟩ := hrel
    by_cases hlt : k < n
    · obtain ⟨bl, ol, rfl, d0, d1, d2⟩ := (HV.out.later hb).at hlt
      obtain ⟨bm, om, rfl, e0, e1, e2⟩ := (HW.out.later hb).at hlt
      have HB := ahide hb
      have j0 : (0 : Int) ≤ (k : Int) := by omega
      have j1 : (k : Int) < (n : Int) := by omega
      clear hb
      go_wp2
      go_quiet (fail)
      go_wp2
      go_roundw
      case rel => exact ⟨k + 1, by omega, by go_num, abelow_up HB.out (below_drewN (Below.refl _ _) _)⟩
      case measure => simp [intOf]; omega
    · have e : k = n := by omega
      subst e
      go_wp2
      go_ret
      exact ⟨rfl, hb⟩

end Go.Proofs.YtaonbbimnenehaaDoor
