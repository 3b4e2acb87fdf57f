/-
  Contracts of the small functions that tell errors, and of fix.Add.
-/
import Derived.Test.YtmdpoeelddchcaaWalksB
namespace Go.Proofs.Ytmdpoeelddchcaa
open Go.RowKit Plain

theorem when_true (e : Int) (w : World) : Calls Try.prog 9 #[.bool true, .int .i64 e] w fun r w' => r = .returned (.int .i64 e) ∧ w' = w := by
  go_enter Try.func9, Try.ntmps9
  go_wp2
  go_ret
  exact ⟨rfl, rfl⟩
theorem when_false (e : Int) (w : World) : Calls Try.prog 9 #[.bool false, .int .i64 e] w fun r w' => r = .returned (.int .i64 0) ∧ w' = w := by
  go_enter Try.func9, Try.ntmps9
  go_wp2
  go_ret
  exact ⟨rfl, rfl⟩

theorem code_nil (w : World) : Calls Try.prog 32 #[.nilIface] w fun r w' => r = .returned (.int .i64 0) ∧ w' = w := by
  go_enter Try.func32, Try.ntmps32
  go_wp2
  go_ret
  exact ⟨rfl, rfl⟩
theorem as_errno (v : Value) (w : World) : (Instr.typeAssert (.iface 26 v) 23 26 true).run Try.prog w = .ok (.tuple #[v, .bool true]) w := by kernel_rfl
theorem code_errno (x : Int) (w : World) : Calls Try.prog 32 #[.iface 26 (.int .i64 x)] w fun r w' => r = .returned (.int .i64 x) ∧ w' = w := by
  have ta := as_errno (.int .i64 x)
  go_enter Try.func32, Try.ntmps32
  go_wp2
  go_ret
  exact ⟨rfl, rfl⟩

theorem is_nil (e : Int) (w : World) : Calls Try.prog 12 #[.nilIface, .int .i64 e] w fun r w' => r = .returned (.bool (0 == e)) ∧ w' = w := by
  go_enter Try.func12, Try.ntmps12
  go_wp2_with (go_at_call 32; refine (code_nil _).mono ?_; rintro e w' ⟨rfl, rfl⟩)
  go_ret
  exact ⟨rfl, rfl⟩
theorem is_errno (x e : Int) (w : World) : Calls Try.prog 12 #[.iface 26 (.int .i64 x), .int .i64 e] w fun r w' => r = .returned (.bool (x == e)) ∧ w' = w := by
  go_enter Try.func12, Try.ntmps12
  go_wp2_with (go_at_call 32; refine (code_errno _ _).mono ?_; rintro e w' ⟨rfl, rfl⟩)
  go_ret
  exact ⟨rfl, rfl⟩

/-- Sums, one number behind the other. -/
def addI (l : List Int) : Int := l.foldl (fun s x => ofI (s + ofI x)) 0
theorem addI_snoc (l : List Int) (x : Int) : addI (l ++ [x]) = ofI (addI l + ofI x) := by simp [addI]
theorem addI_bd (l : List Int) : -2147483647 ≤ addI l ∧ addI l ≤ 2147483647 := by
  rcases List.eq_nil_or_concat l with h | ⟨m, x, h⟩
  · subst h; decide
  · rw [h, List.concat_eq_append, addI_snoc]; exact ⟨ofI_lo _, ofI_hi _⟩
theorem addI_step (l : List Int) (k : Nat) (h : k < l.length) : addI (l.take (k + 1)) = ofI (addI (l.take k) + ofI (l.getD k 0)) := by
  rw [List.take_succ_eq_append_getElem h, addI_snoc, List.getD_eq_getElem?_getD, List.getElem?_eq_getElem h]; rfl

theorem add_nil (w : World) : Calls Try.prog 14 #[.slice none 0 0] w fun r w' => r = .returned (.int .i64 0) ∧ w' = w := by
  go_enter Try.func14, Try.ntmps14
  go_wp2
  go_loop [3, 8] (fun s i => s = .int .i64 0 ∧ i = .int .i64 0) (fun _ _ => 0)
  case atStart => exact ⟨rfl, rfl⟩
  case round =>
    obtain ⟨rfl, rfl⟩ := hrel
    go_wp2
    go_ret
    exact ⟨rfl, rfl⟩

theorem add_any (b off cap : Nat) (zs : List Int) (w : World) (hm : zs.length ≤ 1000000) (hc : ∀ k, k < zs.length → w.cell? ⟨b, off + k, none⟩ = some (.int .i64 (zs.getD k 0))) :
    Calls Try.prog 14 #[.slice (some ⟨b, off, none⟩) zs.length cap] w fun r w' => r = .returned (.int .i64 (addI zs)) ∧ w' = w := by
  have HC : Hid (∀ k, k < zs.length → w.cell? ⟨b, off + k, none⟩ = some (.int .i64 (zs.getD k 0))) := hc; clear hc
  go_enter Try.func14, Try.ntmps14
  go_wp2
  go_loop [3, 8] (fun s i => ∃ k : Nat, k ≤ zs.length ∧ i = .int .i64 k ∧ s = .int .i64 (addI (zs.take k))) (fun _ i => zs.length - (intOf i).toNat)
  case atStart => exact ⟨0, Nat.zero_le _, rfl, rfl⟩
  case round =>
    obtain ⟨k, hk, rfl, rfl⟩ := hrel
    by_cases hlt : k < zs.length
    · have hcell := HC.out k hlt
      have s0 := (addI_bd (zs.take k)).1
      have s1 := (addI_bd (zs.take k)).2
      have hs := addI_step zs k hlt
      generalize zs.getD k 0 = z at hcell hs
      have HS : Hid (addI (zs.take (k + 1)) = ofI (addI (zs.take k) + ofI z)) := hs
      clear hs
      have o0 := ofI_lo z
      have o1 := ofI_hi z
      go_wp2_with (go_at_call 13; refine (fixOf_any _ _).mono ?_; rintro e w' ⟨rfl, rfl⟩)
      go_round
      case rel => exact ⟨k + 1, by omega, by go_num, by rw [HS.out]⟩
      case measure => simp [intOf]; omega
    · go_wp2
      go_ret
      have : k = zs.length := by omega
      subst this
      exact ⟨by rw [List.take_length]; rfl, rfl⟩

theorem addI_three (x y z : Int) : addI [x, y, z] = ofI (ofI (ofI x + ofI y) + ofI z) := by simp [addI, ofI_ofI]
theorem addI_two (x y : Int) : addI [x, y] = ofI (ofI x + ofI y) := by simp [addI, ofI_ofI]
theorem add_three (b cap : Nat) (x y z : Int) (w : World) (h0 : w.cell? ⟨b, 0, none⟩ = some (.int .i64 x)) (h1 : w.cell? ⟨b, 1, none⟩ = some (.int .i64 y)) (h2 : w.cell? ⟨b, 2, none⟩ = some (.int .i64 z)) :
    Calls Try.prog 14 #[.slice (some ⟨b, 0, none⟩) 3 cap] w fun r w' => r = .returned (.int .i64 (ofI (ofI (ofI x + ofI y) + ofI z))) ∧ w' = w := by
  rw [← addI_three]
  refine add_any b 0 cap [x, y, z] w (by simp) ?_
  intro k hk
  simp only [List.length_cons, List.length_nil] at hk
  match k, hk with
  | 0, _ => exact h0
  | 1, _ => exact h1
  | 2, _ => exact h2
theorem add_two (b cap : Nat) (x y : Int) (w : World) (h0 : w.cell? ⟨b, 0, none⟩ = some (.int .i64 x)) (h1 : w.cell? ⟨b, 1, none⟩ = some (.int .i64 y)) :
    Calls Try.prog 14 #[.slice (some ⟨b, 0, none⟩) 2 cap] w fun r w' => r = .returned (.int .i64 (ofI (ofI x + ofI y))) ∧ w' = w := by
  rw [← addI_two]
  refine add_any b 0 cap [x, y] w (by simp) ?_
  intro k hk
  simp only [List.length_cons, List.length_nil] at hk
  match k, hk with
  | 0, _ => exact h0
  | 1, _ => exact h1

end Go.Proofs.Ytmdpoeelddchcaa
