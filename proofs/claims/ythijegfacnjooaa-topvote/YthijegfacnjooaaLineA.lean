/-
  Contracts of the functions of packages table and fulmarref that take and give numbers or errors: rounding, comparing, telling errors. Each returns what the plain arithmetic says, and changes nothing that was there.
-/
import Derived.Test.YthijegfacnjooaaWalksA
import Derived.Test.YthijegfacnjooaaPlainT
import Derived.RegionTactic
import Derived.ChangeAlike
import Derived.Deep.QuietTactic
import Derived.BigQuiet
namespace Go.Proofs.Ythijegfacnjooaa
open Go.RowKit Plain

theorem clipI_T (x lo hi : Int) : clipI x lo hi = clipT x lo hi := rfl

theorem nearest_any (n d : Int) (h0 : -4611686018427387904 ≤ n) (h1 : n ≤ 4611686018427387904) (d0 : 0 < d) (d1 : d ≤ 4000000000000) (w : World) :
    Calls Try.prog 115 #[.int .i64 n, .int .i64 d] w fun e w' => e = .returned (.int .i64 (upI n d)) ∧ ∃ k, w' = w.drewN k := by
  have q : -4611686018427387904 ≤ n.tdiv d ∧ n.tdiv d ≤ 4611686018427387904 := by
    have h : (n.tdiv d).natAbs ≤ n.natAbs := by rw [Int.natAbs_tdiv]; exact Nat.div_le_self _ _
    omega
  have r : -4000000000000 ≤ n.tmod d ∧ n.tmod d ≤ 4000000000000 := by
    have h : (n.tmod d).natAbs < d.natAbs := by rw [Int.natAbs_tmod]; exact Nat.mod_lt _ (by omega)
    omega
  obtain ⟨q0, q1⟩ := q; obtain ⟨r0, r1⟩ := r
  have hd' : (d == 0) = false := by simp; omega
  rw [← near_up n d d0]
  by_cases c1 : n.tmod d < 0
  · by_cases c2 : d - (n.tmod d + d) ≤ n.tmod d + d
    · have e : nearT n d = n.tdiv d := by unfold nearT; rw [if_pos c1, if_pos c2]; omega
      rw [e]; clear e
      go_enter Try.func115, Try.ntmps115
      go_wp2
      go_quiet (fail)
      go_wp2
      go_ret
      exact ⟨rfl, _, rfl⟩
    · have e : nearT n d = n.tdiv d - 1 := by unfold nearT; rw [if_pos c1, if_neg c2]
      rw [e]; clear e
      go_enter Try.func115, Try.ntmps115
      go_wp2
      go_quiet (fail)
      go_wp2
      go_ret
      exact ⟨rfl, _, rfl⟩
  · by_cases c2 : d - n.tmod d ≤ n.tmod d
    · have e : nearT n d = n.tdiv d + 1 := by unfold nearT; rw [if_neg c1, if_pos c2]
      rw [e]; clear e
      go_enter Try.func115, Try.ntmps115
      go_wp2
      go_quiet (fail)
      go_wp2
      go_ret
      exact ⟨rfl, _, rfl⟩
    · have e : nearT n d = n.tdiv d := by unfold nearT; rw [if_neg c1, if_neg c2]
      rw [e]; clear e
      go_enter Try.func115, Try.ntmps115
      go_wp2
      go_quiet (fail)
      go_wp2
      go_ret
      exact ⟨rfl, _, rfl⟩

theorem pick_any (n d : Int) (d0 : 0 < d) (d1 : d ≤ 8000000000000) (w : World) :
    Calls Try.prog 13 #[.int .i64 n, .int .i64 d] w fun e w' => e = .returned (.int .i64 (n % d)) ∧ w' = w := by
  have r : -8000000000000 ≤ n.tmod d ∧ n.tmod d ≤ 8000000000000 := by
    have h : (n.tmod d).natAbs < d.natAbs := by rw [Int.natAbs_tmod]; exact Nat.mod_lt _ (by omega)
    omega
  obtain ⟨r0, r1⟩ := r
  have hd' : (d == 0) = false := by simp; omega
  by_cases c1 : n.tmod d < 0
  · rw [((tdm n d d0).1 c1).1]
    go_enter Try.func13, Try.ntmps13
    go_wp2
    go_ret
    exact ⟨rfl, rfl⟩
  · rw [((tdm n d d0).2 c1).1]
    go_enter Try.func13, Try.ntmps13
    go_wp2
    go_ret
    exact ⟨rfl, rfl⟩

theorem down_cut (n d : Int) (d0 : 0 < d) : (n - n % d).tdiv d = n / d := by
  have e := Int.mul_ediv_add_emod n d
  have : n - n % d = (n / d) * d := by rw [Int.mul_comm]; omega
  rw [this, Int.mul_tdiv_cancel _ (by omega)]

theorem when_true (e : Int) (w : World) : Calls Try.prog 35 #[.bool true, .int .i64 e] w fun r w' => r = .returned (.int .i64 e) ∧ w' = w := by
  go_enter Try.func35, Try.ntmps35
  go_wp2
  go_ret
  exact ⟨rfl, rfl⟩
theorem when_false (e : Int) (w : World) : Calls Try.prog 35 #[.bool false, .int .i64 e] w fun r w' => r = .returned (.int .i64 0) ∧ w' = w := by
  go_enter Try.func35, Try.ntmps35
  go_wp2
  go_ret
  exact ⟨rfl, rfl⟩
theorem when_any (b : Bool) (e : Int) (w : World) : Calls Try.prog 35 #[.bool b, .int .i64 e] w fun r w' => r = .returned (.int .i64 (if b then e else 0)) ∧ w' = w := by
  cases b
  · exact when_false e w
  · exact when_true e w

/-- The same, its number by a name. -/
theorem when_named (b : Bool) (e : Int) (w : World) : Calls Try.prog 35 #[.bool b, .int .i64 e] w fun r w' => ∃ x, r = .returned (.int .i64 x) ∧ Hid (x = if b then e else 0) ∧ w' = w :=
  (when_any b e w).mono fun _ _ ⟨h1, h2⟩ => ⟨_, h1, rfl, h2⟩

/-- An error of its number. -/
def errV (e : Int) : Value := if e = 0 then .nilIface else .iface 26 (.int .i64 e)
theorem errV_zero : errV 0 = .nilIface := rfl
theorem errV_ne {e : Int} (h : e ≠ 0) : errV e = .iface 26 (.int .i64 e) := by unfold errV; rw [if_neg h]

theorem as_errno (v : Value) (w : World) : (Instr.typeAssert (.iface 26 v) 43 26 true).run Try.prog w = .ok (.tuple #[v, .bool true]) w := by kernel_rfl
theorem between_any (x lo hi : Int) (w : World) :
    Calls Try.prog 12 #[.int .i64 x, .int .i64 lo, .int .i64 hi] w fun e w' => e = .returned (.bool (decide (lo ≤ x) && decide (x ≤ hi))) ∧ w' = w := by
  by_cases g1 : lo ≤ x
  · by_cases g2 : x ≤ hi
    · rw [decide_eq_true g1, decide_eq_true g2]
      go_enter Try.func12, Try.ntmps12
      go_wp2
      go_ret
      exact ⟨rfl, rfl⟩
    · rw [decide_eq_true g1, decide_eq_false g2]
      go_enter Try.func12, Try.ntmps12
      go_wp2
      go_ret
      exact ⟨by simp, rfl⟩
  · rw [decide_eq_false g1]
    go_enter Try.func12, Try.ntmps12
    go_wp2
    go_ret
    exact ⟨rfl, rfl⟩
theorem between_worth (x : Int) (w : World) :
    Calls Try.prog 12 #[.int .i64 x, .int .i64 (-1000000), .int .i64 1000000] w fun e w' => e = .returned (.bool (within x)) ∧ w' = w := between_any x _ _ w

theorem isBeyond_any (x : Int) (w : World) :
    Calls Try.prog 123 #[.int .i64 x] w fun e w' => e = .returned (.bool (!within x)) ∧ w' = w := by
  by_cases g1 : 1000000 < x
  · have e : within x = false := by simp [within]; omega
    rw [e]
    go_enter Try.func123, Try.ntmps123
    go_wp2
    go_ret
    exact ⟨rfl, rfl⟩
  · by_cases g2 : x < -1000000
    · have e : within x = false := by simp [within]; omega
      rw [e]
      go_enter Try.func123, Try.ntmps123
      go_wp2
      go_ret
      exact ⟨by simp, rfl⟩
    · have e : within x = true := by simp [within]; omega
      rw [e]
      go_enter Try.func123, Try.ntmps123
      go_wp2
      go_ret
      exact ⟨by simp, rfl⟩

theorem nan_any (x : Int) (w : World) : Calls Try.prog 121 #[.int .i64 x] w fun e w' => e = .returned (.bool false) ∧ w' = w := by
  have e : (x != x) = false := by simp
  go_enter Try.func121, Try.ntmps121
  go_wp2
  go_ret
  exact ⟨by simp, rfl⟩
theorem less_any (x y : Int) (w : World) : Calls Try.prog 107 #[.int .i64 x, .int .i64 y] w fun e w' => e = .returned (.bool (decide (x < y))) ∧ w' = w := by
  go_enter Try.func107, Try.ntmps107
  go_wp2_with (go_at_call 121; refine (nan_any _ _).mono ?_; rintro e w' ⟨rfl, rfl⟩)
  go_ret
  exact ⟨by simp, rfl⟩

/-- The first that is one. -/
def firstI : List Int → Int
  | [] => 0
  | x :: l => if x = 0 then firstI l else x
theorem first_step (zs : List Int) (k : Nat) (h : k < zs.length) : firstI (zs.drop k) = if zs.getD k 0 = 0 then firstI (zs.drop (k + 1)) else zs.getD k 0 := by
  rw [List.drop_eq_getElem_cons h, List.getD_eq_getElem?_getD, List.getElem?_eq_getElem h]; rfl
theorem first_any (b off cap : Nat) (zs : List Int) (w : World) (hm : zs.length ≤ 9223372036854775807) (hc : ∀ k, k < zs.length → w.cell? ⟨b, off + k, none⟩ = some (.int .i64 (zs.getD k 0))) :
    Calls Try.prog 52 #[.slice (some ⟨b, off, none⟩) zs.length cap] w fun r w' => r = .returned (.int .i64 (firstI zs)) ∧ w' = w := by
  have HC : Hid (∀ k, k < zs.length → w.cell? ⟨b, off + k, none⟩ = some (.int .i64 (zs.getD k 0))) := hc; clear hc
  go_enter Try.func52, Try.ntmps52
  go_wp2
  go_loop [3] (fun i => ∃ k : Nat, k ≤ zs.length ∧ i = .int .i64 k ∧ Hid (firstI zs = firstI (zs.drop k))) (fun i => zs.length - (intOf i).toNat)
  case atStart => exact ⟨0, Nat.zero_le _, rfl, by show firstI zs = firstI (zs.drop 0); rw [List.drop_zero]⟩
  case round =>
    obtain ⟨k, hk, rfl, hf⟩ := hrel
    by_cases hlt : k < zs.length
    · have hcell := HC.out k hlt
      have hs := first_step zs k hlt
      generalize zs.getD k 0 = z at hcell hs
      by_cases hz : z = 0
      · subst hz
        rw [if_pos rfl] at hs
        have HS : Hid (firstI zs = firstI (zs.drop (k + 1))) := hf.out.trans hs
        clear hs hf
        go_wp2
        go_round
        case rel => exact ⟨k + 1, by omega, by go_num, HS⟩
        case measure => simp [intOf]; omega
      · rw [if_neg hz] at hs
        have HS : Hid (firstI zs = z) := hf.out.trans hs
        clear hs hf
        have hz' : (z != 0) = true := by simpa using hz
        clear hz
        go_wp2
        go_ret
        exact ⟨by rw [HS.out]; rfl, rfl⟩
    · go_wp2
      go_ret
      have : k = zs.length := by omega
      subst this
      exact ⟨by rw [hf.out, List.drop_length]; rfl, rfl⟩
theorem first_two (b cap : Nat) (x y : Int) (w : World) (h0 : w.cell? ⟨b, 0, none⟩ = some (.int .i64 x)) (h1 : w.cell? ⟨b, 1, none⟩ = some (.int .i64 y)) :
    Calls Try.prog 52 #[.slice (some ⟨b, 0, none⟩) 2 cap] w fun r w' => r = .returned (.int .i64 (firstI [x, y])) ∧ w' = w := by
  refine first_any b 0 cap [x, y] w (by simp) ?_
  intro k hk
  simp only [List.length_cons, List.length_nil] at hk
  match k, hk with
  | 0, _ => exact h0
  | 1, _ => exact h1
theorem first_three (b cap : Nat) (x y z : Int) (w : World) (h0 : w.cell? ⟨b, 0, none⟩ = some (.int .i64 x)) (h1 : w.cell? ⟨b, 1, none⟩ = some (.int .i64 y)) (h2 : w.cell? ⟨b, 2, none⟩ = some (.int .i64 z)) :
    Calls Try.prog 52 #[.slice (some ⟨b, 0, none⟩) 3 cap] w fun r w' => r = .returned (.int .i64 (firstI [x, y, z])) ∧ w' = w := by
  refine first_any b 0 cap [x, y, z] w (by simp) ?_
  intro k hk
  simp only [List.length_cons, List.length_nil] at hk
  match k, hk with
  | 0, _ => exact h0
  | 1, _ => exact h1
  | 2, _ => exact h2
theorem first_four (b cap : Nat) (x y z u : Int) (w : World) (h0 : w.cell? ⟨b, 0, none⟩ = some (.int .i64 x)) (h1 : w.cell? ⟨b, 1, none⟩ = some (.int .i64 y)) (h2 : w.cell? ⟨b, 2, none⟩ = some (.int .i64 z)) (h3 : w.cell? ⟨b, 3, none⟩ = some (.int .i64 u)) :
    Calls Try.prog 52 #[.slice (some ⟨b, 0, none⟩) 4 cap] w fun r w' => r = .returned (.int .i64 (firstI [x, y, z, u])) ∧ w' = w := by
  refine first_any b 0 cap [x, y, z, u] w (by simp) ?_
  intro k hk
  simp only [List.length_cons, List.length_nil] at hk
  match k, hk with
  | 0, _ => exact h0
  | 1, _ => exact h1
  | 2, _ => exact h2
  | 3, _ => exact h3

theorem first_new2 (T : TypeId) (x y : Int) (w : World) :
    Calls Try.prog 52 #[.slice (some ⟨w.heap.size, 0, none⟩) 2 2] (w.alloc (.cells #[.int .i64 x, .int .i64 y] T)) fun r w' => r = .returned (.int .i64 (firstI [x, y])) ∧ w' = w.alloc (.cells #[.int .i64 x, .int .i64 y] T) :=
  first_two _ _ x y _ (by simp [go_sem]) (by simp [go_sem])
theorem first_new3 (T : TypeId) (x y z : Int) (w : World) :
    Calls Try.prog 52 #[.slice (some ⟨w.heap.size, 0, none⟩) 3 3] (w.alloc (.cells #[.int .i64 x, .int .i64 y, .int .i64 z] T)) fun r w' => r = .returned (.int .i64 (firstI [x, y, z])) ∧ w' = w.alloc (.cells #[.int .i64 x, .int .i64 y, .int .i64 z] T) :=
  first_three _ _ x y z _ (by simp [go_sem]) (by simp [go_sem]) (by simp [go_sem])
theorem first_new4 (T : TypeId) (x y z u : Int) (w : World) :
    Calls Try.prog 52 #[.slice (some ⟨w.heap.size, 0, none⟩) 4 4] (w.alloc (.cells #[.int .i64 x, .int .i64 y, .int .i64 z, .int .i64 u] T)) fun r w' => r = .returned (.int .i64 (firstI [x, y, z, u])) ∧ w' = w.alloc (.cells #[.int .i64 x, .int .i64 y, .int .i64 z, .int .i64 u] T) :=
  first_four _ _ x y z u _ (by simp [go_sem]) (by simp [go_sem]) (by simp [go_sem]) (by simp [go_sem])

end Go.Proofs.Ythijegfacnjooaa
