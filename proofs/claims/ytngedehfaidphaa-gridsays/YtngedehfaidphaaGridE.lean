/-
  The law GridSays, walked: it returns true, and nothing that was there has turned.
-/
import Derived.Test.YtngedehfaidphaaGridD
namespace Go.Proofs.Ytngedehfaidphaa
open Go.RowKit Plain

theorem gridSays_in (x y z : Option Addr) (cx cy cz : Nat) (A : Nat → Option Addr) (C : Nat → Nat) (xl yl : List Int) (zl : List (List Int)) (u v : Int) (w : World) (hm : xl.length ≤ 20) (hn : yl.length ≤ 20) (ho : zl.length ≤ 20) (hcx : xl.length ≤ cx) (hcy : yl.length ≤ cy)
    (hx : Lst w x xl) (hy : Lst w y yl) (hz : Rws w z A C zl) :
    Calls Try.prog 5 #[.agg #[.slice x xl.length cx, .slice y yl.length cy, .slice z zl.length cz], .int .i64 u, .int .i64 v] w fun r w' => r = .returned (.bool true) ∧ Below w.heap.size w w' := by
  have S0 := startG w x y z cx cy cz A C xl yl zl hx hy hz _ (Below.refl _ _)
  have kM : ∀ s, (s.cell? ⟨w.heap.size, 0, none⟩ = some (.slice x xl.length cx) ∧ s.cell? ⟨w.heap.size, 1, none⟩ = some (.slice y yl.length cy) ∧ s.cell? ⟨w.heap.size, 2, none⟩ = some (.slice z zl.length cz)) ∧ RG w w.heap.size x y z A C xl yl zl s →
      Calls Try.prog 17 #[.agg #[.slice x xl.length cx, .slice y yl.length cy, .slice z zl.length cz]] s fun r s' => r = .returned (.int .i64 (gridI xl yl zl)) ∧ (s'.cell? ⟨w.heap.size, 0, none⟩ = some (.slice x xl.length cx) ∧ s'.cell? ⟨w.heap.size, 1, none⟩ = some (.slice y yl.length cy) ∧ s'.cell? ⟨w.heap.size, 2, none⟩ = some (.slice z zl.length cz)) ∧ RG w w.heap.size x y z A C xl yl zl s' :=
    fun s hs => (gridMay_any x y z cx cy cz A C xl yl zl s (by omega) (by omega) ho hs.2.1 hs.2.2.1 hs.2.2.2.1).mono fun _ _ ⟨e, hb⟩ => ⟨e, keepG hb hs⟩
  have kC : ∀ s, (s.cell? ⟨w.heap.size, 0, none⟩ = some (.slice x xl.length cx) ∧ s.cell? ⟨w.heap.size, 1, none⟩ = some (.slice y yl.length cy) ∧ s.cell? ⟨w.heap.size, 2, none⟩ = some (.slice z zl.length cz)) ∧ RG w w.heap.size x y z A C xl yl zl s →
      Calls Try.prog 20 #[.agg #[.slice x xl.length cx, .slice y yl.length cy, .slice z zl.length cz]] s fun r s' => r = .returned (errV (gridI xl yl zl)) ∧ (s'.cell? ⟨w.heap.size, 0, none⟩ = some (.slice x xl.length cx) ∧ s'.cell? ⟨w.heap.size, 1, none⟩ = some (.slice y yl.length cy) ∧ s'.cell? ⟨w.heap.size, 2, none⟩ = some (.slice z zl.length cz)) ∧ RG w w.heap.size x y z A C xl yl zl s' :=
    fun s hs => (checkGrid_any x y z cx cy cz A C xl yl zl s (by omega) (by omega) (by omega) hcx hcy hs.2.1 hs.2.2.1 hs.2.2.2.1).mono fun _ _ ⟨e, hb⟩ => ⟨e, keepG hb hs⟩
  have kH : gridI xl yl zl ≠ 0 → ∀ s, (s.cell? ⟨w.heap.size, 0, none⟩ = some (.slice x xl.length cx) ∧ s.cell? ⟨w.heap.size, 1, none⟩ = some (.slice y yl.length cy) ∧ s.cell? ⟨w.heap.size, 2, none⟩ = some (.slice z zl.length cz)) ∧ RG w w.heap.size x y z A C xl yl zl s →
      Calls Try.prog 19 #[.agg #[.slice x xl.length cx, .slice y yl.length cy, .slice z zl.length cz], .int .i64 u, .int .i64 v] s fun r s' => r = .returned (.tuple #[.int .i64 0, errV (gridI xl yl zl)]) ∧ (s'.cell? ⟨w.heap.size, 0, none⟩ = some (.slice x xl.length cx) ∧ s'.cell? ⟨w.heap.size, 1, none⟩ = some (.slice y yl.length cy) ∧ s'.cell? ⟨w.heap.size, 2, none⟩ = some (.slice z zl.length cz)) ∧ RG w w.heap.size x y z A C xl yl zl s' :=
    fun h s hs => (height_no x y z cx cy cz A C xl yl zl u v s (by omega) (by omega) (by omega) hcx hcy hs.2.1 hs.2.2.1 hs.2.2.2.1 h).mono fun _ _ ⟨e, hb⟩ => ⟨e, keepG hb hs⟩
  have kO : gridI xl yl zl = 0 → ∀ s, (s.cell? ⟨w.heap.size, 0, none⟩ = some (.slice x xl.length cx) ∧ s.cell? ⟨w.heap.size, 1, none⟩ = some (.slice y yl.length cy) ∧ s.cell? ⟨w.heap.size, 2, none⟩ = some (.slice z zl.length cz)) ∧ RG w w.heap.size x y z A C xl yl zl s →
      Calls Try.prog 19 #[.agg #[.slice x xl.length cx, .slice y yl.length cy, .slice z zl.length cz], .int .i64 u, .int .i64 v] s fun r s' => r = .returned (.tuple #[.int .i64 (gridH xl yl zl u v), errV 0]) ∧ (s'.cell? ⟨w.heap.size, 0, none⟩ = some (.slice x xl.length cx) ∧ s'.cell? ⟨w.heap.size, 1, none⟩ = some (.slice y yl.length cy) ∧ s'.cell? ⟨w.heap.size, 2, none⟩ = some (.slice z zl.length cz)) ∧ RG w w.heap.size x y z A C xl yl zl s' := by
    intro h s hs
    obtain ⟨bx, ox, bY, oy, bz, oz, rfl, rfl, rfl⟩ := grid_lies (grid_of h) hs.2.1 hs.2.2.1 hs.2.2.2.1
    exact (height_ok bx ox bY oy bz oz cx cy cz A C xl yl zl u v s hcx hcy hs.2.1 hs.2.2.1 hs.2.2.2.1 h).mono fun _ _ ⟨e, hb⟩ => ⟨e, keepG hb hs⟩
  have kR : gridI xl yl zl = 0 → ∀ s, (s.cell? ⟨w.heap.size, 0, none⟩ = some (.slice x xl.length cx) ∧ s.cell? ⟨w.heap.size, 1, none⟩ = some (.slice y yl.length cy) ∧ s.cell? ⟨w.heap.size, 2, none⟩ = some (.slice z zl.length cz)) ∧ RG w w.heap.size x y z A C xl yl zl s →
      Calls Try.prog 18 #[.agg #[.slice x xl.length cx, .slice y yl.length cy, .slice z zl.length cz], .int .i64 u, .int .i64 v] s fun r s' => r = .returned (.int .i64 (gridH xl yl zl u v)) ∧ (s'.cell? ⟨w.heap.size, 0, none⟩ = some (.slice x xl.length cx) ∧ s'.cell? ⟨w.heap.size, 1, none⟩ = some (.slice y yl.length cy) ∧ s'.cell? ⟨w.heap.size, 2, none⟩ = some (.slice z zl.length cz)) ∧ RG w w.heap.size x y z A C xl yl zl s' := by
    intro h s hs
    obtain ⟨bx, ox, bY, oy, bz, oz, rfl, rfl, rfl⟩ := grid_lies (grid_of h) hs.2.1 hs.2.2.1 hs.2.2.2.1
    exact (refHeight_ok bx ox bY oy bz oz cx cy cz A C xl yl zl u v s hs.2.1 hs.2.2.1 hs.2.2.2.1 h).mono fun _ _ ⟨e, hb⟩ => ⟨e, keepG hb hs⟩
  have m1 : (xl.length : Int) ≤ 20 := by omega
  have n1 : (yl.length : Int) ≤ 20 := by omega
  have o1 : (zl.length : Int) ≤ 20 := by omega
  clear hx hy hz
  go_enter Try.func5, Try.ntmps5
  go_upto_region 3 with fail
  obtain ⟨w0, hw0⟩ : ∃ w0, w.alloc (.cells #[.slice x xl.length cx, .slice y yl.length cy, .slice z zl.length cz] 46) = w0 := ⟨_, rfl⟩
  rw [hw0] at S0 ⊢
  clear hw0
  obtain ⟨⟨c0, c1, c2⟩, R0⟩ := S0
  go_wp2_with fail
  go_loop [7] (fun i => ∃ k : Nat, k ≤ zl.length ∧ i = .int .i64 k) (fun i => zl.length - (intOf i).toNat)
  case atStart => exact ⟨0, Nat.zero_le _, rfl⟩
  case round =>
    obtain ⟨k, hk, rfl⟩ := hrel
    by_cases hlt : k < zl.length
    · obtain ⟨b, off, rfl, hrs⟩ := R0.2.2.1.at hlt
      have hcell := (hrs k hlt).1
      have HB : Hid (Below w.heap.size w w0) := R0.2.2.2
      clear hrs R0 kM kC kH kO kR
      generalize (rowZ zl k).length = lr at hcell
      by_cases h20 : 20 < lr
      · have h20' : 20 < (lr : Int) := by omega
        clear h20
        go_wp2_with fail
        go_ret
        exact ⟨rfl, HB.out⟩
      · have h20' : (lr : Int) ≤ 20 := by omega
        clear h20
        go_wp2_with fail
        go_round
        case rel => exact ⟨k + 1, by omega, by go_num⟩
        case measure => simp [intOf]; omega
    · have hge : (zl.length : Int) ≤ (k : Int) := by omega
      clear hlt
      by_cases h : gridI xl yl zl = 0
      · have kO' := kO h
        have kR' := kR h
        rw [h] at kM kC
        clear kO kR kH h
        generalize gridH xl yl zl u v = gh at *
        go_wp2_with (first
          | (go_at_call 17; refine (kM _ ⟨⟨c0, c1, c2⟩, R0⟩).mono ?_; rintro e w1 ⟨rfl, ⟨d0, d1, d2⟩, R1⟩; clear c0 c1 c2)
          | (go_at_call 18; refine (kR' _ ⟨⟨d0, d1, d2⟩, R1⟩).mono ?_; rintro e w2 ⟨rfl, ⟨e0, e1, e2⟩, R2⟩; clear d0 d1 d2)
          | (go_at_call 19; refine (kO' _ ⟨⟨e0, e1, e2⟩, R2⟩).mono ?_; rintro e w3 ⟨rfl, ⟨f0, f1, f2⟩, R3⟩; clear e0 e1 e2)
          | (go_at_call 20; refine (kC _ ⟨⟨f0, f1, f2⟩, R3⟩).mono ?_; rintro e w4 ⟨rfl, ⟨g0, g1, g2⟩, R4⟩)
          | (go_at_call 10; refine (is_any _ _ _).mono ?_; rintro e w' ⟨rfl, rfl⟩))
        go_ret
        exact ⟨by simp, R4.2.2.2⟩
      · have kH' := kH h
        have h' : (gridI xl yl zl == 0) = false := by simpa using h
        clear kO kR kH h
        generalize gridI xl yl zl = er at *
        go_wp2_with (first
          | (go_at_call 17; refine (kM _ ⟨⟨c0, c1, c2⟩, R0⟩).mono ?_; rintro e w1 ⟨rfl, ⟨d0, d1, d2⟩, R1⟩; clear c0 c1 c2)
          | (go_at_call 19; refine (kH' _ ⟨⟨d0, d1, d2⟩, R1⟩).mono ?_; rintro e w3 ⟨rfl, ⟨f0, f1, f2⟩, R3⟩; clear d0 d1 d2)
          | (go_at_call 20; refine (kC _ ⟨⟨f0, f1, f2⟩, R3⟩).mono ?_; rintro e w4 ⟨rfl, ⟨g0, g1, g2⟩, R4⟩)
          | (go_at_call 10; refine (is_any _ _ _).mono ?_; rintro e w' ⟨rfl, rfl⟩))
        go_ret
        exact ⟨by simp, R4.2.2.2⟩

theorem gridSays_walk (x y z : Option Addr) (cx cy cz : Nat) (A : Nat → Option Addr) (C : Nat → Nat) (xl yl : List Int) (zl : List (List Int)) (u v : Int) (w : World) (hcx : xl.length ≤ cx) (hcy : yl.length ≤ cy)
    (hx : Lst w x xl) (hy : Lst w y yl) (hz : Rws w z A C zl) :
    Calls Try.prog 5 #[.agg #[.slice x xl.length cx, .slice y yl.length cy, .slice z zl.length cz], .int .i64 u, .int .i64 v] w fun r w' => r = .returned (.bool true) ∧ Below w.heap.size w w' := by
  by_cases hm : xl.length ≤ 20
  · by_cases hn : yl.length ≤ 20
    · by_cases ho : zl.length ≤ 20
      · exact gridSays_in x y z cx cy cz A C xl yl zl u v w hm hn ho hcx hcy hx hy hz
      · have m1 : (xl.length : Int) ≤ 20 := by omega
        have n1 : (yl.length : Int) ≤ 20 := by omega
        have o1 : 20 < (zl.length : Int) := by omega
        clear hx hy hz
        go_enter Try.func5, Try.ntmps5
        go_wp2_with fail
        go_ret
        exact ⟨rfl, below_alloc _ _⟩
    · have m1 : (xl.length : Int) ≤ 20 := by omega
      have n1 : 20 < (yl.length : Int) := by omega
      clear hx hy hz
      go_enter Try.func5, Try.ntmps5
      go_wp2_with fail
      go_ret
      exact ⟨rfl, below_alloc _ _⟩
  · have m1 : 20 < (xl.length : Int) := by omega
    clear hx hy hz
    go_enter Try.func5, Try.ntmps5
    go_wp2_with fail
    go_ret
    exact ⟨rfl, below_alloc _ _⟩

end Go.Proofs.Ytngedehfaidphaa
