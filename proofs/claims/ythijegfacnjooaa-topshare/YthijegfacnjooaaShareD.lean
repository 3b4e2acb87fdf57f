/-
  Contracts of share.findLevel and what it leans on: the level, found by halves.
-/
import Derived.Test.YthijegfacnjooaaShareC
namespace Go.Proofs.Ythijegfacnjooaa
open Go.RowKit Plain

/-- What the closure sees. -/
def FB (w : World) (B ca : Nat) (a : Option Addr) (T R s : Int) (l : List Sv) : Prop := (w.cell? ⟨B, 0, none⟩ = some (.slice a l.length ca) ∧ w.cell? ⟨B + 1, 0, none⟩ = some (.int .i64 T) ∧ w.cell? ⟨B + 1 + 1, 0, none⟩ = some (.int .i64 s)) ∧ WLs w a T R l
theorem FB.later {w w' : World} {B ca : Nat} {a : Option Addr} {T R s : Int} {l : List Sv} (h : FB w B ca a T R s l) (hb : Below w.heap.size w w') : FB w' B ca a T R s l := ⟨⟨cell_later hb h.1.1, cell_later hb h.1.2.1, cell_later hb h.1.2.2⟩, h.2.later hb⟩
theorem keepF {w u u' : World} {B ca : Nat} {a : Option Addr} {T R s : Int} {l : List Sv} (hb : Below u.heap.size u u') (h : ((u.cell? ⟨B, 0, none⟩ = some (.slice a l.length ca) ∧ u.cell? ⟨B + 1, 0, none⟩ = some (.int .i64 T) ∧ u.cell? ⟨B + 1 + 1, 0, none⟩ = some (.int .i64 s)) ∧ WLs u a T R l) ∧ Below w.heap.size w u) : ((u'.cell? ⟨B, 0, none⟩ = some (.slice a l.length ca) ∧ u'.cell? ⟨B + 1, 0, none⟩ = some (.int .i64 T) ∧ u'.cell? ⟨B + 1 + 1, 0, none⟩ = some (.int .i64 s)) ∧ WLs u' a T R l) ∧ Below w.heap.size w u' :=
  ⟨⟨⟨cell_later hb h.1.1.1, cell_later hb h.1.1.2.1, cell_later hb h.1.1.2.2⟩, h.1.2.later hb⟩, abelow_up h.2 hb⟩

set_option maxRecDepth 100000 in
set_option maxHeartbeats 2000000 in
theorem tooHigh_any (T R S C s : Int) (l : List Sv) (a : Option Addr) (ca B : Nat) (i : Int) (i0 : -5000 ≤ i) (i1 : i ≤ 5000) (t0 : -1000 ≤ T) (t1 : T ≤ 1000) (hok : AllOk T R S C l) (hl : l.length ≤ 9) (w : World) (hw : FB w B ca a T R s l) :
    Calls Try.prog 93 #[.int .i64 i, .pointer (some ⟨B, 0, none⟩), .pointer (some ⟨B + 1, 0, none⟩), .pointer (some ⟨B + 1 + 1, 0, none⟩)] w fun e w' => e = .returned (.bool (decide (s < tot T R l (i - T)))) ∧ Below w.heap.size w w' := by
  have htg : ∀ u, WLs u a T R l → Calls Try.prog 72 #[.slice a l.length ca, .int .i64 (i - T)] u fun e w' => e = .returned (.int .i64 (tot T R l (i - T))) ∧ Below u.heap.size u w' := fun u hu => together_any T R S C l (i - T) a ca hok hl u hu
  have v1 : IntKind.i64.wrap (i - T) = i - T := swrap_id (by omega) (by omega)
  have htg' : ∀ u, (((u.cell? ⟨B, 0, none⟩ = some (.slice a l.length ca) ∧ u.cell? ⟨B + 1, 0, none⟩ = some (.int .i64 T) ∧ u.cell? ⟨B + 1 + 1, 0, none⟩ = some (.int .i64 s)) ∧ WLs u a T R l) ∧ Below w.heap.size w u) → Calls Try.prog 72 #[.slice a l.length ca, .int .i64 (i - T)] u fun e w' => e = .returned (.int .i64 (tot T R l (i - T))) ∧ Below u.heap.size u w' := fun u hu => htg u hu.1.2
  have S0 : ((w.cell? ⟨B, 0, none⟩ = some (.slice a l.length ca) ∧ w.cell? ⟨B + 1, 0, none⟩ = some (.int .i64 T) ∧ w.cell? ⟨B + 1 + 1, 0, none⟩ = some (.int .i64 s)) ∧ WLs w a T R l) ∧ Below w.heap.size w w := ⟨hw, Below.refl _ _⟩
  have Z := ahide S0
  clear hok htg hw
  generalize tot T R l (i - T) = t at *
  go_enter Try.func93, Try.ntmps93
  go_upto_region 1 with fail
  go_region_held3 (fun u => ((u.cell? ⟨B, 0, none⟩ = some (.slice a l.length ca) ∧ u.cell? ⟨B + 1, 0, none⟩ = some (.int .i64 T) ∧ u.cell? ⟨B + 1 + 1, 0, none⟩ = some (.int .i64 s)) ∧ WLs u a T R l) ∧ Below w.heap.size w u)
    (first
      | (with_reducible assumption)
      | (with_reducible apply keepF; with_reducible assumption; with_reducible assumption)
      | (refine keepF ?_ Z.out; exact (Below.refl _ _).drew))
    (first
      | (go_at_call 72; refine (htg' _ (by with_reducible assumption)).mono ?_; rintro e w' ⟨rfl, hb⟩))
  all_goals
    rename_i hH
    have HB := ahide hH.2
    clear hH
    go_wp2_with fail
    go_ret
    exact ⟨rfl, HB.out⟩

/-- Found by halves. -/
def Found (T R s : Int) (l : List Sv) (n i j : Int) : Prop := 0 ≤ i ∧ i ≤ j ∧ j ≤ n ∧ (i = 0 ∨ tot T R l (i - 1 - T) ≤ s) ∧ (j = n ∨ s < tot T R l (j - T))
set_option maxRecDepth 100000 in
set_option maxHeartbeats 2000000 in
theorem ssearch_any (T R S C s : Int) (l : List Sv) (a : Option Addr) (ca B : Nat) (n : Int) (n0 : 0 ≤ n) (n1 : n ≤ 4000) (t0 : -1000 ≤ T) (t1 : T ≤ 1000) (hok : AllOk T R S C l) (hl : l.length ≤ 9) (w : World) (hw : FB w B ca a T R s l) :
    Calls Try.prog 92 #[.int .i64 n, .func (.func 93) #[] #[.pointer (some ⟨B, 0, none⟩), .pointer (some ⟨B + 1, 0, none⟩), .pointer (some ⟨B + 1 + 1, 0, none⟩)]] w fun e w' => (∃ i, e = .returned (.int .i64 i) ∧ Found T R s l n i i) ∧ Below w.heap.size w w' := by
  have HW := ahide hw
  have HOK := ahide hok
  clear hw hok
  go_enter Try.func92, Try.ntmps92
  go_wp2
  go_loopw [5, 6] (fun x y wr => ∃ i j : Int, x = .int .i64 i ∧ y = .int .i64 j ∧ Found T R s l n i j ∧ Below w.heap.size w wr) (fun x y _ => (intOf y - intOf x).toNat)
  case atStart => exact ⟨0, n, rfl, rfl, ⟨by omega, n0, by omega, .inl rfl, .inl rfl⟩, Below.refl _ _⟩
  case round =>
    obtain ⟨i, j, rfl, rfl, hF, hb⟩ := hrel
    have HF := ahide hF
    obtain ⟨i0, ij, jn, _, _⟩ := hF
    have HB := ahide hb
    by_cases hlt : i < j
    · have hcl := fun h h0 h1 u hu => tooHigh_any T R S C s l a ca B h h0 h1 t0 t1 HOK.out hl u hu
      have HL := ahide (HW.out.later hb)
      clear hb
      have hm := hcl ((i + j) / 2) (by omega) (by omega) wr HL.out
      clear hcl
      by_cases hq : s < tot T R l ((i + j) / 2 - T)
      · rw [decide_eq_true hq] at hm
        have HQ := ahide hq
        clear hq
        go_wp2_with (go_at_call 93; refine hm.mono ?_; rintro e w1 ⟨rfl, hb1⟩)
        go_roundw
        case rel =>
          obtain ⟨f0, f1, f2, f3, f4⟩ := HF.out
          exact ⟨i, (i + j) / 2, rfl, rfl, ⟨f0, by omega, by omega, f3, .inr HQ.out⟩, abelow_up HB.out hb1⟩
        case measure => simp [intOf]; omega
      · rw [decide_eq_false hq] at hm
        have HQ := ahide hq
        clear hq
        go_wp2_with (go_at_call 93; refine hm.mono ?_; rintro e w1 ⟨rfl, hb1⟩)
        go_roundw
        case rel =>
          obtain ⟨f0, f1, f2, f3, f4⟩ := HF.out
          exact ⟨(i + j) / 2 + 1, j, rfl, rfl, ⟨by omega, by omega, f2, .inr (by rw [show (i + j) / 2 + 1 - 1 - T = (i + j) / 2 - T by omega]; have := HQ.out; omega), f4⟩, abelow_up HB.out hb1⟩
        case measure => simp [intOf]; omega
    · have e : i = j := by omega
      subst e
      clear hb
      go_wp2
      go_ret
      exact ⟨⟨_, rfl, HF.out⟩, HB.out⟩

theorem found_lev {T R s : Int} {l : List Sv} (h0 : tot T R l (-T) ≤ s) {i : Int} (h : Found T R s l (2 * T + 1) i i) : IsLev T R l s (i - 1 - T) := by
  obtain ⟨f0, _, f2, f3, f4⟩ := h
  have hi : i ≠ 0 := by
    intro e
    subst e
    rcases f4 with f4 | f4
    · omega
    · rw [show (0 : Int) - T = -T by omega] at f4; omega
  refine ⟨by omega, by omega, ?_, fun hlt => ?_⟩
  · rcases f3 with f3 | f3
    · exact absurd f3 hi
    · exact f3
  · rcases f4 with f4 | f4
    · omega
    · rw [show i - 1 - T + 1 = i - T by omega]; exact f4
set_option maxRecDepth 100000 in
set_option maxHeartbeats 1000000 in
theorem findLevel_any (T R S C s v : Int) (l : List Sv) (a : Option Addr) (ca : Nat) (t0 : 0 ≤ T) (t1 : T ≤ 1000) (hok : AllOk T R S C l) (hl : l.length ≤ 9) (h0 : tot T R l (-T) ≤ s) (hv : IsLev T R l s v) (w : World) (hw : WLs w a T R l) :
    Calls Try.prog 74 #[.slice a l.length ca, .int .i64 T, .int .i64 s] w fun e w' => e = .returned (.int .i64 v) ∧ Below w.heap.size w w' := by
  have HF : Hid (FB (((w.alloc (.cells #[.slice a l.length ca] 141)).alloc (.cells #[.int .i64 T] 3)).alloc (.cells #[.int .i64 s] 3)) w.heap.size ca a T R s l) := by
    refine ⟨⟨?_, ?_, ?_⟩, ((hw.later (abelow_alloc _ _)).later (abelow_alloc _ _)).later (abelow_alloc _ _)⟩ <;> simp [go_sem, World.cell?_alloc_past]
  have HB := ahide (abelow_up (abelow_up (abelow_alloc w (.cells #[.slice a l.length ca] 141)) (abelow_alloc _ (.cells #[.int .i64 T] 3))) (abelow_alloc _ (.cells #[.int .i64 s] 3)))
  have hse := fun u hu => ssearch_any T R S C s l a ca w.heap.size (2 * T + 1) (by omega) (by omega) (by omega) t1 hok hl u hu
  have HV : Hid (∀ i, Found T R s l (2 * T + 1) i i → i - 1 - T = v) := fun i hi => (found_lev h0 hi).unique hv
  have HI : Hid (∀ i, Found T R s l (2 * T + 1) i i → 0 ≤ i ∧ i ≤ 3000) := fun i hi => ⟨hi.1, by have := hi.2.2.1; omega⟩
  clear hok h0 hv hw
  go_enter Try.func74, Try.ntmps74
  go_wp2_with (go_at_call 92; refine (hse _ HF.out).mono ?_; rintro e w1 ⟨⟨i, rfl, hi⟩, hb1⟩; have e1 := (FB.later HF.out hb1).1.2.1; obtain ⟨g0, g1⟩ := HI.out i hi; have HE := ahide (HV.out i hi); have HB := ahide (abelow_up HB.out hb1); clear hb1 hi)
  go_ret
  exact ⟨by rw [← HE.out]; rfl, HB.out⟩


end Go.Proofs.Ythijegfacnjooaa
