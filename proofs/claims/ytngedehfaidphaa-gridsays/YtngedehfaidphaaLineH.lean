/-
  The law LineSays, walked: it returns true, and nothing that was there has turned.
-/
import Derived.Test.YtngedehfaidphaaLineG
namespace Go.Proofs.Ytngedehfaidphaa
open Go.RowKit Plain

/-- The lists lie, and nothing below has turned. -/
def Rst (W : World) (B : Nat) (a z : Option Addr) (al zl : List Int) (u : World) : Prop := Lst u a al ∧ Lst u z zl ∧ Below B W u
theorem keepR {B ca cz la lz : Nat} {W u u' : World} {a z : Option Addr} {al zl : List Int} (h1 : u.cell? ⟨B, 0, none⟩ = some (.slice a la ca)) (h2 : u.cell? ⟨B, 1, none⟩ = some (.slice z lz cz)) (hr : Rst W B a z al zl u) (hb : Below u.heap.size u u') :
    u'.cell? ⟨B, 0, none⟩ = some (.slice a la ca) ∧ u'.cell? ⟨B, 1, none⟩ = some (.slice z lz cz) ∧ Rst W B a z al zl u' := by
  have hs := World.block_lt_of_cell? u ⟨B, 0, none⟩ h1
  exact ⟨cell_later hb h1, cell_later hb h2, hr.1.later hb, hr.2.1.later hb, hr.2.2.trans (hb.mono (Nat.le_of_lt hs))⟩
theorem line_lies {u : World} {a z : Option Addr} {al zl : List Int} (h : lineI al zl = 0) (ha : Lst u a al) (hz : Lst u z zl) : ∃ ba oa bz oz, a = some ⟨ba, oa, none⟩ ∧ z = some ⟨bz, oz, none⟩ ∧ Line u ba oa bz oz al zl := by
  obtain ⟨hl, p, _⟩ := line_of h
  have l2 := p.lo
  obtain ⟨ba, oa, e1, h1⟩ := ha.at (ne_nil_of_lt (k := 0) (by omega))
  obtain ⟨bz, oz, e2, h2⟩ := hz.at (ne_nil_of_lt (k := 0) (by omega))
  exact ⟨ba, oa, bz, oz, e1, e2, h, h1, h2⟩

/-- What each call of a line answers, and what it leaves. -/
structure Lined (W : World) (B : Nat) (a z : Option Addr) (ca cz : Nat) (al zl : List Int) : Prop where
  may : ∀ u, u.cell? ⟨B, 0, none⟩ = some (.slice a al.length ca) → u.cell? ⟨B, 1, none⟩ = some (.slice z zl.length cz) → Rst W B a z al zl u →
    Calls Try.prog 7 #[.agg #[.slice a al.length ca, .slice z zl.length cz]] u fun r w' => r = .returned (.int .i64 (lineI al zl)) ∧ w'.cell? ⟨B, 0, none⟩ = some (.slice a al.length ca) ∧ w'.cell? ⟨B, 1, none⟩ = some (.slice z zl.length cz) ∧ Rst W B a z al zl w'
  check : ∀ u, u.cell? ⟨B, 0, none⟩ = some (.slice a al.length ca) → u.cell? ⟨B, 1, none⟩ = some (.slice z zl.length cz) → Rst W B a z al zl u →
    Calls Try.prog 11 #[.agg #[.slice a al.length ca, .slice z zl.length cz]] u fun r w' => r = .returned (errV (lineI al zl)) ∧ w'.cell? ⟨B, 0, none⟩ = some (.slice a al.length ca) ∧ w'.cell? ⟨B, 1, none⟩ = some (.slice z zl.length cz) ∧ Rst W B a z al zl w'
  rises : ∀ u, u.cell? ⟨B, 0, none⟩ = some (.slice a al.length ca) → u.cell? ⟨B, 1, none⟩ = some (.slice z zl.length cz) → Rst W B a z al zl u →
    Calls Try.prog 12 #[.agg #[.slice a al.length ca, .slice z zl.length cz]] u fun r w' => r = .returned (.bool (decide (lineI al zl = 0) && risesU zl (zl.length - 1))) ∧ w'.cell? ⟨B, 0, none⟩ = some (.slice a al.length ca) ∧ w'.cell? ⟨B, 1, none⟩ = some (.slice z zl.length cz) ∧ Rst W B a z al zl w'
  look : ∀ u (x : Int), u.cell? ⟨B, 0, none⟩ = some (.slice a al.length ca) → u.cell? ⟨B, 1, none⟩ = some (.slice z zl.length cz) → Rst W B a z al zl u →
    Calls Try.prog 9 #[.agg #[.slice a al.length ca, .slice z zl.length cz], .int .i64 x] u fun r w' => r = .returned (.tuple #[.int .i64 (if lineI al zl = 0 then lookI al zl x else 0), errV (lineI al zl)]) ∧ w'.cell? ⟨B, 0, none⟩ = some (.slice a al.length ca) ∧ w'.cell? ⟨B, 1, none⟩ = some (.slice z zl.length cz) ∧ Rst W B a z al zl w'
  refLook : lineI al zl = 0 → ∀ u (x : Int), u.cell? ⟨B, 0, none⟩ = some (.slice a al.length ca) → u.cell? ⟨B, 1, none⟩ = some (.slice z zl.length cz) → Rst W B a z al zl u →
    Calls Try.prog 8 #[.agg #[.slice a al.length ca, .slice z zl.length cz], .int .i64 x] u fun r w' => r = .returned (.int .i64 (lookI al zl x)) ∧ w'.cell? ⟨B, 0, none⟩ = some (.slice a al.length ca) ∧ w'.cell? ⟨B, 1, none⟩ = some (.slice z zl.length cz) ∧ Rst W B a z al zl w'

theorem lined (W : World) (B : Nat) (a z : Option Addr) (ca cz : Nat) (al zl : List Int) (hm : al.length ≤ 9223372036854775807) (hn : zl.length ≤ 9223372036854775807) (hca : al.length ≤ ca) : Lined W B a z ca cz al zl where
  may u h1 h2 hr := (lineMay_any a z ca cz al zl u hm hn hr.1 hr.2.1).mono fun _ _ ⟨e, hb⟩ => ⟨e, keepR h1 h2 hr hb⟩
  check u h1 h2 hr := (check_any a z ca cz al zl u hm hn hca hr.1 hr.2.1).mono fun _ _ ⟨e, hb⟩ => ⟨e, keepR h1 h2 hr hb⟩
  rises u h1 h2 hr := (rises_any a z ca cz al zl u hm hn hca hr.1 hr.2.1).mono fun _ _ ⟨e, hb⟩ => ⟨e, keepR h1 h2 hr hb⟩
  look u x h1 h2 hr := by
    by_cases h : lineI al zl = 0
    · obtain ⟨ba, oa, bz, oz, rfl, rfl, hl⟩ := line_lies h hr.1 hr.2.1
      rw [if_pos h, h]
      exact (look_ok ba oa ca bz oz cz al zl x u hca hl).mono fun _ _ ⟨e, hb⟩ => ⟨e, keepR h1 h2 hr hb⟩
    · rw [if_neg h]
      exact (look_no a z ca cz al zl x u hm hn hca hr.1 hr.2.1 h).mono fun _ _ ⟨e, hb⟩ => ⟨e, keepR h1 h2 hr hb⟩
  refLook h u x h1 h2 hr := by
    obtain ⟨ba, oa, bz, oz, rfl, rfl, hl⟩ := line_lies h hr.1 hr.2.1
    exact (refLook_ok ba oa ca bz oz cz al zl x u hl).mono fun _ _ ⟨e, hb⟩ => ⟨e, keepR h1 h2 hr hb⟩

theorem startR (w : World) (a z : Option Addr) (ca cz : Nat) (al zl : List Int) (ha : Lst w a al) (hz : Lst w z zl) : Rst w w.heap.size a z al zl (w.alloc (.cells #[.slice a al.length ca, .slice z zl.length cz] 24)) :=
  ⟨ha.later (below_alloc _ _), hz.later (below_alloc _ _), below_alloc _ _⟩

theorem lineSays_ok (a z : Option Addr) (ca cz : Nat) (al zl : List Int) (x : Int) (w : World) (hm : al.length ≤ 20) (hn : zl.length ≤ 20) (hca : al.length ≤ ca) (ha : Lst w a al) (hz : Lst w z zl) (h : lineI al zl = 0) :
    Calls Try.prog 3 #[.agg #[.slice a al.length ca, .slice z zl.length cz], .int .i64 x] w fun r w' => r = .returned (.bool true) ∧ Below w.heap.size w w' := by
  have L := lined w w.heap.size a z ca cz al zl (by omega) (by omega) hca
  have kM := L.may
  have kC := L.check
  have kR := L.rises
  have kL := fun u => L.look u x
  have kF := fun u => L.refLook h u x
  rw [h, if_pos rfl] at kL
  rw [h] at kM kC kR
  rw [decide_eq_true rfl, Bool.true_and] at kR
  have R0 := startR w a z ca cz al zl ha hz
  clear L ha hz h
  have m1 : (al.length : Int) ≤ 20 := by omega
  have n1 : (zl.length : Int) ≤ 20 := by omega
  generalize lookI al zl x = y at kL kF
  go_enter Try.func3, Try.ntmps3
  go_upto_region 3 with fail
  obtain ⟨w0, hw0⟩ : ∃ w0, w.alloc (.cells #[.slice a al.length ca, .slice z zl.length cz] 24) = w0 := ⟨_, rfl⟩
  have c0 : w0.cell? ⟨w.heap.size, 0, none⟩ = some (.slice a al.length ca) := by rw [← hw0]; simp [go_sem]
  have c1 : w0.cell? ⟨w.heap.size, 1, none⟩ = some (.slice z zl.length cz) := by rw [← hw0]; simp [go_sem]
  rw [hw0] at R0 ⊢
  clear hw0
  go_wp2_with (first
    | (go_at_call 7; refine (kM _ c0 c1 R0).mono ?_; rintro e w1 ⟨rfl, d0, d1, R1⟩)
    | (go_at_call 8; refine (kF _ d0 d1 R1).mono ?_; rintro e w2 ⟨rfl, e0, e1, R2⟩))
  go_loopw [7, 8] (fun r i wr => ∃ j : Nat, j ≤ zl.length - 1 ∧ i = .int .i64 ((j + 1 : Nat) : Int) ∧ r = .bool (risesU zl j) ∧ wr.cell? ⟨w.heap.size, 0, none⟩ = some (.slice a al.length ca) ∧ wr.cell? ⟨w.heap.size, 1, none⟩ = some (.slice z zl.length cz) ∧ Rst w w.heap.size a z al zl wr) (fun r i _ => zl.length - (intOf i).toNat)
  case atStart => exact ⟨0, Nat.zero_le _, rfl, rfl, e0, e1, R2⟩
  case round =>
    obtain ⟨j, hj, rfl, rfl, f0, f1, R3⟩ := hrel
    clear c0 c1 d0 d1 e0 e1 R0 R1 R2
    by_cases hlt : j + 1 < zl.length
    · obtain ⟨b, off, rfl, hcs⟩ := R3.2.1.at (ne_nil_of_lt hlt)
      have hcell1 := hcs (j + 1) hlt
      have hcell0 := hcs j (by omega)
      clear hcs
      have hs : risesU zl (j + 1) = (risesU zl j && decide (at0 zl j ≤ at0 zl (j + 1))) := rfl
      generalize at0 zl j = y0 at hcell0 hs
      generalize at0 zl (j + 1) = z0 at hcell1 hs
      generalize risesU zl j = f at hs ⊢
      have HS : Hid (risesU zl (j + 1) = (f && decide (y0 ≤ z0))) := hs
      clear hs
      have t1 : (((j + 1 : Nat) : Int) - 1).toNat = j := by omega
      have t0 : (((j + 1 : Nat) : Int)).toNat = j + 1 := by omega
      have b0 : (0 : Int) ≤ ((j + 1 : Nat) : Int) - 1 := by omega
      have b1 : ((j + 1 : Nat) : Int) - 1 < (zl.length : Int) := by omega
      have b2 : ((j + 1 : Nat) : Int) < (zl.length : Int) := by omega
      have b3 : (0 : Int) ≤ ((j + 1 : Nat) : Int) := by omega
      generalize hi : ((j + 1 : Nat) : Int) = i at *
      have K : ∀ n, _ := fun n => keepR f0 f1 R3 (below_drewN (Below.refl _ wr) n)
      have HK : Hid (∀ n, _) := K
      clear K
      cases f
      · go_wp2_with fail
        go_quiet (fail)
        go_wp2_with fail
        go_roundw
        case rel => exact ⟨j + 1, by omega, by subst hi; go_num, by rw [HS.out]; simp, HK.out _⟩
        case measure => simp [intOf]; omega
      · go_wp2_with fail
        go_quiet (fail)
        go_wp2_with fail
        go_roundw
        case rel => exact ⟨j + 1, by omega, by subst hi; go_num, by rw [HS.out]; simp, HK.out _⟩
        case measure => simp [intOf]; omega
    · have ej : zl.length - 1 = j := by omega
      rw [ej] at kR
      have b2 : ¬ ((j + 1 : Nat) : Int) < (zl.length : Int) := by omega
      generalize hi : ((j + 1 : Nat) : Int) = i at *
      generalize risesU zl j = f at *
      clear hj hlt ej
      go_wp2_with (first
        | (go_at_call 9; refine (kL _ f0 f1 R3).mono ?_; rintro e w4 ⟨rfl, g0, g1, R4⟩)
        | (go_at_call 11; refine (kC _ g0 g1 R4).mono ?_; rintro e w5 ⟨rfl, h0, h1, R5⟩)
        | (go_at_call 12; refine (kR _ h0 h1 R5).mono ?_; rintro e w6 ⟨rfl, i0, i1, R6⟩)
        | (go_at_call 10; refine (is_any _ _ _).mono ?_; rintro e w' ⟨rfl, rfl⟩))
      go_ret
      exact ⟨by simp, R6.2.2⟩

end Go.Proofs.Ytngedehfaidphaa
