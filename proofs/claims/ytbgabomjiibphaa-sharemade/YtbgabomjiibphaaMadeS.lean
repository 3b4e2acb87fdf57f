/-
  The walk of the law ShareMade.
-/
import Derived.Test.YtbgabomjiibphaaShareH
import Derived.Test.YtbgabomjiibphaaServG
import Derived.Test.YtbgabomjiibphaaMadeC
namespace Go.Proofs.Ytbgabomjiibphaa
open Go.RowKit Plain

theorem keepM5 {w u u' : World} {P : Nat} {T R S C : Int} (hb : Below u.heap.size u u') (h : (u.cell? ⟨P, 0, none⟩ = some (.int .i64 T) ∧ u.cell? ⟨P, 1, none⟩ = some (.int .i64 R) ∧ u.cell? ⟨P, 2, none⟩ = some (.int .i64 S) ∧ u.cell? ⟨P, 3, none⟩ = some (.int .i64 C)) ∧ Below w.heap.size w u) : (u'.cell? ⟨P, 0, none⟩ = some (.int .i64 T) ∧ u'.cell? ⟨P, 1, none⟩ = some (.int .i64 R) ∧ u'.cell? ⟨P, 2, none⟩ = some (.int .i64 S) ∧ u'.cell? ⟨P, 3, none⟩ = some (.int .i64 C)) ∧ Below w.heap.size w u' := ⟨B4.later h.1 hb, abelow_up h.2 hb⟩
theorem keepM5d {w u u' : World} {P O : Nat} {T R S C : Int} (hO : P ≠ O ∧ w.heap.size ≤ O) (hb : DK O u u') (h : (u.cell? ⟨P, 0, none⟩ = some (.int .i64 T) ∧ u.cell? ⟨P, 1, none⟩ = some (.int .i64 R) ∧ u.cell? ⟨P, 2, none⟩ = some (.int .i64 S) ∧ u.cell? ⟨P, 3, none⟩ = some (.int .i64 C)) ∧ Below w.heap.size w u) : (u'.cell? ⟨P, 0, none⟩ = some (.int .i64 T) ∧ u'.cell? ⟨P, 1, none⟩ = some (.int .i64 R) ∧ u'.cell? ⟨P, 2, none⟩ = some (.int .i64 S) ∧ u'.cell? ⟨P, 3, none⟩ = some (.int .i64 C)) ∧ Below w.heap.size w u' :=
  ⟨⟨hb.cell (p := ⟨P, 0, none⟩) hO.1 h.1.1, hb.cell (p := ⟨P, 1, none⟩) hO.1 h.1.2.1, hb.cell (p := ⟨P, 2, none⟩) hO.1 h.1.2.2.1, hb.cell (p := ⟨P, 3, none⟩) hO.1 h.1.2.2.2⟩, hb.below h.2 hO.2 h.2.size⟩
theorem raw_upM {a : Option Addr} {l : List Int} {K : Nat} (h : RawAt a l K) {w : World} (hw : K ≤ w.heap.size) {X : World} (hb : Below w.heap.size w X) : RawAt a l X.heap.size := fun b off e hne => Nat.lt_of_lt_of_le (h b off e hne) (Nat.le_trans hw hb.size)

set_option maxRecDepth 100000 in
set_option maxHeartbeats 4000000 in
theorem shareMade_walk (a : Option Addr) (l : List Int) (cap : Nat) (hm : l.length ≤ 9223372036854775807) (many sum : Int) (w : World) (hil : ILs w a l) :
    Calls Try.prog 6 #[.slice a l.length cap, .int .i64 many, .int .i64 sum] w fun e w' => e = .returned (.bool true) ∧ Below w.heap.size w w' := by
  have HIL := ahide hil
  have HRAW := ahide (raw_of hil)
  clear hil
  by_cases hl : (100 : Int) < (l.length : Int)
  · go_enter Try.func6, Try.ntmps6
    go_wp2
    go_ret
    exact ⟨rfl, Below.refl _ _⟩
  · have hl' : l.length ≤ 100 := by omega
    have hfa := fld_axes
    have hif := idx_first
    go_enter Try.func6, Try.ntmps6
    go_upto_region 5 with (first
      | (go_at_call 34; refine (craft_two a l cap hl' _ (HIL.out.later (abelow_alloc _ _))).mono ?_; rintro e w2 ⟨⟨a0, a1, a2, a3, a4, a5, a6, a7, a8, a9, a10, a11, a14, b0, b1, b2, b3, b4, b5, b6, b7, b8, b9, b10, b11, b14, ga, gi, gb, gj, y, z, rfl, hax, hbx⟩, hb2⟩; have HA := ahide hax; have HD := ahide ((dice_new (cap := cap) HIL.out).later hb2); have HB2 := ahide (abelow_up (abelow_alloc _ _) hb2); clear hax hbx hb2)
      | (go_at_call 33; refine (mactRule_any a0 a1 a2 a3 a4 a5 a6 a7 a8 a9 a10 a11 a14 ga gi _).mono ?_; rintro e w3 ⟨rfl, hb3⟩; have HD3 := ahide (HD.out.later hb3); have HB3 := ahide (abelow_up HB2.out hb3); clear hb3))
    have HAR := ahide (ax_arB HA.out)
    generalize a5 = T at *
    generalize a6 = R at *
    generalize a7 = S at *
    generalize a10 = C at *
    have HO2 : Hid (w.heap.size < w3.heap.size) := HD3.out.lt
    have HD4 := ahide (HD3.out.later (abelow_alloc w3 (.cells #[.int .i64 T, .int .i64 R, .int .i64 S, .int .i64 C] 40)))
    have HQ := ahide (B4.new w3 (.int .i64 T) (.int .i64 R) (.int .i64 S) (.int .i64 C) 40)
    have HB4 := ahide (gbw_alloc (o := .cells #[.int .i64 T, .int .i64 R, .int .i64 S, .int .i64 C] 40) HB3.out)
    clear HD HD3 HB2 HB3 HA
    generalize w3.alloc (.cells #[.int .i64 T, .int .i64 R, .int .i64 S, .int .i64 C] 40) = w4 at *
    generalize w3.heap.size = P at *
    have hPO : Hid (P ≠ w.heap.size ∧ w.heap.size ≤ w.heap.size) := ahide ⟨by have := HO2.out; omega, Nat.le_refl _⟩
    obtain ⟨⟨t0, t1⟩, ⟨r0, r1⟩, ⟨s0, s1⟩, c0, c1⟩ := arB_true HAR.out
    have e0 := Int.emod_nonneg many (b := 4) (by omega)
    have e1 := Int.emod_lt_of_pos many (b := 4) (by omega)
    have hpk := pick_any many 4 (by omega) (by omega)
    obtain ⟨m0, hm0⟩ : ∃ m0 : Nat, many % 4 = (m0 : Int) := ⟨(many % 4).toNat, by omega⟩
    rw [hm0] at hpk e1
    have v0 : IntKind.i64.wrap (1 + (m0 : Int)) = ((m0 + 1 : Nat) : Int) := by rw [swrap_id (by omega) (by omega)]; omega
    clear hm0 e0
    have S0 : (w4.cell? ⟨P, 0, none⟩ = some (.int .i64 T) ∧ w4.cell? ⟨P, 1, none⟩ = some (.int .i64 R) ∧ w4.cell? ⟨P, 2, none⟩ = some (.int .i64 S) ∧ w4.cell? ⟨P, 3, none⟩ = some (.int .i64 C)) ∧ Below w.heap.size w w4 := ⟨HQ.out, HB4.out⟩
    have Z := ahide S0
    have HRW : Hid (∀ X, Below w4.heap.size w4 X → RawAt a l X.heap.size) := ahide (fun X hX => raw_upM HRAW.out HB4.out.size hX)
    go_region_held3 (fun u => (u.cell? ⟨P, 0, none⟩ = some (.int .i64 T) ∧ u.cell? ⟨P, 1, none⟩ = some (.int .i64 R) ∧ u.cell? ⟨P, 2, none⟩ = some (.int .i64 S) ∧ u.cell? ⟨P, 3, none⟩ = some (.int .i64 C)) ∧ Below w.heap.size w u)
      (first
        | (with_reducible assumption)
        | (with_reducible exact KS.out)
        | (with_reducible exact KS2.out)
        | (refine keepM5 ?_ Z.out; exact (Below.refl _ _).drew))
      (first
        | (go_at_call 36; refine (hpk _).mono ?_; rintro e w' ⟨rfl, rfl⟩)
        | (go_at_call 35; refine (servosFrom_any w.heap.size a l cap 0 T R S C (m0 + 1) (by omega) hl' t0 t1 c0 c1 (by omega) _ (HD4.out.later ?_) (HRW.out _ ?_)).mono ?_; (repeat' (first | with_reducible exact Below.refl _ _ | with_reducible apply gbw_alloc | with_reducible apply gbw_drew)); (repeat' (first | with_reducible exact Below.refl _ _ | with_reducible apply gbw_alloc | with_reducible apply gbw_drew)); rintro e w5 ⟨⟨x, cp, ls, hls, rfl, hvl, _⟩, hK⟩; have KS := ahide (keepM5d hPO.out hK (by with_reducible assumption)); have HVL := ahide hvl; have HLN : Hid (ls.length ≤ 9223372036854775807) := ahide (by omega); clear hls hvl hK)
        | (go_at_call 5; refine (shareSays_walk T R S C sum ls x cp HLN.out _ HVL.out).mono ?_; rintro e w6 ⟨rfl, hb6⟩; have KS2 := ahide (keepM5 hb6 KS.out); clear hb6))
    all_goals
      go_wp2_with fail
      go_ret
      exact ⟨rfl, KS2.out.2⟩

end Go.Proofs.Ytbgabomjiibphaa
