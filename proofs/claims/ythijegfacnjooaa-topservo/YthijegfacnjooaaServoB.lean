/-
  The walk of the law TopServo: for every rule, samples and places it returns true.
-/
import Derived.Test.YthijegfacnjooaaServoA
import Derived.Test.YthijegfacnjooaaAwake
namespace Go.Proofs.Ythijegfacnjooaa
open Go.RowKit Plain

/-- A rule and a servo lie in two boxes. -/
def TS (w0 w : World) (P : Nat) (T R S C i b : Int) (o : Bool) : Prop :=
  B4 w w0.heap.size (.int .i64 T) (.int .i64 R) (.int .i64 S) (.int .i64 C) ∧ (B3 w P (.int .i64 i) (.int .i64 b) (.bool o) ∧ FrA w P 3) ∧ Below w0.heap.size w0 w ∧ w0.heap.size < P
theorem TS.later {w0 w w' : World} {P : Nat} {T R S C i b : Int} {o : Bool} (h : TS w0 w P T R S C i b o) (hb : Below w.heap.size w w') : TS w0 w' P T R S C i b o := ⟨h.1.later hb, ⟨h.2.1.1.later hb, h.2.1.2.later hb⟩, abelow_up h.2.2.1 hb, h.2.2.2⟩
theorem TS.set {w0 w : World} {P A q : Nat} {T R S C i b : Int} {o : Bool} {v : Value} (h : TS w0 w P T R S C i b o) (hA : P < A) : TS w0 (w.setCell ⟨A, q, none⟩ v) P T R S C i b o := by
  obtain ⟨h1, ⟨h2, h3⟩, h4, h5⟩ := h
  exact ⟨h1.sset (by omega), ⟨h2.sset (by omega), h3.set⟩, h4.setCell (by simp; omega) _, h5⟩
theorem TS.put {w0 w : World} {P : Nat} {T R S C i b : Int} {o : Bool} (h : TS w0 w P T R S C i b o) (i' b' : Int) (o' : Bool) : TS w0 (((w.setCell ⟨P, 0, none⟩ (.int .i64 i')).setCell ⟨P, 1, none⟩ (.int .i64 b')).setCell ⟨P, 2, none⟩ (.bool o')) P T R S C i' b' o' := by
  obtain ⟨h1, ⟨h2, h3⟩, h4, h5⟩ := h
  exact ⟨((h1.sset (by omega)).sset (by omega)).sset (by omega), ⟨h2.sput _ _ _, h3.set.set.set⟩, ((h4.setCell (by simp; omega) _).setCell (by simp; omega) _).setCell (by simp; omega) _, h5⟩
theorem TS.lt {w0 w : World} {P : Nat} {T R S C i b : Int} {o : Bool} (h : TS w0 w P T R S C i b o) : P < w.heap.size := h.2.1.2.2
/-- .. and what the servo was. -/
def TW (w0 w : World) (P Q : Nat) (T R S C i b : Int) (o : Bool) : Prop := TS w0 w P T R S C i b o ∧ B3 w Q (.int .i64 i) (.int .i64 b) (.bool o) ∧ P < Q
theorem TW.later {w0 w w' : World} {P Q : Nat} {T R S C i b : Int} {o : Bool} (h : TW w0 w P Q T R S C i b o) (hb : Below w.heap.size w w') : TW w0 w' P Q T R S C i b o := ⟨h.1.later hb, h.2.1.later hb, h.2.2⟩
theorem TW.set {w0 w : World} {P Q A q : Nat} {T R S C i b : Int} {o : Bool} {v : Value} (h : TW w0 w P Q T R S C i b o) (hA : Q < A) : TW w0 (w.setCell ⟨A, q, none⟩ v) P Q T R S C i b o :=
  ⟨h.1.set (Nat.lt_trans h.2.2 hA), h.2.1.sset (by omega), h.2.2⟩
theorem TW.lt {w0 w : World} {P Q : Nat} {T R S C i b : Int} {o : Bool} (h : TW w0 w P Q T R S C i b o) : Q < w.heap.size := World.block_lt_of_cell? w ⟨Q, 0, none⟩ h.2.1.1
theorem keepSA {w u u' : World} {P Q bs os k : Nat} {T R S C i b : Int} {o y : Bool} {z : Int} (hb : Below u.heap.size u u') (h : (u.cell? ⟨w.heap.size, 0, none⟩ = some (.int .i64 T) ∧ u.cell? ⟨w.heap.size, 1, none⟩ = some (.int .i64 R) ∧ u.cell? ⟨w.heap.size, 2, none⟩ = some (.int .i64 S) ∧ u.cell? ⟨w.heap.size, 3, none⟩ = some (.int .i64 C)) ∧ (u.cell? ⟨P, 0, none⟩ = some (.int .i64 i) ∧ u.cell? ⟨P, 1, none⟩ = some (.int .i64 b) ∧ u.cell? ⟨P, 2, none⟩ = some (.bool o)) ∧ (u.cell? ⟨bs, os + k * 2, none⟩ = some (.bool y) ∧ u.cell? ⟨bs, os + k * 2 + 1, none⟩ = some (.int .i64 z)) ∧ TW w u P Q T R S C i b o) : (u'.cell? ⟨w.heap.size, 0, none⟩ = some (.int .i64 T) ∧ u'.cell? ⟨w.heap.size, 1, none⟩ = some (.int .i64 R) ∧ u'.cell? ⟨w.heap.size, 2, none⟩ = some (.int .i64 S) ∧ u'.cell? ⟨w.heap.size, 3, none⟩ = some (.int .i64 C)) ∧ (u'.cell? ⟨P, 0, none⟩ = some (.int .i64 i) ∧ u'.cell? ⟨P, 1, none⟩ = some (.int .i64 b) ∧ u'.cell? ⟨P, 2, none⟩ = some (.bool o)) ∧ (u'.cell? ⟨bs, os + k * 2, none⟩ = some (.bool y) ∧ u'.cell? ⟨bs, os + k * 2 + 1, none⟩ = some (.int .i64 z)) ∧ TW w u' P Q T R S C i b o :=
  ⟨B4.later h.1 hb, B3.later h.2.1 hb, ⟨cell_later hb h.2.2.1.1, cell_later hb h.2.2.1.2⟩, h.2.2.2.later hb⟩
theorem keepSAs {w u : World} {A q : Nat} {v : Value} {P Q bs os k : Nat} {T R S C i b : Int} {o y : Bool} {z : Int} (hA : Q < A) (hs : bs < w.heap.size) (h : (u.cell? ⟨w.heap.size, 0, none⟩ = some (.int .i64 T) ∧ u.cell? ⟨w.heap.size, 1, none⟩ = some (.int .i64 R) ∧ u.cell? ⟨w.heap.size, 2, none⟩ = some (.int .i64 S) ∧ u.cell? ⟨w.heap.size, 3, none⟩ = some (.int .i64 C)) ∧ (u.cell? ⟨P, 0, none⟩ = some (.int .i64 i) ∧ u.cell? ⟨P, 1, none⟩ = some (.int .i64 b) ∧ u.cell? ⟨P, 2, none⟩ = some (.bool o)) ∧ (u.cell? ⟨bs, os + k * 2, none⟩ = some (.bool y) ∧ u.cell? ⟨bs, os + k * 2 + 1, none⟩ = some (.int .i64 z)) ∧ TW w u P Q T R S C i b o) : ((u.setCell ⟨A, q, none⟩ v).cell? ⟨w.heap.size, 0, none⟩ = some (.int .i64 T) ∧ (u.setCell ⟨A, q, none⟩ v).cell? ⟨w.heap.size, 1, none⟩ = some (.int .i64 R) ∧ (u.setCell ⟨A, q, none⟩ v).cell? ⟨w.heap.size, 2, none⟩ = some (.int .i64 S) ∧ (u.setCell ⟨A, q, none⟩ v).cell? ⟨w.heap.size, 3, none⟩ = some (.int .i64 C)) ∧ ((u.setCell ⟨A, q, none⟩ v).cell? ⟨P, 0, none⟩ = some (.int .i64 i) ∧ (u.setCell ⟨A, q, none⟩ v).cell? ⟨P, 1, none⟩ = some (.int .i64 b) ∧ (u.setCell ⟨A, q, none⟩ v).cell? ⟨P, 2, none⟩ = some (.bool o)) ∧ ((u.setCell ⟨A, q, none⟩ v).cell? ⟨bs, os + k * 2, none⟩ = some (.bool y) ∧ (u.setCell ⟨A, q, none⟩ v).cell? ⟨bs, os + k * 2 + 1, none⟩ = some (.int .i64 z)) ∧ TW w (u.setCell ⟨A, q, none⟩ v) P Q T R S C i b o := by
  have h1 := h.2.2.2.2.2
  have h2 := h.2.2.2.1.2.2.2
  exact ⟨B4.sset h.1 (by omega), B3.sset h.2.1 (by omega), ⟨scell_other h.2.2.1.1 (sne_blk (by omega)), scell_other h.2.2.1.2 (sne_blk (by omega))⟩, h.2.2.2.set hA⟩
theorem keepSB {w u u' : World} {P Q V bt ot k : Nat} {T R S C i b : Int} {o : Bool} {g xi xb : Int} {xo : Bool} (hb : Below u.heap.size u u') (h : (u.cell? ⟨w.heap.size, 0, none⟩ = some (.int .i64 T) ∧ u.cell? ⟨w.heap.size, 1, none⟩ = some (.int .i64 R) ∧ u.cell? ⟨w.heap.size, 2, none⟩ = some (.int .i64 S) ∧ u.cell? ⟨w.heap.size, 3, none⟩ = some (.int .i64 C)) ∧ (u.cell? ⟨V, 0, none⟩ = some (.int .i64 xi) ∧ u.cell? ⟨V, 1, none⟩ = some (.int .i64 xb) ∧ u.cell? ⟨V, 2, none⟩ = some (.bool xo)) ∧ u.cell? ⟨bt, ot + k, none⟩ = some (.int .i64 g) ∧ TW w u P Q T R S C i b o) : (u'.cell? ⟨w.heap.size, 0, none⟩ = some (.int .i64 T) ∧ u'.cell? ⟨w.heap.size, 1, none⟩ = some (.int .i64 R) ∧ u'.cell? ⟨w.heap.size, 2, none⟩ = some (.int .i64 S) ∧ u'.cell? ⟨w.heap.size, 3, none⟩ = some (.int .i64 C)) ∧ (u'.cell? ⟨V, 0, none⟩ = some (.int .i64 xi) ∧ u'.cell? ⟨V, 1, none⟩ = some (.int .i64 xb) ∧ u'.cell? ⟨V, 2, none⟩ = some (.bool xo)) ∧ u'.cell? ⟨bt, ot + k, none⟩ = some (.int .i64 g) ∧ TW w u' P Q T R S C i b o :=
  ⟨B4.later h.1 hb, B3.later h.2.1 hb, cell_later hb h.2.2.1, h.2.2.2.later hb⟩
theorem keepSBs {w u : World} {A q : Nat} {v : Value} {P Q V bt ot k : Nat} {T R S C i b : Int} {o : Bool} {g xi xb : Int} {xo : Bool} (hA : V < A) (hV : Q < V) (hs : bt < w.heap.size) (h : (u.cell? ⟨w.heap.size, 0, none⟩ = some (.int .i64 T) ∧ u.cell? ⟨w.heap.size, 1, none⟩ = some (.int .i64 R) ∧ u.cell? ⟨w.heap.size, 2, none⟩ = some (.int .i64 S) ∧ u.cell? ⟨w.heap.size, 3, none⟩ = some (.int .i64 C)) ∧ (u.cell? ⟨V, 0, none⟩ = some (.int .i64 xi) ∧ u.cell? ⟨V, 1, none⟩ = some (.int .i64 xb) ∧ u.cell? ⟨V, 2, none⟩ = some (.bool xo)) ∧ u.cell? ⟨bt, ot + k, none⟩ = some (.int .i64 g) ∧ TW w u P Q T R S C i b o) : ((u.setCell ⟨A, q, none⟩ v).cell? ⟨w.heap.size, 0, none⟩ = some (.int .i64 T) ∧ (u.setCell ⟨A, q, none⟩ v).cell? ⟨w.heap.size, 1, none⟩ = some (.int .i64 R) ∧ (u.setCell ⟨A, q, none⟩ v).cell? ⟨w.heap.size, 2, none⟩ = some (.int .i64 S) ∧ (u.setCell ⟨A, q, none⟩ v).cell? ⟨w.heap.size, 3, none⟩ = some (.int .i64 C)) ∧ ((u.setCell ⟨A, q, none⟩ v).cell? ⟨V, 0, none⟩ = some (.int .i64 xi) ∧ (u.setCell ⟨A, q, none⟩ v).cell? ⟨V, 1, none⟩ = some (.int .i64 xb) ∧ (u.setCell ⟨A, q, none⟩ v).cell? ⟨V, 2, none⟩ = some (.bool xo)) ∧ (u.setCell ⟨A, q, none⟩ v).cell? ⟨bt, ot + k, none⟩ = some (.int .i64 g) ∧ TW w (u.setCell ⟨A, q, none⟩ v) P Q T R S C i b o := by
  have h1 := h.2.2.2.2.2
  have h2 := h.2.2.2.1.2.2.2
  exact ⟨B4.sset h.1 (by omega), B3.sset h.2.1 (by omega), scell_other h.2.2.1 (sne_blk (by omega)), h.2.2.2.set (by omega)⟩
/-- A new servo, whatever came behind. -/
def NewS (K : Nat) (w : World) (V : Nat) : Prop := B3 w V (.int .i64 0) (.int .i64 0) (.bool false) ∧ FrA w V 3 ∧ K < V
theorem NewS.lt {K : Nat} {w : World} {V : Nat} (h : NewS K w V) : K < V := h.2.2
theorem newS {K : Nat} {X w' : World} (hK : K < X.heap.size) (hb : Below (X.alloc (.cells #[.int .i64 0, .int .i64 0, .bool false] 53)).heap.size (X.alloc (.cells #[.int .i64 0, .int .i64 0, .bool false] 53)) w') : NewS K w' X.heap.size := ⟨(B3.new _ _ _ _ _).later hb, FrA.new.later hb, hK⟩
theorem newSd {K : Nat} {X w' : World} (hK : K < X.heap.size) (hb : Below (X.alloc (.cells #[.int .i64 0, .int .i64 0, .bool false] 53)).drew.heap.size (X.alloc (.cells #[.int .i64 0, .int .i64 0, .bool false] 53)).drew w') : NewS K w' X.heap.size := newS hK ((Below.refl _ _).drew.trans hb)

set_option maxRecDepth 100000 in
set_option maxHeartbeats 4000000 in
theorem topServo_walk (T R S C : Int) (sa ta : Option Addr) (cs ct : Nat) (ls : List (Bool × Int)) (tl : List Int) (w : World) (hm1 : ls.length ≤ 9223372036854775807) (_hm2 : tl.length ≤ 9223372036854775807) (hsl : SLs w sa ls) (htl : ILs w ta tl) :
    Calls Try.prog 4 #[.agg #[.int .i64 T, .int .i64 R, .int .i64 S, .int .i64 C], .slice sa ls.length cs, .slice ta tl.length ct] w fun e w' => e = .returned (.bool true) ∧ Below w.heap.size w w' := by
  have hrm := refActRule_any T R S C
  have HX := ahide (⟨B4.new w (.int .i64 T) (.int .i64 R) (.int .i64 S) (.int .i64 C) 48, abelow_alloc _ _⟩ : B4 (w.alloc (.cells #[.int .i64 T, .int .i64 R, .int .i64 S, .int .i64 C] 48)) w.heap.size (.int .i64 T) (.int .i64 R) (.int .i64 S) (.int .i64 C) ∧ Below w.heap.size w (w.alloc (.cells #[.int .i64 T, .int .i64 R, .int .i64 S, .int .i64 C] 48)))
  have HSL := ahide hsl
  have HTL := ahide htl
  clear hsl htl
  by_cases hr : arE T R S C = 0
  · rw [hr] at hrm
    have HR := ahide (arE_zero hr)
    by_cases hl : (100 : Int) < (ls.length : Int)
    · clear hr
      go_enter Try.func4, Try.ntmps4
      go_wp2_with (first
        | (go_at_call 10; refine (awake_any _).mono ?_; rintro e w1 ⟨rfl, hb1⟩; have HX := ahide (⟨HX.out.1.later hb1, abelow_up HX.out.2 hb1⟩ : B4 w1 w.heap.size (.int .i64 T) (.int .i64 R) (.int .i64 S) (.int .i64 C) ∧ Below w.heap.size w w1); obtain ⟨⟨q0, q1, q2, q3⟩, _⟩ := HX.out; clear hb1)
        | (go_at_call 16; refine (hrm _).mono ?_; rintro e w2 ⟨rfl, hb2⟩; have HX := ahide (⟨HX.out.1.later hb2, abelow_up HX.out.2 hb2⟩ : B4 w2 w.heap.size (.int .i64 T) (.int .i64 R) (.int .i64 S) (.int .i64 C) ∧ Below w.heap.size w w2); clear hb2))
      go_ret
      exact ⟨rfl, HX.out.2⟩
    · have ⟨⟨t0, t1⟩, ⟨r0, r1⟩, ⟨k0, k1⟩, c0, c1⟩ := arB_true HR.out
      have hl' : (ls.length : Int) ≤ 100 := by omega
      clear hr hl
      go_enter Try.func4, Try.ntmps4
      go_wp2_with (first
        | (go_at_call 10; refine (awake_any _).mono ?_; rintro e w1 ⟨rfl, hb1⟩; have HX := ahide (⟨HX.out.1.later hb1, abelow_up HX.out.2 hb1⟩ : B4 w1 w.heap.size (.int .i64 T) (.int .i64 R) (.int .i64 S) (.int .i64 C) ∧ Below w.heap.size w w1); obtain ⟨⟨q0, q1, q2, q3⟩, _⟩ := HX.out; clear hb1)
        | (go_at_call 16; refine (hrm _).mono ?_; rintro e w2 ⟨rfl, hb2⟩; have HX := ahide (⟨HX.out.1.later hb2, abelow_up HX.out.2 hb2⟩ : B4 w2 w.heap.size (.int .i64 T) (.int .i64 R) (.int .i64 S) (.int .i64 C) ∧ Below w.heap.size w w2); clear hb2))
      have HT := ahide (⟨HX.out.1.later (abelow_alloc _ _), ⟨B3.new _ _ _ _ _, FrA.new⟩, abelow_up HX.out.2 (abelow_alloc _ _), World.block_lt_of_cell? w2 ⟨w.heap.size, 0, none⟩ HX.out.1.1⟩ : TS w (w2.alloc (.cells #[.int .i64 0, .int .i64 0, .bool false] 53)) w2.heap.size T R S C 0 0 false)
      generalize (w2.alloc (.cells #[.int .i64 0, .int .i64 0, .bool false] 53)) = w3 at *
      generalize w2.heap.size = P at *
      clear HX q0 q1 q2 q3
      go_loopw [8, 9] (fun wg ix wr => ∃ (k : Nat) (i b : Int) (o : Bool), k ≤ ls.length ∧ ix = .int .i64 k ∧ wg = .int .i64 b ∧ svB T C i b o = true ∧ (b == C) = o ∧ TS w wr P T R S C i b o) (fun _ ix _ => ls.length - (intOf ix).toNat)
      case atStart => exact ⟨0, 0, 0, false, Nat.zero_le _, rfl, rfl, sv_mk (by omega) (by omega) (fun h => by cases h) (fun _ => by omega), by simp; omega, HT.out⟩
      case round =>
        clear HT hrm
        obtain ⟨k, i, b, o, hk, rfl, rfl, hsv, ho, hT⟩ := hrel
        by_cases h1 : k < ls.length
        · by_cases h2 : k < tl.length
          · have HSV := ahide hsv
            have HO := ahide ho
            have i0 := (svB_true hsv).1.1
            have i1 := (svB_true hsv).1.2
            have b0 := (svB_true hsv).2.1.1
            have b1 := (svB_true hsv).2.1.2
            clear hsv ho
            obtain ⟨bs, os, rfl, y0, z0⟩ := HSL.out.at h1
            obtain ⟨bt, ot, rfl, g0⟩ := HTL.out.at h2
            have LS := ahide (World.block_lt_of_cell? w ⟨bs, os + k * 2, none⟩ y0)
            have LT := ahide (World.block_lt_of_cell? w ⟨bt, ot + k, none⟩ g0)
            generalize (ls.getD k (false, 0)).1 = y at *
            generalize (ls.getD k (false, 0)).2 = z at *
            generalize tl.getD k 0 = g at *
            have HY := ahide y0
            have HZ := ahide z0
            have HG := ahide g0
            clear y0 z0 g0
            have j0 : (0 : Int) ≤ (k : Int) := by omega
            have j1 : (k : Int) < (ls.length : Int) := by omega
            have j2 : (k : Int) < (tl.length : Int) := by omega
            have HT := ahide hT
            clear hT
            go_upto_region 8 with fail
            go_cut [69] (fun c u => c = .bool (!fineW S i z o y) ∧ TS w u P T R S C i b o)
            case first =>
              have v1 : IntKind.i64.wrap (i - S) = i - S := swrap_id (by omega) (by omega)
              have v2 : IntKind.i64.wrap (i + S) = i + S := swrap_id (by omega) (by omega)
              have hbw := refBetw_any z (i - S) (i + S)
              have HF : Hid (fineW S i z o y = (o || (y && betw z (i - S) (i + S)))) := rfl
              obtain ⟨⟨q0, q1, q2, q3⟩, ⟨⟨s0, s1, s2⟩, _⟩, hbl, _⟩ := HT.out
              have y0 := cell_later hbl HY.out
              have z0 := cell_later hbl HZ.out
              clear hbl
              generalize betw z (i - S) (i + S) = x at *
              rcases (show o = true ∨ (o = false ∧ y = false) ∨ (o = false ∧ y = true ∧ x = true) ∨ (o = false ∧ y = true ∧ x = false) by cases o <;> cases y <;> cases x <;> simp) with rfl | ⟨rfl, rfl⟩ | ⟨rfl, rfl, rfl⟩ | ⟨rfl, rfl, rfl⟩
              all_goals
                go_quiet ((go_at_call 12; exact Calls.quiet_of_same (hbw _)))
                go_wp2
                go_meet
                (case rel => exact ⟨by rw [HF.out]; simp, HT.out.later (below_drewN (Below.refl _ _) _)⟩)
            case rest =>
              obtain ⟨rfl, hT⟩ := hcut
              rename World => wb
              clear HT
              have HT := ahide hT
              clear hT
              have HB : Hid (wB S i b z o y = if !fineW S i z o y then b + 1 else b) := fine_wB
              generalize fineW S i z o y = f at *
              go_upto_if 69 with fail
              go_cut [8] (fun v u => v = .int .i64 (wB S i b z o y) ∧ TS w u P T R S C i b o)
              case first =>
                cases f
                · go_wp2
                  go_meet
                  (case rel => exact ⟨by rw [HB.out]; rfl, HT.out⟩)
                · go_wp2
                  go_meet
                  (case rel => exact ⟨by rw [HB.out]; rfl, HT.out⟩)
              case rest =>
                obtain ⟨rfl, hT⟩ := hcut
                rename World => wd
                clear HT HB
                have HT := ahide hT
                obtain ⟨⟨q0, q1, q2, q3⟩, ⟨⟨s0, s1, s2⟩, _⟩, hbl, _⟩ := hT
                have y0 := cell_later hbl HY.out
                have z0 := cell_later hbl HZ.out
                clear hbl
                go_upto_region 11 with fail
                have HW := ahide (⟨HT.out.later (abelow_alloc wd (.cells #[.int .i64 i, .int .i64 b, .bool o] 53)), B3.new wd _ _ _ _, HT.out.lt⟩ : TW w (wd.alloc (.cells #[.int .i64 i, .int .i64 b, .bool o] 53)) P wd.heap.size T R S C i b o)
                generalize wd.alloc (.cells #[.int .i64 i, .int .i64 b, .bool o] 53) = we at *
                generalize wd.heap.size = Q at *
                clear HT q0 q1 q2 q3 s0 s1 s2 y0 z0
                have LK := ahide (TW.lt HW.out)
                have S0 : (we.cell? ⟨w.heap.size, 0, none⟩ = some (.int .i64 T) ∧ we.cell? ⟨w.heap.size, 1, none⟩ = some (.int .i64 R) ∧ we.cell? ⟨w.heap.size, 2, none⟩ = some (.int .i64 S) ∧ we.cell? ⟨w.heap.size, 3, none⟩ = some (.int .i64 C)) ∧ (we.cell? ⟨P, 0, none⟩ = some (.int .i64 i) ∧ we.cell? ⟨P, 1, none⟩ = some (.int .i64 b) ∧ we.cell? ⟨P, 2, none⟩ = some (.bool o)) ∧ (we.cell? ⟨bs, os + k * 2, none⟩ = some (.bool y) ∧ we.cell? ⟨bs, os + k * 2 + 1, none⟩ = some (.int .i64 z)) ∧ TW w we P Q T R S C i b o := ⟨HW.out.1.1, HW.out.1.2.1.1, ⟨cell_later HW.out.1.2.2.1 HY.out, cell_later HW.out.1.2.2.1 HZ.out⟩, HW.out⟩
                have Z := ahide S0
                have HE : Hid (svE T R S C i b o = 0) := svE_mk HR.out HSV.out
                have hwt := watch_ok T R S C i b o y z HE.out
                have HS1 := ahide (sv_watch (z := z) (y := y) HR.out HSV.out HO.out)
                have HWI : Hid (wO S C i b z o y = false → wI S C i b z o y = i) := wI_was
                generalize wI S C i b z o y = xi at *
                generalize wB S i b z o y = xb at *
                generalize wO S C i b z o y = xo at *
                go_cut [11, 12] (fun p e u => ∃ V, p = .pointer (some ⟨V, 0, none⟩) ∧ e = .nilIface ∧ TW w u P Q T R S C i b o ∧ B3 u V (.int .i64 xi) (.int .i64 xb) (.bool xo) ∧ Q < V)
                case first =>
                  go_region_held3 (fun u => (u.cell? ⟨w.heap.size, 0, none⟩ = some (.int .i64 T) ∧ u.cell? ⟨w.heap.size, 1, none⟩ = some (.int .i64 R) ∧ u.cell? ⟨w.heap.size, 2, none⟩ = some (.int .i64 S) ∧ u.cell? ⟨w.heap.size, 3, none⟩ = some (.int .i64 C)) ∧ (u.cell? ⟨P, 0, none⟩ = some (.int .i64 i) ∧ u.cell? ⟨P, 1, none⟩ = some (.int .i64 b) ∧ u.cell? ⟨P, 2, none⟩ = some (.bool o)) ∧ (u.cell? ⟨bs, os + k * 2, none⟩ = some (.bool y) ∧ u.cell? ⟨bs, os + k * 2 + 1, none⟩ = some (.int .i64 z)) ∧ TW w u P Q T R S C i b o)
                    (first
                      | (with_reducible assumption)
                      | (with_reducible refine keepSA (abelow_alloc _ _) ?_; with_reducible assumption)
                      | (with_reducible apply keepSA; with_reducible assumption; with_reducible assumption)
                      | (with_reducible refine keepSA (abelow_alloc _ _) KS.out)
                      | (with_reducible exact keepSAs (NewS.lt NS.out) LS.out (keepSAs (NewS.lt NS.out) LS.out (keepSAs (NewS.lt NS.out) LS.out KS.out)))
                      | (refine keepSA ?_ Z.out; exact (abelow_alloc _ _).drew)
                      | (refine keepSA ?_ Z.out; exact (Below.refl _ _).drew))
                    (first | (go_at_call 17; refine (hwt _).mono ?_; rintro e w' ⟨rfl, hb⟩; have KS := ahide (keepSA hb (by with_reducible assumption)); (first | (have NS := ahide (newS (K := Q) (by exact LK.out) hb); obtain ⟨⟨f0, f1, f2⟩, ff, _⟩ := NS.out; have f3 := ff.1 0 (by omega); have f4 := ff.1 1 (by omega); have f5 := ff.1 2 (by omega)) | (have NS := ahide (newSd (K := Q) (by exact LK.out) hb); obtain ⟨⟨f0, f1, f2⟩, ff, _⟩ := NS.out; have f3 := ff.1 0 (by omega); have f4 := ff.1 1 (by omega); have f5 := ff.1 2 (by omega)) | skip)))
                  all_goals
                    rename_i hH
                    go_wp2_with fail
                    go_meet
                    (case rel =>
                      first
                        | exact ⟨_, rfl, rfl, hH.2.2.2, B3.new _ _ _ _ _, TW.lt KS.out.2.2.2⟩
                        | exact ⟨_, rfl, rfl, hH.2.2.2, NS.out.1.sput _ _ _, NS.out.2.2⟩)
                case rest =>
                  obtain ⟨V, rfl, rfl, hW, hV, hQV⟩ := hcut
                  rename World => wf
                  clear HW S0 Z LK hwt
                  have HV := ahide hV
                  have LQ := ahide hQV
                  have HW := ahide hW
                  clear hW hV hQV
                  go_upto_region 12 with fail
                  have S0 : (wf.cell? ⟨w.heap.size, 0, none⟩ = some (.int .i64 T) ∧ wf.cell? ⟨w.heap.size, 1, none⟩ = some (.int .i64 R) ∧ wf.cell? ⟨w.heap.size, 2, none⟩ = some (.int .i64 S) ∧ wf.cell? ⟨w.heap.size, 3, none⟩ = some (.int .i64 C)) ∧ (wf.cell? ⟨V, 0, none⟩ = some (.int .i64 xi) ∧ wf.cell? ⟨V, 1, none⟩ = some (.int .i64 xb) ∧ wf.cell? ⟨V, 2, none⟩ = some (.bool xo)) ∧ wf.cell? ⟨bt, ot + k, none⟩ = some (.int .i64 g) ∧ TW w wf P Q T R S C i b o := ⟨HW.out.1.1, HV.out, cell_later HW.out.1.2.2.1 HG.out, HW.out⟩
                  have Z := ahide S0
                  have LK := ahide (World.block_lt_of_cell? wf ⟨V, 0, none⟩ HV.out.1)
                  have hmv := move_ok T R S C xi xb xo g (svE_mk HR.out HS1.out.1)
                  have HS2 := ahide (sv_move g HR.out HS1.out.1)
                  generalize clipI g (loR T R xi xo) (hiR T R xi xo) = v at *
                  go_cut [13, 14] (fun p e u => ∃ Y, p = .pointer (some ⟨Y, 0, none⟩) ∧ e = .nilIface ∧ TW w u P Q T R S C i b o ∧ B3 u V (.int .i64 xi) (.int .i64 xb) (.bool xo) ∧ B3 u Y (.int .i64 v) (.int .i64 xb) (.bool xo))
                  case first =>
                    go_region_held3 (fun u => (u.cell? ⟨w.heap.size, 0, none⟩ = some (.int .i64 T) ∧ u.cell? ⟨w.heap.size, 1, none⟩ = some (.int .i64 R) ∧ u.cell? ⟨w.heap.size, 2, none⟩ = some (.int .i64 S) ∧ u.cell? ⟨w.heap.size, 3, none⟩ = some (.int .i64 C)) ∧ (u.cell? ⟨V, 0, none⟩ = some (.int .i64 xi) ∧ u.cell? ⟨V, 1, none⟩ = some (.int .i64 xb) ∧ u.cell? ⟨V, 2, none⟩ = some (.bool xo)) ∧ u.cell? ⟨bt, ot + k, none⟩ = some (.int .i64 g) ∧ TW w u P Q T R S C i b o)
                      (first
                        | (with_reducible assumption)
                        | (with_reducible refine keepSB (abelow_alloc _ _) ?_; with_reducible assumption)
                        | (with_reducible apply keepSB; with_reducible assumption; with_reducible assumption)
                        | (with_reducible refine keepSB (abelow_alloc _ _) KS.out)
                        | (with_reducible exact keepSBs (NewS.lt NS.out) LQ.out LT.out (keepSBs (NewS.lt NS.out) LQ.out LT.out (keepSBs (NewS.lt NS.out) LQ.out LT.out KS.out)))
                        | (refine keepSB ?_ Z.out; exact (abelow_alloc _ _).drew)
                        | (refine keepSB ?_ Z.out; exact (Below.refl _ _).drew))
                      (first | (go_at_call 18; refine (hmv _).mono ?_; rintro e w' ⟨rfl, hb⟩; have KS := ahide (keepSB hb (by with_reducible assumption)); (first | (have NS := ahide (newS (K := V) (by exact LK.out) hb); obtain ⟨⟨f0, f1, f2⟩, ff, _⟩ := NS.out; have f3 := ff.1 0 (by omega); have f4 := ff.1 1 (by omega); have f5 := ff.1 2 (by omega)) | (have NS := ahide (newSd (K := V) (by exact LK.out) hb); obtain ⟨⟨f0, f1, f2⟩, ff, _⟩ := NS.out; have f3 := ff.1 0 (by omega); have f4 := ff.1 1 (by omega); have f5 := ff.1 2 (by omega)) | skip)))
                    all_goals
                      rename_i hH
                      go_wp2_with fail
                      go_meet
                      (case rel =>
                        first
                          | exact ⟨_, rfl, rfl, hH.2.2.2, hH.2.1, B3.new _ _ _ _ _⟩
                          | exact ⟨_, rfl, rfl, hH.2.2.2, hH.2.1, NS.out.1.sput _ _ _⟩)
                  case rest =>
                    obtain ⟨Y, rfl, rfl, hW, hV, hY⟩ := hcut
                    rename World => wh
                    clear HW HV S0 Z LK hmv
                    have HW := ahide hW
                    obtain ⟨⟨q0, q1, q2, q3⟩, ⟨⟨s0, s1, s2⟩, sf⟩, _⟩ := hW.1
                    obtain ⟨u0, u1, u2⟩ := hW.2.1
                    obtain ⟨x0, x1, x2⟩ := hV
                    obtain ⟨n0, n1, n2⟩ := hY
                    have f0 := sf.1 0 (by omega)
                    have f1 := sf.1 1 (by omega)
                    have f2 := sf.1 2 (by omega)
                    clear hW sf
                    have hxo := HS1.out.2
                    have e1 : P ≠ Q := Nat.ne_of_lt HW.out.2.2
                    have e2 : Q ≠ P := Ne.symm e1
                    have e3 : w.heap.size ≠ P := Nat.ne_of_lt HW.out.1.2.2.2
                    have e4 : P ≠ w.heap.size := Ne.symm e3
                    cases xo
                    · have HI := ahide (HWI.out rfl)
                      have hd := HS2.out.2.2 rfl
                      rw [HI.out] at hd
                      have hdt := (svB_true HS2.out.1).1
                      have hb1 := refBetw_any v (-T) T
                      have hb2 := refBetw_any (v - i) (-R) R
                      rw [betw_mk hdt.1 hdt.2] at hb1
                      rw [betw_mk hd.1 hd.2] at hb2
                      obtain ⟨hd0, hd1⟩ := hd
                      obtain ⟨ht0, ht1⟩ := hdt
                      go_wp2_with (first
                        | (go_at_call_of 12 (Value.int .i64 v); refine (hb1 _).mono ?_; rintro e w' ⟨rfl, hq⟩; have hq := hq.symm; subst hq)
                        | (go_at_call 12; refine (hb2 _).mono ?_; rintro e w' ⟨rfl, hq⟩; have hq := hq.symm; subst hq))
                      go_roundw
                      case rel => exact ⟨k + 1, v, xb, false, by omega, by go_num, rfl, HS2.out.1, HS1.out.2, HW.out.1.put v xb false⟩
                      case measure => simp [intOf]; omega
                    · have hv0 : (v != 0) = false := by simp [HS2.out.2.1 rfl]
                      go_wp2
                      go_roundw
                      case rel => exact ⟨k + 1, v, xb, true, by omega, by go_num, rfl, HS2.out.1, HS1.out.2, HW.out.1.put v xb true⟩
                      case measure => simp [intOf]; omega
          · go_wp2
            go_ret
            exact ⟨rfl, hT.2.2.1⟩
        · go_wp2
          go_ret
          exact ⟨rfl, hT.2.2.1⟩
  · rw [arE_ne hr] at hrm
    clear hr
    go_enter Try.func4, Try.ntmps4
    go_wp2_with (first
      | (go_at_call 10; refine (awake_any _).mono ?_; rintro e w1 ⟨rfl, hb1⟩; have HX := ahide (⟨HX.out.1.later hb1, abelow_up HX.out.2 hb1⟩ : B4 w1 w.heap.size (.int .i64 T) (.int .i64 R) (.int .i64 S) (.int .i64 C) ∧ Below w.heap.size w w1); obtain ⟨⟨q0, q1, q2, q3⟩, _⟩ := HX.out; clear hb1)
      | (go_at_call 16; refine (hrm _).mono ?_; rintro e w2 ⟨rfl, hb2⟩; have HX := ahide (⟨HX.out.1.later hb2, abelow_up HX.out.2 hb2⟩ : B4 w2 w.heap.size (.int .i64 T) (.int .i64 R) (.int .i64 S) (.int .i64 C) ∧ Below w.heap.size w w2); clear hb2))
    go_ret
    exact ⟨rfl, HX.out.2⟩

end Go.Proofs.Ythijegfacnjooaa
