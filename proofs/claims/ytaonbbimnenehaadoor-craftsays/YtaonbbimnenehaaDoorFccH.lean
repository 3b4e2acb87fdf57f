/-
  The contract of fulmarref.CraftMay.
-/
import Derived.Test.YtaonbbimnenehaaDoorFccG
namespace Go.Proofs.YtaonbbimnenehaaDoor
open Go.RowKit Plain

theorem fstN_add (e : Nat → Int) (n : Nat) : ∀ m, fstN e (n + m) = if fstN e n = 0 then fstN (fun k => e (n + k)) m else fstN e n
  | 0 => by
    by_cases h : fstN e n = 0
    · rw [if_pos h]; exact h
    · rw [if_neg h]; rfl
  | m + 1 => by
    have ih := fstN_add e n m
    show (if fstN e (n + m) = 0 then e (n + m) else fstN e (n + m)) = _
    rw [ih]
    by_cases h : fstN e n = 0
    · rw [if_pos h, if_pos h]; rfl
    · rw [if_neg h, if_neg h, if_neg h]
theorem fstN_congr {e f : Nat → Int} : ∀ {n : Nat}, (∀ k, k < n → e k = f k) → fstN e n = fstN f n
  | 0, _ => rfl
  | n + 1, h => by
    show (if fstN e n = 0 then e n else fstN e n) = (if fstN f n = 0 then f n else fstN f n)
    rw [fstN_congr (fun k hk => h k (by omega)), h n (by omega)]
theorem first_13 (e f g : Nat → Int) (z : Int) (h1 : ∀ k, k < 6 → g k = e k) (h2 : ∀ k, k < 6 → g (6 + k) = f k) (h3 : g 12 = z) : fstN g 13 = firstI [firstI [firstI [0, fstN e 6], fstN f 6], z] := by
  have a1 : fstN g 6 = fstN e 6 := fstN_congr h1
  have a2 : fstN g 12 = if fstN e 6 = 0 then fstN f 6 else fstN e 6 := by
    rw [show (12 : Nat) = 6 + 6 from rfl, fstN_add g 6 6, a1, fstN_congr (f := f) h2]
  show (if fstN g 12 = 0 then g 12 else fstN g 12) = _
  rw [a2, h3]
  generalize fstN e 6 = x
  generalize fstN f 6 = y
  simp only [firstI]
  by_cases hx : x = 0 <;> by_cases hy : y = 0 <;> by_cases hz : z = 0 <;> simp [*]
theorem infoA : (Tryd.prog.info? 26).map (·.size) = some 15 := by kernel_rfl
theorem isLoadA {P : Program} {ops : Array Oper} {rest : List Oper} {op : Oper} {a : Act} {w : World} {Q : Exit → Act → World → Prop} (x : Operand) (_ho : op.op = .load 26 x) (h : wpList P ops Q (op :: rest) a w) : wpList P ops Q (op :: rest) a w := h
theorem first_b (T : TypeId) (x y : Int) (u : World) : Calls Tryd.prog 14 #[.slice (some ⟨u.heap.size, 0, none⟩) 2 2] (u.alloc (.cells #[.int .i64 x, .int .i64 y] T)) fun r w' => r = .returned (.int .i64 (firstI [x, y])) ∧ Below u.heap.size u w' :=
  (first_new2 T x y u).mono fun _ _ h => ⟨h.1, by rw [h.2]; exact abelow_alloc _ _⟩
set_option maxHeartbeats 4000000 in
theorem craftMay_any (a0 a1 a2 a3 a4 a5 a6 a7 a8 a9 a10 a11 a14 : Int) (p q : Option Addr) (al zl : List Int) (cn cm : Nat) (b0 b1 b2 b3 b4 b5 b6 b7 b8 b9 b10 b11 b14 : Int) (r s : Option Addr) (bl yl : List Int) (dn dm : Nat) (c0 c1 : Int) (w : World)
    (hla : al.length ≤ 9223372036854775807 ∧ zl.length ≤ 9223372036854775807 ∧ al.length ≤ cn ∧ Lst w p al ∧ Lst w q zl) (hlb : bl.length ≤ 9223372036854775807 ∧ yl.length ≤ 9223372036854775807 ∧ bl.length ≤ dn ∧ Lst w r bl ∧ Lst w s yl) :
    Calls Tryd.prog 5 #[.agg #[.int .i64 a0, .int .i64 a1, .int .i64 a2, .int .i64 a3, .int .i64 a4, .int .i64 a5, .int .i64 a6, .int .i64 a7, .int .i64 a8, .int .i64 a9, .int .i64 a10, .int .i64 a11, .slice p al.length cn, .slice q zl.length cm, .int .i64 a14, .int .i64 b0, .int .i64 b1, .int .i64 b2, .int .i64 b3, .int .i64 b4, .int .i64 b5, .int .i64 b6, .int .i64 b7, .int .i64 b8, .int .i64 b9, .int .i64 b10, .int .i64 b11, .slice r bl.length dn, .slice s yl.length dm, .int .i64 b14, .int .i64 c0, .int .i64 c1]] w fun e w' => e = .returned (.int .i64 (fstN (eCr a0 a1 a2 a3 a4 a5 a6 a7 a8 a9 a10 a11 a14 al zl b0 b1 b2 b3 b4 b5 b6 b7 b8 b9 b10 b11 b14 bl yl c0 c1) 13)) ∧ Below w.heap.size w w' := by
  have HF : Hid (fstN (eCr a0 a1 a2 a3 a4 a5 a6 a7 a8 a9 a10 a11 a14 al zl b0 b1 b2 b3 b4 b5 b6 b7 b8 b9 b10 b11 b14 bl yl c0 c1) 13 = firstI [firstI [firstI [0, fstN (eAx a0 a1 a2 a3 a4 a5 a6 a7 a8 a9 a10 a11 a14 al zl) 6], fstN (eAx b0 b1 b2 b3 b4 b5 b6 b7 b8 b9 b10 b11 b14 bl yl) 6], ruleE c0 c1]) := ahide (first_13 _ _ _ _ (fun k hk => by unfold eCr; rw [if_pos hk]) (fun k hk => by unfold eCr; rw [if_neg (by omega), if_pos (by omega)]; congr 1; omega) rfl)
  have ga := fun u h1 h2 => axisMay_any a0 a1 a2 a3 a4 a5 a6 a7 a8 a9 a10 a11 a14 p q al zl cn cm hla.1 hla.2.1 u h1 h2
  have gb := fun u h1 h2 => axisMay_any b0 b1 b2 b3 b4 b5 b6 b7 b8 b9 b10 b11 b14 r s bl yl dn dm hlb.1 hlb.2.1 u h1 h2
  have HLA := ahide hla.2.2.2
  have HLB := ahide hlb.2.2.2
  have HC0 : Hid (CrH (w.alloc (.cells #[.int .i64 a0, .int .i64 a1, .int .i64 a2, .int .i64 a3, .int .i64 a4, .int .i64 a5, .int .i64 a6, .int .i64 a7, .int .i64 a8, .int .i64 a9, .int .i64 a10, .int .i64 a11, .slice p al.length cn, .slice q zl.length cm, .int .i64 a14, .int .i64 b0, .int .i64 b1, .int .i64 b2, .int .i64 b3, .int .i64 b4, .int .i64 b5, .int .i64 b6, .int .i64 b7, .int .i64 b8, .int .i64 b9, .int .i64 b10, .int .i64 b11, .slice r bl.length dn, .slice s yl.length dm, .int .i64 b14, .int .i64 c0, .int .i64 c1] 29)) w.heap.size [.int .i64 a0, .int .i64 a1, .int .i64 a2, .int .i64 a3, .int .i64 a4, .int .i64 a5, .int .i64 a6, .int .i64 a7, .int .i64 a8, .int .i64 a9, .int .i64 a10, .int .i64 a11, .slice p al.length cn, .slice q zl.length cm, .int .i64 a14, .int .i64 b0, .int .i64 b1, .int .i64 b2, .int .i64 b3, .int .i64 b4, .int .i64 b5, .int .i64 b6, .int .i64 b7, .int .i64 b8, .int .i64 b9, .int .i64 b10, .int .i64 b11, .slice r bl.length dn, .slice s yl.length dm, .int .i64 b14, .int .i64 c0, .int .i64 c1]) := ahide (World.alloc_heap_new w _)
  have HB0 : Hid (Below w.heap.size w (w.alloc (.cells #[.int .i64 a0, .int .i64 a1, .int .i64 a2, .int .i64 a3, .int .i64 a4, .int .i64 a5, .int .i64 a6, .int .i64 a7, .int .i64 a8, .int .i64 a9, .int .i64 a10, .int .i64 a11, .slice p al.length cn, .slice q zl.length cm, .int .i64 a14, .int .i64 b0, .int .i64 b1, .int .i64 b2, .int .i64 b3, .int .i64 b4, .int .i64 b5, .int .i64 b6, .int .i64 b7, .int .i64 b8, .int .i64 b9, .int .i64 b10, .int .i64 b11, .slice r bl.length dn, .slice s yl.length dm, .int .i64 b14, .int .i64 c0, .int .i64 c1] 29))) := ahide (abelow_alloc _ _)
  have g16 := ruleMay_any c0 c1
  generalize fstN (eCr a0 a1 a2 a3 a4 a5 a6 a7 a8 a9 a10 a11 a14 al zl b0 b1 b2 b3 b4 b5 b6 b7 b8 b9 b10 b11 b14 bl yl c0 c1) 13 = res at *
  generalize fstN (eAx a0 a1 a2 a3 a4 a5 a6 a7 a8 a9 a10 a11 a14 al zl) 6 = xa at *
  generalize fstN (eAx b0 b1 b2 b3 b4 b5 b6 b7 b8 b9 b10 b11 b14 bl yl) 6 = xb at *
  generalize ruleE c0 c1 = xc at *
  clear hla hlb
  go_enter Tryd.func5, Tryd.ntmps5
  go_wp2_with fail
  obtain ⟨w0, hw0⟩ : ∃ w0, w.alloc (.cells #[.int .i64 a0, .int .i64 a1, .int .i64 a2, .int .i64 a3, .int .i64 a4, .int .i64 a5, .int .i64 a6, .int .i64 a7, .int .i64 a8, .int .i64 a9, .int .i64 a10, .int .i64 a11, .slice p al.length cn, .slice q zl.length cm, .int .i64 a14, .int .i64 b0, .int .i64 b1, .int .i64 b2, .int .i64 b3, .int .i64 b4, .int .i64 b5, .int .i64 b6, .int .i64 b7, .int .i64 b8, .int .i64 b9, .int .i64 b10, .int .i64 b11, .slice r bl.length dn, .slice s yl.length dm, .int .i64 b14, .int .i64 c0, .int .i64 c1] 29) = w0 := ⟨_, rfl⟩
  rw [hw0] at HC0 HB0 ⊢
  clear hw0
  refine wp_loop_rounds 3 ?_
  rw [rounds_succ]
  go_wp2_with (first
    | (refine isLoadA _ rfl ?_; refine wpList_load_mid rfl 26 (.tmp 12) rfl w.heap.size 0 rfl [.int .i64 a0, .int .i64 a1, .int .i64 a2, .int .i64 a3, .int .i64 a4, .int .i64 a5, .int .i64 a6, .int .i64 a7, .int .i64 a8, .int .i64 a9, .int .i64 a10, .int .i64 a11, .slice p al.length cn, .slice q zl.length cm, .int .i64 a14] _ (range_sub (n := 15) HC0.out.range 0) Tryd.underlying26 rfl infoA ?_)
    | (go_at_call 15; refine (ga _ (HLA.out.1.later HB0.out) (HLA.out.2.later HB0.out)).mono ?_; rintro e w1 ⟨rfl, hb1⟩; have HC1 := ahide (HC0.out.later hb1); have HB1 := ahide (abelow_up HB0.out hb1); clear hb1)
    | (go_at_call 14; refine (first_b _ _ _ _).mono ?_; rintro e w2 ⟨rfl, hq⟩; have HC2 := ahide (HC1.out.later hq); have HB2 := ahide (abelow_up HB1.out hq); clear hq))
  rw [rounds_succ]
  go_wp2_with (first
    | (refine isLoadA _ rfl ?_; refine wpList_load_mid rfl 26 (.tmp 12) rfl w.heap.size 15 rfl [.int .i64 b0, .int .i64 b1, .int .i64 b2, .int .i64 b3, .int .i64 b4, .int .i64 b5, .int .i64 b6, .int .i64 b7, .int .i64 b8, .int .i64 b9, .int .i64 b10, .int .i64 b11, .slice r bl.length dn, .slice s yl.length dm, .int .i64 b14] _ (range_sub (n := 15) HC2.out.range 15) Tryd.underlying26 rfl infoA ?_)
    | (go_at_call 15; refine (gb _ (HLB.out.1.later HB2.out) (HLB.out.2.later HB2.out)).mono ?_; rintro e w3 ⟨rfl, hb3⟩; have HC3 := ahide (HC2.out.later hb3); have HB3 := ahide (abelow_up HB2.out hb3); clear hb3)
    | (go_at_call 14; refine (first_b _ _ _ _).mono ?_; rintro e w4 ⟨rfl, hq⟩; have HC4 := ahide (HC3.out.later hq); have HB4 := ahide (abelow_up HB3.out hq); clear hq))
  have k30 : w4.cell? ⟨w.heap.size, 30, none⟩ = some (.int .i64 c0) := by have := HC4.out.range 30 _ rfl; rwa [Nat.zero_add] at this
  have k31 : w4.cell? ⟨w.heap.size, 31, none⟩ = some (.int .i64 c1) := by have := HC4.out.range 31 _ rfl; rwa [Nat.zero_add] at this
  rw [rounds_succ]
  go_wp2_with (first
    | (go_at_call 16; refine (g16 _).mono ?_; rintro e w5 ⟨rfl, hb5⟩; have HB5 := ahide (abelow_up HB4.out hb5); clear hb5)
    | (go_at_call 14; refine (first_b _ _ _ _).mono ?_; rintro e w6 ⟨rfl, hq⟩; have HB6 := ahide (abelow_up HB5.out hq); clear hq))
  go_ret
  exact ⟨by rw [HF.out]; rfl, HB6.out⟩

end Go.Proofs.YtaonbbimnenehaaDoor
