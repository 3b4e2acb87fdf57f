import Derived.Deep.WholeRow
import Derived.Deep.MidRow
import Derived.Test.YtnfdfiholcelaaaGreatDoorJd00
import Derived.Test.YtnfdfiholcelaaaGreatDoorJd04
import Derived.Test.YtnfdfiholcelaaaGreatDoorJd08
import Derived.Test.YtnfdfiholcelaaaGreatDoorJd09
import Derived.Test.YtnfdfiholcelaaaGreatDoorJd10
set_option maxRecDepth 100000
set_option maxHeartbeats 20000000
namespace Go.Proofs.YtnfdfiholcelaaaGreatDoor
open Go.RowKit Plain
theorem holdRuleMay_any (L H U B M : Int) (a z : Option Addr) (ca cz : Nat) (al zl : List Int) (hm : al.length ≤ 9223372036854775807) (hn : zl.length ≤ 9223372036854775807) (w : World) (ha : Lst w a al) (hz : Lst w z zl) :
 Calls Tryz.prog 88 #[.agg #[Vi L, Vi H, Vi U, Vi B, Vi M, .slice a al.length ca, .slice z zl.length cz]] w fun e w' => e = .returned (Vi (ruE L H U B M al zl)) ∧ Below w.heap.size w w' := by
 have HX := Zab (newHR L H U B M a z ca cz al zl w ha hz)
 dsimp only at HX
 have hlm : ∀ u, (u.cell? (Ad w.heap.size 0) = some (Vi L) ∧ u.cell? (Ad w.heap.size 1) = some (Vi H) ∧ u.cell? (Ad w.heap.size 2) = some (Vi U) ∧ u.cell? (Ad w.heap.size 3) = some (Vi B) ∧ u.cell? (Ad w.heap.size 4) = some (Vi M) ∧ u.cell? (Ad w.heap.size 5) = some (.slice a al.length ca) ∧ u.cell? (Ad w.heap.size 6) = some (.slice z zl.length cz)) ∧ Lst u a al ∧ Lst u z zl ∧ Below w.heap.size w u → Calls Tryz.prog 140 #[.agg #[.slice a al.length ca, .slice z zl.length cz]] u fun r w' => r = .returned (Vi (Zdq al zl)) ∧ Below u.heap.size u w' := fun u h => lineMay_any a z ca cz al zl u hm hn h.2.1 h.2.2.1; have h0E := Zab (show r0E L H U B M al zl = Zao [if ruB L H U B M then 0 else 1, if H < L then 3 else 0, Zdq al zl] from rfl)
 have hw2 : ∀ w, Calls Tryz.prog 14 #[.bool (decide (H < L)), Vi 3] w fun r w' => r = .returned (Vi (if H < L then 3 else 0)) ∧ w' = w := by
  intro w
  by_cases h : H < L
  · rw [decide_eq_true h, if_pos h]; exact Zba 3 w
  · rw [decide_eq_false h, if_neg h]; exact Zbp 3 w
 have HZ := Zab (rkE_zero L H U B M al zl); have HF := Zab (show ruE L H U B M al zl = rkE L H U B M al zl zl.length from rfl); have HS := Zab (rkE_step L H U B M al zl); have hy : ∃ y : Int, y = if H < L then 3 else 0 := ⟨_, rfl⟩; obtain ⟨y, hy⟩ := hy; rw [← hy] at hw2 h0E; clear hy ha hz; have f1 := Zap L (-100000) 100000; have f2 := Zap H (-100000) 100000; have f3 := Zap U 0 1000; have f4 := Zap B 0 65536; have f5 := Zap M 1 4000
 unfold ruB at h0E
 generalize betw L (-100000) 100000 = x1 at *; generalize betw H (-100000) 100000 = x2 at *; generalize betw U 0 1000 = x3 at *; generalize betw B 0 65536 = x4 at *; generalize betw M 1 4000 = x5 at *
 rcases (show x1 = false ∨ (x1 = true ∧ x2 = false) ∨ (x1 = true ∧ x2 = true ∧ x3 = false) ∨ (x1 = true ∧ x2 = true ∧ x3 = true ∧ x4 = false) ∨ (x1 = true ∧ x2 = true ∧ x3 = true ∧ x4 = true ∧ x5 = false) ∨ (x1 = true ∧ x2 = true ∧ x3 = true ∧ x4 = true ∧ x5 = true) by cases x1 <;> cases x2 <;> cases x3 <;> cases x4 <;> cases x5 <;> simp) with rfl | ⟨rfl, rfl⟩ | ⟨rfl, rfl, rfl⟩ | ⟨rfl, rfl, rfl, rfl⟩ | ⟨rfl, rfl, rfl, rfl, rfl⟩ | ⟨rfl, rfl, rfl, rfl, rfl⟩
 all_goals
  simp only [Bool.and_false, Bool.false_and, Bool.and_self, Bool.false_eq_true, if_false, if_true] at h0E; generalize Zdq al zl = E at *; generalize r0E L H U B M al zl = e0 at *
  go_enter Tryz.func88, Tryz.ntmps88
  go_upto_region 2 with (first
   | ((first | go_at_call_of 38 (Vi L) | go_at_call_of 38 (Value.int .i64 L)); refine Sm (f1 _) ?_)
   | ((first | go_at_call_of 38 (Vi H) | go_at_call_of 38 (Value.int .i64 H)); refine Sm (f2 _) ?_)
   | ((first | go_at_call_of 38 (Vi U) | go_at_call_of 38 (Value.int .i64 U)); refine Sm (f3 _) ?_)
   | ((first | go_at_call_of 38 (Vi B) | go_at_call_of 38 (Value.int .i64 B)); refine Sm (f4 _) ?_)
   | ((first | go_at_call_of 38 (Vi M) | go_at_call_of 38 (Value.int .i64 M)); refine Sm (f5 _) ?_))
  obtain ⟨w0, hw0⟩ : ∃ w0, w.alloc (.cells #[Vi L, Vi H, Vi U, Vi B, Vi M, .slice a al.length ca, .slice z zl.length cz] 107) = w0 := ⟨_, rfl⟩; rw [hw0] at HX ⊢; clear hw0; have S0 : (w0.cell? (Ad w.heap.size 0) = some (Vi L) ∧ w0.cell? (Ad w.heap.size 1) = some (Vi H) ∧ w0.cell? (Ad w.heap.size 2) = some (Vi U) ∧ w0.cell? (Ad w.heap.size 3) = some (Vi B) ∧ w0.cell? (Ad w.heap.size 4) = some (Vi M) ∧ w0.cell? (Ad w.heap.size 5) = some (.slice a al.length ca) ∧ w0.cell? (Ad w.heap.size 6) = some (.slice z zl.length cz)) ∧ Lst w0 a al ∧ Lst w0 z zl ∧ Below w.heap.size w w0 := HX.out
  go_region_held3 (fun u => (u.cell? (Ad w.heap.size 0) = some (Vi L) ∧ u.cell? (Ad w.heap.size 1) = some (Vi H) ∧ u.cell? (Ad w.heap.size 2) = some (Vi U) ∧ u.cell? (Ad w.heap.size 3) = some (Vi B) ∧ u.cell? (Ad w.heap.size 4) = some (Vi M) ∧ u.cell? (Ad w.heap.size 5) = some (.slice a al.length ca) ∧ u.cell? (Ad w.heap.size 6) = some (.slice z zl.length cz)) ∧ Lst u a al ∧ Lst u z zl ∧ Below w.heap.size w u)
   (first
    | (with_reducible assumption)
    | (with_reducible refine Zfh (Zaa _ _) ?_; with_reducible assumption)
    | (with_reducible apply Zfh; with_reducible assumption; with_reducible assumption)
    | (refine Zfh ?_ HX.out; exact (Below.refl _ _).drew))
   (first
    | ((first | go_at_call_of 14 (Vi 3) | go_at_call_of 14 (Value.int .i64 3)); refine (hw2 _).mono ?_; rintro e w' ⟨rfl, rfl⟩)
    | (go_at_call_of 14 (Value.bool true); refine (Zba _ _).mono ?_; rintro e w' ⟨rfl, rfl⟩)
    | (go_at_call_of 14 (Value.bool false); refine (Zbp _ _).mono ?_; rintro e w' ⟨rfl, rfl⟩)
    | (go_at_call 140; refine (hlm _ ?_).mono ?_; (with_reducible assumption); rintro e w' ⟨rfl, hb⟩)
    | (go_at_call 13; refine (first_new3 _ _ _ _ _).mono ?_; rintro e w' ⟨rfl, rfl⟩))
  all_goals
   rename_i hH
   have HX := Zab hH; obtain ⟨⟨_, _, _, _, _, _, q6⟩, _⟩ := hH; clear hlm; go_wp2_with fail
   go_loopw [4, 5] (fun e i wr => ∃ k : Nat, k ≤ zl.length ∧ i = Vi k ∧ e = Vi (rkE L H U B M al zl k) ∧ ((wr.cell? (Ad w.heap.size 0) = some (Vi L) ∧ wr.cell? (Ad w.heap.size 1) = some (Vi H) ∧ wr.cell? (Ad w.heap.size 2) = some (Vi U) ∧ wr.cell? (Ad w.heap.size 3) = some (Vi B) ∧ wr.cell? (Ad w.heap.size 4) = some (Vi M) ∧ wr.cell? (Ad w.heap.size 5) = some (.slice a al.length ca) ∧ wr.cell? (Ad w.heap.size 6) = some (.slice z zl.length cz)) ∧ Lst wr a al ∧ Lst wr z zl ∧ Below w.heap.size w wr)) (fun _ i _ => zl.length - (intOf i).toNat)
   case atStart => exact ⟨0, Nat.zero_le _, rfl, by rw [HZ.out, h0E.out], HX.out⟩
   case round =>
    clear HX q6 HZ h0E; obtain ⟨k, hk, rfl, rfl, hX⟩ := hrel; have HX := Zab hX; obtain ⟨⟨_, _, _, _, _, _, q6⟩, _⟩ := hX
    by_cases hlt : k < zl.length
    · obtain ⟨bz, oz, rfl, hcs⟩ := HX.out.2.2.1.at (Zbt hlt); have hc := hcs k hlt; have HT := Zab (HS.out k); have hbt := Zap (at0 zl k) 0 65536
      have hwh : ∀ w, Calls Tryz.prog 14 #[.bool (!betw (at0 zl k) 0 65536), Vi 1] w fun r w' => r = .returned (Vi (if betw (at0 zl k) 0 65536 then 0 else 1)) ∧ w' = w := by
       intro w; cases betw (at0 zl k) 0 65536
       · exact Zba 1 w
       · exact Zbp 1 w
      have j0 : (0 : Int) ≤ (k : Int) := by omega
      have j1 : (k : Int) < (zl.length : Int) := by omega
      clear hcs; generalize (if betw (at0 zl k) 0 65536 then (0 : Int) else 1) = t at *; generalize betw (at0 zl k) 0 65536 = b at *; generalize at0 zl k = x at *; generalize rkE L H U B M al zl k = s at *
      go_wp2_with (first
       | (go_at_call 38; refine Sm (hbt _) ?_)
       | (go_at_call 14; refine Sm (hwh _) ?_)
       | (go_at_call 13; refine Sm (first_new2 _ _ _ _) ?_))
      go_roundw
      case rel => exact ⟨k + 1, by omega, by go_num, by rw [HT.out], Zfh (Zaa _ _) HX.out⟩
      case measure => simp [intOf]; omega
    · have e : k = zl.length := by omega
      subst e; go_wp2_with fail; go_ret; exact ⟨by rw [HF.out]; rfl, HX.out.2.2.2⟩
theorem fmul_bd {s t : Int} (s0 : 2 ≤ s) (s1 : s ≤ 4) (t0 : 1 ≤ t) (t1 : t ≤ 1000) : 1 ≤ (s - 1) * t ∧ (s - 1) * t ≤ 3000 := by
 rcases (show s = 2 ∨ s = 3 ∨ s = 4 by omega) with rfl | rfl | rfl <;> omega
theorem Zdy (a0 a1 a2 a3 a4 a5 a6 a7 a8 a9 a10 a11 a14 : Int) (p q : Option Addr) (n m cn cm : Nat) (w : World) :
 Calls Tryz.prog 104 #[.agg #[Vi a0, Vi a1, Vi a2, Vi a3, Vi a4, Vi a5, Vi a6, Vi a7, Vi a8, Vi a9, Vi a10, Vi a11, .slice p n cn, .slice q m cm, Vi a14]] w fun e w' => e = .returned (.agg #[Vi a8, Vi a9]) ∧ Below w.heap.size w w' := by
 go_enter Tryz.func104, Tryz.ntmps104
 go_wp2; exact bodyPost_ret (v := .agg #[Vi a8, Vi a9]) (by simp [results, Tryz.results104, go_sem]) rfl ⟨rfl, Zac (Zaa _ _) (Zaa _ _)⟩
theorem Zgq (a0 a1 a2 a3 a4 a5 a6 a7 a8 a9 a10 a11 a14 : Int) (p q : Option Addr) (n m cn cm : Nat) (w : World) :
 Calls Tryz.prog 49 #[.agg #[Vi a0, Vi a1, Vi a2, Vi a3, Vi a4, Vi a5, Vi a6, Vi a7, Vi a8, Vi a9, Vi a10, Vi a11, .slice p n cn, .slice q m cm, Vi a14]] w fun e w' => e = .returned (.agg #[Vi a8, Vi a9]) ∧ Below w.heap.size w w' := by
 go_enter Tryz.func49, Tryz.ntmps49
 go_wp2; exact bodyPost_ret (v := .agg #[Vi a8, Vi a9]) (by simp [results, Tryz.results49, go_sem]) rfl ⟨rfl, Zac (Zaa _ _) (Zaa _ _)⟩
theorem Zdk (a0 a1 a2 a3 a4 a5 a6 a7 a8 a9 a10 a11 a14 : Int) (p q : Option Addr) (n m cn cm : Nat) (w : World) :
 Calls Tryz.prog 106 #[.agg #[Vi a0, Vi a1, Vi a2, Vi a3, Vi a4, Vi a5, Vi a6, Vi a7, Vi a8, Vi a9, Vi a10, Vi a11, .slice p n cn, .slice q m cm, Vi a14]] w fun e w' => e = .returned (.agg #[Vi a5, Vi a6, Vi a7, Vi a10]) ∧ Below w.heap.size w w' := by
 go_enter Tryz.func106, Tryz.ntmps106
 go_wp2; exact bodyPost_ret (v := .agg #[Vi a5, Vi a6, Vi a7, Vi a10]) (by simp [results, Tryz.results106, go_sem]) rfl ⟨rfl, Zac (Zaa _ _) (Zaa _ _)⟩
theorem Zhe (a0 a1 a2 a3 a4 a5 a6 a7 a8 a9 a10 a11 a14 : Int) (p q : Option Addr) (n m cn cm : Nat) (w : World) :
 Calls Tryz.prog 46 #[.agg #[Vi a0, Vi a1, Vi a2, Vi a3, Vi a4, Vi a5, Vi a6, Vi a7, Vi a8, Vi a9, Vi a10, Vi a11, .slice p n cn, .slice q m cm, Vi a14]] w fun e w' => e = .returned (.agg #[Vi a5, Vi a6, Vi a7, Vi a10]) ∧ Below w.heap.size w w' := by
 go_enter Tryz.func46, Tryz.ntmps46
 go_wp2; exact bodyPost_ret (v := .agg #[Vi a5, Vi a6, Vi a7, Vi a10]) (by simp [results, Tryz.results46, go_sem]) rfl ⟨rfl, Zac (Zaa _ _) (Zaa _ _)⟩
theorem Zco (a0 a1 a2 a3 a4 a5 a6 a7 a8 a9 a10 a11 a14 : Int) (p q : Option Addr) (n m cn cm : Nat) (h4 : 2 ≤ a4 ∧ a4 ≤ 4) (h5 : 1 ≤ a5 ∧ a5 ≤ 1000) (h3 : 0 ≤ a3 ∧ a3 ≤ 1000) (h7 : 0 ≤ a7 ∧ a7 ≤ 1000) (h6 : 1 ≤ a6 ∧ a6 ≤ 1000) (w : World) :
 Calls Tryz.prog 170 #[.agg #[Vi a0, Vi a1, Vi a2, Vi a3, Vi a4, Vi a5, Vi a6, Vi a7, Vi a8, Vi a9, Vi a10, Vi a11, .slice p n cn, .slice q m cm, Vi a14]] w fun e w' => e = .returned (.agg #[Vi a0, Vi a1, Vi a2, Vi (a3 + a7), Vi ((a4 - 1) * a5), Vi ((a4 - 1) * a6)]) ∧ Below w.heap.size w w' := by
 obtain ⟨x4, y4⟩ := h4; obtain ⟨b50, b51⟩ := fmul_bd x4 y4 h5.1 h5.2; have v5 : IntKind.i64.wrap ((a4 - 1) * a5) = (a4 - 1) * a5 := Zas (by omega) (by omega)
 have v5' : IntKind.i64.wrap (a5 * (a4 - 1)) = (a4 - 1) * a5 := by rw [Int.mul_comm]; exact v5
 obtain ⟨b60, b61⟩ := fmul_bd x4 y4 h6.1 h6.2; obtain ⟨x3, y3⟩ := h3; obtain ⟨x7, y7⟩ := h7; have v6 : IntKind.i64.wrap ((a4 - 1) * a6) = (a4 - 1) * a6 := Zas (by omega) (by omega)
 have v6' : IntKind.i64.wrap (a6 * (a4 - 1)) = (a4 - 1) * a6 := by rw [Int.mul_comm]; exact v6
 go_enter Tryz.func170, Tryz.ntmps170
 go_wp2; exact bodyPost_ret (v := .agg #[Vi a0, Vi a1, Vi a2, Vi (a3 + a7), Vi ((a4 - 1) * a5), Vi ((a4 - 1) * a6)]) (by simp [results, Tryz.results170, go_sem]) rfl ⟨rfl, Zac (Zaa _ _) (Zaa _ _)⟩
theorem Zdd (a0 a1 a2 a3 a4 a5 a6 a7 a8 a9 a10 a11 a14 : Int) (p q : Option Addr) (n m cn cm : Nat) (h4 : 2 ≤ a4 ∧ a4 ≤ 4) (h5 : 1 ≤ a5 ∧ a5 ≤ 1000) (h3 : 0 ≤ a3 ∧ a3 ≤ 1000) (h7 : 0 ≤ a7 ∧ a7 ≤ 1000) (h6 : 1 ≤ a6 ∧ a6 ≤ 1000) (w : World) :
 Calls Tryz.prog 40 #[.agg #[Vi a0, Vi a1, Vi a2, Vi a3, Vi a4, Vi a5, Vi a6, Vi a7, Vi a8, Vi a9, Vi a10, Vi a11, .slice p n cn, .slice q m cm, Vi a14]] w fun e w' => e = .returned (.agg #[Vi a0, Vi a1, Vi a2, Vi (a3 + a7), Vi ((a4 - 1) * a5), Vi ((a4 - 1) * a6)]) ∧ Below w.heap.size w w' := by
 obtain ⟨x4, y4⟩ := h4; obtain ⟨b50, b51⟩ := fmul_bd x4 y4 h5.1 h5.2; have v5 : IntKind.i64.wrap ((a4 - 1) * a5) = (a4 - 1) * a5 := Zas (by omega) (by omega)
 have v5' : IntKind.i64.wrap (a5 * (a4 - 1)) = (a4 - 1) * a5 := by rw [Int.mul_comm]; exact v5
 obtain ⟨b60, b61⟩ := fmul_bd x4 y4 h6.1 h6.2; obtain ⟨x3, y3⟩ := h3; obtain ⟨x7, y7⟩ := h7; have v6 : IntKind.i64.wrap ((a4 - 1) * a6) = (a4 - 1) * a6 := Zas (by omega) (by omega)
 have v6' : IntKind.i64.wrap (a6 * (a4 - 1)) = (a4 - 1) * a6 := by rw [Int.mul_comm]; exact v6
 go_enter Tryz.func40, Tryz.ntmps40
 go_wp2; exact bodyPost_ret (v := .agg #[Vi a0, Vi a1, Vi a2, Vi (a3 + a7), Vi ((a4 - 1) * a5), Vi ((a4 - 1) * a6)]) (by simp [results, Tryz.results40, go_sem]) rfl ⟨rfl, Zac (Zaa _ _) (Zaa _ _)⟩
theorem Zgr (a0 a1 a2 a3 a4 a5 a6 a7 a8 a9 a10 a11 a14 : Int) (p q : Option Addr) (n m cn cm : Nat) (h4 : 2 ≤ a4 ∧ a4 ≤ 4) (h5 : 1 ≤ a5 ∧ a5 ≤ 1000) (w : World) :
 Calls Tryz.prog 44 #[.agg #[Vi a0, Vi a1, Vi a2, Vi a3, Vi a4, Vi a5, Vi a6, Vi a7, Vi a8, Vi a9, Vi a10, Vi a11, .slice p n cn, .slice q m cm, Vi a14]] w fun e w' => e = .returned (.agg #[Vi a0, Vi a1, Vi a11, Vi a14, Vi ((a4 - 1) * a5), .slice p n cn, .slice q m cm]) ∧ Below w.heap.size w w' := by
 obtain ⟨x4, y4⟩ := h4; obtain ⟨b50, b51⟩ := fmul_bd x4 y4 h5.1 h5.2; have v5 : IntKind.i64.wrap ((a4 - 1) * a5) = (a4 - 1) * a5 := Zas (by omega) (by omega)
 have v5' : IntKind.i64.wrap (a5 * (a4 - 1)) = (a4 - 1) * a5 := by rw [Int.mul_comm]; exact v5
 go_enter Tryz.func44, Tryz.ntmps44
 go_wp2; exact bodyPost_ret (v := .agg #[Vi a0, Vi a1, Vi a11, Vi a14, Vi ((a4 - 1) * a5), .slice p n cn, .slice q m cm]) (by simp [results, Tryz.results44, go_sem]) rfl ⟨rfl, Zac (Zaa _ _) (Zaa _ _)⟩
def Room7 (w u : World) : Prop := ((u.cell? (Ad (w.heap.size + 1) 0) = some (Vi 0) ∧ u.frozen? (Ad (w.heap.size + 1) 0) = false) ∧ (u.cell? (Ad (w.heap.size + 1) 1) = some (Vi 0) ∧ u.frozen? (Ad (w.heap.size + 1) 1) = false) ∧ (u.cell? (Ad (w.heap.size + 1) 2) = some (Vi 0) ∧ u.frozen? (Ad (w.heap.size + 1) 2) = false) ∧ (u.cell? (Ad (w.heap.size + 1) 3) = some (Vi 0) ∧ u.frozen? (Ad (w.heap.size + 1) 3) = false) ∧ (u.cell? (Ad (w.heap.size + 1) 4) = some (Vi 0) ∧ u.frozen? (Ad (w.heap.size + 1) 4) = false) ∧ (u.cell? (Ad (w.heap.size + 1) 5) = some (.slice none 0 0) ∧ u.frozen? (Ad (w.heap.size + 1) 5) = false) ∧ (u.cell? (Ad (w.heap.size + 1) 6) = some (.slice none 0 0) ∧ u.frozen? (Ad (w.heap.size + 1) 6) = false)) ∧ w.heap.size + 1 < u.heap.size
theorem Room7.later {w u u' : World} (h : Room7 w u) (hb : Below u.heap.size u u') : Room7 w u' := by
 obtain ⟨⟨⟨a0, b0⟩, ⟨a1, b1⟩, ⟨a2, b2⟩, ⟨a3, b3⟩, ⟨a4, b4⟩, ⟨a5, b5⟩, a6, b6⟩, hl⟩ := h; have f : ∀ j, u'.frozen? (Ad (w.heap.size + 1) j) = u.frozen? (Ad (w.heap.size + 1) j) := fun j => hb.frozen (p := ⟨w.heap.size + 1, j, none⟩) hl; exact ⟨⟨⟨cell_later hb a0, (f 0).trans b0⟩, ⟨cell_later hb a1, (f 1).trans b1⟩, ⟨cell_later hb a2, (f 2).trans b2⟩, ⟨cell_later hb a3, (f 3).trans b3⟩, ⟨cell_later hb a4, (f 4).trans b4⟩, ⟨cell_later hb a5, (f 5).trans b5⟩, cell_later hb a6, (f 6).trans b6⟩, Nat.lt_of_lt_of_le hl hb.size⟩
def AxB (u : World) (B : Nat) (a0 a1 a2 a3 a4 a5 a6 a7 a8 a9 a10 a11 a14 : Int) (p q : Option Addr) (n m cn cm : Nat) : Prop := (u.cell? (Ad B 0) = some (Vi a0) ∧ u.cell? (Ad B 1) = some (Vi a1) ∧ u.cell? (Ad B 2) = some (Vi a2) ∧ u.cell? (Ad B 3) = some (Vi a3) ∧ u.cell? (Ad B 4) = some (Vi a4) ∧ u.cell? (Ad B 5) = some (Vi a5) ∧ u.cell? (Ad B 6) = some (Vi a6) ∧ u.cell? (Ad B 7) = some (Vi a7) ∧ u.cell? (Ad B 8) = some (Vi a8) ∧ u.cell? (Ad B 9) = some (Vi a9) ∧ u.cell? (Ad B 10) = some (Vi a10) ∧ u.cell? (Ad B 11) = some (Vi a11) ∧ u.cell? (Ad B 12) = some (.slice p n cn) ∧ u.cell? (Ad B 13) = some (.slice q m cm) ∧ u.cell? (Ad B 14) = some (Vi a14))
theorem AxB.later {u u' : World} {B : Nat} {a0 a1 a2 a3 a4 a5 a6 a7 a8 a9 a10 a11 a14 : Int} {p q : Option Addr} {n m cn cm : Nat} (h : AxB u B a0 a1 a2 a3 a4 a5 a6 a7 a8 a9 a10 a11 a14 p q n m cn cm) (hb : Below u.heap.size u u') : AxB u' B a0 a1 a2 a3 a4 a5 a6 a7 a8 a9 a10 a11 a14 p q n m cn cm := by
 obtain ⟨c0, c1, c2, c3, c4, c5, c6, c7, c8, c9, c10, c11, c12, c13, c14⟩ := h; exact ⟨cell_later hb c0, cell_later hb c1, cell_later hb c2, cell_later hb c3, cell_later hb c4, cell_later hb c5, cell_later hb c6, cell_later hb c7, cell_later hb c8, cell_later hb c9, cell_later hb c10, cell_later hb c11, cell_later hb c12, cell_later hb c13, cell_later hb c14⟩
theorem AxB.new (w : World) (a0 a1 a2 a3 a4 a5 a6 a7 a8 a9 a10 a11 a14 : Int) (p q : Option Addr) (n m cn cm : Nat) : AxB (w.alloc (.cells #[Vi a0, Vi a1, Vi a2, Vi a3, Vi a4, Vi a5, Vi a6, Vi a7, Vi a8, Vi a9, Vi a10, Vi a11, .slice p n cn, .slice q m cm, Vi a14] 26)) w.heap.size a0 a1 a2 a3 a4 a5 a6 a7 a8 a9 a10 a11 a14 p q n m cn cm := by
 refine ⟨?_, ?_, ?_, ?_, ?_, ?_, ?_, ?_, ?_, ?_, ?_, ?_, ?_, ?_, ?_⟩ <;> simp [go_sem]
theorem Zhh {u : World} {B V j : Nat} {x : Value} {a0 a1 a2 a3 a4 a5 a6 a7 a8 a9 a10 a11 a14 : Int} {p q : Option Addr} {n m cn cm : Nat} (hV : B ≠ V) (h : AxB u B a0 a1 a2 a3 a4 a5 a6 a7 a8 a9 a10 a11 a14 p q n m cn cm) : AxB (u.setCell (Ad V j) x) B a0 a1 a2 a3 a4 a5 a6 a7 a8 a9 a10 a11 a14 p q n m cn cm := by
 have f : ∀ i y, u.cell? (Ad B i) = some y → (u.setCell (Ad V j) x).cell? (Ad B i) = some y := fun i y hy => (World.cell?_setCell_other _ _ _ _ (fun e => hV (congrArg Addr.block e).symm)).trans hy; obtain ⟨c0, c1, c2, c3, c4, c5, c6, c7, c8, c9, c10, c11, c12, c13, c14⟩ := h; exact ⟨f _ _ c0, f _ _ c1, f _ _ c2, f _ _ c3, f _ _ c4, f _ _ c5, f _ _ c6, f _ _ c7, f _ _ c8, f _ _ c9, f _ _ c10, f _ _ c11, f _ _ c12, f _ _ c13, f _ _ c14⟩
theorem axb_set7 {u : World} {B V : Nat} {x0 x1 x2 x3 x4 x5 x6 : Value} {a0 a1 a2 a3 a4 a5 a6 a7 a8 a9 a10 a11 a14 : Int} {p q : Option Addr} {n m cn cm : Nat} (hV : B ≠ V) (h : (u.cell? (Ad B 0) = some (Vi a0) ∧ u.cell? (Ad B 1) = some (Vi a1) ∧ u.cell? (Ad B 2) = some (Vi a2) ∧ u.cell? (Ad B 3) = some (Vi a3) ∧ u.cell? (Ad B 4) = some (Vi a4) ∧ u.cell? (Ad B 5) = some (Vi a5) ∧ u.cell? (Ad B 6) = some (Vi a6) ∧ u.cell? (Ad B 7) = some (Vi a7) ∧ u.cell? (Ad B 8) = some (Vi a8) ∧ u.cell? (Ad B 9) = some (Vi a9) ∧ u.cell? (Ad B 10) = some (Vi a10) ∧ u.cell? (Ad B 11) = some (Vi a11) ∧ u.cell? (Ad B 12) = some (.slice p n cn) ∧ u.cell? (Ad B 13) = some (.slice q m cm) ∧ u.cell? (Ad B 14) = some (Vi a14))) : ((((((((u.setCell (Ad V 0) x0).setCell (Ad V 1) x1).setCell (Ad V 2) x2).setCell (Ad V 3) x3).setCell (Ad V 4) x4).setCell (Ad V 5) x5).setCell (Ad V 6) x6).cell? (Ad B 0) = some (Vi a0) ∧ (((((((u.setCell (Ad V 0) x0).setCell (Ad V 1) x1).setCell (Ad V 2) x2).setCell (Ad V 3) x3).setCell (Ad V 4) x4).setCell (Ad V 5) x5).setCell (Ad V 6) x6).cell? (Ad B 1) = some (Vi a1) ∧ (((((((u.setCell (Ad V 0) x0).setCell (Ad V 1) x1).setCell (Ad V 2) x2).setCell (Ad V 3) x3).setCell (Ad V 4) x4).setCell (Ad V 5) x5).setCell (Ad V 6) x6).cell? (Ad B 2) = some (Vi a2) ∧ (((((((u.setCell (Ad V 0) x0).setCell (Ad V 1) x1).setCell (Ad V 2) x2).setCell (Ad V 3) x3).setCell (Ad V 4) x4).setCell (Ad V 5) x5).setCell (Ad V 6) x6).cell? (Ad B 3) = some (Vi a3) ∧ (((((((u.setCell (Ad V 0) x0).setCell (Ad V 1) x1).setCell (Ad V 2) x2).setCell (Ad V 3) x3).setCell (Ad V 4) x4).setCell (Ad V 5) x5).setCell (Ad V 6) x6).cell? (Ad B 4) = some (Vi a4) ∧ (((((((u.setCell (Ad V 0) x0).setCell (Ad V 1) x1).setCell (Ad V 2) x2).setCell (Ad V 3) x3).setCell (Ad V 4) x4).setCell (Ad V 5) x5).setCell (Ad V 6) x6).cell? (Ad B 5) = some (Vi a5) ∧ (((((((u.setCell (Ad V 0) x0).setCell (Ad V 1) x1).setCell (Ad V 2) x2).setCell (Ad V 3) x3).setCell (Ad V 4) x4).setCell (Ad V 5) x5).setCell (Ad V 6) x6).cell? (Ad B 6) = some (Vi a6) ∧ (((((((u.setCell (Ad V 0) x0).setCell (Ad V 1) x1).setCell (Ad V 2) x2).setCell (Ad V 3) x3).setCell (Ad V 4) x4).setCell (Ad V 5) x5).setCell (Ad V 6) x6).cell? (Ad B 7) = some (Vi a7) ∧ (((((((u.setCell (Ad V 0) x0).setCell (Ad V 1) x1).setCell (Ad V 2) x2).setCell (Ad V 3) x3).setCell (Ad V 4) x4).setCell (Ad V 5) x5).setCell (Ad V 6) x6).cell? (Ad B 8) = some (Vi a8) ∧ (((((((u.setCell (Ad V 0) x0).setCell (Ad V 1) x1).setCell (Ad V 2) x2).setCell (Ad V 3) x3).setCell (Ad V 4) x4).setCell (Ad V 5) x5).setCell (Ad V 6) x6).cell? (Ad B 9) = some (Vi a9) ∧ (((((((u.setCell (Ad V 0) x0).setCell (Ad V 1) x1).setCell (Ad V 2) x2).setCell (Ad V 3) x3).setCell (Ad V 4) x4).setCell (Ad V 5) x5).setCell (Ad V 6) x6).cell? (Ad B 10) = some (Vi a10) ∧ (((((((u.setCell (Ad V 0) x0).setCell (Ad V 1) x1).setCell (Ad V 2) x2).setCell (Ad V 3) x3).setCell (Ad V 4) x4).setCell (Ad V 5) x5).setCell (Ad V 6) x6).cell? (Ad B 11) = some (Vi a11) ∧ (((((((u.setCell (Ad V 0) x0).setCell (Ad V 1) x1).setCell (Ad V 2) x2).setCell (Ad V 3) x3).setCell (Ad V 4) x4).setCell (Ad V 5) x5).setCell (Ad V 6) x6).cell? (Ad B 12) = some (.slice p n cn) ∧ (((((((u.setCell (Ad V 0) x0).setCell (Ad V 1) x1).setCell (Ad V 2) x2).setCell (Ad V 3) x3).setCell (Ad V 4) x4).setCell (Ad V 5) x5).setCell (Ad V 6) x6).cell? (Ad B 13) = some (.slice q m cm) ∧ (((((((u.setCell (Ad V 0) x0).setCell (Ad V 1) x1).setCell (Ad V 2) x2).setCell (Ad V 3) x3).setCell (Ad V 4) x4).setCell (Ad V 5) x5).setCell (Ad V 6) x6).cell? (Ad B 14) = some (Vi a14)) :=
 Zhh hV (Zhh hV (Zhh hV (Zhh hV (Zhh hV (Zhh hV (Zhh hV h))))))
theorem field_gmost (x0 x1 x2 x3 x4 x5 : Value) (w : World) : (Instr.field 99 (.agg #[x0, x1, x2, x3, x4, x5]) 4).run Tryz.prog w = .ok x4 w := by kernel_rfl
theorem Zdz (a0 a1 a2 a3 a4 a5 a6 a7 a8 a9 a10 a11 a14 : Int) (p q : Option Addr) (n m cn cm : Nat) (h4 : 2 ≤ a4 ∧ a4 ≤ 4) (h5 : 1 ≤ a5 ∧ a5 ≤ 1000) (h3 : 0 ≤ a3 ∧ a3 ≤ 1000) (h7 : 0 ≤ a7 ∧ a7 ≤ 1000) (h6 : 1 ≤ a6 ∧ a6 ≤ 1000) (w : World) :
 Calls Tryz.prog 168 #[.agg #[Vi a0, Vi a1, Vi a2, Vi a3, Vi a4, Vi a5, Vi a6, Vi a7, Vi a8, Vi a9, Vi a10, Vi a11, .slice p n cn, .slice q m cm, Vi a14]] w fun e w' => e = .returned (.agg #[Vi a0, Vi a1, Vi a11, Vi a14, Vi ((a4 - 1) * a5), .slice p n cn, .slice q m cm]) ∧ Below w.heap.size w w' := by
 have hgr := fun u => Zco a0 a1 a2 a3 a4 a5 a6 a7 a8 a9 a10 a11 a14 p q n m cn cm h4 h5 h3 h7 h6 u; have hfm := field_gmost; have HZ := Zab ((AxB.new w a0 a1 a2 a3 a4 a5 a6 a7 a8 a9 a10 a11 a14 p q n m cn cm).later (Zaa _ (.cells #[Vi 0, Vi 0, Vi 0, Vi 0, Vi 0, .slice none 0 0, .slice none 0 0] 107))); have HR : Hid (Room7 w ((w.alloc (.cells #[Vi a0, Vi a1, Vi a2, Vi a3, Vi a4, Vi a5, Vi a6, Vi a7, Vi a8, Vi a9, Vi a10, Vi a11, .slice p n cn, .slice q m cm, Vi a14] 26)).alloc (.cells #[Vi 0, Vi 0, Vi 0, Vi 0, Vi 0, .slice none 0 0, .slice none 0 0] 107))) := Zab ⟨⟨⟨by simp [go_sem], by simp [go_sem]⟩, ⟨by simp [go_sem], by simp [go_sem]⟩, ⟨by simp [go_sem], by simp [go_sem]⟩, ⟨by simp [go_sem], by simp [go_sem]⟩, ⟨by simp [go_sem], by simp [go_sem]⟩, ⟨by simp [go_sem], by simp [go_sem]⟩, by simp [go_sem], by simp [go_sem]⟩, by simp [go_sem]⟩; have HB := Zab (Zac (Zaa w (.cells #[Vi a0, Vi a1, Vi a2, Vi a3, Vi a4, Vi a5, Vi a6, Vi a7, Vi a8, Vi a9, Vi a10, Vi a11, .slice p n cn, .slice q m cm, Vi a14] 26)) (Zaa _ (.cells #[Vi 0, Vi 0, Vi 0, Vi 0, Vi 0, .slice none 0 0, .slice none 0 0] 107)))
 go_enter Tryz.func168, Tryz.ntmps168
 go_upto_region 1 with fail; generalize ((w.alloc (.cells #[Vi a0, Vi a1, Vi a2, Vi a3, Vi a4, Vi a5, Vi a6, Vi a7, Vi a8, Vi a9, Vi a10, Vi a11, .slice p n cn, .slice q m cm, Vi a14] 26)).alloc (.cells #[Vi 0, Vi 0, Vi 0, Vi 0, Vi 0, .slice none 0 0, .slice none 0 0] 107)) = w1 at *; have Z : Hid ((w1.cell? (Ad w.heap.size 0) = some (Vi a0) ∧ w1.cell? (Ad w.heap.size 1) = some (Vi a1) ∧ w1.cell? (Ad w.heap.size 2) = some (Vi a2) ∧ w1.cell? (Ad w.heap.size 3) = some (Vi a3) ∧ w1.cell? (Ad w.heap.size 4) = some (Vi a4) ∧ w1.cell? (Ad w.heap.size 5) = some (Vi a5) ∧ w1.cell? (Ad w.heap.size 6) = some (Vi a6) ∧ w1.cell? (Ad w.heap.size 7) = some (Vi a7) ∧ w1.cell? (Ad w.heap.size 8) = some (Vi a8) ∧ w1.cell? (Ad w.heap.size 9) = some (Vi a9) ∧ w1.cell? (Ad w.heap.size 10) = some (Vi a10) ∧ w1.cell? (Ad w.heap.size 11) = some (Vi a11) ∧ w1.cell? (Ad w.heap.size 12) = some (.slice p n cn) ∧ w1.cell? (Ad w.heap.size 13) = some (.slice q m cm) ∧ w1.cell? (Ad w.heap.size 14) = some (Vi a14))) := HZ; have Zd : Hid ((w1.drew.cell? (Ad w.heap.size 0) = some (Vi a0) ∧ w1.drew.cell? (Ad w.heap.size 1) = some (Vi a1) ∧ w1.drew.cell? (Ad w.heap.size 2) = some (Vi a2) ∧ w1.drew.cell? (Ad w.heap.size 3) = some (Vi a3) ∧ w1.drew.cell? (Ad w.heap.size 4) = some (Vi a4) ∧ w1.drew.cell? (Ad w.heap.size 5) = some (Vi a5) ∧ w1.drew.cell? (Ad w.heap.size 6) = some (Vi a6) ∧ w1.drew.cell? (Ad w.heap.size 7) = some (Vi a7) ∧ w1.drew.cell? (Ad w.heap.size 8) = some (Vi a8) ∧ w1.drew.cell? (Ad w.heap.size 9) = some (Vi a9) ∧ w1.drew.cell? (Ad w.heap.size 10) = some (Vi a10) ∧ w1.drew.cell? (Ad w.heap.size 11) = some (Vi a11) ∧ w1.drew.cell? (Ad w.heap.size 12) = some (.slice p n cn) ∧ w1.drew.cell? (Ad w.heap.size 13) = some (.slice q m cm) ∧ w1.drew.cell? (Ad w.heap.size 14) = some (Vi a14))) := Zab (HZ.out.later (Below.refl _ _).drew); have HNV : Hid (w.heap.size ≠ w.heap.size + 1) := Zab (by omega); obtain ⟨c0, c1, c2, c3, c4, c5, c6, c7, c8, c9, c10, c11, c12, c13, c14⟩ := Z.out
 go_region_held3 (fun u => (u.cell? (Ad w.heap.size 0) = some (Vi a0) ∧ u.cell? (Ad w.heap.size 1) = some (Vi a1) ∧ u.cell? (Ad w.heap.size 2) = some (Vi a2) ∧ u.cell? (Ad w.heap.size 3) = some (Vi a3) ∧ u.cell? (Ad w.heap.size 4) = some (Vi a4) ∧ u.cell? (Ad w.heap.size 5) = some (Vi a5) ∧ u.cell? (Ad w.heap.size 6) = some (Vi a6) ∧ u.cell? (Ad w.heap.size 7) = some (Vi a7) ∧ u.cell? (Ad w.heap.size 8) = some (Vi a8) ∧ u.cell? (Ad w.heap.size 9) = some (Vi a9) ∧ u.cell? (Ad w.heap.size 10) = some (Vi a10) ∧ u.cell? (Ad w.heap.size 11) = some (Vi a11) ∧ u.cell? (Ad w.heap.size 12) = some (.slice p n cn) ∧ u.cell? (Ad w.heap.size 13) = some (.slice q m cm) ∧ u.cell? (Ad w.heap.size 14) = some (Vi a14)))
  (first
   | (with_reducible assumption)
   | (with_reducible exact Zd.out)
   | (with_reducible exact KS.out)
   | (with_reducible exact axb_set7 HNV.out KS.out))
  (first
   | (go_at_call 170; refine Sb (hgr _) fun w2 hb => ?_; have hb := Zac (Below.refl _ w1).drew hb; have KS : Hid ((w2.cell? (Ad w.heap.size 0) = some (Vi a0) ∧ w2.cell? (Ad w.heap.size 1) = some (Vi a1) ∧ w2.cell? (Ad w.heap.size 2) = some (Vi a2) ∧ w2.cell? (Ad w.heap.size 3) = some (Vi a3) ∧ w2.cell? (Ad w.heap.size 4) = some (Vi a4) ∧ w2.cell? (Ad w.heap.size 5) = some (Vi a5) ∧ w2.cell? (Ad w.heap.size 6) = some (Vi a6) ∧ w2.cell? (Ad w.heap.size 7) = some (Vi a7) ∧ w2.cell? (Ad w.heap.size 8) = some (Vi a8) ∧ w2.cell? (Ad w.heap.size 9) = some (Vi a9) ∧ w2.cell? (Ad w.heap.size 10) = some (Vi a10) ∧ w2.cell? (Ad w.heap.size 11) = some (Vi a11) ∧ w2.cell? (Ad w.heap.size 12) = some (.slice p n cn) ∧ w2.cell? (Ad w.heap.size 13) = some (.slice q m cm) ∧ w2.cell? (Ad w.heap.size 14) = some (Vi a14))) := Zab (HZ.out.later hb); have HR2 := Zab (HR.out.later hb); have HB2 := Zab (Zac HB.out hb); obtain ⟨⟨⟨t0, u0⟩, ⟨t1, u1⟩, ⟨t2, u2⟩, ⟨t3, u3⟩, ⟨t4, u4⟩, ⟨t5, u5⟩, t6, u6⟩, _⟩ := HR2.out; clear hb))
 all_goals
  go_wp2_with fail; refine bodyPost_ret (v := .agg #[Vi a0, Vi a1, Vi a11, Vi a14, Vi ((a4 - 1) * a5), .slice p n cn, .slice q m cm]) (by simp [results, Tryz.results168, go_sem, *]) rfl ⟨rfl, ?_⟩; exact ((((((HB2.out.setCell (by simp) _).setCell (by simp) _).setCell (by simp) _).setCell (by simp) _).setCell (by simp) _).setCell (by simp) _).setCell (by simp) _
def rgE (s p : Int) : Int := if betw s 2 4 && betw p 0 1000 then 0 else 1
theorem Zdi {s p : Int} (h : rgE s p = 0) : (2 ≤ s ∧ s ≤ 4) ∧ 0 ≤ p ∧ p ≤ 1000 := by
 unfold rgE at h
 split at h
 · rename_i h'
   simp only [Bool.and_eq_true] at h'; exact ⟨Zal h'.1, Zal h'.2⟩
 · omega
def fmE (l n lo hi : Int) : Int := if l < 2 * n ∨ 0 < lo ∨ hi < 0 then 3 else 0
theorem checkRange_any (a0 a1 a2 a3 a4 a5 a6 a7 a8 a9 a10 a11 a14 : Int) (p q : Option Addr) (n m cn cm : Nat) (w : World) : Calls Tryz.prog 177 #[.agg #[Vi a0, Vi a1, Vi a2, Vi a3, Vi a4, Vi a5, Vi a6, Vi a7, Vi a8, Vi a9, Vi a10, Vi a11, .slice p n cn, .slice q m cm, Vi a14]] w fun e w' => e = .returned (errV (rgE a4 a3)) ∧ Below w.heap.size w w' := by
 have f1 := Zay a4 2 4; have f2 := Zay a3 0 1000
 unfold rgE
 generalize betw a4 2 4 = x1 at *; generalize betw a3 0 1000 = x2 at *
 cases x1
 · go_enter Tryz.func177, Tryz.ntmps177
   go_wp2_with (first | ((first | go_at_call_of 76 (Vi a4) | go_at_call_of 76 (Value.int .i64 a4)); refine (f1 _).mono ?_; rintro e w' ⟨rfl, rfl⟩) | ((first | go_at_call_of 76 (Vi a3) | go_at_call_of 76 (Value.int .i64 a3)); refine (f2 _).mono ?_; rintro e w' ⟨rfl, rfl⟩)); go_ret; exact ⟨rfl, by repeat (first | exact Zaa _ _ | refine Zac ?_ (Zaa _ _))⟩
 · cases x2
   · go_enter Tryz.func177, Tryz.ntmps177
     go_wp2_with (first | ((first | go_at_call_of 76 (Vi a4) | go_at_call_of 76 (Value.int .i64 a4)); refine (f1 _).mono ?_; rintro e w' ⟨rfl, rfl⟩) | ((first | go_at_call_of 76 (Vi a3) | go_at_call_of 76 (Value.int .i64 a3)); refine (f2 _).mono ?_; rintro e w' ⟨rfl, rfl⟩)); go_ret; exact ⟨rfl, by repeat (first | exact Zaa _ _ | refine Zac ?_ (Zaa _ _))⟩
   · go_enter Tryz.func177, Tryz.ntmps177
     go_wp2_with (first | ((first | go_at_call_of 76 (Vi a4) | go_at_call_of 76 (Value.int .i64 a4)); refine (f1 _).mono ?_; rintro e w' ⟨rfl, rfl⟩) | ((first | go_at_call_of 76 (Vi a3) | go_at_call_of 76 (Value.int .i64 a3)); refine (f2 _).mono ?_; rintro e w' ⟨rfl, rfl⟩)); go_ret; exact ⟨rfl, by repeat (first | exact Zaa _ _ | refine Zac ?_ (Zaa _ _))⟩
theorem checkForm_any (a0 a1 a2 a3 a4 a5 a6 a7 a8 a9 a10 a11 a14 : Int) (p q : Option Addr) (n m cn cm : Nat) (hn : 0 ≤ a2 ∧ a2 ≤ 1000) (w : World) : Calls Tryz.prog 186 #[.agg #[Vi a0, Vi a1, Vi a2, Vi a3, Vi a4, Vi a5, Vi a6, Vi a7, Vi a8, Vi a9, Vi a10, Vi a11, .slice p n cn, .slice q m cm, Vi a14]] w fun e w' => e = .returned (errV (fmE a8 a2 a0 a1)) ∧ Below w.heap.size w w' := by
 obtain ⟨n0, n1⟩ := hn
 unfold fmE
 by_cases h1 : a8 < 2 * a2
 · rw [if_pos (.inl h1), Zbe (by decide)]
   go_enter Tryz.func186, Tryz.ntmps186
   go_wp2; go_ret; exact ⟨rfl, Zaa _ _⟩
 · by_cases h2 : 0 < a0
   · rw [if_pos (.inr (.inl h2)), Zbe (by decide)]
     go_enter Tryz.func186, Tryz.ntmps186
     go_wp2; go_ret; exact ⟨rfl, Zaa _ _⟩
   · by_cases h3 : a1 < 0
     · rw [if_pos (.inr (.inr h3)), Zbe (by decide)]
       go_enter Tryz.func186, Tryz.ntmps186
       go_wp2; go_ret; exact ⟨rfl, Zaa _ _⟩
     · rw [if_neg (by omega), Zaq]
       go_enter Tryz.func186, Tryz.ntmps186
       go_wp2; go_ret; exact ⟨rfl, Zaa _ _⟩
theorem clo1_any (a0 a1 a2 a3 a4 a5 a6 a7 a8 a9 a10 a11 a14 : Int) (p q : Option Addr) (n m cn cm : Nat) (B : Nat) (u : World) (h : AxB u B a0 a1 a2 a3 a4 a5 a6 a7 a8 a9 a10 a11 a14 p q n m cn cm) :
 Calls Tryz.prog 176 #[.pointer (some (Ad B 0))] u fun e w' => e = .returned (errV (rgE a4 a3)) ∧ Below u.heap.size u w' := by
 obtain ⟨c0, c1, c2, c3, c4, c5, c6, c7, c8, c9, c10, c11, c12, c13, c14⟩ := h
 go_enter Tryz.func176, Tryz.ntmps176
 go_wp2_with (first
  | (go_at_call 177; refine Sb (checkRange_any a0 a1 a2 a3 a4 a5 a6 a7 a8 a9 a10 a11 a14 p q n m cn cm _) fun w1 hb1 => ?_))
 go_ret; exact ⟨rfl, hb1⟩
theorem clo2_any (a0 a1 a2 a3 a4 a5 a6 a7 a8 a9 a10 a11 a14 : Int) (p q : Option Addr) (n m cn cm : Nat) (B : Nat) (u : World) (h : AxB u B a0 a1 a2 a3 a4 a5 a6 a7 a8 a9 a10 a11 a14 p q n m cn cm) :
 Calls Tryz.prog 178 #[.pointer (some (Ad B 0))] u fun e w' => e = .returned (errV (Zcj a8 a9)) ∧ Below u.heap.size u w' := by
 obtain ⟨c0, c1, c2, c3, c4, c5, c6, c7, c8, c9, c10, c11, c12, c13, c14⟩ := h
 go_enter Tryz.func178, Tryz.ntmps178
 go_wp2_with (first
  | (go_at_call 104; refine Sb (Zdy a0 a1 a2 a3 a4 a5 a6 a7 a8 a9 a10 a11 a14 p q n m cn cm _) fun w1 hb1 => ?_)
  | (go_at_call 117; refine Sb (Zfb a8 a9 _) fun w2 hb2 => ?_))
 go_ret; exact ⟨rfl, Zac hb1 hb2⟩
theorem clo3_any (a0 a1 a2 a3 a4 a5 a6 a7 a8 a9 a10 a11 a14 : Int) (p q : Option Addr) (n m cn cm : Nat) (B : Nat) (u : World) (h : AxB u B a0 a1 a2 a3 a4 a5 a6 a7 a8 a9 a10 a11 a14 p q n m cn cm) :
 Calls Tryz.prog 179 #[.pointer (some (Ad B 0))] u fun e w' => e = .returned (errV (arE a5 a6 a7 a10)) ∧ Below u.heap.size u w' := by
 obtain ⟨c0, c1, c2, c3, c4, c5, c6, c7, c8, c9, c10, c11, c12, c13, c14⟩ := h
 go_enter Tryz.func179, Tryz.ntmps179
 go_wp2_with (first
  | (go_at_call 106; refine Sb (Zdk a0 a1 a2 a3 a4 a5 a6 a7 a8 a9 a10 a11 a14 p q n m cn cm _) fun w1 hb1 => ?_)
  | (go_at_call 180; refine Sb (Zhi a5 a6 a7 a10 _) fun w2 hb2 => ?_))
 go_ret; exact ⟨rfl, Zac hb1 hb2⟩
theorem clo4_any (a0 a1 a2 a3 a4 a5 a6 a7 a8 a9 a10 a11 a14 : Int) (p q : Option Addr) (n m cn cm : Nat) (h4 : 2 ≤ a4 ∧ a4 ≤ 4) (h5 : 1 ≤ a5 ∧ a5 ≤ 1000) (h3 : 0 ≤ a3 ∧ a3 ≤ 1000) (h7 : 0 ≤ a7 ∧ a7 ≤ 1000) (h6 : 1 ≤ a6 ∧ a6 ≤ 1000) (B : Nat) (u : World) (h : AxB u B a0 a1 a2 a3 a4 a5 a6 a7 a8 a9 a10 a11 a14 p q n m cn cm) :
 Calls Tryz.prog 181 #[.pointer (some (Ad B 0))] u fun e w' => e = .returned (errV (grE a0 a1 a2 (a3 + a7) ((a4 - 1) * a5) ((a4 - 1) * a6))) ∧ Below u.heap.size u w' := by
 obtain ⟨c0, c1, c2, c3, c4, c5, c6, c7, c8, c9, c10, c11, c12, c13, c14⟩ := h
 go_enter Tryz.func181, Tryz.ntmps181
 go_wp2_with (first
  | (go_at_call 170; refine Sb (Zco a0 a1 a2 a3 a4 a5 a6 a7 a8 a9 a10 a11 a14 p q n m cn cm h4 h5 h3 h7 h6 _) fun w1 hb1 => ?_)
  | (go_at_call 182; refine Sb (Zgv a0 a1 a2 (a3 + a7) ((a4 - 1) * a5) ((a4 - 1) * a6) _) fun w2 hb2 => ?_))
 go_ret; exact ⟨rfl, Zac hb1 hb2⟩
theorem clo5_any (a0 a1 a2 a3 a4 a5 a6 a7 a8 a9 a10 a11 a14 : Int) (p q : Option Addr) (al zl : List Int) (cn cm : Nat) (h4 : 2 ≤ a4 ∧ a4 ≤ 4) (h5 : 1 ≤ a5 ∧ a5 ≤ 1000) (h3 : 0 ≤ a3 ∧ a3 ≤ 1000) (h7 : 0 ≤ a7 ∧ a7 ≤ 1000) (h6 : 1 ≤ a6 ∧ a6 ≤ 1000) (hm : al.length ≤ 9223372036854775807) (hn : zl.length ≤ 9223372036854775807) (hca : al.length ≤ cn) (B : Nat) (u : World) (h : AxB u B a0 a1 a2 a3 a4 a5 a6 a7 a8 a9 a10 a11 a14 p q al.length zl.length cn cm) (ha : Lst u p al) (hz : Lst u q zl) :
 Calls Tryz.prog 183 #[.pointer (some (Ad B 0))] u fun e w' => e = .returned (errV (ruE a0 a1 a11 a14 ((a4 - 1) * a5) al zl)) ∧ Below u.heap.size u w' := by
 have HL := Zab (And.intro ha hz); clear ha hz; obtain ⟨c0, c1, c2, c3, c4, c5, c6, c7, c8, c9, c10, c11, c12, c13, c14⟩ := h
 go_enter Tryz.func183, Tryz.ntmps183
 go_wp2_with (first
  | (go_at_call 168; refine Sb (Zdz a0 a1 a2 a3 a4 a5 a6 a7 a8 a9 a10 a11 a14 p q al.length zl.length cn cm h4 h5 h3 h7 h6 _) fun w1 hb1 => ?_)
  | (go_at_call 184; refine Sb (Zhx a0 a1 a11 a14 ((a4 - 1) * a5) p q cn cm al zl hm hn hca _ (HL.out.1.later hb1) (HL.out.2.later hb1)) fun w2 hb2 => ?_))
 go_ret; exact ⟨rfl, Zac hb1 hb2⟩
theorem clo6_any (a0 a1 a2 a3 a4 a5 a6 a7 a8 a9 a10 a11 a14 : Int) (p q : Option Addr) (n m cn cm : Nat) (hn : 0 ≤ a2 ∧ a2 ≤ 1000) (B : Nat) (u : World) (h : AxB u B a0 a1 a2 a3 a4 a5 a6 a7 a8 a9 a10 a11 a14 p q n m cn cm) :
 Calls Tryz.prog 185 #[.pointer (some (Ad B 0))] u fun e w' => e = .returned (errV (fmE a8 a2 a0 a1)) ∧ Below u.heap.size u w' := by
 obtain ⟨c0, c1, c2, c3, c4, c5, c6, c7, c8, c9, c10, c11, c12, c13, c14⟩ := h
 go_enter Tryz.func185, Tryz.ntmps185
 go_wp2_with (first
  | (go_at_call 186; refine Sb (checkForm_any a0 a1 a2 a3 a4 a5 a6 a7 a8 a9 a10 a11 a14 p q n m cn cm hn _) fun w1 hb1 => ?_))
 go_ret; exact ⟨rfl, hb1⟩
theorem axisChecks_any (a0 a1 a2 a3 a4 a5 a6 a7 a8 a9 a10 a11 a14 : Int) (p q : Option Addr) (n m cn cm : Nat) (w : World) : Calls Tryz.prog 115 #[.agg #[Vi a0, Vi a1, Vi a2, Vi a3, Vi a4, Vi a5, Vi a6, Vi a7, Vi a8, Vi a9, Vi a10, Vi a11, .slice p n cn, .slice q m cm, Vi a14]] w fun e w' => e = .returned (.slice (some (Ad (w.heap.size + 1) 0)) 6 6) ∧ w' = (w.alloc (.cells #[Vi a0, Vi a1, Vi a2, Vi a3, Vi a4, Vi a5, Vi a6, Vi a7, Vi a8, Vi a9, Vi a10, Vi a11, .slice p n cn, .slice q m cm, Vi a14] 26)).alloc (.cells #[.func (.func 176) #[] #[.pointer (some (Ad w.heap.size 0))], .func (.func 178) #[] #[.pointer (some (Ad w.heap.size 0))], .func (.func 179) #[] #[.pointer (some (Ad w.heap.size 0))], .func (.func 181) #[] #[.pointer (some (Ad w.heap.size 0))], .func (.func 183) #[] #[.pointer (some (Ad w.heap.size 0))], .func (.func 185) #[] #[.pointer (some (Ad w.heap.size 0))]] 142) := by
 go_enter Tryz.func115, Tryz.ntmps115
 go_wp2; go_ret; exact ⟨rfl, rfl⟩
theorem Zhn (x0 x1 x2 x3 x4 x5 x6 x7 x8 x9 x10 x11 x12 x13 x14 x15 x16 x17 x18 x19 x20 x21 x22 x23 x24 x25 x26 x27 x28 x29 : Value) (c0 c1 : Int) (w : World) : Calls Tryz.prog 103 #[.agg #[x0, x1, x2, x3, x4, x5, x6, x7, x8, x9, x10, x11, x12, x13, x14, x15, x16, x17, x18, x19, x20, x21, x22, x23, x24, x25, x26, x27, x28, x29, Vi c0, Vi c1]] w fun e w' => e = .returned (.agg #[Vi c0, Vi c1]) ∧ Below w.heap.size w w' := by
 go_enter Tryz.func103, Tryz.ntmps103
 go_wp2; exact bodyPost_ret (v := .agg #[Vi c0, Vi c1]) (by simp [results, Tryz.results103, go_sem]) rfl ⟨rfl, Zac (Zaa _ _) (Zaa _ _)⟩
theorem rangeAt_later {u u' : World} {B o : Nat} {cs : List Value} (h : u.rangeAt B o cs) (hb : Below u.heap.size u u') : u'.rangeAt B o cs := fun j v hv => cell_later hb (h j v hv)
theorem infoK : (Tryz.prog.info? 29).map (·.size) = some 32 := by kernel_rfl
theorem Zcm {P : Program} {ops : Array Oper} {rest : List Oper} {op : Oper} {a : Act} {w : World} {Q : Exit → Act → World → Prop} (x : Operand) (_ho : op.op = .load 29 x) (h : wpList P ops Q (op :: rest) a w) : wpList P ops Q (op :: rest) a w := h
theorem check1_any (x0 x1 x2 x3 x4 x5 x6 x7 x8 x9 x10 x11 x12 x13 x14 x15 x16 x17 x18 x19 x20 x21 x22 x23 x24 x25 x26 x27 x28 x29 : Value) (c0 c1 : Int) (B : Nat) (u : World) (h : u.rangeAt B 0 [x0, x1, x2, x3, x4, x5, x6, x7, x8, x9, x10, x11, x12, x13, x14, x15, x16, x17, x18, x19, x20, x21, x22, x23, x24, x25, x26, x27, x28, x29, Vi c0, Vi c1]) : Calls Tryz.prog 116 #[.pointer (some (Ad B 0))] u fun e w' => e = .returned (errV (Zcj c0 c1)) ∧ Below u.heap.size u w' := by
 have HR := Zab h; clear h
 go_enter Tryz.func116, Tryz.ntmps116
 go_wp2_with (first
  | (refine Zcm _ rfl ?_; refine wpList_load_mid rfl 29 (.tmp 0) rfl B 0 rfl [x0, x1, x2, x3, x4, x5, x6, x7, x8, x9, x10, x11, x12, x13, x14, x15, x16, x17, x18, x19, x20, x21, x22, x23, x24, x25, x26, x27, x28, x29, Vi c0, Vi c1] _ HR.out Tryz.underlying29 rfl infoK ?_)
  | (go_at_call 103; refine Sb (Zhn x0 x1 x2 x3 x4 x5 x6 x7 x8 x9 x10 x11 x12 x13 x14 x15 x16 x17 x18 x19 x20 x21 x22 x23 x24 x25 x26 x27 x28 x29 c0 c1 _) fun w1 hb1 => ?_)
  | (go_at_call 117; refine Sb (Zfb c0 c1 _) fun w2 hb2 => ?_))
 go_ret; exact ⟨rfl, Zac hb1 hb2⟩
end Go.Proofs.YtnfdfiholcelaaaGreatDoor
