/-
  Contract of fulmarref.Height: it returns what the plain words say, and nothing that was there has turned.
-/
import Derived.Test.YtngedehfaidphaaGridC
namespace Go.Proofs.Ytngedehfaidphaa
open Go.RowKit Plain

theorem field_ref (z00 z01 z10 z11 L P M Q : Int) : (z00 * M + z01 * Q) * L + (z10 * M + z11 * Q) * P = z00 * L * M + z01 * L * Q + z10 * P * M + z11 * P * Q := by
  have e : ∀ p q r : Int, p * q * r = p * r * q := fun p q r => by rw [Int.mul_assoc, Int.mul_comm q r, Int.mul_assoc]
  rw [Int.add_mul, Int.add_mul, e z00, e z01, e z10, e z11]; omega
theorem side_bd {a b M Q : Int} (h1 : -1000000 ≤ a ∧ a ≤ 1000000) (h2 : -1000000 ≤ b ∧ b ≤ 1000000) (hM : 0 ≤ M) (hQ : 0 ≤ Q) (h : M + Q ≤ 2000000) : (-2000000000000 ≤ a * M ∧ a * M ≤ 2000000000000) ∧ (-2000000000000 ≤ b * Q ∧ b * Q ≤ 2000000000000) ∧ -(1000000 * (M + Q)) ≤ a * M + b * Q ∧ a * M + b * Q ≤ 1000000 * (M + Q) := by
  have m1 := mul_bdT (a := a) (b := M) (A := 1000000) (B := M) h1.1 h1.2 (by omega) (Int.le_refl _)
  have m2 := mul_bdT (a := b) (b := Q) (A := 1000000) (B := Q) h2.1 h2.2 (by omega) (Int.le_refl _)
  omega
theorem whole_bd {l r h L P : Int} (h1 : -(1000000 * h) ≤ l ∧ l ≤ 1000000 * h) (h2 : -(1000000 * h) ≤ r ∧ r ≤ 1000000 * h) (hL : 0 ≤ L) (hP : 0 ≤ P) (h0 : 0 ≤ h) (hh : h ≤ 2000000) (hs : L + P ≤ 2000000) :
    (-4000000000000000000 ≤ l * L ∧ l * L ≤ 4000000000000000000) ∧ (-4000000000000000000 ≤ r * P ∧ r * P ≤ 4000000000000000000) ∧ -4000000000000000000 ≤ l * L + r * P ∧ l * L + r * P ≤ 4000000000000000000 := by
  have m1 := mul_bdT (a := l) (b := L) (A := 1000000 * h) (B := L) (by omega) (by omega) (by omega) (Int.le_refl _)
  have m2 := mul_bdT (a := r) (b := P) (A := 1000000 * h) (B := P) (by omega) (by omega) (by omega) (Int.le_refl _)
  have m3 := mul_bdT (a := h) (b := L + P) (A := 2000000) (B := 2000000) (by omega) hh (by omega) hs
  have m4 : 0 ≤ h * L := Int.mul_nonneg h0 hL
  have m5 : 0 ≤ h * P := Int.mul_nonneg h0 hP
  rw [Int.mul_add] at m3
  rw [Int.mul_assoc] at m1 m2
  omega

set_option maxRecDepth 100000 in
set_option maxHeartbeats 4000000 in
theorem refHeight_ok (bx ox bY oy bz oz : Nat) (cx cy cz : Nat) (A : Nat → Option Addr) (C : Nat → Nat) (xl yl : List Int) (zl : List (List Int)) (u v : Int) (w : World)
    (hx : Lst w (some ⟨bx, ox, none⟩) xl) (hy : Lst w (some ⟨bY, oy, none⟩) yl) (hz : Rws w (some ⟨bz, oz, none⟩) A C zl) (h : gridI xl yl zl = 0) :
    Calls Try.prog 18 #[.agg #[.slice (some ⟨bx, ox, none⟩) xl.length cx, .slice (some ⟨bY, oy, none⟩) yl.length cy, .slice (some ⟨bz, oz, none⟩) zl.length cz], .int .i64 u, .int .i64 v] w fun r w' => r = .returned (.int .i64 (gridH xl yl zl u v)) ∧ Below w.heap.size w w' := by
  have G := grid_of h
  have lx := G.px.lo
  have lx' := G.px.hi
  have ly := G.py.lo
  have ly' := G.py.hi
  have lz := G.len
  have Z := startG w _ _ _ cx cy cz A C xl yl zl hx hy hz
  have S0 := Z _ (Below.refl _ _)
  have HG : Hid (Gridded xl yl zl ∧ 2 ≤ xl.length ∧ xl.length ≤ 8 ∧ 2 ≤ yl.length ∧ yl.length ≤ 8 ∧ zl.length = xl.length) := ⟨G, lx, lx', ly, ly', lz⟩
  have q0 := S0.2.1.cells 0 (by omega)
  have q1 := S0.2.1.cells (xl.length - 1) (by omega)
  have q2 := S0.2.2.1.cells 0 (by omega)
  have q3 := S0.2.2.1.cells (yl.length - 1) (by omega)
  rw [Nat.add_zero] at q0 q2
  have kcx : ∀ w, Calls Try.prog 36 #[.int .i64 u, .int .i64 (at0 xl 0), .int .i64 (at0 xl (xl.length - 1))] w fun e w' => e = .returned (.int .i64 (clipE xl u)) ∧ w' = w := fun w => refClip_any u _ _ (by have := G.px.monole (show 0 ≤ xl.length - 1 by omega) (by omega); exact this) w
  have kcy : ∀ w, Calls Try.prog 36 #[.int .i64 v, .int .i64 (at0 yl 0), .int .i64 (at0 yl (yl.length - 1))] w fun e w' => e = .returned (.int .i64 (clipE yl v)) ∧ w' = w := fun w => refClip_any v _ _ (by have := G.py.monole (show 0 ≤ yl.length - 1 by omega) (by omega); exact this) w
  have bx' := clipE_bd G.px u
  have by' := clipE_bd G.py v
  have HB0 : Hid (at0 xl 0 ≤ clipE xl u ∧ clipE xl u ≤ at0 xl (xl.length - 1) ∧ at0 yl 0 ≤ clipE yl v ∧ clipE yl v ≤ at0 yl (yl.length - 1)) := ⟨bx'.1, bx'.2, by'.1, by'.2⟩
  have HF : Hid (∀ i j, Fits xl (clipE xl u) i → Fits yl (clipE yl v) j → gridH xl yl zl u v = fieldI (fun i j => at0 (rowZ zl i) j) xl yl (clipE xl u) (clipE yl v) i j) := fun i j a b => gridH_fits G.px G.py a b
  have t1 : ((xl.length : Int) - 1).toNat = xl.length - 1 := by omega
  have t2 : ((yl.length : Int) - 1).toNat = yl.length - 1 := by omega
  have SH : Hid (_ ∧ _) := S0
  clear G lz Z S0 hx hy hz h bx' by'
  generalize clipE xl u = cc at *
  generalize clipE yl v = dd at *
  generalize hXA : at0 xl 0 = XA at q0 kcx
  generalize hXB : at0 xl (xl.length - 1) = XB at q1 kcx
  generalize hYA : at0 yl 0 = YA at q2 kcy
  generalize hYB : at0 yl (yl.length - 1) = YB at q3 kcy
  clear hXA hXB hYA hYB
  go_enter Try.func18, Try.ntmps18
  go_upto_region 1 with fail
  go_quiet (first
    | (go_at_call_of 36 (Value.int IntKind.i64 XA); exact Calls.quiet_of_same (kcx _))
    | (go_at_call_of 36 (Value.int IntKind.i64 YA); exact Calls.quiet_of_same (kcy _)))
  go_upto_region 2 with fail
  obtain ⟨w1, hw1⟩ : ∃ w1, (w.alloc (.cells #[.slice (some ⟨bx, ox, none⟩) xl.length cx, .slice (some ⟨bY, oy, none⟩) yl.length cy, .slice (some ⟨bz, oz, none⟩) zl.length cz] 46)).drewN nq = w1 := ⟨_, rfl⟩
  have S1 := keepG (u' := w1) (by rw [← hw1]; exact below_drewN (Below.refl _ _) _) SH.out
  rw [hw1]
  clear hw1 q0 q1 q2 q3 SH kcx kcy
  obtain ⟨⟨c0, c1, c2⟩, R1⟩ := S1
  have HR : Hid (RG w w.heap.size (some ⟨bx, ox, none⟩) (some ⟨bY, oy, none⟩) (some ⟨bz, oz, none⟩) A C xl yl zl w1) := R1
  clear R1
  go_wp2_with fail
  go_loop [7] (fun i => ∃ k : Nat, k + 1 < xl.length ∧ i = .int .i64 k ∧ Hid (at0 xl k ≤ cc)) (fun i => xl.length - (intOf i).toNat)
  case atStart => exact ⟨0, by omega, rfl, HB0.out.1⟩
  case round =>
    obtain ⟨k, hk, rfl, hf⟩ := hrel
    have hc := HR.out.1.cells (k + 1) hk
    have tk : ((k : Int) + 1).toNat = k + 1 := by omega
    by_cases hlt : at0 xl (k + 1) < cc
    · have k2 : k + 1 + 1 < xl.length := by
        rcases Nat.lt_or_ge (k + 1 + 1) xl.length with q | q
        · exact q
        · have e : k + 1 = xl.length - 1 := by omega
          have := HB0.out.2.1
          rw [← e] at this; omega
      have HS : Hid (at0 xl (k + 1) ≤ cc) := by show _ ≤ _; omega
      clear hf
      generalize at0 xl (k + 1) = zz at hc hlt
      go_wp2_with fail
      go_round
      case rel => exact ⟨k + 1, by omega, by go_num, HS⟩
      case measure => simp [intOf]; omega
    · have FX : Hid (Fits xl cc k) := ⟨hk, hf.out, by omega⟩
      clear hf
      generalize at0 xl (k + 1) = zz at hc hlt
      go_wp2_with fail
      clear hc hlt
      go_loop [8] (fun i => ∃ m : Nat, m + 1 < yl.length ∧ i = .int .i64 m ∧ Hid (at0 yl m ≤ dd)) (fun i => yl.length - (intOf i).toNat)
      case atStart => exact ⟨0, by omega, rfl, HB0.out.2.2.1⟩
      case round =>
        obtain ⟨m, hm, rfl, hg⟩ := hrel
        have hc := HR.out.2.1.cells (m + 1) hm
        have tm : ((m : Int) + 1).toNat = m + 1 := by omega
        by_cases hlt : at0 yl (m + 1) < dd
        · have k2 : m + 1 + 1 < yl.length := by
            rcases Nat.lt_or_ge (m + 1 + 1) yl.length with q | q
            · exact q
            · have e : m + 1 = yl.length - 1 := by omega
              have := HB0.out.2.2.2
              rw [← e] at this; omega
          have HS : Hid (at0 yl (m + 1) ≤ dd) := by show _ ≤ _; omega
          clear hg
          generalize at0 yl (m + 1) = zz at hc hlt
          go_wp2_with fail
          go_round
          case rel => exact ⟨m + 1, by omega, by go_num, HS⟩
          case measure => simp [intOf]; omega
        · have FY : Hid (Fits yl dd m) := ⟨hm, hg.out, by omega⟩
          clear hg
          generalize at0 yl (m + 1) = zz at hc hlt
          go_upto_region 7 with fail
          clear hc hlt
          obtain ⟨b0, o0, b1, o1, K⟩ := corners_of HG.out.1 HR.out.2.2.1 rfl FX.out.lt FY.out.lt
          have HL := HF.out k m FX.out FY.out
          have HB : Hid (Below w.heap.size w w1) := HR.out.2.2.2
          have xk := HR.out.1.cells k (by omega)
          have xk' := HR.out.1.cells (k + 1) (by omega)
          have ym := HR.out.2.1.cells m (by omega)
          have ym' := HR.out.2.1.cells (m + 1) (by omega)
          have u0 := HG.out.1.px.up k hk
          have u1 := HG.out.1.py.up m hm
          have x0 := worth_all HG.out.1.px.worth k (by omega)
          have x1 := worth_all HG.out.1.px.worth (k + 1) hk
          have y0 := worth_all HG.out.1.py.worth m (by omega)
          have y1 := worth_all HG.out.1.py.worth (m + 1) hm
          have bk : (k : Int) < (zl.length : Int) := by have := HG.out.2.2.2.2.2; omega
          have bk' : (k : Int) + 1 < (zl.length : Int) := by have := HG.out.2.2.2.2.2; omega
          have bm : (m : Int) < (yl.length : Int) := by omega
          have bm' : (m : Int) + 1 < (yl.length : Int) := by omega
          have bx1 : (k : Int) < (xl.length : Int) := by omega
          have bx2 : (k : Int) + 1 < (xl.length : Int) := by omega
          have n0 : (0 : Int) ≤ (k : Int) := by omega
          have n1 : (0 : Int) ≤ (m : Int) := by omega
          have s0 := FX.out.past
          have s1 := FX.out.left
          have s2 := FY.out.past
          have s3 := FY.out.left
          unfold fieldI at HL
          dsimp only at HL
          obtain ⟨r0, r1, k00, k01, k10, k11, w00, w01, w10, w11⟩ := K
          generalize at0 xl k = X0 at *
          generalize at0 xl (k + 1) = X1 at *
          generalize at0 yl m = Y0 at *
          generalize at0 yl (m + 1) = Y1 at *
          generalize at0 (rowZ zl k) m = z00 at *
          generalize at0 (rowZ zl k) (m + 1) = z01 at *
          generalize at0 (rowZ zl (k + 1)) m = z10 at *
          generalize at0 (rowZ zl (k + 1)) (m + 1) = z11 at *
          have HLL : Hid (gridH xl yl zl u v = upI ((z00 * (Y1 - dd) + z01 * (dd - Y0)) * (X1 - cc) + (z10 * (Y1 - dd) + z11 * (dd - Y0)) * (cc - X0)) ((Y1 - Y0) * (X1 - X0))) := by
            show gridH xl yl zl u v = _
            rw [field_ref, Int.mul_comm (Y1 - Y0)]; exact HL
          have sa := side_bd (M := Y1 - dd) (Q := dd - Y0) w00 w01 (by omega) (by omega) (by omega)
          have sb := side_bd (M := Y1 - dd) (Q := dd - Y0) w10 w11 (by omega) (by omega) (by omega)
          have sw := whole_bd (L := X1 - cc) (P := cc - X0) sa.2.2 sb.2.2 (by omega) (by omega) (by omega) (by omega) (by omega)
          have ap : 0 < (Y1 - Y0) * (X1 - X0) := Int.mul_pos (by omega) (by omega)
          have ab := mul_bdT (a := Y1 - Y0) (b := X1 - X0) (A := 2000000) (B := 2000000) (by omega) (by omega) (by omega) (by omega)
          have hn : ∀ w, Calls Try.prog 27 #[.int .i64 ((z00 * (Y1 - dd) + z01 * (dd - Y0)) * (X1 - cc) + (z10 * (Y1 - dd) + z11 * (dd - Y0)) * (cc - X0)), .int .i64 ((Y1 - Y0) * (X1 - X0))] w _ := fun w => up_any _ _ (by omega) (by omega) ap (by omega) w
          have v1 : IntKind.i64.wrap ((k : Int) + 1) = (k : Int) + 1 := wrap_id (by omega) (by omega)
          have v2 : IntKind.i64.wrap ((m : Int) + 1) = (m : Int) + 1 := wrap_id (by omega) (by omega)
          have v3 : IntKind.i64.wrap (Y1 - Y0) = Y1 - Y0 := wrap_id (by omega) (by omega)
          have v4 : IntKind.i64.wrap (X1 - X0) = X1 - X0 := wrap_id (by omega) (by omega)
          have v5 : IntKind.i64.wrap (Y1 - dd) = Y1 - dd := wrap_id (by omega) (by omega)
          have v6 : IntKind.i64.wrap (dd - Y0) = dd - Y0 := wrap_id (by omega) (by omega)
          have v7 : IntKind.i64.wrap (X1 - cc) = X1 - cc := wrap_id (by omega) (by omega)
          have v8 : IntKind.i64.wrap (cc - X0) = cc - X0 := wrap_id (by omega) (by omega)
          have v9 : IntKind.i64.wrap (z00 * (Y1 - dd)) = z00 * (Y1 - dd) := wrap_id (by omega) (by omega)
          have v10 : IntKind.i64.wrap (z01 * (dd - Y0)) = z01 * (dd - Y0) := wrap_id (by omega) (by omega)
          have v11 : IntKind.i64.wrap (z00 * (Y1 - dd) + z01 * (dd - Y0)) = z00 * (Y1 - dd) + z01 * (dd - Y0) := wrap_id (by omega) (by omega)
          have v12 : IntKind.i64.wrap (z10 * (Y1 - dd)) = z10 * (Y1 - dd) := wrap_id (by omega) (by omega)
          have v13 : IntKind.i64.wrap (z11 * (dd - Y0)) = z11 * (dd - Y0) := wrap_id (by omega) (by omega)
          have v14 : IntKind.i64.wrap (z10 * (Y1 - dd) + z11 * (dd - Y0)) = z10 * (Y1 - dd) + z11 * (dd - Y0) := wrap_id (by omega) (by omega)
          have v15 : IntKind.i64.wrap ((z00 * (Y1 - dd) + z01 * (dd - Y0)) * (X1 - cc)) = (z00 * (Y1 - dd) + z01 * (dd - Y0)) * (X1 - cc) := wrap_id (by omega) (by omega)
          have v16 : IntKind.i64.wrap ((z10 * (Y1 - dd) + z11 * (dd - Y0)) * (cc - X0)) = (z10 * (Y1 - dd) + z11 * (dd - Y0)) * (cc - X0) := wrap_id (by omega) (by omega)
          have v17 : IntKind.i64.wrap ((z00 * (Y1 - dd) + z01 * (dd - Y0)) * (X1 - cc) + (z10 * (Y1 - dd) + z11 * (dd - Y0)) * (cc - X0)) = (z00 * (Y1 - dd) + z01 * (dd - Y0)) * (X1 - cc) + (z10 * (Y1 - dd) + z11 * (dd - Y0)) * (cc - X0) := wrap_id (by omega) (by omega)
          have v18 : IntKind.i64.wrap ((Y1 - Y0) * (X1 - X0)) = (Y1 - Y0) * (X1 - X0) := wrap_id (by omega) (by omega)
          clear HL sa sb sw ap ab w00 w01 w10 w11 u0 u1 x0 x1 y0 y1 s0 s1 s2 s3 HF HG HB0 FX FY
          go_quiet (fail)
          go_upto_region 8 with fail
          go_quiet (fail)
          go_upto_region 9 with fail
          go_quiet (fail)
          go_upto_region 10 with fail
          generalize hW : World.drewN (World.drewN (World.drewN w1 _) _) _ = w2
          have b2 : Below w1.heap.size w1 w2 := by rw [← hW]; exact below_drewN (below_drewN (below_drewN (Below.refl _ _) _) _) _
          clear hW
          have d0 := cell_later b2 c0
          have d1 := cell_later b2 xk
          have d2 := cell_later b2 xk'
          have HB2 : Hid (Below w.heap.size w w2) := below_up HB.out b2
          clear b2 c0 c1 c2 xk xk' ym ym' r0 r1 k00 k01 k10 k11
          go_quiet ((go_at_call 27; exact Calls.quiet_of_same (hn _)))
          go_wp2_with fail
          go_ret
          exact ⟨by rw [HLL.out]; rfl, below_drewN HB2.out _⟩

end Go.Proofs.Ytngedehfaidphaa
