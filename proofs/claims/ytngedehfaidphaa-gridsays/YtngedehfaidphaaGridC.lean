/-
  Contract of table.Height: it returns what the plain words say, and nothing that was there has turned.
-/
import Derived.Test.YtngedehfaidphaaGridB
namespace Go.Proofs.Ytngedehfaidphaa
open Go.RowKit Plain

theorem height_no (x y z : Option Addr) (cx cy cz : Nat) (A : Nat → Option Addr) (C : Nat → Nat) (xl yl : List Int) (zl : List (List Int)) (u v : Int) (w : World) (hm : xl.length ≤ 9223372036854775807) (hn : yl.length ≤ 9223372036854775807) (ho : zl.length ≤ 9223372036854775807) (hcx : xl.length ≤ cx) (hcy : yl.length ≤ cy)
    (hx : Lst w x xl) (hy : Lst w y yl) (hz : Rws w z A C zl) (h : gridI xl yl zl ≠ 0) :
    Calls Try.prog 19 #[.agg #[.slice x xl.length cx, .slice y yl.length cy, .slice z zl.length cz], .int .i64 u, .int .i64 v] w fun r w' => r = .returned (.tuple #[.int .i64 0, errV (gridI xl yl zl)]) ∧ Below w.heap.size w w' := by
  have hA := below_alloc w (.cells #[.slice x xl.length cx, .slice y yl.length cy, .slice z zl.length cz] 46)
  have ck := checkGrid_any x y z cx cy cz A C xl yl zl _ hm hn ho hcx hcy (hx.later hA) (hy.later hA) (hz.later hA)
  rw [errV_ne h] at ck ⊢
  clear hx hy hz h
  go_enter Try.func19, Try.ntmps19
  go_wp2_with (go_at_call 20; refine ck.mono ?_; rintro e w1 ⟨rfl, hb1⟩)
  go_ret2
  exact ⟨rfl, below_up hA hb1⟩

/-- The four corners of a field, in a world. -/
structure Corners (w : World) (bz oz : Nat) (C : Nat → Nat) (ly i j : Nat) (z00 z01 z10 z11 : Int) (b0 o0 b1 o1 : Nat) : Prop where
  r0 : w.cell? ⟨bz, oz + i, none⟩ = some (.slice (some ⟨b0, o0, none⟩) ly (C i))
  r1 : w.cell? ⟨bz, oz + (i + 1), none⟩ = some (.slice (some ⟨b1, o1, none⟩) ly (C (i + 1)))
  c00 : w.cell? ⟨b0, o0 + j, none⟩ = some (.int .i64 z00)
  c01 : w.cell? ⟨b0, o0 + (j + 1), none⟩ = some (.int .i64 z01)
  c10 : w.cell? ⟨b1, o1 + j, none⟩ = some (.int .i64 z10)
  c11 : w.cell? ⟨b1, o1 + (j + 1), none⟩ = some (.int .i64 z11)
  w00 : -1000000 ≤ z00 ∧ z00 ≤ 1000000
  w01 : -1000000 ≤ z01 ∧ z01 ≤ 1000000
  w10 : -1000000 ≤ z10 ∧ z10 ≤ 1000000
  w11 : -1000000 ≤ z11 ∧ z11 ≤ 1000000
theorem corners_of {w : World} {z : Option Addr} {A : Nat → Option Addr} {C : Nat → Nat} {xl yl : List Int} {zl : List (List Int)} (g : Gridded xl yl zl) (hz : Rws w z A C zl) {bz oz : Nat} (ez : z = some ⟨bz, oz, none⟩) {i j : Nat} (hi : i + 1 < xl.length) (hj : j + 1 < yl.length) :
    ∃ b0 o0 b1 o1, Corners w bz oz C yl.length i j (at0 (rowZ zl i) j) (at0 (rowZ zl i) (j + 1)) (at0 (rowZ zl (i + 1)) j) (at0 (rowZ zl (i + 1)) (j + 1)) b0 o0 b1 o1 := by
  have hl := g.len
  obtain ⟨b, off, e, h⟩ := hz.at (k := i) (by omega)
  rw [ez] at e; cases e
  have g0 := g.row i (by omega)
  have g1 := g.row (i + 1) (by omega)
  obtain ⟨h0, l0, _⟩ := h i (by omega)
  obtain ⟨h1, l1, _⟩ := h (i + 1) (by omega)
  obtain ⟨b0, o0, e0, k0⟩ := l0.at (ne_nil_of_lt (k := 0) (by omega))
  obtain ⟨b1, o1, e1, k1⟩ := l1.at (ne_nil_of_lt (k := 0) (by omega))
  rw [e0, g0.1] at h0
  rw [e1, g1.1] at h1
  exact ⟨b0, o0, b1, o1, h0, h1, k0 j (by omega), k0 (j + 1) (by omega), k1 j (by omega), k1 (j + 1) (by omega), worth_all g0.2 j (by omega), worth_all g0.2 (j + 1) (by omega), worth_all g1.2 j (by omega), worth_all g1.2 (j + 1) (by omega)⟩
theorem grid_lies {u : World} {x y z : Option Addr} {A : Nat → Option Addr} {C : Nat → Nat} {xl yl : List Int} {zl : List (List Int)} (g : Gridded xl yl zl) (hx : Lst u x xl) (hy : Lst u y yl) (hz : Rws u z A C zl) : ∃ bx ox bY oy bz oz, x = some ⟨bx, ox, none⟩ ∧ y = some ⟨bY, oy, none⟩ ∧ z = some ⟨bz, oz, none⟩ := by
  have := g.px.lo
  have := g.py.lo
  have := g.len
  obtain ⟨bx, ox, e1, _⟩ := hx.at (ne_nil_of_lt (k := 0) (by omega))
  obtain ⟨bY, oy, e2, _⟩ := hy.at (ne_nil_of_lt (k := 0) (by omega))
  obtain ⟨bz, oz, e3, _⟩ := hz.at (k := 0) (by omega)
  exact ⟨bx, ox, bY, oy, bz, oz, e1, e2, e3⟩
theorem Lst.cells {w : World} {b off : Nat} {l : List Int} (h : Lst w (some ⟨b, off, none⟩) l) : ∀ k, k < l.length → w.cell? ⟨b, off + k, none⟩ = some (.int .i64 (at0 l k)) := by
  intro k hk
  obtain ⟨b', off', e, q⟩ := h.at (ne_nil_of_lt hk)
  cases e; exact q k hk

set_option maxRecDepth 100000 in
set_option maxHeartbeats 4000000 in
theorem height_ok (bx ox bY oy bz oz : Nat) (cx cy cz : Nat) (A : Nat → Option Addr) (C : Nat → Nat) (xl yl : List Int) (zl : List (List Int)) (u v : Int) (w : World) (hcx : xl.length ≤ cx) (hcy : yl.length ≤ cy)
    (hx : Lst w (some ⟨bx, ox, none⟩) xl) (hy : Lst w (some ⟨bY, oy, none⟩) yl) (hz : Rws w (some ⟨bz, oz, none⟩) A C zl) (h : gridI xl yl zl = 0) :
    Calls Try.prog 19 #[.agg #[.slice (some ⟨bx, ox, none⟩) xl.length cx, .slice (some ⟨bY, oy, none⟩) yl.length cy, .slice (some ⟨bz, oz, none⟩) zl.length cz], .int .i64 u, .int .i64 v] w fun r w' => r = .returned (.tuple #[.int .i64 (gridH xl yl zl u v), .nilIface]) ∧ Below w.heap.size w w' := by
  have G := grid_of h
  have lx := G.px.lo
  have lx' := G.px.hi
  have ly := G.py.lo
  have ly' := G.py.hi
  have lz := G.len
  have Z := startG w _ _ _ cx cy cz A C xl yl zl hx hy hz
  have S0 := Z _ (Below.refl _ _)
  have ck := checkGrid_any _ _ _ cx cy cz A C xl yl zl _ (by omega) (by omega) (by omega) hcx hcy S0.2.1 S0.2.2.1 S0.2.2.2.1
  rw [h] at ck
  have ck' : Calls Try.prog 20 _ _ fun r u' => r = .returned .nilIface ∧ (u'.cell? ⟨w.heap.size, 0, none⟩ = some (.slice (some ⟨bx, ox, none⟩) xl.length cx) ∧ u'.cell? ⟨w.heap.size, 1, none⟩ = some (.slice (some ⟨bY, oy, none⟩) yl.length cy) ∧ u'.cell? ⟨w.heap.size, 2, none⟩ = some (.slice (some ⟨bz, oz, none⟩) zl.length cz)) ∧ RG w w.heap.size (some ⟨bx, ox, none⟩) (some ⟨bY, oy, none⟩) (some ⟨bz, oz, none⟩) A C xl yl zl u' := ck.mono fun _ _ ⟨e, hb⟩ => ⟨e, keepG hb S0⟩
  have HG : Hid (Gridded xl yl zl ∧ 2 ≤ xl.length ∧ xl.length ≤ 8 ∧ 2 ≤ yl.length ∧ yl.length ≤ 8 ∧ zl.length = xl.length) := ⟨G, lx, lx', ly, ly', lz⟩
  clear G lx lx' ly ly' lz Z S0 ck hx hy hz h
  go_enter Try.func19, Try.ntmps19
  go_upto_region 4 with (go_at_call 20; refine ck'.mono ?_; rintro e w1 ⟨rfl, ⟨c0, c1, c2⟩, R1⟩)
  have kx := stand_any bx ox cx xl u w1 HG.out.1.px R1.1.cells
  go_upto_region 5 with (go_at_call 37; refine kx.mono ?_; rintro e w2 ⟨i, rfl, si, n, rfl⟩)
  obtain ⟨w3, hw3⟩ : ∃ w3, w1.drewN n = w3 := ⟨_, rfl⟩
  have b3 : Below w1.heap.size w1 w3 := by rw [← hw3]; exact below_drewN (Below.refl _ _) _
  rw [hw3]
  clear hw3 kx
  obtain ⟨⟨d0, d1, d2⟩, R3⟩ := keepG b3 ⟨⟨c0, c1, c2⟩, R1⟩
  clear c0 c1 c2 R1 b3
  have ky := stand_any bY oy cy yl v w3 HG.out.1.py R3.2.1.cells
  go_upto_region 6 with (go_at_call 37; refine ky.mono ?_; rintro e w4 ⟨j, rfl, sj, m, rfl⟩)
  obtain ⟨w5, hw5⟩ : ∃ w5, w3.drewN m = w5 := ⟨_, rfl⟩
  have b5 : Below w3.heap.size w3 w5 := by rw [← hw5]; exact below_drewN (Below.refl _ _) _
  rw [hw5]
  clear hw5 ky
  obtain ⟨⟨e0, e1, e2⟩, R5⟩ := keepG b5 ⟨⟨d0, d1, d2⟩, R3⟩
  clear d0 d1 d2 R3 b5
  obtain ⟨b0, o0, b1, o1, K⟩ := corners_of HG.out.1 R5.2.2.1 rfl si.lt sj.lt
  have HL := gridH_fits (z := zl) HG.out.1.px HG.out.1.py si.fits sj.fits
  have HB : Hid (Below w.heap.size w w5) := R5.2.2.2
  have xi := HG.out.1.px.up i si.lt
  have yj := HG.out.1.py.up j sj.lt
  have x0 := worth_all HG.out.1.px.worth i (by have := si.lt; omega)
  have x1 := worth_all HG.out.1.px.worth (i + 1) si.lt
  have y0 := worth_all HG.out.1.py.worth j (by have := sj.lt; omega)
  have y1 := worth_all HG.out.1.py.worth (j + 1) sj.lt
  have i1 : i + 1 < zl.length := by have := si.lt; have := HG.out.2.2.2.2.2; omega
  have j1 := sj.lt
  have i8 : i ≤ 8 := by have := si.lt; have := HG.out.2.2.1; omega
  have j8 : j ≤ 8 := by have := sj.lt; have := HG.out.2.2.2.2.1; omega
  have s0 := si.past
  have s1 := si.left
  have s2 := sj.past
  have s3 := sj.left
  unfold fieldI at HL
  dsimp only at HL
  clear si sj R5 HG e0 e1
  generalize clipE xl u = cc at *
  generalize clipE yl v = dd at *
  generalize at0 xl i = X0 at *
  generalize at0 xl (i + 1) = X1 at *
  generalize at0 yl j = Y0 at *
  generalize at0 yl (j + 1) = Y1 at *
  obtain ⟨r0, r1, k00, k01, k10, k11, w00, w01, w10, w11⟩ := K
  generalize at0 (rowZ zl i) j = z00 at *
  generalize at0 (rowZ zl i) (j + 1) = z01 at *
  generalize at0 (rowZ zl (i + 1)) j = z10 at *
  generalize at0 (rowZ zl (i + 1)) (j + 1) = z11 at *
  obtain ⟨L, hL⟩ : ∃ f, f = X1 - cc := ⟨_, rfl⟩
  obtain ⟨P, hP⟩ : ∃ f, f = cc - X0 := ⟨_, rfl⟩
  obtain ⟨M, hM⟩ : ∃ f, f = Y1 - dd := ⟨_, rfl⟩
  obtain ⟨Q, hQ⟩ : ∃ f, f = dd - Y0 := ⟨_, rfl⟩
  have p0 : 0 ≤ L := by omega
  have p1 : 0 ≤ P := by omega
  have p2 : 0 ≤ M := by omega
  have p3 : 0 ≤ Q := by omega
  have p4 : L + P ≤ 2000000 := by omega
  have p5 : M + Q ≤ 2000000 := by omega
  have p6 : 0 < P + L := by omega
  have p7 : 0 < Q + M := by omega
  have ex : X1 - X0 = P + L := by omega
  have ey : Y1 - Y0 = Q + M := by omega
  rw [← hL, ← hP, ← hM, ← hQ, ex, ey] at HL
  rw [← hL, ← hP, ← hM, ← hQ]
  have HLL : Hid (gridH xl yl zl u v = upI (z00 * L * M + z01 * L * Q + z10 * P * M + z11 * P * Q) ((P + L) * (Q + M))) := HL
  clear hL hP hM hQ ex ey HL xi yj x0 x1 y0 y1 s0 s1 s2 s3
  obtain ⟨a1, a2, a3, a4, a5, a6⟩ := area p0 p1 p2 p3 p4 p5
  have ap : 0 < (P + L) * (Q + M) := Int.mul_pos p6 p7
  have t0 := term_bd w00.1 w00.2 p0 (by omega) p2
  have t1 := term_bd w01.1 w01.2 p0 (by omega) p3
  have t2 := term_bd w10.1 w10.2 p1 (by omega) p2
  have t3 := term_bd w11.1 w11.2 p1 (by omega) p3
  have ab : (P + L) * (Q + M) ≤ 4000000000000 := by omega
  have hn : ∀ w, Calls Try.prog 38 #[.int .i64 (z00 * L * M + z01 * L * Q + z10 * P * M + z11 * P * Q), .int .i64 ((P + L) * (Q + M))] w _ := fun w => nearest_any _ _ (by omega) (by omega) ap ab w
  clear a6
  generalize hLM : L * M = lm at *
  generalize hLQ : L * Q = lq at *
  generalize hPM : P * M = pm at *
  generalize hPQ : P * Q = pq at *
  clear hLM hLQ hPM hPQ
  have bi : (i : Int) < (zl.length : Int) := by omega
  have bi' : (i : Int) + 1 < (zl.length : Int) := by omega
  have bj : (j : Int) < (yl.length : Int) := by omega
  have bj' : (j : Int) + 1 < (yl.length : Int) := by omega
  have n0 : (0 : Int) ≤ (i : Int) := by omega
  have n1 : (0 : Int) ≤ (j : Int) := by omega
  have ti : ((i : Int) + 1).toNat = i + 1 := by omega
  have tj : ((j : Int) + 1).toNat = j + 1 := by omega
  have v1 : IntKind.i64.wrap ((i : Int) + 1) = (i : Int) + 1 := wrap_id (by omega) (by omega)
  have v2 : IntKind.i64.wrap ((j : Int) + 1) = (j : Int) + 1 := wrap_id (by omega) (by omega)
  have v3 : IntKind.i64.wrap (z00 * L) = z00 * L := wrap_id (by omega) (by omega)
  have v4 : IntKind.i64.wrap (z00 * L * M) = z00 * L * M := wrap_id (by omega) (by omega)
  have v5 : IntKind.i64.wrap (z01 * L) = z01 * L := wrap_id (by omega) (by omega)
  have v6 : IntKind.i64.wrap (z01 * L * Q) = z01 * L * Q := wrap_id (by omega) (by omega)
  have v7 : IntKind.i64.wrap (z10 * P) = z10 * P := wrap_id (by omega) (by omega)
  have v8 : IntKind.i64.wrap (z10 * P * M) = z10 * P * M := wrap_id (by omega) (by omega)
  have v9 : IntKind.i64.wrap (z11 * P) = z11 * P := wrap_id (by omega) (by omega)
  have v10 : IntKind.i64.wrap (z11 * P * Q) = z11 * P * Q := wrap_id (by omega) (by omega)
  have v11 : IntKind.i64.wrap (z00 * L * M + z01 * L * Q) = z00 * L * M + z01 * L * Q := wrap_id (by omega) (by omega)
  have v12 : IntKind.i64.wrap (z00 * L * M + z01 * L * Q + z10 * P * M) = z00 * L * M + z01 * L * Q + z10 * P * M := wrap_id (by omega) (by omega)
  have v13 : IntKind.i64.wrap (z00 * L * M + z01 * L * Q + z10 * P * M + z11 * P * Q) = z00 * L * M + z01 * L * Q + z10 * P * M + z11 * P * Q := wrap_id (by omega) (by omega)
  clear t0 t1 t2 t3 a1 a2 a3 a4 a5 w00 w01 w10 w11
  go_quiet (fail)
  go_wp2_with (go_at_call 38; refine (hn _).mono ?_; rintro e w' ⟨rfl, n2, rfl⟩)
  go_ret2
  exact ⟨by rw [HLL.out]; rfl, below_drewN HB.out _⟩

end Go.Proofs.Ytngedehfaidphaa
