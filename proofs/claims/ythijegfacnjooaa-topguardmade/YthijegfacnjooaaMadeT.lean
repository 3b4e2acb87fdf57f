/-
  The walk of the law TopGuardMade.
-/
import Derived.Test.YthijegfacnjooaaTopG
import Derived.Test.YthijegfacnjooaaServG
import Derived.Test.YthijegfacnjooaaMadeC
namespace Go.Proofs.Ythijegfacnjooaa
open Go.RowKit Plain

theorem mul_bdm {s t : Int} (s0 : 2 ≤ s) (s1 : s ≤ 4) (t0 : 1 ≤ t) (t1 : t ≤ 1000) : 1 ≤ (s - 1) * t ∧ (s - 1) * t ≤ 3000 := by
  rcases (show s = 2 ∨ s = 3 ∨ s = 4 by omega) with rfl | rfl | rfl <;> omega
/-- The rule of an axis made of raw numbers. -/
theorem rule_made (a0 a1 a2 a3 a4 a5 a6 a7 a8 a9 a10 a11 a14 : Int) (ga gi : Value) (h : AxOK a0 a1 a2 a3 a4 a5 a6 a7 a10) (w : World) :
    Calls Try.prog 27 #[.agg #[.int .i64 a0, .int .i64 a1, .int .i64 a2, .int .i64 a3, .int .i64 a4, .int .i64 a5, .int .i64 a6, .int .i64 a7, .int .i64 a8, .int .i64 a9, .int .i64 a10, .int .i64 a11, ga, gi, .int .i64 a14]] w fun e w' => (∃ P M R : Int, e = .returned (.agg #[.int .i64 a0, .int .i64 a1, .int .i64 a2, .int .i64 P, .int .i64 M, .int .i64 R]) ∧ 1 ≤ M ∧ M ≤ 3000) ∧ Below w.heap.size w w' := by
  obtain ⟨lo, lh, hi, n0, n1, p0, p1, s0, s1, t0, t1, r0, r1, k0, k1, w0, w1⟩ := h
  refine (mguardRule_any a0 a1 a2 a3 a4 a5 a6 a7 a8 a9 a10 a11 a14 ga gi ⟨p0, p1⟩ ⟨k0, by omega⟩ ⟨s0, s1⟩ ⟨t0, t1⟩ ⟨r0, by omega⟩ w).mono ?_
  rintro e w' ⟨rfl, hb⟩
  exact ⟨⟨_, _, _, rfl, mul_bdm s0 s1 t0 t1⟩, hb⟩
/-- Numbers lie in a block of their own. -/
def IA (O : Nat) (w : World) (B m : Nat) : Prop := B ≠ O ∧ B < w.heap.size ∧ ∀ k, k < m → ∃ x, w.cell? ⟨B, k, none⟩ = some (.int .i64 x)
theorem IA.later {O B m : Nat} {w w' : World} (h : IA O w B m) (hb : Below w.heap.size w w') : IA O w' B m := ⟨h.1, Nat.lt_of_lt_of_le h.2.1 hb.size, fun k hk => by obtain ⟨x, hx⟩ := h.2.2 k hk; exact ⟨x, cell_later hb hx⟩⟩
theorem IA.alloc {O B m : Nat} {w : World} {o : Obj} (h : IA O w B m) : IA O (w.alloc o) B m := h.later (abelow_alloc _ _)
theorem IA.drew {O B m : Nat} {w : World} (h : IA O w B m) : IA O w.drew B m := h.later (Below.refl _ _).drew
theorem IA.dk {O B m : Nat} {w w' : World} (k : DK O w w') (h : IA O w B m) : IA O w' B m := ⟨h.1, Nat.lt_of_lt_of_le h.2.1 k.size, fun j hj => by obtain ⟨x, hx⟩ := h.2.2 j hj; exact ⟨x, k.cell (p := ⟨B, j, none⟩) h.1 hx⟩⟩
theorem IA.new3 {O B : Nat} {w : World} (x y z : Int) (t : TypeId) (hB : B = w.heap.size) (hO : O < w.heap.size) : IA O (w.alloc (.cells #[.int .i64 x, .int .i64 y, .int .i64 z] t)) B 3 := by
  subst hB
  refine ⟨by omega, by simp [go_sem], fun k hk => ?_⟩
  rcases (show k = 0 ∨ k = 1 ∨ k = 2 by omega) with rfl | rfl | rfl <;> exact ⟨_, by simp [go_sem]; rfl⟩
theorem IA.new4 {O B : Nat} {w : World} (x y z u : Int) (t : TypeId) (hB : B = w.heap.size) (hO : O < w.heap.size) : IA O (w.alloc (.cells #[.int .i64 x, .int .i64 y, .int .i64 z, .int .i64 u] t)) B 4 := by
  subst hB
  refine ⟨by omega, by simp [go_sem], fun k hk => ?_⟩
  rcases (show k = 0 ∨ k = 1 ∨ k = 2 ∨ k = 3 by omega) with rfl | rfl | rfl | rfl <;> exact ⟨_, by simp [go_sem]; rfl⟩
set_option maxHeartbeats 1000000 in
theorem diceMost_w (O B : Nat) (a : Option Addr) (l : List Int) (cap n m c2 : Nat) (hn : n ≤ 1000000) (hl : l.length ≤ 100) (hm : 0 < m) (hm' : m ≤ 100) (w : World) (hd : Dc w O a l cap n) (hc : IA O w B m) :
    Calls Try.prog 28 #[.pointer (some ⟨O, 0, none⟩), .slice (some ⟨B, 0, none⟩) m c2] w fun e w' => (∃ x, e = .returned (.int .i64 x)) ∧ Dc w' O a l cap (n + 1) ∧ DK O w w' ∧ w'.heap.size = w.heap.size := by
  have hN := diceN_any O a l cap n (m : Int) (by omega) (by omega) hn hl w hd
  have HC := ahide hc
  clear hc hd
  go_enter Try.func28, Try.ntmps28
  go_wp2_with (go_at_call 29; refine hN.mono ?_; rintro e w1 ⟨⟨x, rfl, x0, x1⟩, hD1, hK1, hs1⟩; obtain ⟨k, hk⟩ : ∃ k : Nat, x = (k : Int) := ⟨x.toNat, by omega⟩; subst hk; obtain ⟨z, hz⟩ := HC.out.2.2 k (by omega); have ck := hK1.cell (p := ⟨B, k, none⟩) HC.out.1 hz; have HD := ahide hD1; have HK := ahide hK1; have HS := ahide hs1; clear hD1 hK1 hs1 hz)
  go_ret
  exact ⟨⟨_, rfl⟩, HD.out, HK.out, HS.out⟩
theorem infoGust : (Try.prog.info? 84).map (fun i => (i.zero, i.size, i.bytes)) = some (some (.agg #[.int .i64 0, .int .i64 0, .int .i64 0]), 3, 24) := by kernel_rfl
/-- Three numbers each, as gusts. -/
theorem gls_of {w : World} {K : Nat} {a : Option Addr} {k cap : Nat} {zs : List Int} (hz : zs.length = k * 3) (h : w.ownsRow K 84 3 (.slice a k cap) k (zs.map (Value.int .i64))) : GLs w a (fun j => zs.getD (j * 3) 0) (fun j => zs.getD (j * 3 + 1) 0) (fun j => zs.getD (j * 3 + 2) 0) k := by
  by_cases h0 : k = 0
  · exact .inl h0
  · right
    obtain ⟨g, c, hv, _, _⟩ := h.form (by omega)
    simp only [Value.slice.injEq] at hv
    obtain ⟨rfl, _, rfl⟩ := hv
    have at' : ∀ j, j < k * 3 → w.cell? ⟨g, j, none⟩ = some (.int .i64 (zs.getD j 0)) := fun j hj => by
      rw [owns_at h rfl j hj, List.getElem?_map, List.getElem?_eq_getElem (by omega), List.getD_eq_getElem?_getD, List.getElem?_eq_getElem (by omega)]; rfl
    refine ⟨g, 0, rfl, fun j hj => ?_⟩
    rw [Nat.zero_add]
    exact ⟨at' _ (by omega), at' _ (by omega), at' _ (by omega)⟩
/-- All of it: the dice, the rule, the gusts so far. -/
def GMS (w0 w : World) (K O P : Nat) (a : Option Addr) (l : List Int) (cap n : Nat) (L H N V M R : Int) (v : Value) (k : Nat) (zs : List Int) : Prop :=
  Dc w O a l cap n ∧ (w.cell? ⟨P, 0, none⟩ = some (.int .i64 L) ∧ w.cell? ⟨P, 1, none⟩ = some (.int .i64 H) ∧ w.cell? ⟨P, 2, none⟩ = some (.int .i64 N) ∧ w.cell? ⟨P, 3, none⟩ = some (.int .i64 V) ∧ w.cell? ⟨P, 4, none⟩ = some (.int .i64 M) ∧ w.cell? ⟨P, 5, none⟩ = some (.int .i64 R)) ∧ w.ownsRow K 84 3 v k (zs.map (Value.int .i64)) ∧ Below w0.heap.size w0 w ∧ K ≤ w.heap.size
theorem GMS.step {w0 w y w' : World} {K O P : Nat} {a l cap n m L H N V M R v k zs v' k' zs'} (h : GMS w0 w K O P a l cap n L H N V M R v k zs) (hO : P ≠ O ∧ w0.heap.size ≤ O) (hK : (O < K ∧ P < K ∧ w0.heap.size ≤ K) ∧ RawAt a l K) (hd : Dc y O a l cap m) (hk : DK O w y) (hb : Below K y w') (hown : w'.ownsRow K 84 3 v' k' (zs'.map (Value.int .i64))) : GMS w0 w' K O P a l cap m L H N V M R v' k' zs' := by
  obtain ⟨_, ⟨c0, c1, c2, c3, c4, c5⟩, _, h4, h5⟩ := h
  obtain ⟨⟨k1, k2, k3⟩, hr⟩ := hK
  obtain ⟨⟨d1, d2⟩, d3, d4, d5⟩ := hd
  have up : ∀ j v, w.cell? ⟨P, j, none⟩ = some v → w'.cell? ⟨P, j, none⟩ = some v := fun j v hv => cell_up hb k2 (hk.cell (p := ⟨P, j, none⟩) hO.1 hv)
  refine ⟨⟨⟨cell_up hb k1 d1, cell_up hb k1 d2⟩, (World.frozen?_of_block (w := y) (a := ⟨O, 1, none⟩) (hb.block O k1)).trans d3, ?_, d5⟩, ⟨up 0 _ c0, up 1 _ c1, up 2 _ c2, up 3 _ c3, up 4 _ c4, up 5 _ c5⟩, hown, (hk.below h4 hO.2 h4.size).trans (hb.mono k3), Nat.le_trans (Nat.le_trans h5 hk.size) hb.size⟩
  rcases d4 with d4 | ⟨b, off, d4, hc⟩
  · exact .inl d4
  · by_cases hl : l = []
    · exact .inl hl
    · exact .inr ⟨b, off, d4, fun k hk => cell_up hb (by have := hr b off d4 hl; simpa using this) (hc k hk)⟩
theorem dk_chain {O : Nat} {w y X y' : World} (h : DK O w y) (hb : Below y.heap.size y X) (hk : DK O X y') : DK O w y' := h.trans ((DK.of_below hb).trans hk)
theorem keepGT {w u u' : World} {P : Nat} {N V M : Int} (hb : Below u.heap.size u u') (h : (u.cell? ⟨P, 2, none⟩ = some (.int .i64 N) ∧ u.cell? ⟨P, 3, none⟩ = some (.int .i64 V) ∧ u.cell? ⟨P, 4, none⟩ = some (.int .i64 M)) ∧ Below w.heap.size w u) : (u'.cell? ⟨P, 2, none⟩ = some (.int .i64 N) ∧ u'.cell? ⟨P, 3, none⟩ = some (.int .i64 V) ∧ u'.cell? ⟨P, 4, none⟩ = some (.int .i64 M)) ∧ Below w.heap.size w u' := ⟨⟨cell_later hb h.1.1, cell_later hb h.1.2.1, cell_later hb h.1.2.2⟩, abelow_up h.2 hb⟩
theorem keepGTd {w u u' : World} {P O : Nat} {N V M : Int} (hO : P ≠ O ∧ w.heap.size ≤ O) (hb : DK O u u') (h : (u.cell? ⟨P, 2, none⟩ = some (.int .i64 N) ∧ u.cell? ⟨P, 3, none⟩ = some (.int .i64 V) ∧ u.cell? ⟨P, 4, none⟩ = some (.int .i64 M)) ∧ Below w.heap.size w u) : (u'.cell? ⟨P, 2, none⟩ = some (.int .i64 N) ∧ u'.cell? ⟨P, 3, none⟩ = some (.int .i64 V) ∧ u'.cell? ⟨P, 4, none⟩ = some (.int .i64 M)) ∧ Below w.heap.size w u' :=
  ⟨⟨hb.cell (p := ⟨P, 2, none⟩) hO.1 h.1.1, hb.cell (p := ⟨P, 3, none⟩) hO.1 h.1.2.1, hb.cell (p := ⟨P, 4, none⟩) hO.1 h.1.2.2⟩, hb.below h.2 hO.2 h.2.size⟩
theorem keepGTg {w u u' : World} {P K : Nat} {N V M : Int} (hK : P < K ∧ w.heap.size ≤ K) (hb : Below K u u') (h : (u.cell? ⟨P, 2, none⟩ = some (.int .i64 N) ∧ u.cell? ⟨P, 3, none⟩ = some (.int .i64 V) ∧ u.cell? ⟨P, 4, none⟩ = some (.int .i64 M)) ∧ Below w.heap.size w u) : (u'.cell? ⟨P, 2, none⟩ = some (.int .i64 N) ∧ u'.cell? ⟨P, 3, none⟩ = some (.int .i64 V) ∧ u'.cell? ⟨P, 4, none⟩ = some (.int .i64 M)) ∧ Below w.heap.size w u' :=
  ⟨⟨cell_up hb hK.1 h.1.1, cell_up hb hK.1 h.1.2.1, cell_up hb hK.1 h.1.2.2⟩, h.2.trans (hb.mono hK.2)⟩

set_option maxRecDepth 100000 in
set_option maxHeartbeats 20000000 in
theorem topGuardMade_walk (a : Option Addr) (l : List Int) (cap : Nat) (hm : l.length ≤ 9223372036854775807) (x lean many : Int) (w : World) (hil : ILs w a l) :
    Calls Try.prog 7 #[.slice a l.length cap, .int .i64 x, .int .i64 lean, .int .i64 many] w fun e w' => e = .returned (.bool true) ∧ Below w.heap.size w w' := by
  obtain ⟨i0, hi, hz0, hz1, hz2⟩ := info_parts infoGust
  have HIL := ahide hil
  have HRAW := ahide (raw_of hil)
  clear hil
  by_cases hl : (100 : Int) < (l.length : Int)
  · go_enter Try.func7, Try.ntmps7
    go_wp2
    go_ret
    exact ⟨rfl, Below.refl _ _⟩
  · have hl' : l.length ≤ 100 := by omega
    have hfa := fld_axes
    have hif := idx_first
    have pk1 := pick_any lean 3 (by omega) (by omega)
    have d0 := Int.emod_nonneg lean (b := 3) (by omega)
    have d1 := Int.emod_lt_of_pos lean (b := 3) (by omega)
    have pk2 := pick_any many 200 (by omega) (by omega)
    have e0 := Int.emod_nonneg many (b := 200) (by omega)
    have e1 := Int.emod_lt_of_pos many (b := 200) (by omega)
    obtain ⟨m0, hm0⟩ : ∃ m0 : Nat, many % 200 = (m0 : Int) := ⟨(many % 200).toNat, by omega⟩
    rw [hm0] at pk2 e1
    clear hm0 e0
    generalize lean % 3 = le at *
    have v0 : IntKind.i64.wrap (le - 1) = le - 1 := gwrap_id (by omega) (by omega)
    go_enter Try.func7, Try.ntmps7
    go_upto_region 3 with fail
    go_cut [9] (fun p u => ∃ (P : Nat) (L H N V M R : Int), p = .pointer (some ⟨P, 0, none⟩) ∧ B6 u P L H N V M R ∧ Below w.heap.size w u ∧ (w.heap.size ≤ P ∧ P < u.heap.size) ∧ (0 ≤ N ∧ N ≤ 1000) ∧ 1 ≤ M ∧ M ≤ 3000)
    case first =>
      go_wp2_with (first
        | (go_at_call 20; refine (craft_two a l cap hl' _ HIL.out).mono ?_; rintro e w1 ⟨⟨a0, a1, a2, a3, a4, a5, a6, a7, a8, a9, a10, a11, a14, b0, b1, b2, b3, b4, b5, b6, b7, b8, b9, b10, b11, b14, ga, gi, gb, gj, y, z, rfl, hax, hbx⟩, hb1⟩; have HA := ahide hax; have HB1 := ahide hb1; clear hax hbx hb1)
        | (go_at_call 27; refine (rule_made a0 a1 a2 a3 a4 a5 a6 a7 a8 a9 a10 a11 a14 ga gi HA.out _).mono ?_; rintro e w2 ⟨⟨V, M, R, rfl, m1, m2⟩, hb2⟩; have HB2 := ahide (abelow_up HB1.out hb2); clear hb2))
      go_meet
      case rel => exact ⟨_, _, _, _, _, _, _, rfl, B6.new _ _ _ _ _ _ _ _, abelow_up HB2.out (abelow_alloc _ _), ⟨HB2.out.size, by simp⟩, ⟨HA.out.n0, HA.out.n1⟩, m1, m2⟩
    case rest =>
    obtain ⟨P, L, H, N, V, M, R, rfl, hX, hB3, ⟨hP1, hP2⟩, ⟨n0, n1⟩, m1, m2⟩ := hcut
    rename World => w3
    have HX := ahide hX
    have HB3 := ahide hB3
    have HP3 := ahide hP2
    clear hX hB3 hP1 hP2 hfa hif
    go_upto_region 4 with fail
    have v1 : IntKind.i64.wrap (-N) = -N := gwrap_id (by omega) (by omega)
    have v2 : IntKind.i64.wrap (M + 1) = M + 1 := gwrap_id (by omega) (by omega)
    go_wp2_with (go_at_call 13; refine (pk1 _).mono ?_; rintro e w' ⟨rfl, hq⟩; have hq := hq.symm; subst hq)
    have HPO : Hid (P ≠ w3.heap.size ∧ w.heap.size ≤ w3.heap.size) := ahide ⟨Nat.ne_of_lt HP3.out, HB3.out.size⟩
    have HD4 : Hid (Dc (w3.alloc (.cells #[.slice a l.length cap, .int .i64 5] 60)) w3.heap.size a l cap 5) := ahide ⟨⟨by simp [go_sem], by simp [go_sem]⟩, by simp [go_sem], HIL.out.later (gbw_alloc HB3.out), fun b off e hne => by have := HRAW.out b off e hne; have := HB3.out.size; omega⟩
    have HX4 := ahide (B6.later HX.out (abelow_alloc w3 (.cells #[.slice a l.length cap, .int .i64 5] 60)))
    have HB4 := ahide (gbw_alloc (o := .cells #[.slice a l.length cap, .int .i64 5] 60) HB3.out)
    have HK : Hid ((w3.heap.size < (w3.alloc (.cells #[.slice a l.length cap, .int .i64 5] 60)).heap.size ∧ P < (w3.alloc (.cells #[.slice a l.length cap, .int .i64 5] 60)).heap.size ∧ w.heap.size ≤ (w3.alloc (.cells #[.slice a l.length cap, .int .i64 5] 60)).heap.size) ∧ RawAt a l (w3.alloc (.cells #[.slice a l.length cap, .int .i64 5] 60)).heap.size) := ahide ⟨⟨by simp, by have := HP3.out; simp; omega, HB4.out.size⟩, fun b off e hne => Nat.lt_of_lt_of_le (HRAW.out b off e hne) HB4.out.size⟩
    have HG : Hid (GMS w (w3.alloc (.cells #[.slice a l.length cap, .int .i64 5] 60)) (w3.alloc (.cells #[.slice a l.length cap, .int .i64 5] 60)).heap.size w3.heap.size P a l cap 5 L H N V M R (.slice none 0 0) 0 []) := ahide ⟨HD4.out, HX4.out, World.ownsRow_nil _ _ _ _, HB4.out, Nat.le_refl _⟩
    clear HD4 HX4 HB4 HX HB3 HP3 HIL HRAW pk1
    generalize w3.alloc (.cells #[.slice a l.length cap, .int .i64 5] 60) = w4 at *
    generalize w3.heap.size = O at *
    generalize w4.heap.size = K at *
    have hPO := HPO
    go_loopw [11, 12] (fun v ix wr => ∃ (k q : Nat) (ao : Option Addr) (cv : Nat) (zs : List Int), k ≤ m0 ∧ ix = .int .i64 k ∧ v = .slice ao k cv ∧ zs.length = k * 3 ∧ q ≤ 5 + 5 * k ∧ GMS w wr K O P a l cap q L H N V M R v k zs) (fun _ ix _ => m0 - (intOf ix).toNat)
    case atStart => exact ⟨0, 5, none, 0, [], Nat.zero_le _, rfl, rfl, rfl, by omega, HG.out⟩
    case round =>
      clear HG
      obtain ⟨k, q, ao, cv, zs, hk, rfl, rfl, hzs, hq, hG⟩ := hrel
      have HG := ahide hG
      have HZS := ahide hzs
      clear hG hzs
      rename World => wr
      by_cases hlt : k < m0
      · have j0 : (0 : Int) ≤ (k : Int) := by omega
        have j1 : (k : Int) < (m0 : Int) := by omega
        go_upto_region 10 with (go_at_call 13; refine (pk2 _).mono ?_; rintro e w' ⟨rfl, hq⟩; have hq := hq.symm; subst hq)
        have S0 : (wr.cell? ⟨P, 2, none⟩ = some (.int .i64 N) ∧ wr.cell? ⟨P, 3, none⟩ = some (.int .i64 V) ∧ wr.cell? ⟨P, 4, none⟩ = some (.int .i64 M)) ∧ Below w.heap.size w wr := ⟨⟨HG.out.2.1.2.2.1, HG.out.2.1.2.2.2.1, HG.out.2.1.2.2.2.2.1⟩, HG.out.2.2.2.1⟩
        have Z := ahide S0
        have HD0 := ahide HG.out.1
        have HDK0 := ahide (DK.refl O wr)
        have LT0 : Hid (O < wr.heap.size) := HG.out.1.lt
        have HKW : Hid (K ≤ wr.heap.size) := HG.out.2.2.2.2
        have HOW := ahide HG.out.2.2.1
        have TK1 : Hid True := trivial
        have TK2 : Hid True := trivial
        have TK3 : Hid True := trivial
        have TK4 : Hid True := trivial
        have TK5 : Hid True := trivial
        go_region_held3 (fun u => (u.cell? ⟨P, 2, none⟩ = some (.int .i64 N) ∧ u.cell? ⟨P, 3, none⟩ = some (.int .i64 V) ∧ u.cell? ⟨P, 4, none⟩ = some (.int .i64 M)) ∧ Below w.heap.size w u)
          (first
            | (with_reducible assumption)
            | (with_reducible exact KS6.out)
            | (with_reducible exact KS5.out)
            | (with_reducible exact KS4.out)
            | (with_reducible exact KS3.out)
            | (with_reducible exact KS2.out)
            | (with_reducible exact KS1.out)
            | (with_reducible refine keepGT (abelow_alloc _ _) ?_; with_reducible assumption)
            | (refine keepGT ?_ Z.out; exact (abelow_alloc _ _).drew)
            | (refine keepGT ?_ Z.out; exact gbw_drew (gbw_alloc (abelow_alloc _ _)))
            | (refine keepGT ?_ Z.out; exact (Below.refl _ _).drew))
          (first
            | (go_at_call 29; clear TK1; refine (diceN_any O a l cap (q + 0) 2001 (by omega) (by omega) (by omega) hl' _ (Dc.later HD0.out ?_)).mono ?_; (repeat' (first | with_reducible exact Below.refl _ _ | with_reducible apply gbw_alloc | with_reducible apply gbw_drew)); rintro e y1 ⟨⟨x, rfl, x0, x1⟩, hD, hK, hsz⟩; have KS1 := ahide (keepGTd hPO.out hK (by with_reducible assumption)); have HD1 := ahide hD; have HK1 := ahide hK; have HDK1 := ahide (dk_chain HDK0.out (by (repeat' (first | with_reducible exact Below.refl _ _ | with_reducible apply gbw_alloc | with_reducible apply gbw_drew))) hK); have LT1 : Hid (O < y1.heap.size) := ahide (Nat.lt_of_lt_of_le LT0.out HDK1.out.size); clear hsz hD hK)
            | (go_at_call 28; clear TK2; refine (diceMost_w O _ a l cap (q + 1) _ _ (by omega) hl' (by omega) (by omega) _ (Dc.later HD1.out ?_) ?_).mono ?_; (repeat' (first | with_reducible exact Below.refl _ _ | with_reducible apply gbw_alloc | with_reducible apply gbw_drew)); (repeat' (first | (with_reducible refine IA.new3 _ _ _ _ ?_ ?_; (first | rfl | focus (simp; done)); (focus (have z0 := LT0.out; have z1 := LT1.out; first | omega | (simp; omega)))) | (with_reducible refine IA.new4 _ _ _ _ _ ?_ ?_; (first | rfl | focus (simp; done)); (focus (have z0 := LT0.out; have z1 := LT1.out; first | omega | (simp; omega)))) | with_reducible apply IA.alloc | with_reducible apply IA.drew | with_reducible apply IA.dk HK1.out)); rintro e y2 ⟨⟨g, rfl⟩, hD, hK, hsz⟩; have KS2 := ahide (keepGTd hPO.out hK (by with_reducible assumption)); have HD2 := ahide hD; have HK2 := ahide hK; have HDK2 := ahide (dk_chain HDK1.out (by (repeat' (first | with_reducible exact Below.refl _ _ | with_reducible apply gbw_alloc | with_reducible apply gbw_drew))) hK); have LT2 : Hid (O < y2.heap.size) := ahide (Nat.lt_of_lt_of_le LT0.out HDK2.out.size); clear hsz hD hK)
            | (go_at_call 28; clear TK3; refine (diceMost_w O _ a l cap (q + 2) _ _ (by omega) hl' (by omega) (by omega) _ (Dc.later HD2.out ?_) ?_).mono ?_; (repeat' (first | with_reducible exact Below.refl _ _ | with_reducible apply gbw_alloc | with_reducible apply gbw_drew)); (repeat' (first | (with_reducible refine IA.new3 _ _ _ _ ?_ ?_; (first | rfl | focus (simp; done)); (focus (have z0 := LT0.out; have z1 := LT1.out; have z2 := LT2.out; first | omega | (simp; omega)))) | (with_reducible refine IA.new4 _ _ _ _ _ ?_ ?_; (first | rfl | focus (simp; done)); (focus (have z0 := LT0.out; have z1 := LT1.out; have z2 := LT2.out; first | omega | (simp; omega)))) | with_reducible apply IA.alloc | with_reducible apply IA.drew | with_reducible apply IA.dk HK1.out | with_reducible apply IA.dk HK2.out)); rintro e y3 ⟨⟨s, rfl⟩, hD, hK, hsz⟩; have KS3 := ahide (keepGTd hPO.out hK (by with_reducible assumption)); have HD3 := ahide hD; have HK3 := ahide hK; have HDK3 := ahide (dk_chain HDK2.out (by (repeat' (first | with_reducible exact Below.refl _ _ | with_reducible apply gbw_alloc | with_reducible apply gbw_drew))) hK); have LT3 : Hid (O < y3.heap.size) := ahide (Nat.lt_of_lt_of_le LT0.out HDK3.out.size); clear hsz hD hK)
            | (go_at_call 28; clear TK4; refine (diceMost_w O _ a l cap (q + 3) _ _ (by omega) hl' (by omega) (by omega) _ (Dc.later HD3.out ?_) ?_).mono ?_; (repeat' (first | with_reducible exact Below.refl _ _ | with_reducible apply gbw_alloc | with_reducible apply gbw_drew)); (repeat' (first | (with_reducible refine IA.new3 _ _ _ _ ?_ ?_; (first | rfl | focus (simp; done)); (focus (have z0 := LT0.out; have z1 := LT1.out; have z2 := LT2.out; have z3 := LT3.out; first | omega | (simp; omega)))) | (with_reducible refine IA.new4 _ _ _ _ _ ?_ ?_; (first | rfl | focus (simp; done)); (focus (have z0 := LT0.out; have z1 := LT1.out; have z2 := LT2.out; have z3 := LT3.out; first | omega | (simp; omega)))) | with_reducible apply IA.alloc | with_reducible apply IA.drew | with_reducible apply IA.dk HK1.out | with_reducible apply IA.dk HK2.out | with_reducible apply IA.dk HK3.out)); rintro e y4 ⟨⟨r, rfl⟩, hD, hK, hsz⟩; have KS4 := ahide (keepGTd hPO.out hK (by with_reducible assumption)); have HD4 := ahide hD; have HK4 := ahide hK; have HDK4 := ahide (dk_chain HDK3.out (by (repeat' (first | with_reducible exact Below.refl _ _ | with_reducible apply gbw_alloc | with_reducible apply gbw_drew))) hK); have LT4 : Hid (O < y4.heap.size) := ahide (Nat.lt_of_lt_of_le LT0.out HDK4.out.size); clear hsz hD hK)
            | (go_at_call 29; clear TK5; refine (diceN_any O a l cap (q + 4) (M + 1) (by omega) (by omega) (by omega) hl' _ (Dc.later HD4.out ?_)).mono ?_; (repeat' (first | with_reducible exact Below.refl _ _ | with_reducible apply gbw_alloc | with_reducible apply gbw_drew)); rintro e y5 ⟨⟨t, rfl, t0, t1⟩, hD, hK, hsz⟩; have KS5 := ahide (keepGTd hPO.out hK (by with_reducible assumption)); have HD5 := ahide hD; have HK5 := ahide hK; have HDK5 := ahide (dk_chain HDK4.out (by (repeat' (first | with_reducible exact Below.refl _ _ | with_reducible apply gbw_alloc | with_reducible apply gbw_drew))) hK); have LT5 : Hid (O < y5.heap.size) := ahide (Nat.lt_of_lt_of_le LT0.out HDK5.out.size); have HOW5 := ahide (owns_dk HOW.out HDK5.out HK.out.1.1); have LK5 : Hid (K ≤ y5.heap.size) := ahide (Nat.le_trans HKW.out HDK5.out.size); clear hsz hD hK)
            | (refine step_append_lies _ rfl _ _ 79 rfl K 84 i0 (.agg #[.int .i64 0, .int .i64 0, .int .i64 0]) 3 24 Try.underlying79 hi hz0 hz1 hz2 rfl (by decide) _ _ _ rfl (HOW5.out.alloc _) ⟨y5.heap.size, 0, none⟩ 1 1 _ rfl rfl (new_sv3 y5 _ _ _ _) (fun x hx => by simp at hx; rcases hx with rfl | rfl | rfl <;> rfl) (by omega) (by unfold maxLen; omega) (by omega) (Nat.le_trans LK5.out (abelow_alloc _ _).size) _ rfl ?_; intro ga cap' w6 hown' hgrow hat hlt3; have HB6 := ahide (((Below.refl K y5).alloc LK5.out _).grown hgrow (Nat.le_trans LK5.out (abelow_alloc _ _).size) (fun q hq => (HOW5.out.lt q hq).1)); have KS6 := ahide (keepGTg ⟨HK.out.1.2.1, HK.out.1.2.2⟩ HB6.out KS5.out); have HOW6 := ahide hown'; clear hown' hgrow hat hlt3)
              | fail)
        all_goals
          go_wp2_with fail
          go_roundw
          (case rel => exact ⟨k + 1, q + 5, some ⟨ga, 0, none⟩, cap', zs ++ [_, _, _], by omega, by go_num, rfl, by simp [HZS.out]; omega, by omega, GMS.step HG.out hPO.out HK.out HD5.out HDK5.out HB6.out (by rw [List.map_append]; exact HOW6.out)⟩)
          (case measure => simp [intOf]; omega)
      · obtain ⟨gO, gU, gD, HL⟩ : ∃ gO gU gD, Hid (GLs wr ao gO gU gD k) := ⟨_, _, _, gls_of HZS.out HG.out.2.2.1⟩
        obtain ⟨⟨q0, q1, q2, q3, q4, q5⟩, HB⟩ := (⟨HG.out.2.1, ahide HG.out.2.2.2.1⟩ : _ ∧ Hid (Below w.heap.size w wr))
        have hk2 : ¬ (k : Int) < (m0 : Int) := by omega
        have hkm : k ≤ 9223372036854775807 := by omega
        clear HG HZS hlt v0 v1 v2 d0 d1 hi hz0 hz1 hz2
        go_wp2_with (first
          | (go_at_call 13; refine (pk2 _).mono ?_; rintro e w' ⟨rfl, hq⟩; have hq := hq.symm; subst hq)
          | (go_at_call 6; refine (topGuard_walk L H N V M R x ao cv gO gU gD k hkm wr HL.out).mono ?_; rintro e w7 ⟨rfl, hb7⟩; have HB7 := ahide (abelow_up HB.out hb7); clear hb7))
        go_ret
        exact ⟨rfl, HB7.out⟩

end Go.Proofs.Ythijegfacnjooaa
