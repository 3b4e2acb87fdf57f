/-
  The contract of fulmarref.ServosFrom: so many servos, each of which may be; the dice are turned, and nothing else.
-/
import Derived.Test.YthijegfacnjooaaServF
namespace Go.Proofs.Ythijegfacnjooaa
open Go.RowKit Plain

theorem gbw_alloc {w0 W : World} {o : Obj} (h : Below w0.heap.size w0 W) : Below w0.heap.size w0 (W.alloc o) := abelow_up h (abelow_alloc _ _)
theorem gbw_drew {w0 W : World} (h : Below w0.heap.size w0 W) : Below w0.heap.size w0 W.drew := abelow_up h (Below.refl _ _).drew
theorem fr_dk {O P j : Nat} {w w' : World} (h : DK O w w') (hP : P ≠ O) (hl : P < w.heap.size) (hf : w.frozen? ⟨P, j, none⟩ = false) : w'.frozen? ⟨P, j, none⟩ = false :=
  (World.frozen?_of_block (w := w) (a := ⟨P, j, none⟩) (h.block P hl hP)).trans hf
theorem FrA.dk {O P n : Nat} {w w' : World} (h : FrA w P n) (k : DK O w w') (hP : P ≠ O) : FrA w' P n := ⟨fun j hj => fr_dk k hP h.2 (h.1 j hj), Nat.lt_of_lt_of_le h.2 k.size⟩
theorem B3.dk {O P : Nat} {w w' : World} {a b c : Value} (h : B3 w P a b c) (k : DK O w w') (hP : P ≠ O) : B3 w' P a b c := ⟨k.cell (p := ⟨P, 0, none⟩) hP h.1, k.cell (p := ⟨P, 1, none⟩) hP h.2.1, k.cell (p := ⟨P, 2, none⟩) hP h.2.2⟩
theorem infoSv : (Try.prog.info? 53).map (fun i => (i.zero, i.size, i.bytes)) = some (some (.agg #[.int .i64 0, .int .i64 0, .bool false]), 3, 24) := by kernel_rfl
theorem new_sv3 (w1 : World) (X Y Z : Value) (t : TypeId) : ∀ j u, [X, Y, Z][j]? = some u → (w1.alloc (.cells #[X, Y, Z] t)).cell? ((⟨w1.heap.size, 0, none⟩ : Addr).add j) = some u := by
  intro j u hu
  match j with
  | 0 => simp at hu; subst hu; simp [go_sem, Addr.add]
  | 1 => simp at hu; subst hu; simp [go_sem, Addr.add]
  | 2 => simp at hu; subst hu; simp [go_sem, Addr.add]
  | j + 3 => simp at hu
/-- A new servo, whatever came behind. -/
def NewD (O K : Nat) (w : World) (V : Nat) : Prop := B3 w V (.int .i64 0) (.int .i64 0) (.bool false) ∧ FrA w V 3 ∧ K ≤ V ∧ V ≠ O
theorem NewD.le {O K : Nat} {w : World} {V : Nat} (h : NewD O K w V) : K ≤ V := h.2.2.1
theorem NewD.dk {O K : Nat} {w w' : World} {V : Nat} (h : NewD O K w V) (k : DK O w w') : NewD O K w' V := ⟨h.1.dk k h.2.2.2, h.2.1.dk k h.2.2.2, h.2.2⟩
theorem NewD.dkd {O K : Nat} {w w' : World} {V : Nat} (h : NewD O K w V) (k : DK O w.drew w') : NewD O K w' V := h.dk ((DK.of_below (Below.refl _ _).drew).trans k)
theorem newD {O K : Nat} {X w' : World} (hK : O < K ∧ K ≤ X.heap.size) (hb : DK O (X.alloc (.cells #[.int .i64 0, .int .i64 0, .bool false] 53)) w') : NewD O K w' X.heap.size := NewD.dk ⟨B3.new _ _ _ _ _, FrA.new, hK.2, by omega⟩ hb
theorem newDd {O K : Nat} {X w' : World} (hK : O < K ∧ K ≤ X.heap.size) (hb : DK O (X.alloc (.cells #[.int .i64 0, .int .i64 0, .bool false] 53)).drew w') : NewD O K w' X.heap.size := newD hK ((DK.of_below (Below.refl _ _).drew).trans hb)
theorem keepSF {w wr u u' : World} {O : Nat} {T C : Int} (hO : O < w.heap.size) (hb : DK O u u') (h : (u.cell? ⟨w.heap.size, 0, none⟩ = some (.int .i64 T) ∧ u.cell? ⟨w.heap.size, 3, none⟩ = some (.int .i64 C)) ∧ DK O wr u) : (u'.cell? ⟨w.heap.size, 0, none⟩ = some (.int .i64 T) ∧ u'.cell? ⟨w.heap.size, 3, none⟩ = some (.int .i64 C)) ∧ DK O wr u' :=
  ⟨⟨hb.cell (p := ⟨w.heap.size, 0, none⟩) (by show w.heap.size ≠ O; omega) h.1.1, hb.cell (p := ⟨w.heap.size, 3, none⟩) (by show w.heap.size ≠ O; omega) h.1.2⟩, h.2.trans hb⟩
theorem keepSFs {w wr u : World} {O A q : Nat} {v : Value} {T C : Int} (hA : wr.heap.size ≤ A) (hs : w.heap.size < wr.heap.size) (h : (u.cell? ⟨w.heap.size, 0, none⟩ = some (.int .i64 T) ∧ u.cell? ⟨w.heap.size, 3, none⟩ = some (.int .i64 C)) ∧ DK O wr u) : ((u.setCell ⟨A, q, none⟩ v).cell? ⟨w.heap.size, 0, none⟩ = some (.int .i64 T) ∧ (u.setCell ⟨A, q, none⟩ v).cell? ⟨w.heap.size, 3, none⟩ = some (.int .i64 C)) ∧ DK O wr (u.setCell ⟨A, q, none⟩ v) :=
  ⟨⟨scell_other h.1.1 (sne_blk (by omega)), scell_other h.1.2 (sne_blk (by omega))⟩, h.2.sets rfl hA⟩
theorem Dc.room {w : World} {O V j K : Nat} {a : Option Addr} {l : List Int} {cap n : Nat} {x : Value} (h : Dc w O a l cap n) (hV : V ≠ O) (hK : K ≤ V) (hr : RawAt a l K) : Dc (w.setCell ⟨V, j, none⟩ x) O a l cap n :=
  h.set hV (fun b off e hl => by have := hr b off e hl; omega)
theorem SVS.room {w0 w : World} {O V j : Nat} {a l cap n T R S C v ls} {x : Value} (h : SVS w0 w O a l cap n T R S C v ls) (hV : V ≠ O) (hK : w0.heap.size < V) (hg : ∀ g, v.ownBlock = some g → g ≠ V) : SVS w0 (w.setCell ⟨V, j, none⟩ x) O a l cap n T R S C v ls :=
  ⟨h.1.room hV (Nat.le_of_lt hK) h.2.2.2.2.2, h.2.1.sset (by omega), owns_set h.2.2.1 hg, h.2.2.2.1.sets rfl (Nat.le_of_lt hK), h.2.2.2.2⟩
theorem cell_up {K : Nat} {w w' : World} {p : Addr} {v : Value} (hb : Below K w w') (hp : p.block < K) (h : w.cell? p = some v) : w'.cell? p = some v := (World.cell?_of_block (w := w) (hb.block p.block hp)).trans h
theorem SVS.grow {w0 w w' : World} {O : Nat} {a l cap n T R S C v ls v' ls'} (h : SVS w0 w O a l cap n T R S C v ls) (hb : Below (w0.heap.size + 1) w w') (hown : w'.ownsRow (w0.heap.size + 1) 53 3 v' ls'.length (flatS ls')) : SVS w0 w' O a l cap n T R S C v' ls' := by
  obtain ⟨⟨⟨h1, h2⟩, h3, h4, h5⟩, ⟨b0, b1, b2, b3⟩, _, hk, hO, hr⟩ := h
  have hO' : O < w0.heap.size + 1 := by omega
  refine ⟨⟨⟨cell_up hb hO' h1, cell_up hb hO' h2⟩, (World.frozen?_of_block (w := w) (a := ⟨O, 1, none⟩) (hb.block O hO')).trans h3, ?_, h5⟩, ⟨cell_up hb (Nat.lt_succ_self _) b0, cell_up hb (Nat.lt_succ_self _) b1, cell_up hb (Nat.lt_succ_self _) b2, cell_up hb (Nat.lt_succ_self _) b3⟩, hown, ⟨hb.os.trans hk.os, hb.tape.trans hk.tape, hb.output.trans hk.output, Nat.le_trans hk.size hb.size, fun k hk' ho => (hb.block k (by omega)).trans (hk.block k hk' ho)⟩, hO, hr⟩
  rcases h4 with h4 | ⟨b, off, h4, hc⟩
  · exact .inl h4
  · by_cases hl : l = []
    · exact .inl hl
    · exact .inr ⟨b, off, h4, fun k hk => cell_up hb (by have := hr b off h4 hl; simp; omega) (hc k hk)⟩
/-- All of them may be. -/
def SvOK (T C : Int) (ls : List Sv) : Prop := ∀ k, k < ls.length → svB T C (svAt ls k).1 (svAt ls k).2.1 (svAt ls k).2.2 = true
theorem SvOK.app {T C : Int} {ls : List Sv} {s : Sv} (h : SvOK T C ls) (hs : svB T C s.1 s.2.1 s.2.2 = true) : SvOK T C (ls ++ [s]) := fun k hk => by
  by_cases e : k < ls.length
  · have : svAt (ls ++ [s]) k = svAt ls k := by unfold svAt; rw [List.getD_eq_getElem?_getD, List.getD_eq_getElem?_getD, List.getElem?_append_left e]
    rw [this]; exact h k e
  · have : svAt (ls ++ [s]) k = s := by
      unfold svAt
      have hk' : k = ls.length := by simp at hk; omega
      subst hk'
      rw [List.getD_eq_getElem?_getD, List.getElem?_append_right (Nat.le_refl _)]; simp
    rw [this]; exact hs

set_option maxRecDepth 100000 in
set_option maxHeartbeats 4000000 in
theorem servosFrom_any (O : Nat) (a : Option Addr) (l : List Int) (cap n : Nat) (T R S C : Int) (m : Nat) (hn : n ≤ 800000) (hl : l.length ≤ 100) (t0 : 1 ≤ T) (t1 : T ≤ 1000) (c0 : 1 ≤ C) (c1 : C ≤ 10) (hm : m ≤ 100) (w : World) (hd : Dc w O a l cap n) (hraw : RawAt a l w.heap.size) :
    Calls Try.prog 21 #[.pointer (some ⟨O, 0, none⟩), .agg #[.int .i64 T, .int .i64 R, .int .i64 S, .int .i64 C], .int .i64 m] w fun e w' => (∃ (x : Option Addr) (cp : Nat) (ls : List Sv), ls.length = m ∧ e = .returned (.slice x ls.length cp) ∧ VLs w' x ls ∧ SvOK T C ls ∧ (∀ g off, x = some ⟨g, off, none⟩ → w.heap.size < g) ∧ ∃ q : Nat, q ≤ n + 4 * m ∧ Dc w' O a l cap q) ∧ DK O w w' := by
  obtain ⟨i0, hi, hz0, hz1, hz2⟩ := info_parts infoSv
  have hO := hd.lt
  have HO := ahide hO
  have v1 : IntKind.i64.wrap (2 * T) = 2 * T := swrap_id (by omega) (by omega)
  have v2 : IntKind.i64.wrap (2 * T + 1) = 2 * T + 1 := swrap_id (by omega) (by omega)
  have HX : Hid (SVS w (w.alloc (.cells #[.int .i64 T, .int .i64 R, .int .i64 S, .int .i64 C] 48)) O a l cap n T R S C (.slice none 0 0) []) :=
    ahide ⟨hd.later (abelow_alloc _ _), B4.new w _ _ _ _ _, World.ownsRow_nil _ _ _ _, DK.of_below (abelow_alloc _ _), hO, hraw⟩
  go_enter Try.func21, Try.ntmps21
  go_wp2
  generalize w.alloc (.cells #[.int .i64 T, .int .i64 R, .int .i64 S, .int .i64 C] 48) = w1 at *
  go_loopw [7, 8] (fun v ix wr => ∃ (k q : Nat) (ao : Option Addr) (cv : Nat) (ls : List Sv), k ≤ m ∧ ix = .int .i64 k ∧ v = .slice ao k cv ∧ ls.length = k ∧ q ≤ n + 4 * k ∧ SVS w wr O a l cap q T R S C v ls ∧ SvOK T C ls) (fun _ ix _ => m - (intOf ix).toNat)
  case atStart => exact ⟨0, n, none, 0, [], Nat.zero_le _, rfl, rfl, rfl, by omega, HX.out, fun k hk => by simp at hk⟩
  case round =>
    clear HX
    obtain ⟨k, q, ao, cv, ls, hk, rfl, rfl, hls, hq, hX, hsv⟩ := hrel
    have HX := ahide hX
    have HLS := ahide hls
    have HSV := ahide hsv
    clear hX hls hsv
    rename World => wr
    have hO2 : O < wr.heap.size := HX.out.1.lt
    have hw2 : w.heap.size < wr.heap.size := World.block_lt_of_cell? wr ⟨w.heap.size, 0, none⟩ HX.out.2.1.1
    have hgb : Hid (∀ g, (Value.slice ao k cv).ownBlock = some g → g < wr.heap.size) := ahide (fun g hg => (HX.out.2.2.1.lt g hg).2)
    by_cases hlt : k < m
    · have j0 : (0 : Int) ≤ (k : Int) := by omega
      have j1 : (k : Int) < (m : Int) := by omega
      go_upto_region 5 with fail
      have S0 : (wr.cell? ⟨w.heap.size, 0, none⟩ = some (.int .i64 T) ∧ wr.cell? ⟨w.heap.size, 3, none⟩ = some (.int .i64 C)) ∧ DK O wr wr := ⟨⟨HX.out.2.1.1, HX.out.2.1.2.2.2⟩, DK.refl _ _⟩
      have Z := ahide S0
      have HDC := ahide HX.out.1
      have LW : Hid (O < wr.heap.size ∧ wr.heap.size ≤ wr.heap.size) := ahide ⟨hO2, Nat.le_refl _⟩
      have HW2 := ahide hw2
      have TKA : Hid True := trivial
      have TKB : Hid True := trivial
      clear hO2 hw2
      go_cut [9] (fun p u => ∃ (V : Nat) (x y : Int), p = .pointer (some ⟨V, 0, none⟩) ∧ DK O wr u ∧ Dc u O a l cap (q + 2) ∧ (wr.heap.size ≤ V ∧ V ≠ O) ∧ (B3 u V (.int .i64 (x - T)) (.int .i64 y) (.bool false) ∧ FrA u V 3) ∧ (0 ≤ x ∧ x < 2 * T + 1) ∧ 0 ≤ y ∧ y < C)
      case first =>
        go_region_held3 (fun u => (u.cell? ⟨w.heap.size, 0, none⟩ = some (.int .i64 T) ∧ u.cell? ⟨w.heap.size, 3, none⟩ = some (.int .i64 C)) ∧ DK O wr u)
          (first
            | (with_reducible assumption)
            | (with_reducible refine keepSF HO.out (DK.of_below (abelow_alloc _ _)) ?_; with_reducible assumption)
            | (with_reducible refine keepSF HO.out (DK.of_below (abelow_alloc _ _)) KS2.out)
            | (with_reducible refine keepSF HO.out (DK.of_below (abelow_alloc _ _)) KS.out)
            | (with_reducible exact KS2.out)
            | (with_reducible exact KS.out)
            | (with_reducible exact keepSFs (NewD.le NS.out) HW2.out (keepSFs (NewD.le NS.out) HW2.out (keepSFs (NewD.le NS.out) HW2.out KS2.out)))
            | (refine keepSF HO.out ?_ Z.out; exact DK.of_below (abelow_alloc _ _).drew)
            | (refine keepSF HO.out ?_ Z.out; exact DK.of_below (Below.refl _ _).drew))
          (first
            | (go_at_call 29; clear TKA; refine (diceN_any O a l cap q (2 * T + 1) (by omega) (by omega) (by omega) hl _ (Dc.later HDC.out ?_)).mono ?_; (repeat' (first | with_reducible exact Below.refl _ _ | with_reducible apply gbw_alloc | with_reducible apply gbw_drew)); rintro e y1 ⟨⟨x, rfl, x0, x1⟩, hD, hK, hsz⟩; have KS := ahide (keepSF HO.out hK (by with_reducible assumption)); have HD1 := ahide hD; have v3 : IntKind.i64.wrap (x - T) = x - T := swrap_id (by omega) (by omega); have LW1 : Hid (O < wr.heap.size ∧ wr.heap.size ≤ y1.heap.size) := ahide ⟨LW.out.1, KS.out.2.size⟩; (first | (have NS := ahide (newD (K := wr.heap.size) (by exact LW.out) hK)) | (have NS := ahide (newDd (K := wr.heap.size) (by exact LW.out) hK)) | skip); clear hsz hD hK)
            | (go_at_call 29; clear TKB; refine (diceN_any O a l cap (q + 1) C (by omega) (by omega) (by omega) hl _ (Dc.later HD1.out ?_)).mono ?_; (repeat' (first | with_reducible exact Below.refl _ _ | with_reducible apply gbw_alloc | with_reducible apply gbw_drew)); rintro e y2 ⟨⟨y, rfl, y0, y1'⟩, hD, hK, hsz⟩; have KS2 := ahide (keepSF HO.out hK (by with_reducible assumption)); have HD2 := ahide hD; (first | (have NS := ahide (NewD.dk NS.out hK); obtain ⟨⟨f0, f1, f2⟩, ff, _⟩ := NS.out; have f3 := ff.1 0 (by omega); have f4 := ff.1 1 (by omega); have f5 := ff.1 2 (by omega); clear ff) | (have NS := ahide (NewD.dkd NS.out hK); obtain ⟨⟨f0, f1, f2⟩, ff, _⟩ := NS.out; have f3 := ff.1 0 (by omega); have f4 := ff.1 1 (by omega); have f5 := ff.1 2 (by omega); clear ff) | (have NS := ahide (newD (K := wr.heap.size) (by exact LW1.out) hK); obtain ⟨⟨f0, f1, f2⟩, ff, _⟩ := NS.out; have f3 := ff.1 0 (by omega); have f4 := ff.1 1 (by omega); have f5 := ff.1 2 (by omega); clear ff) | (have NS := ahide (newDd (K := wr.heap.size) (by exact LW1.out) hK); obtain ⟨⟨f0, f1, f2⟩, ff, _⟩ := NS.out; have f3 := ff.1 0 (by omega); have f4 := ff.1 1 (by omega); have f5 := ff.1 2 (by omega); clear ff) | skip); clear hsz hD hK))
        all_goals
          rename_i hH
          go_wp2_with fail
          go_meet
          (case rel =>
            first
              | exact ⟨_, x, y, rfl, hH.2, HD2.out.later (abelow_alloc _ _), ⟨KS2.out.2.size, Nat.ne_of_gt (Nat.lt_of_lt_of_le LW.out.1 KS2.out.2.size)⟩, ⟨B3.new _ _ _ _ _, FrA.new⟩, ⟨x0, x1⟩, y0, y1'⟩
              | exact ⟨_, x, y, rfl, hH.2, ((HD2.out.room NS.out.2.2.2 (Nat.le_trans (Nat.le_of_lt HW2.out) NS.out.2.2.1) hraw).room NS.out.2.2.2 (Nat.le_trans (Nat.le_of_lt HW2.out) NS.out.2.2.1) hraw).room NS.out.2.2.2 (Nat.le_trans (Nat.le_of_lt HW2.out) NS.out.2.2.1) hraw, NS.out.2.2, ⟨NS.out.1.sput _ _ _, NS.out.2.1.set.set.set⟩, ⟨x0, x1⟩, y0, y1'⟩)
      case rest =>
        obtain ⟨V, x, y, rfl, hK, hD, ⟨hV1, hV2⟩, ⟨hB, hF⟩, ⟨x0, x1⟩, y0, y1⟩ := hcut
        rename World => wb
        have HVO := ahide hV2
        have HVW := ahide (Nat.lt_of_lt_of_le HW2.out hV1)
        have HVG : Hid (∀ g, (Value.slice ao k cv).ownBlock = some g → g ≠ V) := ahide (fun g hg => by have := hgb.out g hg; omega)
        have HY := ahide (SVS.dk HX.out hD hK)
        have HBF := ahide (And.intro hB hF)
        clear hK hD hV1 hV2 hB hF HX S0 Z HDC LW TKA TKB HW2 hgb
        go_upto_region 6 with fail
        go_cut [31] (fun c u => ∃ bb : Bool, c = .bool bb ∧ SVS w u O a l cap (q + 3) T R S C (.slice ao k cv) ls ∧ B3 u V (.int .i64 (x - T)) (.int .i64 y) (.bool false) ∧ FrA u V 3)
        case first =>
          go_wp2_with (go_at_call 29; refine (diceN_any O a l cap (q + 2) 5 (by omega) (by omega) (by omega) hl _ HY.out.1).mono ?_; rintro e y3 ⟨⟨z, rfl, z0, z1⟩, hD, hK, hsz⟩; have HY2 := ahide (SVS.dk HY.out hD hK); have HB2 := ahide (And.intro (HBF.out.1.dk hK HVO.out) (HBF.out.2.dk hK HVO.out)); clear hsz hD hK)
          go_meet
          case rel => exact ⟨_, rfl, HY2.out, HB2.out⟩
        case rest =>
          obtain ⟨bb, rfl, hY, hB⟩ := hcut
          rename World => wc
          clear HY HBF
          have HY := ahide hY
          have HBF := ahide hB
          clear hY hB
          go_upto_if 31 with fail
          go_cut [9] (fun p u => p = .pointer (some ⟨V, 0, none⟩) ∧ ∃ (i b : Int) (o : Bool) (q' : Nat), q' ≤ q + 4 ∧ svB T C i b o = true ∧ SVS w u O a l cap q' T R S C (.slice ao k cv) ls ∧ B3 u V (.int .i64 i) (.int .i64 b) (.bool o))
          case first =>
            cases bb
            · go_wp2_with fail
              go_meet
              case rel => exact ⟨rfl, x - T, y, false, q + 3, by omega, sv_mk (by omega) (by omega) (fun h => by cases h) (fun _ => by omega), HY.out, HBF.out.1⟩
            · have v4 : IntKind.i64.wrap (C + 1) = C + 1 := swrap_id (by omega) (by omega)
              have q3 := HY.out.2.1.2.2.2
              go_wp2_with (go_at_call 29; refine (diceN_any O a l cap (q + 3) (C + 1) (by omega) (by omega) (by omega) hl _ HY.out.1).mono ?_; rintro e y4 ⟨⟨z, rfl, z0, z1⟩, hD, hK, hsz⟩; have HY2 := ahide (SVS.dk HY.out hD hK); have HB2 := ahide (And.intro (HBF.out.1.dk hK HVO.out) (HBF.out.2.dk hK HVO.out)); clear hsz hD hK q3; obtain ⟨⟨f0, f1, f2⟩, ff⟩ := HB2.out; have f3 := ff.1 0 (by omega); have f4 := ff.1 1 (by omega); have f5 := ff.1 2 (by omega); clear ff)
              go_meet
              case rel => exact ⟨rfl, 0, z, true, q + 4, by omega, sv_mk (by omega) (by omega) (fun _ => rfl) (fun h => by cases h), ((HY2.out.room HVO.out HVW.out HVG.out).room HVO.out HVW.out HVG.out).room HVO.out HVW.out HVG.out, HB2.out.1.sput _ _ _⟩
          case rest =>
            obtain ⟨rfl, i, b, o, q', hq', hsv, hY, hB⟩ := hcut
            rename World => we
            clear HY HBF
            have HY := ahide hY
            have HS1 := ahide hsv
            obtain ⟨f0, f1, f2⟩ := hB
            have hz : w.heap.size + 1 ≤ we.heap.size := World.block_lt_of_cell? we ⟨w.heap.size, 0, none⟩ hY.2.1.1
            have HOW := hY.2.2.1
            rw [HLS.out] at HOW
            have HOW := ahide HOW
            clear hY hsv
            go_wp2_with (at_builtin; refine wpList_append_lies _ rfl _ _ 70 rfl (w.heap.size + 1) 53 i0 (.agg #[.int .i64 0, .int .i64 0, .bool false]) 3 24 Try.underlying70 hi hz0 hz1 hz2 rfl (by decide) _ _ _ rfl (HOW.out.alloc _) ⟨we.heap.size, 0, none⟩ 1 1 [.int .i64 i, .int .i64 b, .bool o] rfl rfl (new_sv3 we _ _ _ _) (fun x hx => by simp at hx; rcases hx with rfl | rfl | rfl <;> rfl) (by omega) (by unfold maxLen; omega) (by omega) (by simp; omega) _ rfl ?_; intro ga cap' w3 hown' hgrow hat hlt3)
            go_roundw
            case rel =>
              have hlen : (ls ++ [(i, b, o)]).length = k + 1 := by simp [HLS.out]
              refine ⟨k + 1, q', some ⟨ga, 0, none⟩, cap', ls ++ [(i, b, o)], by omega, by go_num, rfl, hlen, by omega, ?_, HSV.out.app HS1.out⟩
              refine SVS.grow HY.out (((Below.refl _ _).alloc hz _).grown hgrow (by simp; omega) (fun q hq => (HOW.out.lt q hq).1)) ?_
              rw [hlen, flatS_app]
              exact hown'
            case measure => simp [intOf]; omega
    · go_wp2_with fail
      go_ret
      have hkm : k = m := by omega
      have e := HLS.out
      subst e
      exact ⟨⟨ao, cv, ls, hkm, rfl, vls_of_owns HX.out.2.2.1, HSV.out, fun g off e => (HX.out.2.2.1.lt g (by subst e; rfl)).1, q, by omega, HX.out.1⟩, HX.out.2.2.2.1⟩

end Go.Proofs.Ythijegfacnjooaa
