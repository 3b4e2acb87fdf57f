/-
  The contract of fulmartop.shared: servos, moved to where a sum asks them.
-/
import Derived.Test.YthijegfacnjooaaShareF
import Derived.Test.YthijegfacnjooaaShareQ
import Derived.Test.YthijegfacnjooaaServF
namespace Go.Proofs.Ythijegfacnjooaa
open Go.RowKit Plain

theorem infoServo : (Try.prog.info? 53).map (fun i => (i.zero, i.size, i.bytes)) = some (some (.agg #[.int .i64 0, .int .i64 0, .bool false]), 3, 24) := by kernel_rfl
theorem new_cell3 (w1 : World) (X Y Z : Value) (t : TypeId) : ∀ j u, [X, Y, Z][j]? = some u → (w1.alloc (.cells #[X, Y, Z] t)).cell? ((⟨w1.heap.size, 0, none⟩ : Addr).add j) = some u := by
  intro j u hu
  match j with
  | 0 => simp at hu; subst hu; simp [go_sem, Addr.add]
  | 1 => simp at hu; subst hu; simp [go_sem, Addr.add]
  | 2 => simp at hu; subst hu; simp [go_sem, Addr.add]
  | j + 3 => simp at hu
theorem dlU_get (T R : Int) (l : List Sv) (v s : Int) : ∀ n k, k < n → (dlU T R l v s n).getD k 0 = dlI T R l v s k
  | 0, k, h => by omega
  | n + 1, k, h => by
    rw [dlU, List.getD_eq_getElem?_getD]
    by_cases e : k = n
    · subst e; rw [List.getElem?_append_right (by rw [dlU_len]; omega), dlU_len]; simp
    · rw [List.getElem?_append_left (by rw [dlU_len]; omega), ← List.getD_eq_getElem?_getD]; exact dlU_get T R l v s n k (by omega)
theorem flatS_take {ls : List Sv} {k : Nat} (hk : k < ls.length) : flatS (ls.take (k + 1)) = flatS (ls.take k) ++ [.int .i64 (svAt ls k).1, .int .i64 (svAt ls k).2.1, .bool (svAt ls k).2.2] := by
  have e : ls.take (k + 1) = ls.take k ++ [svAt ls k] := by
    rw [List.take_add_one, List.getElem?_eq_getElem hk]
    simp [svAt, List.getD_eq_getElem?_getD, List.getElem?_eq_getElem hk]
  rw [e, flatS_app]
/-- A new servo, whatever came behind. -/
def NewR (K : Nat) (w : World) (V : Nat) : Prop := B3 w V (.int .i64 0) (.int .i64 0) (.bool false) ∧ FrA w V 3 ∧ K ≤ V
theorem NewR.le {K : Nat} {w : World} {V : Nat} (h : NewR K w V) : K ≤ V := h.2.2
theorem newR {K : Nat} {X w' : World} (hK : K ≤ X.heap.size) (hb : Below (X.alloc (.cells #[.int .i64 0, .int .i64 0, .bool false] 53)).heap.size (X.alloc (.cells #[.int .i64 0, .int .i64 0, .bool false] 53)) w') : NewR K w' X.heap.size := ⟨(B3.new _ _ _ _ _).later hb, FrA.new.later hb, hK⟩
theorem newRd {K : Nat} {X w' : World} (hK : K ≤ X.heap.size) (hb : Below (X.alloc (.cells #[.int .i64 0, .int .i64 0, .bool false] 53)).drew.heap.size (X.alloc (.cells #[.int .i64 0, .int .i64 0, .bool false] 53)).drew w') : NewR K w' X.heap.size := newR hK ((Below.refl _ _).drew.trans hb)
theorem keepSH {w wr u u' : World} {bl ol bt ot k : Nat} {T R S C i b g : Int} {o : Bool} (hb : Below u.heap.size u u') (h : (u.cell? ⟨w.heap.size, 0, none⟩ = some (.int .i64 T) ∧ u.cell? ⟨w.heap.size, 1, none⟩ = some (.int .i64 R) ∧ u.cell? ⟨w.heap.size, 2, none⟩ = some (.int .i64 S) ∧ u.cell? ⟨w.heap.size, 3, none⟩ = some (.int .i64 C)) ∧ (u.cell? ⟨bl, ol + k * 3, none⟩ = some (.int .i64 i) ∧ u.cell? ⟨bl, ol + k * 3 + 1, none⟩ = some (.int .i64 b) ∧ u.cell? ⟨bl, ol + k * 3 + 2, none⟩ = some (.bool o)) ∧ u.cell? ⟨bt, ot + k, none⟩ = some (.int .i64 g) ∧ Below wr.heap.size wr u) : (u'.cell? ⟨w.heap.size, 0, none⟩ = some (.int .i64 T) ∧ u'.cell? ⟨w.heap.size, 1, none⟩ = some (.int .i64 R) ∧ u'.cell? ⟨w.heap.size, 2, none⟩ = some (.int .i64 S) ∧ u'.cell? ⟨w.heap.size, 3, none⟩ = some (.int .i64 C)) ∧ (u'.cell? ⟨bl, ol + k * 3, none⟩ = some (.int .i64 i) ∧ u'.cell? ⟨bl, ol + k * 3 + 1, none⟩ = some (.int .i64 b) ∧ u'.cell? ⟨bl, ol + k * 3 + 2, none⟩ = some (.bool o)) ∧ u'.cell? ⟨bt, ot + k, none⟩ = some (.int .i64 g) ∧ Below wr.heap.size wr u' :=
  ⟨B4.later h.1 hb, ⟨cell_later hb h.2.1.1, cell_later hb h.2.1.2.1, cell_later hb h.2.1.2.2⟩, cell_later hb h.2.2.1, abelow_up h.2.2.2 hb⟩
theorem keepSHs {w wr u : World} {A q : Nat} {v : Value} {bl ol bt ot k : Nat} {T R S C i b g : Int} {o : Bool} (hA : wr.heap.size ≤ A) (hs : w.heap.size < wr.heap.size ∧ bl < wr.heap.size ∧ bt < wr.heap.size) (h : (u.cell? ⟨w.heap.size, 0, none⟩ = some (.int .i64 T) ∧ u.cell? ⟨w.heap.size, 1, none⟩ = some (.int .i64 R) ∧ u.cell? ⟨w.heap.size, 2, none⟩ = some (.int .i64 S) ∧ u.cell? ⟨w.heap.size, 3, none⟩ = some (.int .i64 C)) ∧ (u.cell? ⟨bl, ol + k * 3, none⟩ = some (.int .i64 i) ∧ u.cell? ⟨bl, ol + k * 3 + 1, none⟩ = some (.int .i64 b) ∧ u.cell? ⟨bl, ol + k * 3 + 2, none⟩ = some (.bool o)) ∧ u.cell? ⟨bt, ot + k, none⟩ = some (.int .i64 g) ∧ Below wr.heap.size wr u) : ((u.setCell ⟨A, q, none⟩ v).cell? ⟨w.heap.size, 0, none⟩ = some (.int .i64 T) ∧ (u.setCell ⟨A, q, none⟩ v).cell? ⟨w.heap.size, 1, none⟩ = some (.int .i64 R) ∧ (u.setCell ⟨A, q, none⟩ v).cell? ⟨w.heap.size, 2, none⟩ = some (.int .i64 S) ∧ (u.setCell ⟨A, q, none⟩ v).cell? ⟨w.heap.size, 3, none⟩ = some (.int .i64 C)) ∧ ((u.setCell ⟨A, q, none⟩ v).cell? ⟨bl, ol + k * 3, none⟩ = some (.int .i64 i) ∧ (u.setCell ⟨A, q, none⟩ v).cell? ⟨bl, ol + k * 3 + 1, none⟩ = some (.int .i64 b) ∧ (u.setCell ⟨A, q, none⟩ v).cell? ⟨bl, ol + k * 3 + 2, none⟩ = some (.bool o)) ∧ (u.setCell ⟨A, q, none⟩ v).cell? ⟨bt, ot + k, none⟩ = some (.int .i64 g) ∧ Below wr.heap.size wr (u.setCell ⟨A, q, none⟩ v) := by
  obtain ⟨h1, h2, h3⟩ := hs
  exact ⟨B4.sset h.1 (by omega), ⟨scell_other h.2.1.1 (sne_blk (by omega)), scell_other h.2.1.2.1 (sne_blk (by omega)), scell_other h.2.1.2.2 (sne_blk (by omega))⟩, scell_other h.2.2.1 (sne_blk (by omega)), h.2.2.2.setCell hA _⟩

set_option maxRecDepth 100000 in
set_option maxHeartbeats 4000000 in
theorem shared_ok (T R S C sum v : Int) (l : List Sv) (a : Option Addr) (ca : Nat) (hok : AllOk T R S C l) (h1 : 1 ≤ l.length) (h4 : l.length ≤ 4) (hv : IsLev T R l (clipI sum (tot T R l (-T)) (tot T R l T)) v) (w : World) (hw : VLs w a l) :
    Calls Try.prog 23 #[.agg #[.int .i64 T, .int .i64 R, .int .i64 S, .int .i64 C], .slice a l.length ca, .int .i64 sum] w fun e w' => (∃ x cap, e = .returned (.tuple #[.slice x l.length cap, .bool true]) ∧ VLs w' x (nxL T R l v (clipI sum (tot T R l (-T)) (tot T R l T)))) ∧ Below w.heap.size w w' := by
  obtain ⟨i0, hi, hz0, hz1, hz2⟩ := info_parts infoServo
  have HR := ahide (RB.new w T R S C)
  have HV := ahide hw
  have HOK := ahide hok
  have HLV := ahide hv
  obtain ⟨nx, HNX⟩ : ∃ nx, Hid (nxL T R l v (clipI sum (tot T R l (-T)) (tot T R l T)) = nx) := ⟨_, rfl⟩
  have HNL : Hid (nx.length = l.length) := by have := HNX.out; subst this; exact nx_len _ _ _ _ _
  have HAT : Hid (∀ k, k < l.length → svAt nx k = (dlI T R l v (clipI sum (tot T R l (-T)) (tot T R l T) - tot T R l v) k, (svAt l k).2.1, (svAt l k).2.2)) := by have := HNX.out; subst this; exact fun k hk => nx_at _ _ _ _ _ hk
  have HFR : Hid (Fr T R S C sum l nx) := by have := HNX.out; subst this; exact fr_mk hok hv
  rw [HNX.out]
  have hsp := fun u hu => spread_ok T R S C sum v l a ca hok h1 h4 hv u hu
  obtain ⟨s, HS⟩ : ∃ s, Hid (clipI sum (tot T R l (-T)) (tot T R l T) - tot T R l v = s) := ⟨_, rfl⟩
  rw [HS.out] at hsp HAT
  have hlen : (l.length : Int) ≤ 4 := by omega
  have hmx : Hid (l.length ≤ 4) := h4
  obtain ⟨tl, HTL⟩ : ∃ tl, Hid (dlU T R l v s l.length = tl) := ⟨_, rfl⟩
  rw [HTL.out] at hsp
  clear hw hok hv h4
  go_enter Try.func23, Try.ntmps23
  obtain ⟨q0, q1, q2, q3⟩ := HR.out.1
  go_wp2_with (go_at_call 47; refine (hsp _ (HV.out.later HR.out.2)).mono ?_; rintro e w2 ⟨⟨x, cx, rfl, hil⟩, hb2⟩; have HIL := ahide hil; have HR := ahide (HR.out.later hb2); clear hil hb2)
  clear q0 q1 q2 q3 hsp
  have HV2 := ahide (HV.out.later HR.out.2)
  clear HV
  go_loopw [10, 11] (fun vv ix wr => ∃ (k : Nat) (ao : Option Addr) (cv : Nat), k ≤ l.length ∧ ix = .int .i64 k ∧ vv = .slice ao k cv ∧ wr.ownsRow w2.heap.size 53 3 vv k (flatS (nx.take k)) ∧ Below w2.heap.size w2 wr) (fun _ ix _ => l.length - (intOf ix).toNat)
  case atStart => exact ⟨0, none, 0, by omega, rfl, rfl, by simpa [flatS] using World.ownsRow_nil _ _ _ _, Below.refl _ _⟩
  case round =>
    obtain ⟨k, ao, cv, hk, rfl, rfl, hown, hnx⟩ := hrel
    rename World => wr
    have HOW := ahide hown
    have HN := ahide hnx
    clear hown hnx
    have hrs : Hid (w2.heap.size ≤ wr.heap.size) := HN.out.size
    by_cases hlt : k < l.length
    · obtain ⟨bl, ol, rfl, d0, d1, d2⟩ := (HV2.out.later HN.out).at hlt
      have HIL' := HIL.out.later HN.out
      obtain ⟨bt, ot, rfl, g0⟩ := HIL'.at (k := k) (by have := HTL.out; subst this; rw [dlU_len]; exact hlt)
      have hgd : tl.getD k 0 = dlI T R l v s k := by have := HTL.out; subst this; exact dlU_get _ _ _ _ _ _ _ hlt
      rw [hgd] at g0
      have HQ := (HR.out.later HN.out).1
      have hsv := HOK.out.2 k hlt
      have hat := HAT.out k hlt
      have hsn := HFR.out.ok'.2 k (by rw [HNL.out]; exact hlt)
      have hnr := HFR.out.near k hlt
      rw [hat] at hsn hnr
      have hcl : clipI (dlI T R l v s k) (loR T R (svAt l k).1 (svAt l k).2.2) (hiR T R (svAt l k).1 (svAt l k).2.2) = dlI T R l v s k := by
        have a1 := svB_true hsn
        have a2 := arB_true HOK.out.1
        have a3 := svB_true hsv
        simp only at a1 hnr
        unfold clipI loR hiR mxA mnA
        cases ho : (svAt l k).2.2
        · have a4 := hnr ho
          simp only [Bool.false_eq_true, if_false]
          split
          · omega
          · split
            · omega
            · split <;> omega
        · have a4 := a1.2.2.1 ho
          simp only [if_true]
          rw [a4]; simp
      have hmv := move_ok T R S C (svAt l k).1 (svAt l k).2.1 (svAt l k).2.2 (dlI T R l v s k) (svE_mk HOK.out.1 hsv)
      rw [hcl] at hmv
      have HST : Hid (flatS (nx.take (k + 1)) = flatS (nx.take k) ++ [.int .i64 (dlI T R l v s k), .int .i64 (svAt l k).2.1, .bool (svAt l k).2.2]) := by
        have e := flatS_take (ls := nx) (k := k) (by rw [HNL.out]; exact hlt)
        rw [hat] at e; exact e
      clear hcl hnr hsn hat hgd hsv HIL'
      generalize flatS (nx.take k) = q at *
      generalize dlI T R l v s k = g at *
      generalize (svAt l k).1 = i at *
      generalize (svAt l k).2.1 = b at *
      generalize (svAt l k).2.2 = o at *
      have j0 : (0 : Int) ≤ (k : Int) := by omega
      have j1 : (k : Int) < (l.length : Int) := by omega
      have hgg : (g != g) = false := by simp
      go_upto_region 8 with fail
      have S0 : (wr.cell? ⟨w.heap.size, 0, none⟩ = some (.int .i64 T) ∧ wr.cell? ⟨w.heap.size, 1, none⟩ = some (.int .i64 R) ∧ wr.cell? ⟨w.heap.size, 2, none⟩ = some (.int .i64 S) ∧ wr.cell? ⟨w.heap.size, 3, none⟩ = some (.int .i64 C)) ∧ (wr.cell? ⟨bl, ol + k * 3, none⟩ = some (.int .i64 i) ∧ wr.cell? ⟨bl, ol + k * 3 + 1, none⟩ = some (.int .i64 b) ∧ wr.cell? ⟨bl, ol + k * 3 + 2, none⟩ = some (.bool o)) ∧ wr.cell? ⟨bt, ot + k, none⟩ = some (.int .i64 g) ∧ Below wr.heap.size wr wr := ⟨HQ, ⟨d0, d1, d2⟩, g0, Below.refl _ _⟩
      have LK : Hid (w.heap.size < wr.heap.size ∧ bl < wr.heap.size ∧ bt < wr.heap.size) := ahide ⟨World.block_lt_of_cell? wr ⟨w.heap.size, 0, none⟩ HQ.1, World.block_lt_of_cell? wr ⟨bl, ol + k * 3, none⟩ d0, World.block_lt_of_cell? wr ⟨bt, ot + k, none⟩ g0⟩
      have LW : Hid (wr.heap.size ≤ wr.heap.size) := ahide (Nat.le_refl _)
      have Z := ahide S0
      clear HQ d0 d1 d2 g0
      go_cut [12, 13] (fun p e u => ∃ V, p = .pointer (some ⟨V, 0, none⟩) ∧ e = .nilIface ∧ Below wr.heap.size wr u ∧ wr.heap.size ≤ V ∧ B3 u V (.int .i64 g) (.int .i64 b) (.bool o))
      case first =>
        go_region_held3 (fun u => (u.cell? ⟨w.heap.size, 0, none⟩ = some (.int .i64 T) ∧ u.cell? ⟨w.heap.size, 1, none⟩ = some (.int .i64 R) ∧ u.cell? ⟨w.heap.size, 2, none⟩ = some (.int .i64 S) ∧ u.cell? ⟨w.heap.size, 3, none⟩ = some (.int .i64 C)) ∧ (u.cell? ⟨bl, ol + k * 3, none⟩ = some (.int .i64 i) ∧ u.cell? ⟨bl, ol + k * 3 + 1, none⟩ = some (.int .i64 b) ∧ u.cell? ⟨bl, ol + k * 3 + 2, none⟩ = some (.bool o)) ∧ u.cell? ⟨bt, ot + k, none⟩ = some (.int .i64 g) ∧ Below wr.heap.size wr u)
          (first
            | (with_reducible assumption)
            | (with_reducible refine keepSH (abelow_alloc _ _) ?_; with_reducible assumption)
            | (with_reducible apply keepSH; with_reducible assumption; with_reducible assumption)
            | (with_reducible refine keepSH (abelow_alloc _ _) KS.out)
            | (with_reducible exact keepSHs (NewR.le NS.out) LK.out (keepSHs (NewR.le NS.out) LK.out (keepSHs (NewR.le NS.out) LK.out KS.out)))
            | (refine keepSH ?_ Z.out; exact (abelow_alloc _ _).drew)
            | (refine keepSH ?_ Z.out; exact (Below.refl _ _).drew))
          (first | (go_at_call 18; refine (hmv _).mono ?_; rintro e w' ⟨rfl, hb⟩; have KS := ahide (keepSH hb (by with_reducible assumption)); (first | (have NS := ahide (newR (K := wr.heap.size) (by exact LW.out) hb); obtain ⟨⟨f0, f1, f2⟩, ff, _⟩ := NS.out; have f3 := ff.1 0 (by omega); have f4 := ff.1 1 (by omega); have f5 := ff.1 2 (by omega)) | (have NS := ahide (newRd (K := wr.heap.size) (by exact LW.out) hb); obtain ⟨⟨f0, f1, f2⟩, ff, _⟩ := NS.out; have f3 := ff.1 0 (by omega); have f4 := ff.1 1 (by omega); have f5 := ff.1 2 (by omega)) | skip)))
        all_goals
          rename_i hH
          go_wp2_with fail
          go_meet
          (case rel =>
            first
              | exact ⟨_, rfl, rfl, hH.2.2.2, KS.out.2.2.2.size, B3.new _ _ _ _ _⟩
              | exact ⟨_, rfl, rfl, hH.2.2.2, NS.out.2.2, NS.out.1.sput _ _ _⟩)
      case rest =>
        obtain ⟨V, rfl, rfl, hW, hVV, hY⟩ := hcut
        rename World => wh
        have HW := ahide hW
        obtain ⟨y0, y1, y2⟩ := hY
        have g0 := (cell_later hW Z.out.2.2.1)
        have HOW2 := ahide (aowns_later HOW.out hW)
        have HN2 := ahide (HN.out.trans (hW.mono hrs.out))
        have hz : Hid (w2.heap.size ≤ wh.heap.size) := HN2.out.size
        clear S0 Z LK LW hmv hW hVV HOW
        go_upto_region 9 with fail
        go_quiet (fail)
        go_upto_region 11 with fail
        have y0 := cell_later (below_drewN (Below.refl wh.heap.size wh) nq) y0
        have y1 := cell_later (below_drewN (Below.refl wh.heap.size wh) nq) y1
        have y2 := cell_later (below_drewN (Below.refl wh.heap.size wh) nq) y2
        have HOW3 := ahide (aowns_later HOW2.out (below_drewN (Below.refl wh.heap.size wh) nq))
        have HN3 := ahide (HN2.out.trans ((below_drewN (Below.refl wh.heap.size wh) nq).mono hz.out))
        clear HOW2 HN2 hz HN
        generalize wh.drewN nq = wi at *
        have hz : w2.heap.size ≤ wi.heap.size := HN3.out.size
        have hl4 := hmx.out
        go_wp2_with (at_builtin; refine wpList_append_lies _ rfl _ _ 70 rfl w2.heap.size 53 i0 (.agg #[.int .i64 0, .int .i64 0, .bool false]) 3 24 Try.underlying70 hi hz0 hz1 hz2 rfl (by decide) _ _ _ rfl (HOW3.out.alloc _) ⟨wi.heap.size, 0, none⟩ 1 1 [.int .i64 g, .int .i64 b, .bool o] rfl rfl (new_cell3 wi _ _ _ _) (fun x hx => by simp at hx; rcases hx with rfl | rfl | rfl <;> rfl) (by omega) (by unfold maxLen; omega) (by omega) (by simp; omega) _ rfl ?_; intro ga cap w3 hown' hgrow hat hlt3)
        go_roundw
        case rel =>
          refine ⟨k + 1, some ⟨ga, 0, none⟩, cap, by omega, by go_num, rfl, ?_, ?_⟩
          · rw [HST.out]; exact hown'
          · exact (HN3.out.alloc hz _).grown hgrow (by simp; omega) (fun q hq => (HOW3.out.lt q hq).1)
        case measure => simp [intOf]; omega
    · have e : k = l.length := by omega
      subst e
      rw [← HNL.out, List.take_length] at HOW
      have HX := ahide (vls_of_owns HOW.out)
      clear HOW
      go_wp2
      go_ret2
      exact ⟨⟨ao, cv, rfl, HX.out⟩, abelow_up HR.out.2 HN.out⟩

end Go.Proofs.Ythijegfacnjooaa
