/-
  The contract of fulmarref.Spread.
-/
import Derived.Test.YtbgabomjiibphaaShareF
namespace Go.Proofs.Ytbgabomjiibphaa
open Go.RowKit Plain

theorem keepR4 {w u u' : World} {T R S C : Int} (hb : Below u.heap.size u u') (h : (u.cell? ⟨w.heap.size, 0, none⟩ = some (.int .i64 T) ∧ u.cell? ⟨w.heap.size, 1, none⟩ = some (.int .i64 R) ∧ u.cell? ⟨w.heap.size, 2, none⟩ = some (.int .i64 S) ∧ u.cell? ⟨w.heap.size, 3, none⟩ = some (.int .i64 C)) ∧ Below w.heap.size w u) : (u'.cell? ⟨w.heap.size, 0, none⟩ = some (.int .i64 T) ∧ u'.cell? ⟨w.heap.size, 1, none⟩ = some (.int .i64 R) ∧ u'.cell? ⟨w.heap.size, 2, none⟩ = some (.int .i64 S) ∧ u'.cell? ⟨w.heap.size, 3, none⟩ = some (.int .i64 C)) ∧ Below w.heap.size w u' := ⟨B4.later h.1 hb, abelow_up h.2 hb⟩
theorem keepK {w w3 u u' : World} {bl ol k cv : Nat} {ao : Option Addr} {q : List Value} {T R S C i b : Int} {o : Bool} (hb : Below u.heap.size u u') (h : (u.cell? ⟨w.heap.size, 0, none⟩ = some (.int .i64 T) ∧ u.cell? ⟨w.heap.size, 1, none⟩ = some (.int .i64 R) ∧ u.cell? ⟨w.heap.size, 2, none⟩ = some (.int .i64 S) ∧ u.cell? ⟨w.heap.size, 3, none⟩ = some (.int .i64 C)) ∧ (u.cell? ⟨bl, ol + k * 3, none⟩ = some (.int .i64 i) ∧ u.cell? ⟨bl, ol + k * 3 + 1, none⟩ = some (.int .i64 b) ∧ u.cell? ⟨bl, ol + k * 3 + 2, none⟩ = some (.bool o)) ∧ Below w3.heap.size w3 u ∧ u.ownsRow w3.heap.size 3 1 (.slice ao k cv) k q) : (u'.cell? ⟨w.heap.size, 0, none⟩ = some (.int .i64 T) ∧ u'.cell? ⟨w.heap.size, 1, none⟩ = some (.int .i64 R) ∧ u'.cell? ⟨w.heap.size, 2, none⟩ = some (.int .i64 S) ∧ u'.cell? ⟨w.heap.size, 3, none⟩ = some (.int .i64 C)) ∧ (u'.cell? ⟨bl, ol + k * 3, none⟩ = some (.int .i64 i) ∧ u'.cell? ⟨bl, ol + k * 3 + 1, none⟩ = some (.int .i64 b) ∧ u'.cell? ⟨bl, ol + k * 3 + 2, none⟩ = some (.bool o)) ∧ Below w3.heap.size w3 u' ∧ u'.ownsRow w3.heap.size 3 1 (.slice ao k cv) k q :=
  ⟨B4.later h.1 hb, ⟨cell_later hb h.2.1.1, cell_later hb h.2.1.2.1, cell_later hb h.2.1.2.2⟩, abelow_up h.2.2.1 hb, aowns_later h.2.2.2 hb⟩
theorem new_cell0 (w1 : World) (X : Value) (t : TypeId) : ∀ j u, [X][j]? = some u → (w1.alloc (.cells #[X] t)).cell? ((⟨w1.heap.size, 0, none⟩ : Addr).add j) = some u := by
  intro j u hu
  cases j with
  | zero => simp at hu; subst hu; simp [go_sem, Addr.add]
  | succ j => simp at hu
theorem ils_of_owns {w : World} {B : Nat} {a : Option Addr} {cap n : Nat} {zs : List Int} (hn : n = zs.length) (h : w.ownsRow B 3 1 (.slice a n cap) n (zs.map (Value.int .i64))) : ILs w a zs := by
  subst hn
  by_cases h0 : zs.length = 0
  · exact .inl (List.length_eq_zero_iff.mp h0)
  · right
    obtain ⟨g, c, hv, hb, hg⟩ := h.form (by omega)
    simp only [Value.slice.injEq] at hv
    obtain ⟨rfl, _, rfl⟩ := hv
    refine ⟨g, 0, rfl, fun k hk => ?_⟩
    rw [Nat.zero_add, h.cellAt k (by omega), List.getElem?_map, List.getElem?_eq_getElem hk, List.getD_eq_getElem?_getD, List.getElem?_eq_getElem hk]
    rfl

set_option maxRecDepth 100000 in
set_option maxHeartbeats 4000000 in
theorem refSpread_any (T R S C sum v : Int) (l : List Sv) (a : Option Addr) (ca : Nat) (hok : AllOk T R S C l) (h4 : l.length ≤ 4) (hv : IsLev T R l (clipI sum (tot T R l (-T)) (tot T R l T)) v) (w : World) (hw : VLs w a l) :
    Calls Try.prog 27 #[.agg #[.int .i64 T, .int .i64 R, .int .i64 S, .int .i64 C], .slice a l.length ca, .int .i64 sum] w fun e w' => (∃ x cap, e = .returned (.slice x l.length cap) ∧ ILs w' x (dlU T R l v (clipI sum (tot T R l (-T)) (tot T R l T) - tot T R l v) l.length)) ∧ Below w.heap.size w w' := by
  obtain ⟨i0, hi, hz0, hz1, hz2⟩ := info_parts infoDInt
  have HR := ahide (RB.new w T R S C)
  have HV := ahide hw
  have HOK := ahide hok
  have ⟨t0, t1⟩ := (arB_true hok.1).1
  have b1 := tot_bd hok (by omega) (-T)
  have b2 := tot_bd hok (by omega) T
  have HM := ahide (tot_mono T R l (show -T ≤ T by omega))
  obtain ⟨sm, HSE⟩ : ∃ sm, Hid (clipI sum (tot T R l (-T)) (tot T R l T) = sm) := ⟨_, rfl⟩
  have hcl := refClip_any sum (tot T R l (-T)) (tot T R l T) HM.out
  have bs := clip_bd (v := sum) HM.out
  rw [HSE.out] at hv hcl bs
  have HLV := ahide hv
  have bv := And.intro hv.1 hv.2.1
  have HBS := ahide bs.1
  have htl := fun v u hu => total_any T R S C l v a ca hok (by omega) u hu
  have htA : ∀ u, ((u.cell? ⟨w.heap.size, 0, none⟩ = some (.int .i64 T) ∧ u.cell? ⟨w.heap.size, 1, none⟩ = some (.int .i64 R) ∧ u.cell? ⟨w.heap.size, 2, none⟩ = some (.int .i64 S) ∧ u.cell? ⟨w.heap.size, 3, none⟩ = some (.int .i64 C)) ∧ Below w.heap.size w u) → Calls Try.prog 56 #[.agg #[.int .i64 T, .int .i64 R, .int .i64 S, .int .i64 C], .slice a l.length ca, .int .i64 (-T)] u fun e w' => e = .returned (.int .i64 (tot T R l (-T))) ∧ Below u.heap.size u w' := fun u hu => htl _ u (HV.out.later hu.2)
  have htB : ∀ u, ((u.cell? ⟨w.heap.size, 0, none⟩ = some (.int .i64 T) ∧ u.cell? ⟨w.heap.size, 1, none⟩ = some (.int .i64 R) ∧ u.cell? ⟨w.heap.size, 2, none⟩ = some (.int .i64 S) ∧ u.cell? ⟨w.heap.size, 3, none⟩ = some (.int .i64 C)) ∧ Below w.heap.size w u) → Calls Try.prog 56 #[.agg #[.int .i64 T, .int .i64 R, .int .i64 S, .int .i64 C], .slice a l.length ca, .int .i64 T] u fun e w' => e = .returned (.int .i64 (tot T R l T)) ∧ Below u.heap.size u w' := fun u hu => htl _ u (HV.out.later hu.2)
  have v1 : IntKind.i64.wrap (-T) = -T := swrap_id (by omega) (by omega)
  have hlen : (l.length : Int) ≤ 4 := by omega
  clear hw hok hv
  obtain ⟨s, HS0⟩ : ∃ s, Hid (sm - tot T R l v = s) := ⟨_, rfl⟩
  rw [HSE.out, HS0.out]
  go_enter Try.func27, Try.ntmps27
  go_upto_region 1 with fail
  have S0 : ((w.alloc (.cells #[.int .i64 T, .int .i64 R, .int .i64 S, .int .i64 C] 40)).cell? ⟨w.heap.size, 0, none⟩ = some (.int .i64 T) ∧ (w.alloc (.cells #[.int .i64 T, .int .i64 R, .int .i64 S, .int .i64 C] 40)).cell? ⟨w.heap.size, 1, none⟩ = some (.int .i64 R) ∧ (w.alloc (.cells #[.int .i64 T, .int .i64 R, .int .i64 S, .int .i64 C] 40)).cell? ⟨w.heap.size, 2, none⟩ = some (.int .i64 S) ∧ (w.alloc (.cells #[.int .i64 T, .int .i64 R, .int .i64 S, .int .i64 C] 40)).cell? ⟨w.heap.size, 3, none⟩ = some (.int .i64 C)) ∧ Below w.heap.size w (w.alloc (.cells #[.int .i64 T, .int .i64 R, .int .i64 S, .int .i64 C] 40)) := ⟨HR.out.1, HR.out.2⟩
  generalize (w.alloc (.cells #[.int .i64 T, .int .i64 R, .int .i64 S, .int .i64 C] 40)) = w0 at *
  have Z := ahide S0
  go_cut [2] (fun c u => c = .int .i64 sm ∧ ((u.cell? ⟨w.heap.size, 0, none⟩ = some (.int .i64 T) ∧ u.cell? ⟨w.heap.size, 1, none⟩ = some (.int .i64 R) ∧ u.cell? ⟨w.heap.size, 2, none⟩ = some (.int .i64 S) ∧ u.cell? ⟨w.heap.size, 3, none⟩ = some (.int .i64 C)) ∧ Below w.heap.size w u))
  case first =>
    generalize tot T R l (-T) = tA at *
    generalize tot T R l T = tB at *
    go_region_held3 (fun u => (u.cell? ⟨w.heap.size, 0, none⟩ = some (.int .i64 T) ∧ u.cell? ⟨w.heap.size, 1, none⟩ = some (.int .i64 R) ∧ u.cell? ⟨w.heap.size, 2, none⟩ = some (.int .i64 S) ∧ u.cell? ⟨w.heap.size, 3, none⟩ = some (.int .i64 C)) ∧ Below w.heap.size w u)
      (first
        | (with_reducible assumption)
        | (with_reducible apply keepR4; with_reducible assumption; with_reducible assumption)
        | (refine keepR4 ?_ Z.out; exact (Below.refl _ _).drew))
      (first
        | (go_at_call_of 56 (Value.int .i64 (-T)); refine (htA _ (by with_reducible assumption)).mono ?_; rintro e w' ⟨rfl, hb⟩)
        | (go_at_call 56; refine (htB _ (by with_reducible assumption)).mono ?_; rintro e w' ⟨rfl, hb⟩)
        | (go_at_call 19; refine (hcl _).mono ?_; rintro e w' ⟨rfl, rfl⟩))
    all_goals
      rename_i hH
      go_wp2_with fail
      go_meet
      (case rel => exact ⟨rfl, hH⟩)
  case rest =>
    obtain ⟨rfl, hH⟩ := hcut
    rename World => wb
    clear S0 Z HR htA htB
    have HR := ahide (show RB w wb T R S C from hH)
    obtain ⟨q0, q1, q2, q3⟩ := hH.1
    clear hH
    go_wp2
    go_loopw [7] (fun x wr => ∃ lv : Int, x = .int .i64 lv ∧ -T ≤ lv ∧ lv ≤ T ∧ (lv < T → sm < tot T R l (lv + 1)) ∧ RB w wr T R S C) (fun x _ => (intOf x + T).toNat)
    case atStart => exact ⟨T, rfl, by omega, by omega, fun h => by omega, HR.out⟩
    case round =>
      clear HR q0 q1 q2 q3
      obtain ⟨lv, rfl, l0, l1, hup, hR⟩ := hrel
      have HU := ahide hup
      have HR := ahide hR
      obtain ⟨q0, q1, q2, q3⟩ := hR.1
      have htl' := htl lv
      clear hup hR
      obtain ⟨tt, HTT⟩ : ∃ tt, Hid (tot T R l lv = tt) := ⟨_, rfl⟩
      rw [HTT.out] at htl'
      by_cases hgo : -T < lv ∧ sm < tt
      · obtain ⟨g1, g2⟩ := hgo
        go_wp2_with (go_at_call 56; refine (htl' _ (HV.out.later HR.out.2)).mono ?_; rintro e w1 ⟨rfl, hb1⟩; have HR := ahide (HR.out.later hb1); clear hb1)
        go_roundw
        case rel => exact ⟨lv - 1, rfl, by omega, by omega, fun _ => by rw [show lv - 1 + 1 = lv by omega, HTT.out]; exact g2, HR.out⟩
        case measure => simp [intOf]; omega
      · have HL : Hid (IsLev T R l sm lv) := by
          refine ⟨l0, l1, ?_, HU.out⟩
          by_cases hh : -T < lv
          · have : ¬ sm < tt := fun h => hgo ⟨hh, h⟩
            rw [HTT.out]; omega
          · rw [show lv = -T by omega]; exact HBS.out
        have ev := HL.out.unique HLV.out
        subst ev
        have htb := tot_bd HOK.out (by omega) lv
        have htle : tot T R l lv ≤ sm := HL.out.2.2.1
        have s0 : 0 ≤ s ∧ s ≤ 40000 := by have := HS0.out; omega
        rw [HTT.out] at htb htle HS0
        have hg2 : (-T < lv ∧ ¬ sm < tt) ∨ ¬ -T < lv := by
          by_cases hh : -T < lv
          · exact .inl ⟨hh, fun h => hgo ⟨hh, h⟩⟩
          · exact .inr hh
        clear hgo HLV HL HU
        rcases hg2 with ⟨g1, g2⟩ | g1
        all_goals
          go_wp2_with (go_at_call 56; refine (htl' _ (HV.out.later HR.out.2)).mono ?_; rintro e w1 ⟨rfl, hb1⟩; have HR := ahide (HR.out.later hb1); obtain ⟨q0, q1, q2, q3⟩ := HR.out.1; clear hb1)
          rename World => w3
          clear g1
          clear q0 q1 q2 q3 htl' htl
          rw [HS0.out]
          go_loopw [8, 9, 10] (fun x vv ix wr => ∃ (k : Nat) (ao : Option Addr) (cv : Nat), k ≤ l.length ∧ ix = .int .i64 k ∧ x = .int .i64 (lfU T R l lv s k) ∧ vv = .slice ao k cv ∧ wr.ownsRow w3.heap.size 3 1 vv k ((dlU T R l lv s k).map (Value.int .i64)) ∧ Below w3.heap.size w3 wr) (fun _ _ ix _ => l.length - (intOf ix).toNat)
          case atStart => exact ⟨0, none, 0, Nat.zero_le _, rfl, rfl, rfl, World.ownsRow_nil _ _ _ _, Below.refl _ _⟩
          case round =>
            obtain ⟨k, ao, cv, hk, rfl, rfl, rfl, hown, hnx⟩ := hrel
            have HN := ahide hnx
            by_cases hlt : k < l.length
            · obtain ⟨bl, ol, rfl, d0, d1, d2⟩ := (HV.out.later (RB.later HR.out hnx).2).at hlt
              have HQ := (RB.later HR.out hnx).1
              have hlb := lfU_bd T R l lv s k
              have htb1 := tk_bd HOK.out hlt lv
              have htb2 := tk_bd HOK.out hlt (lv + 1)
              have HS := ahide (show lfU T R l lv s (k + 1) = if 0 < lfU T R l lv s k ∧ tk T R (svAt l k) lv < tk T R (svAt l k) (lv + 1) then lfU T R l lv s k - 1 else lfU T R l lv s k from rfl)
              have HI := ahide (show dlI T R l lv s k = if 0 < lfU T R l lv s k ∧ tk T R (svAt l k) lv < tk T R (svAt l k) (lv + 1) then tk T R (svAt l k) lv + 1 else tk T R (svAt l k) lv from rfl)
              have HDU := ahide (show dlU T R l lv s (k + 1) = dlU T R l lv s k ++ [dlI T R l lv s k] from rfl)
              have h1 := taken_any T R S C (svAt l k).1 (svAt l k).2.1 (svAt l k).2.2 lv HOK.out.1 (HOK.out.2 k hlt)
              have h2 := taken_any T R S C (svAt l k).1 (svAt l k).2.1 (svAt l k).2.2 (lv + 1) HOK.out.1 (HOK.out.2 k hlt)
              rw [show tk T R ((svAt l k).1, (svAt l k).2.1, (svAt l k).2.2) lv = tk T R (svAt l k) lv from rfl] at h1
              rw [show tk T R ((svAt l k).1, (svAt l k).2.1, (svAt l k).2.2) (lv + 1) = tk T R (svAt l k) (lv + 1) from rfl] at h2
              have j0 : (0 : Int) ≤ (k : Int) := by omega
              have j1 : (k : Int) < (l.length : Int) := by omega
              have w1' : IntKind.i64.wrap (lv + 1) = lv + 1 := swrap_id (by omega) (by omega)
              generalize lfU T R l lv s k = x at *
              generalize tk T R (svAt l k) lv = t at *
              generalize tk T R (svAt l k) (lv + 1) = t2 at *
              generalize (svAt l k).1 = i at *
              generalize (svAt l k).2.1 = b at *
              generalize (svAt l k).2.2 = o at *
              obtain ⟨q, HQE⟩ : ∃ q, Hid ((dlU T R l lv s k).map (Value.int .i64) = q) := ⟨_, rfl⟩
              rw [HQE.out] at hown
              have S0 : (wr.cell? ⟨w.heap.size, 0, none⟩ = some (.int .i64 T) ∧ wr.cell? ⟨w.heap.size, 1, none⟩ = some (.int .i64 R) ∧ wr.cell? ⟨w.heap.size, 2, none⟩ = some (.int .i64 S) ∧ wr.cell? ⟨w.heap.size, 3, none⟩ = some (.int .i64 C)) ∧ (wr.cell? ⟨bl, ol + k * 3, none⟩ = some (.int .i64 i) ∧ wr.cell? ⟨bl, ol + k * 3 + 1, none⟩ = some (.int .i64 b) ∧ wr.cell? ⟨bl, ol + k * 3 + 2, none⟩ = some (.bool o)) ∧ Below w3.heap.size w3 wr ∧ wr.ownsRow w3.heap.size 3 1 (.slice ao k cv) k q := ⟨HQ, ⟨d0, d1, d2⟩, hnx, hown⟩
              have Z := ahide S0
              clear hnx hown d0 d1 d2 HQ HN
              go_upto_region 10 with fail
              go_cut [11] (fun y u => y = .int .i64 t ∧ ((u.cell? ⟨w.heap.size, 0, none⟩ = some (.int .i64 T) ∧ u.cell? ⟨w.heap.size, 1, none⟩ = some (.int .i64 R) ∧ u.cell? ⟨w.heap.size, 2, none⟩ = some (.int .i64 S) ∧ u.cell? ⟨w.heap.size, 3, none⟩ = some (.int .i64 C)) ∧ (u.cell? ⟨bl, ol + k * 3, none⟩ = some (.int .i64 i) ∧ u.cell? ⟨bl, ol + k * 3 + 1, none⟩ = some (.int .i64 b) ∧ u.cell? ⟨bl, ol + k * 3 + 2, none⟩ = some (.bool o)) ∧ Below w3.heap.size w3 u ∧ u.ownsRow w3.heap.size 3 1 (.slice ao k cv) k q))
              case first =>
                go_region_held3 (fun u => (u.cell? ⟨w.heap.size, 0, none⟩ = some (.int .i64 T) ∧ u.cell? ⟨w.heap.size, 1, none⟩ = some (.int .i64 R) ∧ u.cell? ⟨w.heap.size, 2, none⟩ = some (.int .i64 S) ∧ u.cell? ⟨w.heap.size, 3, none⟩ = some (.int .i64 C)) ∧ (u.cell? ⟨bl, ol + k * 3, none⟩ = some (.int .i64 i) ∧ u.cell? ⟨bl, ol + k * 3 + 1, none⟩ = some (.int .i64 b) ∧ u.cell? ⟨bl, ol + k * 3 + 2, none⟩ = some (.bool o)) ∧ Below w3.heap.size w3 u ∧ u.ownsRow w3.heap.size 3 1 (.slice ao k cv) k q)
                  (first
                    | (with_reducible assumption)
                    | (with_reducible apply keepK; with_reducible assumption; with_reducible assumption)
                    | (refine keepK ?_ Z.out; exact (Below.refl _ _).drew))
                  (first
                    | (go_at_call 57; refine (h1 _).mono ?_; rintro e w' ⟨rfl, hb⟩))
                all_goals
                  rename_i hH
                  go_wp2_with fail
                  go_meet
                  (case rel => exact ⟨rfl, hH⟩)
              case rest =>
                obtain ⟨rfl, hH⟩ := hcut
                rename World => we
                clear Z S0
                have S0 := hH
                have Z := ahide hH
                clear hH
                go_upto_region 11 with fail
                go_cut [74] (fun c u => c = .bool (decide (0 < x) && decide (t < t2)) ∧ ((u.cell? ⟨w.heap.size, 0, none⟩ = some (.int .i64 T) ∧ u.cell? ⟨w.heap.size, 1, none⟩ = some (.int .i64 R) ∧ u.cell? ⟨w.heap.size, 2, none⟩ = some (.int .i64 S) ∧ u.cell? ⟨w.heap.size, 3, none⟩ = some (.int .i64 C)) ∧ (u.cell? ⟨bl, ol + k * 3, none⟩ = some (.int .i64 i) ∧ u.cell? ⟨bl, ol + k * 3 + 1, none⟩ = some (.int .i64 b) ∧ u.cell? ⟨bl, ol + k * 3 + 2, none⟩ = some (.bool o)) ∧ Below w3.heap.size w3 u ∧ u.ownsRow w3.heap.size 3 1 (.slice ao k cv) k q))
                case first =>
                  by_cases hp : 0 < x
                  · skip
                    go_region_held3 (fun u => (u.cell? ⟨w.heap.size, 0, none⟩ = some (.int .i64 T) ∧ u.cell? ⟨w.heap.size, 1, none⟩ = some (.int .i64 R) ∧ u.cell? ⟨w.heap.size, 2, none⟩ = some (.int .i64 S) ∧ u.cell? ⟨w.heap.size, 3, none⟩ = some (.int .i64 C)) ∧ (u.cell? ⟨bl, ol + k * 3, none⟩ = some (.int .i64 i) ∧ u.cell? ⟨bl, ol + k * 3 + 1, none⟩ = some (.int .i64 b) ∧ u.cell? ⟨bl, ol + k * 3 + 2, none⟩ = some (.bool o)) ∧ Below w3.heap.size w3 u ∧ u.ownsRow w3.heap.size 3 1 (.slice ao k cv) k q)
                      (first
                        | (with_reducible assumption)
                        | (with_reducible apply keepK; with_reducible assumption; with_reducible assumption)
                        | (refine keepK ?_ Z.out; exact (Below.refl _ _).drew))
                      (first
                        | (go_at_call 57; refine (h2 _).mono ?_; rintro e w' ⟨rfl, hb⟩))
                    all_goals
                      rename_i hH
                      go_wp2_with fail
                      go_meet
                      (case rel => exact ⟨by rw [decide_eq_true hp]; simp, hH⟩)
                  · skip
                    have hp' : decide (0 < x) = false := by simpa using hp
                    have HPD := ahide hp'
                    go_quiet (fail)
                    go_wp2
                    go_meet
                    (case rel => exact ⟨by rw [HPD.out]; rfl, keepK (below_drewN (Below.refl _ _) _) Z.out⟩)
                case rest =>
                  obtain ⟨rfl, hH⟩ := hcut
                  rename World => wf
                  clear Z S0
                  have Z := ahide hH
                  clear hH
                  go_upto_if 74 with fail
                  go_cut [8, 11] (fun x' y' u => x' = .int .i64 (lfU T R l lv s (k + 1)) ∧ y' = .int .i64 (dlI T R l lv s k) ∧ ((u.cell? ⟨w.heap.size, 0, none⟩ = some (.int .i64 T) ∧ u.cell? ⟨w.heap.size, 1, none⟩ = some (.int .i64 R) ∧ u.cell? ⟨w.heap.size, 2, none⟩ = some (.int .i64 S) ∧ u.cell? ⟨w.heap.size, 3, none⟩ = some (.int .i64 C)) ∧ (u.cell? ⟨bl, ol + k * 3, none⟩ = some (.int .i64 i) ∧ u.cell? ⟨bl, ol + k * 3 + 1, none⟩ = some (.int .i64 b) ∧ u.cell? ⟨bl, ol + k * 3 + 2, none⟩ = some (.bool o)) ∧ Below w3.heap.size w3 u ∧ u.ownsRow w3.heap.size 3 1 (.slice ao k cv) k q))
                  case first =>
                    by_cases hp : 0 < x ∧ t < t2
                    · rw [if_pos hp] at HS HI
                      rw [decide_eq_true hp.1, decide_eq_true hp.2]
                      go_wp2
                      go_meet
                      (case rel => exact ⟨by rw [HS.out], by rw [HI.out], Z.out⟩)
                    · rw [if_neg hp] at HS HI
                      rw [show (decide (0 < x) && decide (t < t2)) = false by simpa using hp]
                      go_wp2
                      go_meet
                      (case rel => exact ⟨by rw [HS.out], by rw [HI.out], Z.out⟩)
                  case rest =>
                    obtain ⟨rfl, rfl, hH⟩ := hcut
                    rename World => wd
                    clear Z HS HI
                    have HO := ahide hH.2.2.2
                    have HN := ahide hH.2.2.1
                    have LS := hH.2.2.1.size
                    clear hH
                    obtain ⟨y, HYE⟩ : ∃ y, Hid (dlI T R l lv s k = y) := ⟨_, rfl⟩
                    rw [HYE.out] at HDU ⊢
                    go_wp2_with (at_builtin; refine wpList_append_lies _ rfl _ _ 62 rfl w3.heap.size 3 i0 (.int .i64 0) 1 8 Try.underlying62 hi hz0 hz1 hz2 rfl (by decide) _ _ _ rfl (HO.out.alloc _) ⟨wd.heap.size, 0, none⟩ 1 1 [.int .i64 y] rfl rfl (new_cell0 wd _ _) (fun x hx => by simp at hx; subst hx; rfl) (by omega) (by unfold maxLen; omega) (by omega) (by simp; omega) _ rfl ?_; intro g cap w4 hown' hgrow hat hlt3)
                    go_roundw
                    case rel =>
                      refine ⟨k + 1, some ⟨g, 0, none⟩, cap, by omega, by go_num, rfl, rfl, ?_, ?_⟩
                      · rw [HDU.out, List.map_append, HQE.out]; exact hown'
                      · exact (HN.out.alloc LS _).grown hgrow (by simp; omega) (fun q hq => (HO.out.lt q hq).1)
                    case measure => simp [intOf]; omega
            · have e : k = l.length := by omega
              have HL := ahide (ils_of_owns (by rw [dlU_len]) hown)
              subst e
              clear hown hnx
              go_wp2
              go_ret
              exact ⟨⟨_, _, rfl, HL.out⟩, abelow_up HR.out.2 HN.out⟩


end Go.Proofs.Ytbgabomjiibphaa
