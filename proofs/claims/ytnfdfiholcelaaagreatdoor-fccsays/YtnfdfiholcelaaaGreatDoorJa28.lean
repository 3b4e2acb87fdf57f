
import Derived.Test.YtnfdfiholcelaaaGreatDoorJa00
import Derived.Test.YtnfdfiholcelaaaGreatDoorJa18
import Derived.Test.YtnfdfiholcelaaaGreatDoorJa19
import Derived.Test.YtnfdfiholcelaaaGreatDoorJa21
import Derived.Test.YtnfdfiholcelaaaGreatDoorJa27
set_option maxRecDepth 100000
set_option maxHeartbeats 20000000
namespace Go.Proofs.YtnfdfiholcelaaaGreatDoor
open Go.RowKit Plain
theorem keepR4 {w u u' : World} {T R S C : Int} (hb : Below u.heap.size u u') (h : (u.cell? (Ad w.heap.size 0) = some (Vi T) ∧ u.cell? (Ad w.heap.size 1) = some (Vi R) ∧ u.cell? (Ad w.heap.size 2) = some (Vi S) ∧ u.cell? (Ad w.heap.size 3) = some (Vi C)) ∧ Below w.heap.size w u) : (u'.cell? (Ad w.heap.size 0) = some (Vi T) ∧ u'.cell? (Ad w.heap.size 1) = some (Vi R) ∧ u'.cell? (Ad w.heap.size 2) = some (Vi S) ∧ u'.cell? (Ad w.heap.size 3) = some (Vi C)) ∧ Below w.heap.size w u' := ⟨B4.later h.1 hb, Zac h.2 hb⟩
theorem skeepK {w w3 u u' : World} {bl ol k cv : Nat} {ao : Option Addr} {q : List Value} {T R S C i b : Int} {o : Bool} (hb : Below u.heap.size u u') (h : (u.cell? (Ad w.heap.size 0) = some (Vi T) ∧ u.cell? (Ad w.heap.size 1) = some (Vi R) ∧ u.cell? (Ad w.heap.size 2) = some (Vi S) ∧ u.cell? (Ad w.heap.size 3) = some (Vi C)) ∧ (u.cell? (Ad bl (ol + k * 3)) = some (Vi i) ∧ u.cell? (Ad bl (ol + k * 3 + 1)) = some (Vi b) ∧ u.cell? (Ad bl (ol + k * 3 + 2)) = some (.bool o)) ∧ Below w3.heap.size w3 u ∧ u.ownsRow w3.heap.size 3 1 (.slice ao k cv) k q) : (u'.cell? (Ad w.heap.size 0) = some (Vi T) ∧ u'.cell? (Ad w.heap.size 1) = some (Vi R) ∧ u'.cell? (Ad w.heap.size 2) = some (Vi S) ∧ u'.cell? (Ad w.heap.size 3) = some (Vi C)) ∧ (u'.cell? (Ad bl (ol + k * 3)) = some (Vi i) ∧ u'.cell? (Ad bl (ol + k * 3 + 1)) = some (Vi b) ∧ u'.cell? (Ad bl (ol + k * 3 + 2)) = some (.bool o)) ∧ Below w3.heap.size w3 u' ∧ u'.ownsRow w3.heap.size 3 1 (.slice ao k cv) k q :=
 ⟨B4.later h.1 hb, ⟨cell_later hb h.2.1.1, cell_later hb h.2.1.2.1, cell_later hb h.2.1.2.2⟩, Zac h.2.2.1 hb, Zaw h.2.2.2 hb⟩
theorem new_cell0 (w1 : World) (X : Value) (t : TypeId) : ∀ j u, [X][j]? = some u → (w1.alloc (.cells #[X] t)).cell? ((⟨w1.heap.size, 0, none⟩ : Addr).add j) = some u := by
 intro j u hu
 cases j with
 | zero => simp at hu; subst hu; simp [go_sem, Addr.add]
 | succ j => simp at hu
theorem ils_of_owns {w : World} {B : Nat} {a : Option Addr} {cap n : Nat} {zs : List Int} (hn : n = zs.length) (h : w.ownsRow B 3 1 (.slice a n cap) n (zs.map (Value.int .i64))) : ILs w a zs := by
 subst hn
 by_cases h0 : zs.length = 0
 · exact .inl (List.length_eq_zero_iff.mp h0)
 · right
   obtain ⟨g, c, hv, hb, hg⟩ := h.form (by omega); simp only [Value.slice.injEq] at hv; obtain ⟨rfl, _, rfl⟩ := hv; refine ⟨g, 0, rfl, fun k hk => ?_⟩; rw [Nat.zero_add, h.cellAt k (by omega), List.getElem?_map, List.getElem?_eq_getElem hk, List.getD_eq_getElem?_getD, List.getElem?_eq_getElem hk]
   rfl
theorem refSpread_any (T R S C sum v : Int) (l : List Sv) (a : Option Addr) (ca : Nat) (hok : AllOk T R S C l) (h4 : l.length ≤ 4) (hv : IsLev T R l (Zao sum (tot T R l (-T)) (tot T R l T)) v) (w : World) (hw : VLs w a l) :
 Calls Tryz.prog 98 #[.agg #[Vi T, Vi R, Vi S, Vi C], .slice a l.length ca, Vi sum] w fun e w' => (∃ x cap, e = .returned (.slice x l.length cap) ∧ ILs w' x (dlU T R l v (Zao sum (tot T R l (-T)) (tot T R l T) - tot T R l v) l.length)) ∧ Below w.heap.size w w' := by
 obtain ⟨i0, hi, hz0, hz1, hz2⟩ := info_parts infoDInt; have HR := Zab (RB.new w T R S C); have HV := Zab hw; have HOK := Zab hok; have ⟨t0, t1⟩ := (Zbu hok.1).1; have b1 := tot_bd hok (by omega) (-T); have b2 := tot_bd hok (by omega) T; have HM := Zab (Zhr T R l (show -T ≤ T by omega)); obtain ⟨sm, HSE⟩ : ∃ sm, Hid (Zao sum (tot T R l (-T)) (tot T R l T) = sm) := ⟨_, rfl⟩; have hcl := Zay sum (tot T R l (-T)) (tot T R l T) HM.out; have bs := Zhk (v := sum) HM.out; rw [HSE.out] at hv hcl bs; have HLV := Zab hv; have bv := And.intro hv.1 hv.2.1; have HBS := Zab bs.1; have htl := fun v u hu => total_any T R S C l v a ca hok (by omega) u hu; have htA : ∀ u, ((u.cell? (Ad w.heap.size 0) = some (Vi T) ∧ u.cell? (Ad w.heap.size 1) = some (Vi R) ∧ u.cell? (Ad w.heap.size 2) = some (Vi S) ∧ u.cell? (Ad w.heap.size 3) = some (Vi C)) ∧ Below w.heap.size w u) → Calls Tryz.prog 146 #[.agg #[Vi T, Vi R, Vi S, Vi C], .slice a l.length ca, Vi (-T)] u fun e w' => e = .returned (Vi (tot T R l (-T))) ∧ Below u.heap.size u w' := fun u hu => htl _ u (HV.out.later hu.2); have htB : ∀ u, ((u.cell? (Ad w.heap.size 0) = some (Vi T) ∧ u.cell? (Ad w.heap.size 1) = some (Vi R) ∧ u.cell? (Ad w.heap.size 2) = some (Vi S) ∧ u.cell? (Ad w.heap.size 3) = some (Vi C)) ∧ Below w.heap.size w u) → Calls Tryz.prog 146 #[.agg #[Vi T, Vi R, Vi S, Vi C], .slice a l.length ca, Vi T] u fun e w' => e = .returned (Vi (tot T R l T)) ∧ Below u.heap.size u w' := fun u hu => htl _ u (HV.out.later hu.2); have v1 : IntKind.i64.wrap (-T) = -T := Zbo (by omega) (by omega)
 have hlen : (l.length : Int) ≤ 4 := by omega
 clear hw hok hv; obtain ⟨s, HS0⟩ : ∃ s, Hid (sm - tot T R l v = s) := ⟨_, rfl⟩; rw [HSE.out, HS0.out]
 go_enter Tryz.func98, Tryz.ntmps98
 go_upto_region 1 with fail; have S0 : ((w.alloc (.cells #[Vi T, Vi R, Vi S, Vi C] 113)).cell? (Ad w.heap.size 0) = some (Vi T) ∧ (w.alloc (.cells #[Vi T, Vi R, Vi S, Vi C] 113)).cell? (Ad w.heap.size 1) = some (Vi R) ∧ (w.alloc (.cells #[Vi T, Vi R, Vi S, Vi C] 113)).cell? (Ad w.heap.size 2) = some (Vi S) ∧ (w.alloc (.cells #[Vi T, Vi R, Vi S, Vi C] 113)).cell? (Ad w.heap.size 3) = some (Vi C)) ∧ Below w.heap.size w (w.alloc (.cells #[Vi T, Vi R, Vi S, Vi C] 113)) := ⟨HR.out.1, HR.out.2⟩; generalize (w.alloc (.cells #[Vi T, Vi R, Vi S, Vi C] 113)) = w0 at *; have Z := Zab S0
 go_cut [2] (fun c u => c = Vi sm ∧ ((u.cell? (Ad w.heap.size 0) = some (Vi T) ∧ u.cell? (Ad w.heap.size 1) = some (Vi R) ∧ u.cell? (Ad w.heap.size 2) = some (Vi S) ∧ u.cell? (Ad w.heap.size 3) = some (Vi C)) ∧ Below w.heap.size w u))
 case first =>
  generalize tot T R l (-T) = tA at *; generalize tot T R l T = tB at *
  go_region_held3 (fun u => (u.cell? (Ad w.heap.size 0) = some (Vi T) ∧ u.cell? (Ad w.heap.size 1) = some (Vi R) ∧ u.cell? (Ad w.heap.size 2) = some (Vi S) ∧ u.cell? (Ad w.heap.size 3) = some (Vi C)) ∧ Below w.heap.size w u)
   (first
    | (with_reducible assumption)
    | (with_reducible apply keepR4; with_reducible assumption; with_reducible assumption)
    | (refine keepR4 ?_ Z.out; exact (Below.refl _ _).drew))
   (first
    | ((first | go_at_call_of 146 (Vi (-T)) | go_at_call_of 146 (Value.int .i64 (-T))); refine Sb (htA _ (by with_reducible assumption)) fun w' hb => ?_)
    | (go_at_call 146; refine Sb (htB _ (by with_reducible assumption)) fun w' hb => ?_)
    | (go_at_call 94; refine (hcl _).mono ?_; rintro e w' ⟨rfl, rfl⟩))
  all_goals
   rename_i hH
   go_wp2_with fail
   go_meet
   (case rel => exact ⟨rfl, hH⟩)
 case rest =>
  obtain ⟨rfl, hH⟩ := hcut; rename World => wb; clear S0 Z HR htA htB; have HR := Zab (show RB w wb T R S C from hH); obtain ⟨q0, q1, q2, q3⟩ := hH.1; clear hH; go_wp2
  go_loopw [7] (fun x wr => ∃ lv : Int, x = Vi lv ∧ -T ≤ lv ∧ lv ≤ T ∧ (lv < T → sm < tot T R l (lv + 1)) ∧ RB w wr T R S C) (fun x _ => (intOf x + T).toNat)
  case atStart => exact ⟨T, rfl, by omega, by omega, fun h => by omega, HR.out⟩
  case round =>
   clear HR q0 q1 q2 q3; obtain ⟨lv, rfl, l0, l1, hup, hR⟩ := hrel; have HU := Zab hup; have HR := Zab hR; obtain ⟨q0, q1, q2, q3⟩ := hR.1; have htl' := htl lv; clear hup hR; obtain ⟨tt, HTT⟩ : ∃ tt, Hid (tot T R l lv = tt) := ⟨_, rfl⟩; rw [HTT.out] at htl'
   by_cases hgo : -T < lv ∧ sm < tt
   · obtain ⟨g1, g2⟩ := hgo
     go_wp2_with (go_at_call 146; refine Sb (htl' _ (HV.out.later HR.out.2)) fun w1 hb1 => ?_; have HR := Zab (HR.out.later hb1); clear hb1); go_roundw
     case rel => exact ⟨lv - 1, rfl, by omega, by omega, fun _ => by rw [show lv - 1 + 1 = lv by omega, HTT.out]; exact g2, HR.out⟩
     case measure => simp [intOf]; omega
   · have HL : Hid (IsLev T R l sm lv) := by
      refine ⟨l0, l1, ?_, HU.out⟩
      by_cases hh : -T < lv
      · have : ¬ sm < tt := fun h => hgo ⟨hh, h⟩; rw [HTT.out]; omega
      · rw [show lv = -T by omega]; exact HBS.out
     have ev := HL.out.unique HLV.out; subst ev; have htb := tot_bd HOK.out (by omega) lv; have htle : tot T R l lv ≤ sm := HL.out.2.2.1
     have s0 : 0 ≤ s ∧ s ≤ 40000 := by have := HS0.out; omega
     rw [HTT.out] at htb htle HS0
     have hg2 : (-T < lv ∧ ¬ sm < tt) ∨ ¬ -T < lv := by
      by_cases hh : -T < lv
      · exact .inl ⟨hh, fun h => hgo ⟨hh, h⟩⟩
      · exact .inr hh
     clear hgo HLV HL HU
     rcases hg2 with ⟨g1, g2⟩ | g1
     all_goals
      go_wp2_with (go_at_call 146; refine Sb (htl' _ (HV.out.later HR.out.2)) fun w1 hb1 => ?_; have HR := Zab (HR.out.later hb1); obtain ⟨q0, q1, q2, q3⟩ := HR.out.1; clear hb1); rename World => w3; clear g1; clear q0 q1 q2 q3 htl' htl; rw [HS0.out]
      go_loopw [8, 9, 10] (fun x vv ix wr => ∃ (k : Nat) (ao : Option Addr) (cv : Nat), k ≤ l.length ∧ ix = Vi k ∧ x = Vi (lfU T R l lv s k) ∧ vv = .slice ao k cv ∧ wr.ownsRow w3.heap.size 3 1 vv k ((dlU T R l lv s k).map (Value.int .i64)) ∧ Below w3.heap.size w3 wr) (fun _ _ ix _ => l.length - (intOf ix).toNat)
      case atStart => exact ⟨0, none, 0, Nat.zero_le _, rfl, rfl, rfl, World.ownsRow_nil _ _ _ _, Below.refl _ _⟩
      case round =>
       obtain ⟨k, ao, cv, hk, rfl, rfl, rfl, hown, hnx⟩ := hrel; have HN := Zab hnx
       by_cases hlt : k < l.length
       · obtain ⟨bl, ol, rfl, d0, d1, d2⟩ := (HV.out.later (RB.later HR.out hnx).2).at hlt; have HQ := (RB.later HR.out hnx).1; have hlb := lfU_bd T R l lv s k; have htb1 := tk_bd HOK.out hlt lv; have htb2 := tk_bd HOK.out hlt (lv + 1); have HS := Zab (show lfU T R l lv s (k + 1) = if 0 < lfU T R l lv s k ∧ tk T R (svAt l k) lv < tk T R (svAt l k) (lv + 1) then lfU T R l lv s k - 1 else lfU T R l lv s k from rfl); have HI := Zab (show dlI T R l lv s k = if 0 < lfU T R l lv s k ∧ tk T R (svAt l k) lv < tk T R (svAt l k) (lv + 1) then tk T R (svAt l k) lv + 1 else tk T R (svAt l k) lv from rfl); have HDU := Zab (show dlU T R l lv s (k + 1) = dlU T R l lv s k ++ [dlI T R l lv s k] from rfl); have h1 := taken_any T R S C (svAt l k).1 (svAt l k).2.1 (svAt l k).2.2 lv HOK.out.1 (HOK.out.2 k hlt); have h2 := taken_any T R S C (svAt l k).1 (svAt l k).2.1 (svAt l k).2.2 (lv + 1) HOK.out.1 (HOK.out.2 k hlt); rw [show tk T R ((svAt l k).1, (svAt l k).2.1, (svAt l k).2.2) lv = tk T R (svAt l k) lv from rfl] at h1; rw [show tk T R ((svAt l k).1, (svAt l k).2.1, (svAt l k).2.2) (lv + 1) = tk T R (svAt l k) (lv + 1) from rfl] at h2
         have j0 : (0 : Int) ≤ (k : Int) := by omega
         have j1 : (k : Int) < (l.length : Int) := by omega
         have w1' : IntKind.i64.wrap (lv + 1) = lv + 1 := Zbo (by omega) (by omega); generalize lfU T R l lv s k = x at *; generalize tk T R (svAt l k) lv = t at *; generalize tk T R (svAt l k) (lv + 1) = t2 at *; generalize (svAt l k).1 = i at *; generalize (svAt l k).2.1 = b at *; generalize (svAt l k).2.2 = o at *; obtain ⟨q, HQE⟩ : ∃ q, Hid ((dlU T R l lv s k).map (Value.int .i64) = q) := ⟨_, rfl⟩; rw [HQE.out] at hown; have S0 : (wr.cell? (Ad w.heap.size 0) = some (Vi T) ∧ wr.cell? (Ad w.heap.size 1) = some (Vi R) ∧ wr.cell? (Ad w.heap.size 2) = some (Vi S) ∧ wr.cell? (Ad w.heap.size 3) = some (Vi C)) ∧ (wr.cell? (Ad bl (ol + k * 3)) = some (Vi i) ∧ wr.cell? (Ad bl (ol + k * 3 + 1)) = some (Vi b) ∧ wr.cell? (Ad bl (ol + k * 3 + 2)) = some (.bool o)) ∧ Below w3.heap.size w3 wr ∧ wr.ownsRow w3.heap.size 3 1 (.slice ao k cv) k q := ⟨HQ, ⟨d0, d1, d2⟩, hnx, hown⟩; have Z := Zab S0; clear hnx hown d0 d1 d2 HQ HN
         go_upto_region 10 with fail
         go_cut [11] (fun y u => y = Vi t ∧ ((u.cell? (Ad w.heap.size 0) = some (Vi T) ∧ u.cell? (Ad w.heap.size 1) = some (Vi R) ∧ u.cell? (Ad w.heap.size 2) = some (Vi S) ∧ u.cell? (Ad w.heap.size 3) = some (Vi C)) ∧ (u.cell? (Ad bl (ol + k * 3)) = some (Vi i) ∧ u.cell? (Ad bl (ol + k * 3 + 1)) = some (Vi b) ∧ u.cell? (Ad bl (ol + k * 3 + 2)) = some (.bool o)) ∧ Below w3.heap.size w3 u ∧ u.ownsRow w3.heap.size 3 1 (.slice ao k cv) k q))
         case first =>
          go_region_held3 (fun u => (u.cell? (Ad w.heap.size 0) = some (Vi T) ∧ u.cell? (Ad w.heap.size 1) = some (Vi R) ∧ u.cell? (Ad w.heap.size 2) = some (Vi S) ∧ u.cell? (Ad w.heap.size 3) = some (Vi C)) ∧ (u.cell? (Ad bl (ol + k * 3)) = some (Vi i) ∧ u.cell? (Ad bl (ol + k * 3 + 1)) = some (Vi b) ∧ u.cell? (Ad bl (ol + k * 3 + 2)) = some (.bool o)) ∧ Below w3.heap.size w3 u ∧ u.ownsRow w3.heap.size 3 1 (.slice ao k cv) k q)
           (first
            | (with_reducible assumption)
            | (with_reducible apply skeepK; with_reducible assumption; with_reducible assumption)
            | (refine skeepK ?_ Z.out; exact (Below.refl _ _).drew))
           (first
            | (go_at_call 147; refine Sb (h1 _) fun w' hb => ?_))
          all_goals
           rename_i hH
           go_wp2_with fail
           go_meet
           (case rel => exact ⟨rfl, hH⟩)
         case rest =>
          obtain ⟨rfl, hH⟩ := hcut; rename World => we; clear Z S0; have S0 := hH; have Z := Zab hH; clear hH
          go_upto_region 11 with fail
          go_cut [74] (fun c u => c = .bool (decide (0 < x) && decide (t < t2)) ∧ ((u.cell? (Ad w.heap.size 0) = some (Vi T) ∧ u.cell? (Ad w.heap.size 1) = some (Vi R) ∧ u.cell? (Ad w.heap.size 2) = some (Vi S) ∧ u.cell? (Ad w.heap.size 3) = some (Vi C)) ∧ (u.cell? (Ad bl (ol + k * 3)) = some (Vi i) ∧ u.cell? (Ad bl (ol + k * 3 + 1)) = some (Vi b) ∧ u.cell? (Ad bl (ol + k * 3 + 2)) = some (.bool o)) ∧ Below w3.heap.size w3 u ∧ u.ownsRow w3.heap.size 3 1 (.slice ao k cv) k q))
          case first =>
           by_cases hp : 0 < x
           · skip
             go_region_held3 (fun u => (u.cell? (Ad w.heap.size 0) = some (Vi T) ∧ u.cell? (Ad w.heap.size 1) = some (Vi R) ∧ u.cell? (Ad w.heap.size 2) = some (Vi S) ∧ u.cell? (Ad w.heap.size 3) = some (Vi C)) ∧ (u.cell? (Ad bl (ol + k * 3)) = some (Vi i) ∧ u.cell? (Ad bl (ol + k * 3 + 1)) = some (Vi b) ∧ u.cell? (Ad bl (ol + k * 3 + 2)) = some (.bool o)) ∧ Below w3.heap.size w3 u ∧ u.ownsRow w3.heap.size 3 1 (.slice ao k cv) k q)
              (first
               | (with_reducible assumption)
               | (with_reducible apply skeepK; with_reducible assumption; with_reducible assumption)
               | (refine skeepK ?_ Z.out; exact (Below.refl _ _).drew))
              (first
               | (go_at_call 147; refine Sb (h2 _) fun w' hb => ?_))
             all_goals
              rename_i hH
              go_wp2_with fail
              go_meet
              (case rel => exact ⟨by rw [decide_eq_true hp]; simp, hH⟩)
           · skip
             have hp' : decide (0 < x) = false := by simpa using hp
             have HPD := Zab hp'; go_quiet (fail); go_wp2
             go_meet
             (case rel => exact ⟨by rw [HPD.out]; rfl, skeepK (below_drewN (Below.refl _ _) _) Z.out⟩)
          case rest =>
           obtain ⟨rfl, hH⟩ := hcut; rename World => wf; clear Z S0; have Z := Zab hH; clear hH
           go_upto_if 74 with fail
           go_cut [8, 11] (fun x' y' u => x' = Vi (lfU T R l lv s (k + 1)) ∧ y' = Vi (dlI T R l lv s k) ∧ ((u.cell? (Ad w.heap.size 0) = some (Vi T) ∧ u.cell? (Ad w.heap.size 1) = some (Vi R) ∧ u.cell? (Ad w.heap.size 2) = some (Vi S) ∧ u.cell? (Ad w.heap.size 3) = some (Vi C)) ∧ (u.cell? (Ad bl (ol + k * 3)) = some (Vi i) ∧ u.cell? (Ad bl (ol + k * 3 + 1)) = some (Vi b) ∧ u.cell? (Ad bl (ol + k * 3 + 2)) = some (.bool o)) ∧ Below w3.heap.size w3 u ∧ u.ownsRow w3.heap.size 3 1 (.slice ao k cv) k q))
           case first =>
            by_cases hp : 0 < x ∧ t < t2
            · rw [if_pos hp] at HS HI; rw [decide_eq_true hp.1, decide_eq_true hp.2]; go_wp2
              go_meet
              (case rel => exact ⟨by rw [HS.out], by rw [HI.out], Z.out⟩)
            · rw [if_neg hp] at HS HI; rw [show (decide (0 < x) && decide (t < t2)) = false by simpa using hp]; go_wp2
              go_meet
              (case rel => exact ⟨by rw [HS.out], by rw [HI.out], Z.out⟩)
           case rest =>
            obtain ⟨rfl, rfl, hH⟩ := hcut; rename World => wd; clear Z HS HI; have HO := Zab hH.2.2.2; have HN := Zab hH.2.2.1; have LS := hH.2.2.1.size; clear hH; obtain ⟨y, HYE⟩ : ∃ y, Hid (dlI T R l lv s k = y) := ⟨_, rfl⟩; rw [HYE.out] at HDU ⊢
            go_wp2_with (at_builtin; refine wpList_append_lies _ rfl _ _ 22 rfl w3.heap.size 3 i0 (Vi 0) 1 8 Tryz.underlying22 hi hz0 hz1 hz2 rfl (by decide) _ _ _ rfl (HO.out.alloc _) ⟨wd.heap.size, 0, none⟩ 1 1 [Vi y] rfl rfl (new_cell0 wd _ _) (fun x hx => by simp at hx; subst hx; rfl) (by omega) (by unfold maxLen; omega) (by omega) (by simp; omega) _ rfl ?_; intro g cap w4 hown' hgrow hat hlt3); go_roundw
            case rel =>
             refine ⟨k + 1, some (Ad g 0), cap, by omega, by go_num, rfl, rfl, ?_, ?_⟩
             · rw [HDU.out, List.map_append, HQE.out]; exact hown'
             · exact (HN.out.alloc LS _).grown hgrow (by simp; omega) (fun q hq => (HO.out.lt q hq).1)
            case measure => simp [intOf]; omega
       · have e : k = l.length := by omega
         have HL := Zab (ils_of_owns (by rw [Zdr]) hown); subst e; clear hown hnx; go_wp2; go_ret; exact ⟨⟨_, _, rfl, HL.out⟩, Zac HR.out.2 HN.out⟩
end Go.Proofs.YtnfdfiholcelaaaGreatDoor
namespace Go.Proofs.YtnfdfiholcelaaaGreatDoor
open Go.RowKit Go.Sort Plain
theorem keepGBs {w u : World} {j : Nat} {v : Value} {L H N P M R : Int} (h : (u.cell? (Ad w.heap.size 0) = some (Vi L) ∧ u.cell? (Ad w.heap.size 1) = some (Vi H) ∧ u.cell? (Ad w.heap.size 2) = some (Vi N) ∧ u.cell? (Ad w.heap.size 3) = some (Vi P) ∧ u.cell? (Ad w.heap.size 4) = some (Vi M) ∧ u.cell? (Ad w.heap.size 5) = some (Vi R)) ∧ Below w.heap.size w u) : ((u.setCell (Ad (w.heap.size + 1) j) v).cell? (Ad w.heap.size 0) = some (Vi L) ∧ (u.setCell (Ad (w.heap.size + 1) j) v).cell? (Ad w.heap.size 1) = some (Vi H) ∧ (u.setCell (Ad (w.heap.size + 1) j) v).cell? (Ad w.heap.size 2) = some (Vi N) ∧ (u.setCell (Ad (w.heap.size + 1) j) v).cell? (Ad w.heap.size 3) = some (Vi P) ∧ (u.setCell (Ad (w.heap.size + 1) j) v).cell? (Ad w.heap.size 4) = some (Vi M) ∧ (u.setCell (Ad (w.heap.size + 1) j) v).cell? (Ad w.heap.size 5) = some (Vi R)) ∧ Below w.heap.size w (u.setCell (Ad (w.heap.size + 1) j) v) := by
 have hQ : w.heap.size + 1 ≠ w.heap.size := by omega
 exact ⟨⟨Zbs hQ h.1.1, Zbs hQ h.1.2.1, Zbs hQ h.1.2.2.1, Zbs hQ h.1.2.2.2.1, Zbs hQ h.1.2.2.2.2.1, Zbs hQ h.1.2.2.2.2.2⟩, h.2.setCell (by simp) _⟩
theorem refBounds_any (L H N P M R x q : Int) (g : GOK L H N P M R) (k0 : -M ≤ q) (k1 : q ≤ M) (w : World) :
 Calls Tryz.prog 97 #[.agg #[Vi L, Vi H, Vi N, Vi P, Vi M, Vi R], Vi x, Vi q] w fun e w' => (∃ a b, e = .returned (.agg #[Vi (-a), Vi b]) ∧ IsHi R P (-Zdt M R q) (-Zds M R q) (Zao x (-2000000) 2000000 - N - L) a ∧ IsHi R P (Zds M R q) (Zdt M R q) (H - N - Zao x (-2000000) 2000000) b) ∧ Below w.heap.size w w' := by
 have HX := Zab (GS.new w L H N P M R); obtain ⟨⟨l0, l1, h0, h1, n0, n1, p0, p1, m0, m1, r0, r1⟩, pm, pr, room⟩ := g; have hcl := Zay x (-2000000) 2000000 (by omega)
 have x0 : -2000000 ≤ Zao x (-2000000) 2000000 := by unfold Zao; split <;> (try split) <;> (try split) <;> omega
 have x1 : Zao x (-2000000) 2000000 ≤ 2000000 := by unfold Zao; split <;> (try split) <;> (try split) <;> omega
 have cn := can_le r0 m0 k0 k1
 have mx : ∀ ts t w, (Builtin.max_ ts t #[Vi (-M), Vi (q - R)]).run Tryz.prog w = .ok (Vi (Zds M R q)) w := fun ts t w => by rw [run_maxG]; congr 2; unfold Zds; split <;> split <;> congr 1 <;> omega
 have mn : ∀ ts t w, (Builtin.min_ ts t #[Vi M, Vi (q + R)]).run Tryz.prog w = .ok (Vi (Zdt M R q)) w := fun ts t w => by rw [run_minG]; congr 2; unfold Zdt; split <;> split <;> congr 1 <;> omega
 generalize Zao x (-2000000) 2000000 = y at *; generalize Zds M R q = lo at *; generalize Zdt M R q = hi at *; obtain ⟨cn0, cn1, cn2, cn3, cn4⟩ := cn; have v1 : IntKind.i64.wrap (q - R) = q - R := Zau (by omega) (by omega); have v2 : IntKind.i64.wrap (q + R) = q + R := Zau (by omega) (by omega); have v3 : IntKind.i64.wrap (-M) = -M := Zau (by omega) (by omega); have v4 : IntKind.i64.wrap (-hi) = -hi := Zau (by omega) (by omega); have v5 : IntKind.i64.wrap (-lo) = -lo := Zau (by omega) (by omega); have v6 : IntKind.i64.wrap (y - N) = y - N := Zau (by omega) (by omega); have v7 : IntKind.i64.wrap (y - N - L) = y - N - L := Zau (by omega) (by omega); have v8 : IntKind.i64.wrap (H - N) = H - N := Zau (by omega) (by omega); have v9 : IntKind.i64.wrap (H - N - y) = H - N - y := Zau (by omega) (by omega); have hA := Zif L H N P M R (-hi) (-lo) (y - N - L) p0 p1 r0 (by omega) (by omega) (by omega) (by omega); have hB := Zif L H N P M R lo hi (H - N - y) p0 p1 r0 (by omega) (by omega) (by omega) (by omega); clear room
 go_enter Tryz.func97, Tryz.ntmps97
 go_upto_region 2 with (go_at_call 94; refine Sm (hcl _) ?_); generalize (w.alloc (.cells #[Vi L, Vi H, Vi N, Vi P, Vi M, Vi R] 99)).alloc (.cells #[Vi 0, Vi 0] 105) = w1 at *; obtain ⟨⟨q0, q1, q2, q3, q4, q5⟩, _⟩ := HX.out; have S0 : (w1.cell? (Ad w.heap.size 0) = some (Vi L) ∧ w1.cell? (Ad w.heap.size 1) = some (Vi H) ∧ w1.cell? (Ad w.heap.size 2) = some (Vi N) ∧ w1.cell? (Ad w.heap.size 3) = some (Vi P) ∧ w1.cell? (Ad w.heap.size 4) = some (Vi M) ∧ w1.cell? (Ad w.heap.size 5) = some (Vi R)) ∧ Below w.heap.size w w1 := ⟨HX.out.1, HX.out.2.2⟩; have Z := Zab S0
 go_region_held3 (fun u => (u.cell? (Ad w.heap.size 0) = some (Vi L) ∧ u.cell? (Ad w.heap.size 1) = some (Vi H) ∧ u.cell? (Ad w.heap.size 2) = some (Vi N) ∧ u.cell? (Ad w.heap.size 3) = some (Vi P) ∧ u.cell? (Ad w.heap.size 4) = some (Vi M) ∧ u.cell? (Ad w.heap.size 5) = some (Vi R)) ∧ Below w.heap.size w u)
  (first
   | (with_reducible assumption)
   | (with_reducible apply Zgt; with_reducible assumption; with_reducible assumption)
   | (refine Zgt ?_ Z.out; exact (Below.refl _ _).drew))
  (fail)
 all_goals
  rename_i hH
  clear hH S0 Z q0 q1 q2 q3 q4 q5; have S1 := Zab (HX.out.later (Below.refl _ _).drew); generalize w1.drew = w3 at *; clear HX
  go_upto_region 3 with fail; obtain ⟨⟨q0, q1, q2, q3, q4, q5⟩, ⟨z0, z1, f0, f1⟩, _⟩ := S1.out; have S0 : (w3.cell? (Ad w.heap.size 0) = some (Vi L) ∧ w3.cell? (Ad w.heap.size 1) = some (Vi H) ∧ w3.cell? (Ad w.heap.size 2) = some (Vi N) ∧ w3.cell? (Ad w.heap.size 3) = some (Vi P) ∧ w3.cell? (Ad w.heap.size 4) = some (Vi M) ∧ w3.cell? (Ad w.heap.size 5) = some (Vi R)) ∧ Below w.heap.size w w3 := ⟨S1.out.1, S1.out.2.2⟩
  go_region_held3 (fun u => (u.cell? (Ad w.heap.size 0) = some (Vi L) ∧ u.cell? (Ad w.heap.size 1) = some (Vi H) ∧ u.cell? (Ad w.heap.size 2) = some (Vi N) ∧ u.cell? (Ad w.heap.size 3) = some (Vi P) ∧ u.cell? (Ad w.heap.size 4) = some (Vi M) ∧ u.cell? (Ad w.heap.size 5) = some (Vi R)) ∧ Below w.heap.size w u)
   (first
    | (with_reducible assumption)
    | (with_reducible apply Zgt; with_reducible assumption; with_reducible assumption)
    | (refine keepGBs (keepGBs ?_); with_reducible assumption)
    | (refine Zgt ?_ ⟨S1.out.1, S1.out.2.2⟩; exact (Below.refl _ _).drew))
   (first
    | ((first | go_at_call_of 145 (Vi (-hi)) | go_at_call_of 145 (Value.int .i64 (-hi))); refine (hA _).mono ?_; rintro e w' ⟨⟨a, rfl, ha⟩, hb⟩; have HHA := Zab ha; have va : IntKind.i64.wrap (-a) = -a := Zau (by have := ha.2.1; omega) (by have := ha.1; omega); have ya0 : w'.cell? (Ad (w.heap.size + 1) 0) = some (Vi 0) := Zak hb (by first | with_reducible assumption | exact z0); have yaf0 : w'.frozen? (Ad (w.heap.size + 1) 0) = false := Zcy hb (by first | with_reducible assumption | exact z0) (by first | with_reducible assumption | exact f0); have ya1 : w'.cell? (Ad (w.heap.size + 1) 1) = some (Vi 0) := Zak hb (by first | with_reducible assumption | exact z1); have yaf1 : w'.frozen? (Ad (w.heap.size + 1) 1) = false := Zcy hb (by first | with_reducible assumption | exact z1) (by first | with_reducible assumption | exact f1); clear ha)
    | ((first | go_at_call_of 145 (Vi lo) | go_at_call_of 145 (Value.int .i64 lo)); refine (hB _).mono ?_; rintro e w' ⟨⟨b, rfl, hhb⟩, hb⟩; have HHB := Zab hhb; have yb0 : w'.cell? (Ad (w.heap.size + 1) 0) = some (Vi 0) := Zak hb (by first | with_reducible assumption | exact z0); have ybf0 : w'.frozen? (Ad (w.heap.size + 1) 0) = false := Zcy hb (by first | with_reducible assumption | exact z0) (by first | with_reducible assumption | exact f0); have yb1 : w'.cell? (Ad (w.heap.size + 1) 1) = some (Vi 0) := Zak hb (by first | with_reducible assumption | exact z1); have ybf1 : w'.frozen? (Ad (w.heap.size + 1) 1) = false := Zcy hb (by first | with_reducible assumption | exact z1) (by first | with_reducible assumption | exact f1); clear hhb))
  all_goals
   rename_i hH
   have HB := Zab hH.2; clear hH; go_wp2_with fail; refine bodyPost_ret (v := .agg #[Vi (-a), Vi b]) ?_ rfl ⟨⟨a, b, rfl, HHA.out, HHB.out⟩, HB.out⟩
   simp [results, Tryz.results97, go_sem, yb0, yb1]
theorem GB.set2 {w w1 : World} {L H N P M R : Int} (h : GB w w1 L H N P M R) (a b : Int) : GB w (w1.alloc (.cells #[Vi a, Vi b] 105)) L H N P M R := h.later (Zaa _ _)
end Go.Proofs.YtnfdfiholcelaaaGreatDoor
namespace Go.Proofs.YtnfdfiholcelaaaGreatDoor
open Go.RowKit Plain
theorem infoG6 : (Tryz.prog.info? 99).map (·.size) = some 6 := by kernel_rfl
theorem infoR7 : (Tryz.prog.info? 107).map (·.size) = some 7 := by kernel_rfl
theorem isLoadG6 {P : Program} {ops : Array Oper} {rest : List Oper} {op : Oper} {a : Act} {w : World} {Q : Exit → Act → World → Prop} (x : Operand) (_ho : op.op = .load 99 x) (h : wpList P ops Q (op :: rest) a w) : wpList P ops Q (op :: rest) a w := h
theorem isStoreP2 {P : Program} {ops : Array Oper} {rest : List Oper} {op : Oper} {a : Act} {w : World} {Q : Exit → Act → World → Prop} (x y : Operand) (_ho : op.op = .store 105 x y) (h : wpList P ops Q (op :: rest) a w) : wpList P ops Q (op :: rest) a w := h
theorem svL_snoc : ∀ (L : List Sv) (s : Sv), svL (L ++ [s]) = svL L ++ [Vi s.1, Vi s.2.1, .bool s.2.2]
 | [], _ => rfl
 | x :: r, s => by simp only [List.cons_append, svL, svL_snoc r s]
theorem vls_of_row {w : World} {B g cap n : Nat} {e : TypeId} {L : List Sv} (hn : n = L.length) (h : w.ownsRow B e 3 (.slice (some (Ad g 0)) n cap) n (svL L)) : VLs w (some (Ad g 0)) L := by
 subst hn; refine .inr ⟨g, 0, rfl, fun k hk => ?_⟩; have f0 := Ziz L hk (r := 0) (by omega); have f1 := Ziz L hk (r := 1) (by omega); have f2 := Ziz L hk (r := 2) (by omega); rw [Nat.zero_add]; exact ⟨(h.cellAt (k * 3) (by omega)).trans f0, (h.cellAt (k * 3 + 1) (by omega)).trans f1, (h.cellAt (k * 3 + 2) (by omega)).trans f2⟩
theorem infoSv3 : (Tryz.prog.info? 116).map (fun i => (i.zero, i.size, i.bytes)) = some (some (.agg #[Vi 0, Vi 0, .bool false]), 3, 24) := by kernel_rfl
def moU (L : List Sv) (p : List Int) : Nat → List Sv
 | 0 => []
 | k + 1 => moU L p k ++ [(p.getD k 0, (svAt L k).2)]
theorem moU_len (L : List Sv) (p : List Int) : ∀ k, (moU L p k).length = k
 | 0 => rfl
 | k + 1 => by rw [moU, List.length_append, moU_len L p k]; rfl
theorem moU_sik (L : List Sv) (p : List Int) : moU L p L.length = sik L p L.length := by
 have key : ∀ k, moU L p k = (List.range k).map fun j => (p.getD j 0, (svAt L j).2) := by
  intro k
  induction k with
  | zero => rfl
  | succ k ih => rw [moU, ih, List.range_succ, List.map_append]; rfl
 rw [key]
 unfold sik
 apply List.map_congr_left; intro j hj; rw [if_pos (by simpa using hj)]
section
variable {K : Nat} {wz : World} {C : CR} {S : FS} {l : List Rd} {sv : Nat → List Sv} {i : Nat}
theorem MvOK.gok (h : MvOK K wz C S l sv i) : GOK (C.a i 0) (C.a i 1) (C.a i 2) (puI C i) (moI C i) (raI C i) ∧ -moI C i ≤ pvI C i (sv i) ∧ pvI C i (sv i) ≤ moI C i := by
 have g := h.gm
 unfold gmE at g
 split at g
 · rename_i h0
   split at g
   · rename_i h1; exact ⟨grE_ok h0, Zat h1⟩
   · cases g
 · rename_i h0; exact absurd g h0
theorem MvOK.refBounds (h : MvOK K wz C S l sv i) (hn : betw S.n 0 1 = true) (x : Int) (w : World) :
 Calls Tryz.prog 97 #[.agg #[Vi (C.a i 0), Vi (C.a i 1), Vi (C.a i 2), Vi (puI C i), Vi (moI C i), Vi (raI C i)], Vi x, Vi (pvI C i (sv i))] w fun e w' => e = .returned (.agg #[Vi (bdL C i x S.n (pvI C i (sv i))), Vi (bdH C i x S.n (pvI C i (sv i)))]) ∧ Below w.heap.size w w' := by
 refine (refBounds_any _ _ _ _ _ _ x _ h.gok.1 h.gok.2.1 h.gok.2.2 w).mono ?_; rintro e w' ⟨⟨a, b, rfl, ha, hb⟩, hw⟩; refine ⟨?_, hw⟩
 unfold bdL bdH
 rw [hn, if_pos rfl, if_pos rfl, hiI_is ha, hiI_is hb]
theorem MvOK.bdle (h : MvOK K wz C S l sv i) (x : Int) : bdL C i x S.n (pvI C i (sv i)) ≤ bdH C i x S.n (pvI C i (sv i)) := by
 have hr := h.ra
 cases hn : betw S.n 0 1
 · unfold bdL bdH
   rw [hn]; simp only [Bool.false_eq_true, if_false]
   omega
 · obtain ⟨e, w', h1⟩ : ∃ a b, IsHi (raI C i) (puI C i) (-Zdt (moI C i) (raI C i) (pvI C i (sv i))) (-Zds (moI C i) (raI C i) (pvI C i (sv i))) (Zao x (-2000000) 2000000 - C.a i 2 - C.a i 0) a ∧ IsHi (raI C i) (puI C i) (Zds (moI C i) (raI C i) (pvI C i (sv i))) (Zdt (moI C i) (raI C i) (pvI C i (sv i))) (C.a i 1 - C.a i 2 - Zao x (-2000000) 2000000) b := by
    have c := can_le hr.1 h.mo.1 h.gok.2.1 h.gok.2.2; exact ⟨_, _, hiF_is (R := raI C i) (p := puI C i) (-Zds (moI C i) (raI C i) (pvI C i (sv i)) - -Zdt (moI C i) (raI C i) (pvI C i (sv i))).toNat (by omega) (fun s h3 h4 => by omega), hiF_is (R := raI C i) (p := puI C i) (Zdt (moI C i) (raI C i) (pvI C i (sv i)) - Zds (moI C i) (raI C i) (pvI C i (sv i))).toNat (by omega) (fun s h3 h4 => by omega)⟩
   unfold bdL bdH
   rw [hn, if_pos rfl, if_pos rfl, hiI_is h1.1, hiI_is h1.2]; have c := can_le hr.1 h.mo.1 h.gok.2.1 h.gok.2.2; exact no_cross h.gok.1 c.2.1 c.2.2.1 h1.1 h1.2
theorem MvOK.refSpread (h : MvOK K wz C S l sv i) (s : Int) (p : Option Addr) (ca : Nat) (w : World) (hv : VLs w p (sv i)) :
 Calls Tryz.prog 98 #[.agg #[Vi (C.a i 5), Vi (C.a i 6), Vi (C.a i 7), Vi (C.a i 10)], .slice p (sv i).length ca, Vi s] w fun e w' => (∃ x cap, e = .returned (.slice x (sv i).length cap) ∧ ILs w' x (plI (C.a i 5) (C.a i 6) (sv i) s)) ∧ Below w.heap.size w w' :=
 refSpread_any (C.a i 5) (C.a i 6) (C.a i 7) (C.a i 10) s _ (sv i) p ca h.ok h.n4 (levI_is (by have := h.h5; omega) (Zhk (v := s) (Zhr _ _ (sv i) (show -C.a i 5 ≤ C.a i 5 by have := h.h5; omega))).1) w hv
end
def MdS (w : World) (QR QH QK QZ g : Nat) (rc h1 ak : List Value) (L : List Sv) (u : World) : Prop := u.rangeAt QR 0 rc ∧ u.rangeAt QH 0 h1 ∧ u.rangeAt QK 0 ak ∧ VLs u (some (Ad g 0)) L ∧ (∃ cs : List Value, cs.length = 3 ∧ Blk 38 u QZ cs) ∧ Below w.heap.size w u
theorem MdS.later {w u u' : World} {QR QH QK QZ g : Nat} {rc h1 ak : List Value} {L : List Sv} (hb : Below u.heap.size u u') (h : MdS w QR QH QK QZ g rc h1 ak L u) : MdS w QR QH QK QZ g rc h1 ak L u' :=
 ⟨Zag h.1 hb, Zag h.2.1 hb, Zag h.2.2.1 hb, h.2.2.2.1.later hb, h.2.2.2.2.1.elim fun cs k => ⟨cs, k.1, k.2.later hb⟩, Zac h.2.2.2.2.2 hb⟩
theorem Zcf {u : World} {g V : Nat} {L : List Sv} (hg : g ≠ V) (vs : List Value) (o : Nat) (h : VLs u (some (Ad g 0)) L) : VLs (u.setCells V o vs) (some (Ad g 0)) L := by
 rcases h with h | ⟨b, off, e, hc⟩
 · exact .inl h
 · simp only [Option.some.injEq, Addr.mk.injEq] at e; obtain ⟨rfl, rfl, _⟩ := e; exact .inr ⟨g, 0, rfl, fun k hk => ⟨Zdq hg vs o u (hc k hk).1, Zdq hg vs o u (hc k hk).2.1, Zdq hg vs o u (hc k hk).2.2⟩⟩
theorem MdS.put {w u : World} {QR QH QK QZ g : Nat} {rc h1 ak : List Value} {L : List Sv} (hz : QR ≠ QZ ∧ QH ≠ QZ ∧ QK ≠ QZ ∧ g ≠ QZ ∧ w.heap.size ≤ QZ) (vs : List Value) (h : MdS w QR QH QK QZ g rc h1 ak L u) : MdS w QR QH QK QZ g rc h1 ak L (u.setCells QZ 0 vs) :=
 ⟨World.rangeAt_setCells_apart h.1 QZ 0 vs (.inl hz.1), World.rangeAt_setCells_apart h.2.1 QZ 0 vs (.inl hz.2.1), World.rangeAt_setCells_apart h.2.2.1 QZ 0 vs (.inl hz.2.2.1), Zcf hz.2.2.2.1 vs 0 h.2.2.2.1, h.2.2.2.2.1.elim fun cs k => ⟨_, by rw [putL_len]; exact k.1, Blk.setCells vs 0 u cs k.2⟩, Zae vs 0 u h.2.2.2.2.2 hz.2.2.2.2⟩
theorem Zio {u : World} {P j base : Nat} {x : Value} {e : TypeId} {size : Nat} {v : Value} {n : Nat} {xs : List Value} (h : u.ownsRow base e size v n xs) (hP : some P ≠ v.ownBlock) : (u.setCell (Ad P j) x).ownsRow base e size v n xs := by
 refine ⟨h.1, ?_⟩
 rcases h.2 with h | ⟨g, cap, cur, h1, h2, h3, h4⟩
 · exact .inl h
 · subst h1; exact .inr ⟨g, cap, cur, rfl, h2, (heap_setCell_other u ⟨P, j, none⟩ g x (fun (e : g = P) => hP (by rw [e]; rfl))).trans h3, h4⟩
theorem res_moved (tmps : Array Value) (U : World) (Y : Nat) (cs : List Value) (x : Value) (h6 : tmps.getD 13 undef = .pointer (some (Ad Y 0))) (h7 : tmps.getD 12 undef = x) (hR : U.rangeAt Y 0 cs) (hn : cs.length = 3) :
 (results Tryz.f54 tmps).run Tryz.prog U = .ok (.tuple #[x, .agg cs.toArray]) U := by
 have h3 : tmps[13]?.getD undef = .pointer (some (Ad Y 0)) := by simpa using h6
 have h4 : tmps[12]?.getD undef = x := by simpa using h7
 simp [results, Tryz.results54, h3, h4, asAddr, run_loadVar_mid U Y 0 38 cs _ hR Tryz.underlying38 rfl (by rw [Zcp, hn])]
end Go.Proofs.YtnfdfiholcelaaaGreatDoor
