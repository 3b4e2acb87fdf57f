import Derived.RegionTactic
import Derived.ChangeAlike
import Derived.Deep.QuietTactic
import Derived.BigQuiet
import Derived.Deep.RegionHeld3
import Derived.Deep.CutRange
import Derived.Deep.DeepCutAuto
import Derived.BigRegion
import Derived.Deep.MidRow
import Derived.Deep.WholeRow
import Derived.RangeFuncRecord
import Derived.Laws.Rows
import Derived.KernelRfl
import Derived.Maps.Own
import Derived.Maps.Range
import Derived.Sort.MapsRangeIn
import Derived.DeepKeys4
import Derived.RangeFuncSeq
import Derived.RangeFuncGives
import Derived.RangeFuncBound
import Derived.RangeFuncCalls
import Derived.Shelf.Abstract
import Derived.Shelf.RegionOpen
import Derived.WalkKit
import Derived.OwnWalkIn
import Derived.TacticsInMore
import Derived.LoopNIn
import Derived.LoopIn
import Derived.RangeFuncFrom
import Derived.Test.YtnfdfiholcelaaaGreatDoorJa00
set_option maxRecDepth 100000
set_option maxHeartbeats 20000000
namespace Go.Proofs.YtnfdfiholcelaaaGreatDoor
open Go.RowKit Plain
theorem nearest_any (n d : Int) (h0 : -4611686018427387904 ≤ n) (h1 : n ≤ 4611686018427387904) (d0 : 0 < d) (d1 : d ≤ 4000000000000) (w : World) :
 Calls Tryz.prog 282 #[Vi n, Vi d] w fun e w' => e = .returned (Vi (upI n d)) ∧ ∃ k, w' = w.drewN k := by
 have q : -4611686018427387904 ≤ n.tdiv d ∧ n.tdiv d ≤ 4611686018427387904 := by
  have h : (n.tdiv d).natAbs ≤ n.natAbs := by rw [Int.natAbs_tdiv]; exact Nat.div_le_self _ _
  omega
 have r : -4000000000000 ≤ n.tmod d ∧ n.tmod d ≤ 4000000000000 := by
  have h : (n.tmod d).natAbs < d.natAbs := by rw [Int.natAbs_tmod]; exact Nat.mod_lt _ (by omega)
  omega
 obtain ⟨q0, q1⟩ := q; obtain ⟨r0, r1⟩ := r
 have hd' : (d == 0) = false := by simp; omega
 rw [← near_up n d d0]
 by_cases c1 : n.tmod d < 0
 · by_cases c2 : d - (n.tmod d + d) ≤ n.tmod d + d
   · have e : nearT n d = n.tdiv d := by unfold nearT; rw [if_pos c1, if_pos c2]; omega
     rw [e]; clear e
     go_enter Tryz.func282, Tryz.ntmps282
     go_wp2; go_quiet (fail); go_wp2; go_ret; exact ⟨rfl, _, rfl⟩
   · have e : nearT n d = n.tdiv d - 1 := by unfold nearT; rw [if_pos c1, if_neg c2]
     rw [e]; clear e
     go_enter Tryz.func282, Tryz.ntmps282
     go_wp2; go_quiet (fail); go_wp2; go_ret; exact ⟨rfl, _, rfl⟩
 · by_cases c2 : d - n.tmod d ≤ n.tmod d
   · have e : nearT n d = n.tdiv d + 1 := by unfold nearT; rw [if_neg c1, if_pos c2]
     rw [e]; clear e
     go_enter Tryz.func282, Tryz.ntmps282
     go_wp2; go_quiet (fail); go_wp2; go_ret; exact ⟨rfl, _, rfl⟩
   · have e : nearT n d = n.tdiv d := by unfold nearT; rw [if_neg c1, if_neg c2]
     rw [e]; clear e
     go_enter Tryz.func282, Tryz.ntmps282
     go_wp2; go_quiet (fail); go_wp2; go_ret; exact ⟨rfl, _, rfl⟩
theorem pick_any (n d : Int) (d0 : 0 < d) (d1 : d ≤ 8000000000000) (w : World) :
 Calls Tryz.prog 24 #[Vi n, Vi d] w fun e w' => e = .returned (Vi (n % d)) ∧ w' = w := by
 have r : -8000000000000 ≤ n.tmod d ∧ n.tmod d ≤ 8000000000000 := by
  have h : (n.tmod d).natAbs < d.natAbs := by rw [Int.natAbs_tmod]; exact Nat.mod_lt _ (by omega)
  omega
 obtain ⟨r0, r1⟩ := r
 have hd' : (d == 0) = false := by simp; omega
 by_cases c1 : n.tmod d < 0
 · rw [((tdm n d d0).1 c1).1]
   go_enter Tryz.func24, Tryz.ntmps24
   go_wp2; go_ret; exact ⟨rfl, rfl⟩
 · rw [((tdm n d d0).2 c1).1]
   go_enter Tryz.func24, Tryz.ntmps24
   go_wp2; go_ret; exact ⟨rfl, rfl⟩
theorem down_cut (n d : Int) (d0 : 0 < d) : (n - n % d).tdiv d = n / d := by
 have e := Int.mul_ediv_add_emod n d
 have : n - n % d = (n / d) * d := by rw [Int.mul_comm]; omega
 rw [this, Int.mul_tdiv_cancel _ (by omega)]
theorem down_any (n d : Int) (h0 : -9200000000000000000 ≤ n) (h1 : n ≤ 9200000000000000000) (d0 : 0 < d) (d1 : d ≤ 8000000000000) (w : World) :
 Calls Tryz.prog 141 #[Vi n, Vi d] w fun e w' => e = .returned (Vi (n / d)) ∧ w' = w := by
 have hd' : (d == 0) = false := by simp; omega
 have m0 := Int.emod_nonneg n (show d ≠ 0 by omega); have m1 := Int.emod_lt_of_pos n d0; rw [← down_cut n d d0]
 have q : -9223372036854775807 ≤ (n - n % d).tdiv d ∧ (n - n % d).tdiv d ≤ 9223372036854775807 := by
  have h : ((n - n % d).tdiv d).natAbs ≤ (n - n % d).natAbs := by rw [Int.natAbs_tdiv]; exact Nat.div_le_self _ _
  omega
 obtain ⟨q0, q1⟩ := q
 go_enter Tryz.func141, Tryz.ntmps141
 go_wp2_with (go_at_call 24; refine (pick_any _ _ d0 d1 _).mono ?_; rintro e w' ⟨rfl, rfl⟩); go_ret; exact ⟨rfl, rfl⟩
theorem up_any (n d : Int) (h0 : -4500000000000000000 ≤ n) (h1 : n ≤ 4500000000000000000) (d0 : 0 < d) (d1 : d ≤ 4000000000000) (w : World) :
 Calls Tryz.prog 199 #[Vi n, Vi d] w fun e w' => e = .returned (Vi (upI n d)) ∧ w' = w := by
 unfold upI
 go_enter Tryz.func199, Tryz.ntmps199
 go_wp2_with (go_at_call 141; refine (down_any _ _ (by omega) (by omega) (by omega) (by omega) _).mono ?_; rintro e w' ⟨rfl, rfl⟩); go_ret; exact ⟨rfl, rfl⟩
theorem Zbt (e : Int) (w : World) : Calls Tryz.prog 14 #[.bool true, Vi e] w fun r w' => r = .returned (Vi e) ∧ w' = w := by
 go_enter Tryz.func14, Tryz.ntmps14
 go_wp2; go_ret; exact ⟨rfl, rfl⟩
theorem Zcc (e : Int) (w : World) : Calls Tryz.prog 14 #[.bool false, Vi e] w fun r w' => r = .returned (Vi 0) ∧ w' = w := by
 go_enter Tryz.func14, Tryz.ntmps14
 go_wp2; go_ret; exact ⟨rfl, rfl⟩
theorem Zcu (b : Bool) (e : Int) (w : World) : Calls Tryz.prog 14 #[.bool b, Vi e] w fun r w' => r = .returned (Vi (if b then e else 0)) ∧ w' = w := by
 cases b
 · exact Zcc e w
 · exact Zbt e w
theorem when_named (b : Bool) (e : Int) (w : World) : Calls Tryz.prog 14 #[.bool b, Vi e] w fun r w' => ∃ x, r = .returned (Vi x) ∧ Hid (x = if b then e else 0) ∧ w' = w :=
 (Zcu b e w).mono fun _ _ ⟨h1, h2⟩ => ⟨_, h1, rfl, h2⟩
def errV (e : Int) : Value := if e = 0 then .nilIface else .iface 44 (Vi e)
theorem Zas : errV 0 = .nilIface := rfl
theorem Zbf {e : Int} (h : e ≠ 0) : errV e = .iface 44 (Vi e) := by unfold errV; rw [if_neg h]
theorem code_nil (w : World) : Calls Tryz.prog 63 #[.nilIface] w fun r w' => r = .returned (Vi 0) ∧ w' = w := by
 go_enter Tryz.func63, Tryz.ntmps63
 go_wp2; go_ret; exact ⟨rfl, rfl⟩
theorem as_errno (v : Value) (w : World) : (Instr.typeAssert (.iface 44 v) 51 44 true).run Tryz.prog w = .ok (.tuple #[v, .bool true]) w := by kernel_rfl
theorem code_errno (x : Int) (w : World) : Calls Tryz.prog 63 #[.iface 44 (Vi x)] w fun r w' => r = .returned (Vi x) ∧ w' = w := by
 have ta := as_errno (Vi x)
 go_enter Tryz.func63, Tryz.ntmps63
 go_wp2; go_ret; exact ⟨rfl, rfl⟩
theorem code_any (x : Int) (w : World) : Calls Tryz.prog 63 #[errV x] w fun r w' => r = .returned (Vi x) ∧ w' = w := by
 by_cases h : x = 0
 · subst h; exact code_nil w
 · rw [Zbf h]; exact code_errno x w
theorem is_any (x e : Int) (w : World) : Calls Tryz.prog 17 #[errV x, Vi e] w fun r w' => r = .returned (.bool (x == e)) ∧ w' = w := by
 go_enter Tryz.func17, Tryz.ntmps17
 go_wp2_with (go_at_call 63; refine (code_any _ _).mono ?_; rintro e w' ⟨rfl, rfl⟩); go_ret; exact ⟨rfl, rfl⟩
theorem Zcj (x lo hi : Int) (w : World) :
 Calls Tryz.prog 38 #[Vi x, Vi lo, Vi hi] w fun e w' => e = .returned (.bool (decide (lo ≤ x) && decide (x ≤ hi))) ∧ w' = w := by
 by_cases g1 : lo ≤ x
 · by_cases g2 : x ≤ hi
   · rw [decide_eq_true g1, decide_eq_true g2]
     go_enter Tryz.func38, Tryz.ntmps38
     go_wp2; go_ret; exact ⟨rfl, rfl⟩
   · rw [decide_eq_true g1, decide_eq_false g2]
     go_enter Tryz.func38, Tryz.ntmps38
     go_wp2; go_ret; exact ⟨by simp, rfl⟩
 · rw [decide_eq_false g1]
   go_enter Tryz.func38, Tryz.ntmps38
   go_wp2; go_ret; exact ⟨rfl, rfl⟩
theorem Zgl (x : Int) (w : World) :
 Calls Tryz.prog 38 #[Vi x, Vi (-1000000), Vi 1000000] w fun e w' => e = .returned (.bool (Zbi x)) ∧ w' = w := Zcj x _ _ w
theorem isBeyond_any (x : Int) (w : World) :
 Calls Tryz.prog 266 #[Vi x] w fun e w' => e = .returned (.bool (!Zbi x)) ∧ w' = w := by
 by_cases g1 : 1000000 < x
 · have e : Zbi x = false := by simp [Zbi]; omega
   rw [e]
   go_enter Tryz.func266, Tryz.ntmps266
   go_wp2; go_ret; exact ⟨rfl, rfl⟩
 · by_cases g2 : x < -1000000
   · have e : Zbi x = false := by simp [Zbi]; omega
     rw [e]
     go_enter Tryz.func266, Tryz.ntmps266
     go_wp2; go_ret; exact ⟨by simp, rfl⟩
   · have e : Zbi x = true := by simp [Zbi]; omega
     rw [e]
     go_enter Tryz.func266, Tryz.ntmps266
     go_wp2; go_ret; exact ⟨by simp, rfl⟩
theorem nan_any (x : Int) (w : World) : Calls Tryz.prog 238 #[Vi x] w fun e w' => e = .returned (.bool false) ∧ w' = w := by
 have e : (x != x) = false := by simp
 go_enter Tryz.func238, Tryz.ntmps238
 go_wp2; go_ret; exact ⟨by simp, rfl⟩
def Zar : List Int → Int
 | [] => 0
 | x :: l => if x = 0 then Zar l else x
theorem first_step (zs : List Int) (k : Nat) (h : k < zs.length) : Zar (zs.drop k) = if zs.getD k 0 = 0 then Zar (zs.drop (k + 1)) else zs.getD k 0 := by
 rw [List.drop_eq_getElem_cons h, List.getD_eq_getElem?_getD, List.getElem?_eq_getElem h]; rfl
theorem first_any (b off cap : Nat) (zs : List Int) (w : World) (hm : zs.length ≤ 9223372036854775807) (hc : ∀ k, k < zs.length → w.cell? (Ad b (off + k)) = some (Vi (zs.getD k 0))) :
 Calls Tryz.prog 13 #[.slice (some (Ad b off)) zs.length cap] w fun r w' => r = .returned (Vi (Zar zs)) ∧ w' = w := by
 have HC : Hid (∀ k, k < zs.length → w.cell? (Ad b (off + k)) = some (Vi (zs.getD k 0))) := hc; clear hc
 go_enter Tryz.func13, Tryz.ntmps13
 go_wp2
 go_loop [3] (fun i => ∃ k : Nat, k ≤ zs.length ∧ i = Vi k ∧ Hid (Zar zs = Zar (zs.drop k))) (fun i => zs.length - (intOf i).toNat)
 case atStart => exact ⟨0, Nat.zero_le _, rfl, by show Zar zs = Zar (zs.drop 0); rw [List.drop_zero]⟩
 case round =>
  obtain ⟨k, hk, rfl, hf⟩ := hrel
  by_cases hlt : k < zs.length
  · have hcell := HC.out k hlt; have hs := first_step zs k hlt; generalize zs.getD k 0 = z at hcell hs
    by_cases hz : z = 0
    · subst hz; rw [if_pos rfl] at hs; have HS : Hid (Zar zs = Zar (zs.drop (k + 1))) := hf.out.trans hs; clear hs hf; go_wp2
      go_round
      case rel => exact ⟨k + 1, by omega, by go_num, HS⟩
      case measure => simp [intOf]; omega
    · rw [if_neg hz] at hs; have HS : Hid (Zar zs = z) := hf.out.trans hs; clear hs hf
      have hz' : (z != 0) = true := by simpa using hz
      clear hz; go_wp2; go_ret; exact ⟨by rw [HS.out]; rfl, rfl⟩
  · go_wp2; go_ret
    have : k = zs.length := by omega
    subst this; exact ⟨by rw [hf.out, List.drop_length]; rfl, rfl⟩
theorem first_two (b cap : Nat) (x y : Int) (w : World) (h0 : w.cell? (Ad b 0) = some (Vi x)) (h1 : w.cell? (Ad b 1) = some (Vi y)) :
 Calls Tryz.prog 13 #[.slice (some (Ad b 0)) 2 cap] w fun r w' => r = .returned (Vi (Zar [x, y])) ∧ w' = w := by
 refine first_any b 0 cap [x, y] w (by simp) ?_; intro k hk; simp only [List.length_cons, List.length_nil] at hk
 match k, hk with
 | 0, _ => exact h0
 | 1, _ => exact h1
theorem Zes (b cap : Nat) (x y z : Int) (w : World) (h0 : w.cell? (Ad b 0) = some (Vi x)) (h1 : w.cell? (Ad b 1) = some (Vi y)) (h2 : w.cell? (Ad b 2) = some (Vi z)) :
 Calls Tryz.prog 13 #[.slice (some (Ad b 0)) 3 cap] w fun r w' => r = .returned (Vi (Zar [x, y, z])) ∧ w' = w := by
 refine first_any b 0 cap [x, y, z] w (by simp) ?_; intro k hk; simp only [List.length_cons, List.length_nil] at hk
 match k, hk with
 | 0, _ => exact h0
 | 1, _ => exact h1
 | 2, _ => exact h2
theorem first_four (b cap : Nat) (x y z u : Int) (w : World) (h0 : w.cell? (Ad b 0) = some (Vi x)) (h1 : w.cell? (Ad b 1) = some (Vi y)) (h2 : w.cell? (Ad b 2) = some (Vi z)) (h3 : w.cell? (Ad b 3) = some (Vi u)) :
 Calls Tryz.prog 13 #[.slice (some (Ad b 0)) 4 cap] w fun r w' => r = .returned (Vi (Zar [x, y, z, u])) ∧ w' = w := by
 refine first_any b 0 cap [x, y, z, u] w (by simp) ?_; intro k hk; simp only [List.length_cons, List.length_nil] at hk
 match k, hk with
 | 0, _ => exact h0
 | 1, _ => exact h1
 | 2, _ => exact h2
 | 3, _ => exact h3
theorem Zcw (T : TypeId) (x y : Int) (w : World) :
 Calls Tryz.prog 13 #[.slice (some (Ad w.heap.size 0)) 2 2] (w.alloc (.cells #[Vi x, Vi y] T)) fun r w' => r = .returned (Vi (Zar [x, y])) ∧ w' = w.alloc (.cells #[Vi x, Vi y] T) :=
 first_two _ _ x y _ (by simp [go_sem]) (by simp [go_sem])
theorem Zia (T : TypeId) (x y z : Int) (w : World) :
 Calls Tryz.prog 13 #[.slice (some (Ad w.heap.size 0)) 3 3] (w.alloc (.cells #[Vi x, Vi y, Vi z] T)) fun r w' => r = .returned (Vi (Zar [x, y, z])) ∧ w' = w.alloc (.cells #[Vi x, Vi y, Vi z] T) :=
 Zes _ _ x y z _ (by simp [go_sem]) (by simp [go_sem]) (by simp [go_sem])
theorem first_new4 (T : TypeId) (x y z u : Int) (w : World) :
 Calls Tryz.prog 13 #[.slice (some (Ad w.heap.size 0)) 4 4] (w.alloc (.cells #[Vi x, Vi y, Vi z, Vi u] T)) fun r w' => r = .returned (Vi (Zar [x, y, z, u])) ∧ w' = w.alloc (.cells #[Vi x, Vi y, Vi z, Vi u] T) :=
 first_four _ _ x y z u _ (by simp [go_sem]) (by simp [go_sem]) (by simp [go_sem]) (by simp [go_sem])
theorem Zab {p : Prop} (h : p) : Hid p := h
theorem Zaa (w : World) (o : Obj) : Below w.heap.size w (w.alloc o) := (Below.refl _ _).alloc (Nat.le_refl _) o
theorem Zac {w w1 w2 : World} (h : Below w.heap.size w w1) (k : Below w1.heap.size w1 w2) : Below w.heap.size w w2 := h.trans (k.mono h.size)
def betw (x lo hi : Int) : Bool := decide (lo ≤ x) && decide (x ≤ hi)
theorem Zat {x lo hi : Int} (h : betw x lo hi = true) : lo ≤ x ∧ x ≤ hi := by simp [betw] at h; omega
theorem Zgn {x lo hi : Int} (h0 : lo ≤ x) (h1 : x ≤ hi) : betw x lo hi = true := by simp [betw]; omega
theorem Zaj (x lo hi : Int) (w : World) :
 Calls Tryz.prog 38 #[Vi x, Vi lo, Vi hi] w fun e w' => e = .returned (.bool (betw x lo hi)) ∧ w' = w := Zcj x lo hi w
theorem fixIn_ex (x lo hi : Int) (w : World) :
 Calls Tryz.prog 128 #[Vi x, .agg #[Vi lo, Vi hi]] w fun e w' => e = .returned (.bool (betw x lo hi)) ∧ w' = w.alloc (.cells #[Vi lo, Vi hi] 105) := by
 unfold betw
 by_cases g1 : lo ≤ x
 · by_cases g2 : x ≤ hi
   · rw [decide_eq_true g1, decide_eq_true g2]
     go_enter Tryz.func128, Tryz.ntmps128
     go_wp2; go_ret; exact ⟨rfl, rfl⟩
   · rw [decide_eq_true g1, decide_eq_false g2]
     go_enter Tryz.func128, Tryz.ntmps128
     go_wp2; go_ret; exact ⟨by simp, rfl⟩
 · rw [decide_eq_false g1]
   go_enter Tryz.func128, Tryz.ntmps128
   go_wp2; go_ret; exact ⟨rfl, rfl⟩
theorem Zba (x lo hi : Int) (w : World) :
 Calls Tryz.prog 76 #[Vi x, Vi lo, Vi hi] w fun e w' => e = .returned (.bool (betw x lo hi)) ∧ w' = w.alloc (.cells #[Vi lo, Vi hi] 105) := by
 go_enter Tryz.func76, Tryz.ntmps76
 go_wp2_with (go_at_call 128; refine (fixIn_ex _ _ _ _).mono ?_; rintro e w' ⟨rfl, rfl⟩); go_ret; exact ⟨rfl, rfl⟩
def arB (T R S C : Int) : Bool := betw T 1 1000 && betw R 1 T && betw S 0 T && betw C 1 10
def arE (T R S C : Int) : Int := if arB T R S C then 0 else 1
theorem Zbu {T R S C : Int} (h : arB T R S C = true) : (1 ≤ T ∧ T ≤ 1000) ∧ (1 ≤ R ∧ R ≤ T) ∧ (0 ≤ S ∧ S ≤ T) ∧ 1 ≤ C ∧ C ≤ 10 := by
 simp only [arB, Bool.and_eq_true] at h; exact ⟨Zat h.1.1.1, Zat h.1.1.2, Zat h.1.2, Zat h.2⟩
theorem Zez {T R S C : Int} (h : arE T R S C = 0) : arB T R S C = true := by
 unfold arE at h; split at h
 · assumption
 · omega
theorem arE_ne {T R S C : Int} (h : arE T R S C ≠ 0) : arE T R S C = 1 := by unfold arE at *; split <;> simp_all
theorem Ziv (T R S C : Int) (w : World) :
 Calls Tryz.prog 180 #[.agg #[Vi T, Vi R, Vi S, Vi C]] w fun e w' => e = .returned (errV (arE T R S C)) ∧ Below w.heap.size w w' := by
 have f1 := Zba T 1 1000; have f2 := Zba R 1 T; have f3 := Zba S 0 T; have f4 := Zba C 1 10
 unfold arE arB
 generalize betw T 1 1000 = x1 at *; generalize betw R 1 T = x2 at *; generalize betw S 0 T = x3 at *; generalize betw C 1 10 = x4 at *
 rcases (show x1 = false ∨ (x1 = true ∧ x2 = false) ∨ (x1 = true ∧ x2 = true ∧ x3 = false) ∨ (x1 = true ∧ x2 = true ∧ x3 = true ∧ x4 = false) ∨ (x1 = true ∧ x2 = true ∧ x3 = true ∧ x4 = true) by cases x1 <;> cases x2 <;> cases x3 <;> cases x4 <;> simp) with rfl | ⟨rfl, rfl⟩ | ⟨rfl, rfl, rfl⟩ | ⟨rfl, rfl, rfl, rfl⟩ | ⟨rfl, rfl, rfl, rfl⟩
 all_goals
  go_enter Tryz.func180, Tryz.ntmps180
  go_wp2_with (first | ((first | go_at_call_of 76 (Vi R) | go_at_call_of 76 (Value.int .i64 R)); refine (f2 _).mono ?_; rintro e w' ⟨rfl, rfl⟩) | ((first | go_at_call_of 76 (Vi S) | go_at_call_of 76 (Value.int .i64 S)); refine (f3 _).mono ?_; rintro e w' ⟨rfl, rfl⟩) | ((first | go_at_call_of 76 (Vi C) | go_at_call_of 76 (Value.int .i64 C)); refine (f4 _).mono ?_; rintro e w' ⟨rfl, rfl⟩) | ((first | go_at_call_of 76 (Vi T) | go_at_call_of 76 (Value.int .i64 T)); refine (f1 _).mono ?_; rintro e w' ⟨rfl, rfl⟩)); go_ret; exact ⟨rfl, by repeat (first | exact Zaa _ _ | refine Zac ?_ (Zaa _ _))⟩
theorem Zig (T R S C : Int) (w : World) :
 Calls Tryz.prog 89 #[.agg #[Vi T, Vi R, Vi S, Vi C]] w fun e w' => e = .returned (Vi (arE T R S C)) ∧ Below w.heap.size w w' := by
 have f1 := Zaj T 1 1000; have f2 := Zaj R 1 T; have f3 := Zaj S 0 T; have f4 := Zaj C 1 10
 unfold arE arB
 generalize betw T 1 1000 = x1 at *; generalize betw R 1 T = x2 at *; generalize betw S 0 T = x3 at *; generalize betw C 1 10 = x4 at *
 rcases (show x1 = false ∨ (x1 = true ∧ x2 = false) ∨ (x1 = true ∧ x2 = true ∧ x3 = false) ∨ (x1 = true ∧ x2 = true ∧ x3 = true ∧ x4 = false) ∨ (x1 = true ∧ x2 = true ∧ x3 = true ∧ x4 = true) by cases x1 <;> cases x2 <;> cases x3 <;> cases x4 <;> simp) with rfl | ⟨rfl, rfl⟩ | ⟨rfl, rfl, rfl⟩ | ⟨rfl, rfl, rfl, rfl⟩ | ⟨rfl, rfl, rfl, rfl⟩
 all_goals
  go_enter Tryz.func89, Tryz.ntmps89
  go_wp2_with (first | ((first | go_at_call_of 38 (Vi R) | go_at_call_of 38 (Value.int .i64 R)); refine (f2 _).mono ?_; rintro e w' ⟨rfl, rfl⟩) | ((first | go_at_call_of 38 (Vi S) | go_at_call_of 38 (Value.int .i64 S)); refine (f3 _).mono ?_; rintro e w' ⟨rfl, rfl⟩) | ((first | go_at_call_of 38 (Vi C) | go_at_call_of 38 (Value.int .i64 C)); refine (f4 _).mono ?_; rintro e w' ⟨rfl, rfl⟩) | ((first | go_at_call_of 38 (Vi T) | go_at_call_of 38 (Value.int .i64 T)); refine (f1 _).mono ?_; rintro e w' ⟨rfl, rfl⟩) | (go_at_call 14; refine (Zcu _ _ _).mono ?_; rintro e w' ⟨rfl, rfl⟩)); go_ret; exact ⟨rfl, Zaa _ _⟩
def Q4 (w : World) (g o : Nat) (r : Rd) : Prop := w.cell? (Ad g o) = some (Vi r.1) ∧ w.cell? (Ad g (o + 1)) = some (Vi r.2.1) ∧ w.cell? (Ad g (o + 2)) = some (Vi r.2.2.1) ∧ w.cell? (Ad g (o + 3)) = some (Vi r.2.2.2)
def Rds (w : World) (a : Option Addr) (l : List Rd) : Prop := l = [] ∨ ∃ g, a = some (Ad g 0) ∧ ∀ k, k < l.length → Q4 w g (k * 4) (rat l k)
theorem Q4.later {w w' : World} {g o : Nat} {r : Rd} (h : Q4 w g o r) (hb : Below w.heap.size w w') : Q4 w' g o r := ⟨cell_later hb h.1, cell_later hb h.2.1, cell_later hb h.2.2.1, cell_later hb h.2.2.2⟩
theorem Rds.later {w w' : World} {a : Option Addr} {l : List Rd} (h : Rds w a l) (hb : Below w.heap.size w w') : Rds w' a l := by
 rcases h with h | ⟨g, h, hc⟩
 · exact .inl h
 · exact .inr ⟨g, h, fun k hk => (hc k hk).later hb⟩
theorem Rds.at {w : World} {a : Option Addr} {l : List Rd} (h : Rds w a l) {k : Nat} (hk : k < l.length) : ∃ g, a = some (Ad g 0) ∧ Q4 w g (k * 4) (rat l k) := by
 rcases h with rfl | ⟨g, h, hc⟩
 · simp at hk
 · exact ⟨g, h, hc k hk⟩
def Blk (t : TypeId) (u : World) (B : Nat) (cs : List Value) : Prop := u.heap[B]? = some (.cells cs.toArray t (0, 0))
section
variable {t : TypeId} {u u' : World} {B V : Nat} {cs : List Value}
theorem Blk.new (u : World) (t : TypeId) (cs : List Value) : Blk t (u.alloc (.cells cs.toArray t)) u.heap.size cs := World.alloc_heap_new u _
theorem Blk.lt (h : Blk t u B cs) : B < u.heap.size := (Array.getElem?_eq_some_iff.1 h).1
theorem Blk.later (h : Blk t u B cs) (hb : Below u.heap.size u u') : Blk t u' B cs := (hb.block B h.lt).trans h
theorem Blk.cell (h : Blk t u B cs) {j : Nat} {v : Value} (hv : cs[j]? = some v) : u.cell? (Ad B j) = some v ∧ u.frozen? (Ad B j) = false := by
 unfold Blk at h
 constructor
 · simp only [World.cell?, h]; simp only [Option.isSome_none, Bool.false_eq_true, if_false]
   simpa using hv
 · simp [World.frozen?, h]
theorem Blk.range (h : Blk t u B cs) : u.rangeAt B 0 cs := fun j v hv => by rw [Nat.zero_add]; exact (h.cell hv).1
theorem Blk.sub (h : Blk t u B cs) (o n : Nat) : u.rangeAt B o ((cs.drop o).take n) := fun j v hv => by
 rw [List.getElem?_take] at hv
 split at hv
 · rw [List.getElem?_drop] at hv; exact (h.cell hv).1
 · cases hv
theorem Blk.there (h : Blk t u B cs) {o n : Nat} (hn : o + n ≤ cs.length) : u.there B o n := fun j hj => by
 have hj' : o + j < cs.length := by omega
 have := h.cell (List.getElem?_eq_getElem hj'); exact ⟨by rw [this.1]; rfl, this.2⟩
theorem Blk.set (h : Blk t u B cs) (j : Nat) (v : Value) : Blk t (u.setCell (Ad B j) v) B (cs.set j v) := by
 unfold Blk at h ⊢
 rw [heap_setCell_same u B j cs.toArray t v h]
 simp
theorem Blk.far (h : Blk t u B cs) (hV : B ≠ V) (j : Nat) (v : Value) : Blk t (u.setCell (Ad V j) v) B cs := (heap_setCell_other u ⟨V, j, none⟩ B v hV).trans h
end
def putL (cs : List Value) (o : Nat) : List Value → List Value
 | [] => cs
 | v :: r => putL (cs.set o v) (o + 1) r
theorem Blk.setCells {t : TypeId} {B : Nat} : ∀ (vs : List Value) (o : Nat) (u : World) (cs : List Value), Blk t u B cs → Blk t (u.setCells B o vs) B (putL cs o vs)
 | [], _, _, _, h => h
 | v :: r, o, u, cs, h => Blk.setCells r (o + 1) (u.setCell ⟨B, o, none⟩ v) (cs.set o v) (h.set o v)
theorem Blk.farCells {t : TypeId} {B V : Nat} {cs : List Value} (hV : B ≠ V) : ∀ (vs : List Value) (o : Nat) (u : World), Blk t u B cs → Blk t (u.setCells V o vs) B cs
 | [], _, _, h => h
 | v :: r, o, u, h => Blk.farCells hV r (o + 1) (u.setCell ⟨V, o, none⟩ v) (h.far hV o v)
theorem Zae {K b : Nat} {w0 : World} : ∀ (vs : List Value) (o : Nat) (w : World), Below K w0 w → K ≤ b → Below K w0 (w.setCells b o vs)
 | [], _, _, h, _ => h
 | v :: r, o, w, h, hk => Zae r (o + 1) (w.setCell ⟨b, o, none⟩ v) (h.setCell (by simpa using hk) v) hk
theorem Zaq (cs : List Value) (h : cs.all (·.oneCell') = true) : cs.toArray.all (·.oneCell') = true := by simpa using h
def smp (l : List Rd) (x y : Int) : Bool × Int := match fnd x y l with
 | some r => if r.2.2.1 = 3 then (true, r.2.2.2) else (false, 0)
 | none => (false, 0)
structure Bk where
 b : Nat → Int
 o : Nat → Bool
 l : Int
def bkL (k : Bk) : List Value := [Vi (k.b 0), Vi (k.b 1), Vi (k.b 2), .bool (k.o 0), .bool (k.o 1), .bool (k.o 2), Vi k.l]
structure FS where
 bk : Nat → Bk
 sp : Nat → Option Addr
 sn : Nat → Nat
 sc : Nat → Nat
 hd : Nat → Int × Int × Int
 n : Int
structure CR where
 a : Nat → Nat → Int
 p : Nat → Option Addr
 q : Nat → Option Addr
 al : Nat → List Int
 zl : Nat → List Int
 cn : Nat → Nat
 cm : Nat → Nat
 c0 : Int
 c1 : Int
def hdL (h : Int × Int × Int) : List Value := [Vi h.1, Vi h.2.1, Vi h.2.2]
def stL (S : FS) : List Value := bkL (S.bk 0) ++ bkL (S.bk 1) ++ bkL (S.bk 2) ++ [.slice (S.sp 0) (S.sn 0) (S.sc 0), .slice (S.sp 1) (S.sn 1) (S.sc 1)] ++ hdL (S.hd 0) ++ hdL (S.hd 1) ++ [Vi S.n]
def axL (C : CR) (i : Nat) : List Value := [Vi (C.a i 0), Vi (C.a i 1), Vi (C.a i 2), Vi (C.a i 3), Vi (C.a i 4), Vi (C.a i 5), Vi (C.a i 6), Vi (C.a i 7), Vi (C.a i 8), Vi (C.a i 9), Vi (C.a i 10), Vi (C.a i 11), .slice (C.p i) (C.al i).length (C.cn i), .slice (C.q i) (C.zl i).length (C.cm i), Vi (C.a i 14)]
def crL (C : CR) : List Value := axL C 0 ++ axL C 1 ++ [Vi C.c0, Vi C.c1]
def frL (S : FS) (C : CR) (x : Value) : List Value := stL S ++ crL C ++ [x]
def upd {α : Type} (f : Nat → α) (i : Nat) (v : α) : Nat → α := fun j => if j = i then v else f j
theorem Zal {α : Type} (f : Nat → α) (i : Nat) (v : α) : upd f i v i = v := by simp [upd]
theorem Zav {α : Type} (f : Nat → α) {i j : Nat} (v : α) (h : j ≠ i) : upd f i v j = f j := by simp [upd, h]
section
variable (S : FS) (C : CR) (x : Value)
theorem frL_len : (frL S C x).length = 63 := rfl
theorem st_bank {i : Nat} (hi : i < 3) : ((stL S).drop (i * 7)).take 7 = bkL (S.bk i) := by
 rcases (show i = 0 ∨ i = 1 ∨ i = 2 by omega) with rfl | rfl | rfl <;> rfl
theorem Zca {i : Nat} (hi : i < 2) : (stL S)[21 + i]? = some (.slice (S.sp i) (S.sn i) (S.sc i)) := by
 rcases (show i = 0 ∨ i = 1 by omega) with rfl | rfl <;> rfl
theorem st_hold {i : Nat} (hi : i < 2) : ((stL S).drop (23 + i * 3)).take 3 = hdL (S.hd i) := by
 rcases (show i = 0 ∨ i = 1 by omega) with rfl | rfl <;> rfl
theorem cr_axis {i : Nat} (hi : i < 2) : ((crL C).drop (i * 15)).take 15 = axL C i := by
 rcases (show i = 0 ∨ i = 1 by omega) with rfl | rfl <;> rfl
theorem fr_bank {i : Nat} (hi : i < 3) : ((frL S C x).drop (i * 7)).take 7 = bkL (S.bk i) := by
 rcases (show i = 0 ∨ i = 1 ∨ i = 2 by omega) with rfl | rfl | rfl <;> rfl
theorem fr_last {i : Nat} (hi : i < 3) : (frL S C x)[i * 7 + 6]? = some (Vi (S.bk i).l) := by
 rcases (show i = 0 ∨ i = 1 ∨ i = 2 by omega) with rfl | rfl | rfl <;> rfl
theorem Zjj {i : Nat} (hi : i < 2) : (frL S C x)[21 + i]? = some (.slice (S.sp i) (S.sn i) (S.sc i)) := by
 rcases (show i = 0 ∨ i = 1 by omega) with rfl | rfl <;> rfl
theorem fr_hold {i : Nat} (hi : i < 2) : ((frL S C x).drop (23 + i * 3)).take 3 = hdL (S.hd i) := by
 rcases (show i = 0 ∨ i = 1 by omega) with rfl | rfl <;> rfl
theorem fr_law : (frL S C x)[29]? = some (Vi S.n) := rfl
theorem fr_axis {i : Nat} (hi : i < 2) : ((frL S C x).drop (30 + i * 15)).take 15 = axL C i := by
 rcases (show i = 0 ∨ i = 1 by omega) with rfl | rfl <;> rfl
theorem fr_surf {i : Nat} (hi : i < 2) : (frL S C x)[30 + i * 15 + 4]? = some (Vi (C.a i 4)) := by
 rcases (show i = 0 ∨ i = 1 by omega) with rfl | rfl <;> rfl
theorem fr_craft : ((frL S C x).drop 30).take 32 = crL C := rfl
theorem fr_axes : ((frL S C x).drop 30).take 30 = axL C 0 ++ axL C 1 := rfl
theorem fr_said : (frL S C x)[62]? = some x := rfl
theorem fr_putBank {i : Nat} (hi : i < 3) (k : Bk) : putL (frL S C x) (i * 7) (bkL k) = frL { S with bk := upd S.bk i k } C x := by
 rcases (show i = 0 ∨ i = 1 ∨ i = 2 by omega) with rfl | rfl | rfl <;> kernel_rfl
theorem fr_putHold {i : Nat} (hi : i < 2) (h : Int × Int × Int) : putL (frL S C x) (23 + i * 3) (hdL h) = frL { S with hd := upd S.hd i h } C x := by
 rcases (show i = 0 ∨ i = 1 by omega) with rfl | rfl <;> kernel_rfl
theorem fr_putLaw (n : Int) : (frL S C x).set 29 (Vi n) = frL { S with n := n } C x := by kernel_rfl
theorem st_putBank {i : Nat} (hi : i < 3) (k : Bk) : putL (stL S) (i * 7) (bkL k) = stL { S with bk := upd S.bk i k } := by
 rcases (show i = 0 ∨ i = 1 ∨ i = 2 by omega) with rfl | rfl | rfl <;> kernel_rfl
theorem st_putHold {i : Nat} (hi : i < 2) (h : Int × Int × Int) : putL (stL S) (23 + i * 3) (hdL h) = stL { S with hd := upd S.hd i h } := by
 rcases (show i = 0 ∨ i = 1 by omega) with rfl | rfl <;> kernel_rfl
theorem st_putLaw (n : Int) : (stL S).set 29 (Vi n) = stL { S with n := n } := by kernel_rfl
end
end Go.Proofs.YtnfdfiholcelaaaGreatDoor
namespace Go.Proofs.YtnfdfiholcelaaaGreatDoor
open Go.RowKit Plain Go.Maps Go.WideMaps
theorem who_laid : laidOutB Tryz.prog = true := by kernel_rfl
theorem who_row : (241 : TypeId) < Tryz.prog.types.size := of_decide_eq_true (by kernel_rfl)
theorem who_under : Tryz.prog.underlying 241 = some (.array 2 3) := by kernel_rfl
theorem who_cells : Tryz.prog.cellsOf 241 = 2 := by kernel_rfl
theorem who_one : Tryz.prog.cellsOf 3 = 1 := by kernel_rfl
theorem who_key : Tryz.prog.keyType 241 = true := by kernel_rfl
theorem who_wide : (match Tryz.prog.underlying 241 with | some (.array _ _) | some (.struct _) => true | _ => false) = true := by rw [who_under]
theorem who_at : Tryz.prog.keyTypeAt 2 241 = true := by kernel_rfl
theorem who_law : KeyLaw Tryz.prog 241 := deep_law_laid who_laid (m := 2) (by decide) who_row who_at who_wide
theorem Ziw : Keyed Tryz.prog 241 := Keyed.of_law who_law
theorem succ_of {n k : Nat} (h : k < n) : ∃ m, n = m + 1 := ⟨n - 1, by omega⟩
theorem who_size : ∃ m, Tryz.prog.types.size = m + 1 := succ_of who_row
def klI (a b : Int) : Lit := .string (keyBytes [.int .i64 a, .int .i64 b])
def wfR (r : Rd) : Prop := (Lit.int .i64 r.1).wf = true ∧ (Lit.int .i64 r.2.1).wf = true
theorem keyOf_who {a b : Int} (wa : (Lit.int .i64 a).wf = true) (wb : (Lit.int .i64 b).wf = true) : keyOf Tryz.prog 241 (.agg #[.int .i64 a, .int .i64 b]) = some (klI a b) := by
 obtain ⟨m, hm⟩ := who_size
 have hf : (Value.agg #[Vi a, Vi b]).formed Tryz.prog 241 = true := by simp [Value.formed, who_cells]
 unfold keyOf
 rw [who_under, who_key, hf, hm]
 simp [Program.keyLits, who_cells, who_one, Value.cells, wa, wb, klI, List.range_succ]
theorem klI_inj {a b a' b' : Int} (wa : (Lit.int .i64 a).wf = true) (wb : (Lit.int .i64 b).wf = true) (wa' : (Lit.int .i64 a').wf = true) (wb' : (Lit.int .i64 b').wf = true) (h : klI a b = klI a' b') : a = a' ∧ b = b' := by
 have := Ziw.inj (keyOf_who wa wb) (by rw [h]; exact keyOf_who wa' wb')
 simpa using this
theorem klI_is (a b : Int) : WideAt.IsKeyLit (klI a b) := trivial
theorem klI_same {r z : Rd} (hr : wfR r) (hz : wfR z) : (klI z.1 z.2.1).sameKey (klI r.1 r.2.1) = req z r := by
 cases h : req z r
 · cases hs : (klI z.1 z.2.1).sameKey (klI r.1 r.2.1)
   · rfl
   · have := klI_inj hz.1 hz.2 hr.1 hr.2 (WideAt.sameKey_eq hs); rw [req_no] at h; exact absurd this h
 · rw [req_iff] at h; rw [h.1, h.2]; exact WideAt.sameKey_self (klI_is _ _)
def encR (r : Rd) : List Value := [Vi r.1, Vi r.2.1, Vi r.2.2.1, Vi r.2.2.2]
def rdV (r : Rd) : Value := .agg #[Vi r.1, Vi r.2.1, Vi r.2.2.1, Vi r.2.2.2]
theorem rdV_inj {r z : Rd} (h : rdV r = rdV z) : r = z := by
 obtain ⟨a, b, c, d⟩ := r; obtain ⟨a', b', c', d'⟩ := z
 simp [rdV] at h
 simp [h]
section
variable {H : Type}
def datR (r : Rd) : DataW H := .agg [.lit (.int .i64 r.1), .lit (.int .i64 r.2.1), .lit (.int .i64 r.2.2.1), .lit (.int .i64 r.2.2.2)]
theorem datR_inj {r z : Rd} (h : (datR r : DataW H) = datR z) : r = z := by
 obtain ⟨a, b, c, d⟩ := r; obtain ⟨a', b', c', d'⟩ := z
 simp [datR] at h
 simp [h]
def rdRead (v : Value) : Option (DataW H × List MemPlace) :=
 match v with
 | .agg cs => match cs.toList with
  | [.int .i64 a, .int .i64 b, .int .i64 c, .int .i64 d] => some (datR (a, b, c, d), [])
  | _ => none
 | _ => none
theorem rdRead_mk (r : Rd) : rdRead (H := H) (rdV r) = some (datR r, []) := rfl
theorem rdRead_inv {v : Value} {y : DataW H × List MemPlace} (h : rdRead v = some y) : ∃ r, v = rdV r ∧ y = (datR r, []) := by
 unfold rdRead at h
 split at h
 · rename_i cs
   split at h
   · rename_i a b c d e
     refine ⟨(a, b, c, d), ?_, by cases h; rfl⟩
     unfold rdV
     congr 1
     rw [← Array.toArray_toList (xs := cs), e]
   · cases h
 · cases h
def entR (r : Rd) : Lit × DataW H := (klI r.1 r.2.1, datR r)
def RepM (D : DataW H) (l : List Rd) : Prop := ∃ es, D = .map es ∧ es.Perm (l.map entR)
theorem RepM.nil : RepM (.map [] : DataW H) [] := ⟨[], rfl, by simp⟩
theorem RepM.put {D : DataW H} {l : List Rd} {r : Rd} (h : RepM D l) (hl : ∀ z ∈ l, wfR z) (hr : wfR r) (hs : l.Pairwise (fun x y => rlt x y = true)) : RepM (D.put (klI r.1 r.2.1) (datR r)) (ins r l) := by
 obtain ⟨es, rfl, hp⟩ := h; refine ⟨_, rfl, (WideShapes.insert_perm _ _).trans ?_⟩
 have e1 : (l.map (entR (H := H))).filter (fun p => !p.1.sameKey (klI r.1 r.2.1)) = (l.filter (fun z => !req z r)).map entR := by
  rw [List.filter_map]
  congr 1
  refine List.filter_congr fun z hz => ?_
  show (!(klI z.1 z.2.1).sameKey (klI r.1 r.2.1)) = !req z r
  rw [klI_same hr (hl z hz)]
 have e2 := (hp.filter (fun p => !p.1.sameKey (klI r.1 r.2.1))).cons (klI r.1 r.2.1, (datR r : DataW H)); rw [e1] at e2; exact e2.trans ((ins_perm r hs).map (entR (H := H))).symm
def ColR (D : DataW H) (left : Lit → Bool) (ss : List Rd) : Prop :=
 ss.Nodup ∧ (∀ r ∈ ss, left (klI r.1 r.2.1) = false) ∧ ∀ k, has D k = true → left k = false → ∃ r ∈ ss, klI r.1 r.2.1 = k
theorem ColR.start (D : DataW H) : ColR D (has D) [] := ⟨List.nodup_nil, by simp, fun k h1 h2 => by rw [h1] at h2; cases h2⟩
theorem RepM.found {D : DataW H} {l : List Rd} {kl : Lit} {r : Rd} (h : RepM D l) (hat : ∀ zd, D.atKey kl zd = datR r) : r ∈ l ∧ kl = klI r.1 r.2.1 := by
 obtain ⟨es, rfl, hp⟩ := h; have h1 := has_true_of_atKey hat; have h2 := hat .nil; simp only [DataW.atKey] at h2
 split at h2
 · rename_i p hf
   have hm := List.mem_of_find?_eq_some hf; have hk := List.find?_some hf; obtain ⟨z, hz, e⟩ := List.mem_map.1 (hp.mem_iff.1 hm); subst e; obtain rfl := datR_inj h2; exact ⟨hz, (WideAt.sameKey_eq hk).symm⟩
 · simp [datR] at h2
theorem ColR.step {D : DataW H} {left : Lit → Bool} {ss : List Rd} {r : Rd} (h : ColR D left ss) (hlk : left (klI r.1 r.2.1) = true) : ColR D (fun z => left z && !z.sameKey (klI r.1 r.2.1)) (ss ++ [r]) := by
 obtain ⟨h1, h2, h3⟩ := h
 have hnew : r ∉ ss := fun hx => by have := h2 r hx; rw [hlk] at this; cases this
 refine ⟨List.nodup_append.2 ⟨h1, by simp, fun a ha b hb => by simp at hb; subst hb; exact fun e => hnew (e ▸ ha)⟩, fun z hz => ?_, fun k hk hl => ?_⟩
 · rcases List.mem_append.1 hz with hz | hz
   · simp [h2 z hz]
   · simp at hz; subst hz; simp [WideAt.sameKey_self (klI_is z.1 z.2.1)]
 · cases hlf : left k
   · obtain ⟨z, hz, e⟩ := h3 k hk hlf; exact ⟨z, by simp [hz], e⟩
   · have hl : (left k && !k.sameKey (klI r.1 r.2.1)) = false := hl; rw [hlf] at hl
     have : k.sameKey (klI r.1 r.2.1) = true := by simpa using hl
     exact ⟨r, by simp, (WideAt.sameKey_eq this).symm⟩
theorem nodup_of_sorted {l : List Rd} (h : l.Pairwise (fun x y => rlt x y = true)) : l.Nodup := h.imp fun {x y} h e => by subst e; rw [rlt_irrefl] at h; cases h
theorem ColR.perm {D : DataW H} {left : Lit → Bool} {ss l : List Rd} (h : ColR D left ss) (hD : RepM D l) (hl : ∀ z ∈ l, wfR z) (hs : l.Pairwise (fun x y => rlt x y = true)) (hm : ∀ r ∈ ss, r ∈ l) (h0 : ∀ k, left k = false) : ss.Perm l := by
 obtain ⟨h1, h2, h3⟩ := h; obtain ⟨es, rfl, hp⟩ := hD; refine (List.perm_ext_iff_of_nodup h1 (nodup_of_sorted hs)).2 fun r => ⟨hm r, fun hr => ?_⟩
 have hh : has (.map es) (klI r.1 r.2.1) = true := by
  rw [has_eq, List.any_eq_true]; exact ⟨entR r, hp.mem_iff.2 (List.mem_map.2 ⟨r, hr, rfl⟩), WideAt.sameKey_self (klI_is _ _)⟩
 obtain ⟨z, hz, e⟩ := h3 _ hh (h0 _); have hzl := hm z hz; have := klI_inj (hl z hzl).1 (hl z hzl).2 (hl r hr).1 (hl r hr).2 e; have : z = r := Zhq hs hzl hr (by rw [rlt_no]; omega) (by rw [rlt_no]; omega); exact this ▸ hz
theorem RepM.size {D : DataW H} {l : List Rd} (h : RepM D l) : Maps.size D = l.length := by
 obtain ⟨es, rfl, hp⟩ := h; rw [size_eq, hp.length_eq, List.length_map]
end
end Go.Proofs.YtnfdfiholcelaaaGreatDoor
namespace Go.Proofs.YtnfdfiholcelaaaGreatDoor
open Go.RowKit Go.Shelf Plain Go.Maps
attribute [local go_sem] Oper.semAt_some
theorem map_under : Tryz.prog.underlying 238 = some (.map 241 161) := by kernel_rfl
theorem vals1_in {H : Type} (n : Nat) (hn : 1 ≤ n) (l Bm b nn : Nat) (D0 : DataW H) (ls : List Rd) (hrep : RepM D0 ls) (hwf : ∀ z ∈ ls, wfR z) (hso : ls.Pairwise (fun x y => rlt x y = true)) (J : List Rd → World → Prop)
 (hY : ∀ pre x W, J pre W → pre.length < ls.length → YieldAt Fence.wide (n - 1) Tryz.prog l #[rdV x] W fun e W' => e = .returned (.bool true) ∧ J (pre ++ [x]) W' ∧ KeepsWalks W W')
 (W : World) (hJ : AbidesFrom W.heap.size J) (hm : W.cell? (Ad Bm 0) = some (.map (some b))) (hown : W.ownsMap Tryz.prog 241 (rdRead (H := H)) b nn D0) (h0 : J [] W) :
 CallsIn Fence.wide n Tryz.prog 204 #[.func (.yield l) #[] #[], .pointer (some (Ad Bm 0))] W fun e W' => (∃ v, e = .returned v) ∧ ∃ ss : List Rd, ss.Perm ls ∧ J ss W' := by
 have hsz := hrep.size; refine callsIn_of_wp Tryz.func204 rfl trivial ?_ rfl; simp only [Tryz.ntmps204, List.size_toArray, List.length_cons, List.length_nil, Nat.reduceAdd, Nat.reduceSub, Array.replicate_succ, Array.replicate_zero, List.push_toArray, List.append_toArray, List.nil_append, List.cons_append]
 gi_wp2_with (first
  | (gi_at_range; refine wpListIn_range_own _ rfl _ 238 rfl 241 161 Ziw map_under _ b nn _ rfl hown ?_; intro w0 hrg0 hg0 hs0)
  | gi_in)
 go_frame
 gi_loopw [7] (fun _ wr => ∃ (left : Lit → Bool) (cnt : Nat) (ss : List Rd), wr.ranges Tryz.prog 241 (rdRead (H := H)) b W.heap.size nn D0 left cnt ∧ ss.length + cnt ≤ ls.length ∧ (ColR D0 left ss ∧ ∀ r ∈ ss, r ∈ ls) ∧ J ss wr)
  (fun _ wr => wr.rangeLeft b W.heap.size)
 case atStart =>
  exact ⟨_, _, [], hrg0, by simp [hsz], ⟨ColR.start D0, by simp⟩, hJ [] W w0 none h0 hg0 (fun r e => by cases e)⟩
 case round =>
  obtain ⟨left, cnt, ss, hrg, hcs, ⟨hC, hin⟩, hJs⟩ := hrel
  gi_wp2_with (first
   | (gi_at_next; refine wpListIn_next_ranges _ rfl _ rfl 241 Ziw (rdRead (H := H)) (id : Value → Value) (fun r : Rd => Value.agg #[Vi r.1, Vi r.2.1, Vi r.2.2.1, Vi r.2.2.2]) (fun key kl hk => ⟨key, rfl⟩) (fun v y h => by obtain ⟨r, hr, _⟩ := rdRead_inv h; exact ⟨r, hr⟩) b W.heap.size nn _ _ _ rfl hrg ?_ ?_)
   | gi_in)
  · intro hc0 hl0
    gi_wp2
    go_end0
    exact ⟨⟨_, rfl⟩, ss, hC.perm hrep hwf hso hin hl0, hJs⟩
  · intro x c1 c2 c3 c4 kl yd yp w2 cnt2 hkey hlk hv hat hrg2 hlt hg2 hs2 hen; obtain ⟨c, hcc⟩ : ∃ c : Rd, c = (c1, c2, c3, c4) := ⟨_, rfl⟩; obtain ⟨c', hc', hy⟩ := rdRead_inv hv
    obtain rfl : c = c' := by rw [hcc]; exact rdV_inj hc'
    obtain ⟨rfl, rfl, rfl, rfl⟩ : c1 = c.1 ∧ c2 = c.2.1 ∧ c3 = c.2.2.1 ∧ c4 = c.2.2.2 := by rw [hcc]; exact ⟨rfl, rfl, rfl, rfl⟩
    clear hcc; have hat : ∀ zd, D0.atKey kl zd = datR c := fun zd => (hat zd).trans (congrArg Prod.fst hy); obtain ⟨hcl, rfl⟩ := hrep.found hat; have hJ2 : J ss w2 := hJ ss wr w2 (some W.heap.size) hJs hg2 (fun r e => by cases e; exact ⟨Nat.le_refl _, hrg.iter_walk⟩); have hJ2a : J ss (w2.alloc (.cells #[Vi c.1, Vi c.2.1, Vi c.2.2.1, Vi c.2.2.2] 161)) := hJ _ _ _ none hJ2 (World.grownBy_alloc w2 _ none) (fun r e => by cases e); obtain ⟨fn, tmps, assign, body, hy, hR⟩ := hY ss c _ hJ2a (by omega); have hrg2 := hrg2.alloc (.cells #[Vi c.1, Vi c.2.1, Vi c.2.2.1, Vi c.2.2.2] 161)
    unfold rdV at hy
    clear hs2 hv hc'
    gi_wp2
    refine hR.mono ?_; rintro e W3 ⟨rfl, hJ3, hk3⟩
    gi_wp2
    have hrg3 := hrg2.of_walks hk3; go_roundw
    case rel => exact ⟨_, cnt2, ss ++ [c], hrg3, by simp; omega, ⟨hC.step hlk, fun r hr => by rcases List.mem_append.1 hr with hr | hr; exact hin r hr; simp at hr; subst hr; exact hcl⟩, hJ3⟩
    case measure => rw [hrg3.left_eq, hrg.left_eq]; exact hlt
end Go.Proofs.YtnfdfiholcelaaaGreatDoor
namespace Go.Proofs.YtnfdfiholcelaaaGreatDoor
open Go.RowKit
def boxPost {α : Type} (I : List α → World → Prop) (xs : List α) (W : World) : Exit → Act → World → Prop
 | .normal, _, W' => KeepsOthers W W' ∧ I xs W'
 | _, _, _ => False
theorem keeps_walks {W W' : World} (h : KeepsOthers W W') : KeepsWalks W W' := ⟨h.size, fun k o hk hw => h.same k o hk (Obj.not_cells_of_walk hw)⟩
theorem rangeFunc_box {α : Type} {P : Program} {F : Fence} {n : Nat} {g : Operand} {ps : Array Tmp} {assign body : Code} {Q : Exit → Act → World → Prop} {a : Act} {w : World}
 (hro : F.round = none) (h1 : 1 ≤ n) {gf : Nat} {lb : Array Value} (hg : a.eval g = .func (.func gf) #[] lb) (hFg : F.fn gf) (eg : ∀ args w, (callFunc gf args).run P w = .ok (.enter gf args) w)
 {enc : α → Value} {S : List α → Prop} {N : Nat} (hseq : SeqGives F (n - 1) P gf lb enc S N w) (hps : ps.size = 1)
 (I : List α → World → Prop) (hI : OwnFrom w.heap.size I) (h0 : I [] w) (ob : α → Obj) (a₁ : α → Nat → Act)
 (hassign : ∀ (l : Nat) (x : α) (W : World) (K : Act → World → Prop), K (a₁ x W.heap.size) (W.alloc (ob x)) →
  assign.wpIn (F.inRound l) (n - 1 - 1) P (Exit.then K (fun _ _ _ => False)) { tmps := (ps.zip #[enc x]).foldl (fun t (p, v) => t.setIfInBounds p v) a.tmps, defers := [] } W)
 (hbody : ∀ (l : Nat) (pre : List α) (x : α) (W : World) (b : Nat), W.heap[b]? = some (ob x) → I pre W → pre.length < N → body.wpIn (F.inRound l) (n - 1 - 1) P (boxPost I (pre ++ [x]) W) (a₁ x b) W)
 (hdone : ∀ (D : Nat) (xs : List α) (W : World), w.heap.size ≤ D → S xs → I xs W → W.heap[D]? = some (.deferred (some [])) → Q .normal { a with defers := { target := .collected D, args := #[] } :: a.defers } W) :
 (Code.rangeFunc g ps assign body).wpIn F n P Q a w := by
 refine wpIn_rangeFunc ?_; intro fn hfn; rw [hro]; obtain ⟨rc, hrc⟩ : ∃ rc : LoopState → Loop, rc = fun st => { state := st, pending := none, fn, tmps := a.tmps, params := ps, assign, body, defers := w.heap.size } := ⟨_, rfl⟩; obtain ⟨W1, hW1⟩ : ∃ W1, (w.alloc (.deferred (some []))).alloc (.loop (rc .ready)) = W1 := ⟨_, rfl⟩
 have hL1 : W1.heap[w.heap.size + 1]? = some (.loop (rc .ready)) := by
  rw [← hW1]; have := World.alloc_heap_new (w.alloc (.deferred (some []))) (.loop (rc .ready)); rwa [World.size_alloc] at this
 have hK1 : W1.heap[w.heap.size]? = some (.deferred (some [])) := by
  rw [← hW1]; exact (Below.heap_alloc _ _ _ (by simp)).trans (World.alloc_heap_new w _)
 have hI1 : I [] W1 := by rw [← hW1]; exact hI.alloc _ (hI.alloc _ h0)
 have hb1 : Below w.heap.size w W1 := by rw [← hW1]; exact ((Below.refl _ w).alloc (Nat.le_refl _) _).alloc (by simp) _
 refine ⟨w.heap.size + 1, [{ target := .collected w.heap.size, args := #[] }], W1, { target := .fn (.func gf) lb, args := #[.func (.yield (w.heap.size + 1)) #[] #[]] }, W1, gf,
  #[.func (.yield (w.heap.size + 1)) #[] #[]] ++ lb, W1, ?_, ?_, ?_, ?_, fun _ => h1, ?_⟩
 · rw [← hW1, hrc]; exact run_enterLoop_outer _ _ _ _ _
 · simp only [resolve, hg]
   simp [go_sem]
 · intro f' hf'; simp [Target.leads] at hf'; subst hf'; exact hFg
 · simp [invoke, go_sem, eg]
 · refine (hseq (w.heap.size + 1)
    (fun pre W => I pre W ∧ W.heap[w.heap.size + 1]? = some (.loop (rc .ready)) ∧ W.heap[w.heap.size]? = some (.deferred (some [])))
    W1 hb1 (fun s A B row hs hg' hr => ⟨hI s A B row hs.1 hg' (fun r e => ?_), (grownBy_keeps hg' (fun r e => (hr r e).2) hs.2.1 rfl).trans hs.2.1, (grownBy_keeps hg' (fun r e => (hr r e).2) hs.2.2 rfl).trans hs.2.2⟩)
    ?_ ⟨hI1, hL1, hK1⟩).mono ?_
   · obtain ⟨hB, o, ho, hw⟩ := hr r e; exact ⟨by rw [← hW1] at hB; simp at hB; omega, o, ho, Obj.not_cells_of_walk hw⟩
   · rintro pre x W ⟨hi, hl, hk⟩ hlen; have hlt : w.heap.size + 1 < W.heap.size := (Array.getElem?_eq_some_iff.1 hl).1; have hy := run_yield (P := P) (args := #[enc x]) hl (by rw [hrc]; simp [hps]); rw [hrc] at hy; have hla : (W.alloc (ob x)).heap[w.heap.size + 1]? = some (.loop (rc .ready)) := (Below.heap_alloc _ _ _ hlt).trans hl; have hka : (W.alloc (ob x)).heap[w.heap.size]? = some (.deferred (some [])) := (Below.heap_alloc _ _ _ (by omega)).trans hk; refine ⟨fn, _, assign, body, hy, roundIn_of_wpIn hfn (hassign _ x W _ ⟨_, run_beginRound hla (by rw [hrc]), ?_⟩)⟩; obtain ⟨W2, hW2⟩ : ∃ W2, (W.alloc (ob x)).putObj (w.heap.size + 1) (.loop { rc .ready with state := .busy }) = W2 := ⟨_, rfl⟩; have hsa : w.heap.size + 1 < (W.alloc (ob x)).heap.size := (Array.getElem?_eq_some_iff.1 hla).1
     have hl2 : W2.heap[w.heap.size + 1]? = some (.loop { rc .ready with state := .busy }) := by rw [← hW2]; exact World.putObj_heap_same hsa
     have hk2 : W2.heap[w.heap.size]? = some (.deferred (some [])) := by rw [← hW2]; exact (World.putObj_heap_other (by omega)).trans hka
     have hx2 : W2.heap[W.heap.size]? = some (ob x) := by rw [← hW2]; exact (World.putObj_heap_other (by omega)).trans (World.alloc_heap_new W _)
     have hi2 : I pre W2 := by rw [← hW2]; exact hI.putObj _ (hI.alloc _ hi) (by omega) hla rfl
     have hw2 : KeepsWalks W W2 := by rw [← hW2]; exact (KeepsWalks.alloc W (ob x)).trans (KeepsWalks.putObj _ hla rfl)
     rw [hW2]; clear hW2; refine wpIn_mono (hbody _ pre x W2 W.heap.size hx2 hi2 hlen) ?_; rintro e a3 W3 hp
     cases e with
     | normal =>
      obtain ⟨hk3, hi3⟩ := hp; have hl3 := hk3.same _ _ hl2 rfl; have hd3 := hk3.same _ _ hk2 rfl; have hr := run_endRound (P := P) none hl3; refine ⟨_, _, hr, rfl, ⟨hI.putObj _ hi3 (by omega) hl3 rfl, ?_, (World.putObj_heap_other (by omega)).trans hd3⟩, (hw2.trans (keeps_walks hk3)).trans (KeepsWalks.putObj _ hl3 rfl)⟩; rw [World.putObj_heap_same (Array.getElem?_eq_some_iff.1 hl3).1, hrc]
      rfl
     | ret => exact hp.elim
     | exit id => exact hp.elim
     | goto t => exact hp.elim
     | panic ch => exact hp.elim
     | outgrown => exact hp.elim
   · rintro e W2 ⟨⟨v, rfl⟩, xs, hS, hi, hl, hk⟩; exact ⟨none, _, by have := run_endLoop (P := P) hl (by rw [hrc]; simp); rw [hrc] at this; exact this, hdone _ xs _ (Nat.le_refl _) hS (hI.putObj _ hi (by omega) hl rfl) ((World.putObj_heap_other (by omega)).trans hk)⟩
end Go.Proofs.YtnfdfiholcelaaaGreatDoor
