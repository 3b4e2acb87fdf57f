
import Derived.Test.YtnfdfiholcelaaaGreatDoorJe00
import Derived.Test.YtnfdfiholcelaaaGreatDoorJe02
import Derived.Test.YtnfdfiholcelaaaGreatDoorJe09
import Derived.Test.YtnfdfiholcelaaaGreatDoorJe14
import Derived.Test.YtnfdfiholcelaaaGreatDoorJe16
import Derived.Test.YtnfdfiholcelaaaGreatDoorJe17
import Derived.Test.YtnfdfiholcelaaaGreatDoorJe18
set_option maxRecDepth 100000
set_option maxHeartbeats 20000000
namespace Go.Proofs.YtnfdfiholcelaaaGreatDoor
open Go.RowKit Plain Tryz
def levF (T R : Int) (l : List Sv) (s : Int) : Nat → Int
 | 0 => -T
 | n + 1 => if tot T R l (-T + ((n + 1 : Nat) : Int)) ≤ s then -T + ((n + 1 : Nat) : Int) else levF T R l s n
def levI (T R : Int) (l : List Sv) (s : Int) : Int := levF T R l s (2 * T).toNat
theorem levF_is {T R : Int} {l : List Sv} {s : Int} (h0 : tot T R l (-T) ≤ s) : ∀ n : Nat, -T + (n : Int) ≤ T → (-T + (n : Int) < T → s < tot T R l (-T + (n : Int) + 1)) → IsLev T R l s (levF T R l s n)
 | 0, h1, h2 => by
  show IsLev T R l s (-T)
  exact ⟨Int.le_refl _, by simpa using h1, h0, fun h => by simpa using h2 (by simpa using h)⟩
 | n + 1, h1, h2 => by
  unfold levF
  split
  · rename_i c
    exact ⟨by omega, h1, c, h2⟩
  · rename_i c
    exact levF_is h0 n (by omega) (fun _ => by rw [show -T + (n : Int) + 1 = -T + ((n + 1 : Nat) : Int) by omega]; omega)
theorem levI_is {T R : Int} {l : List Sv} {s : Int} (hT : 0 ≤ T) (h0 : tot T R l (-T) ≤ s) : IsLev T R l s (levI T R l s) := levF_is h0 _ (by omega) (fun h => by omega)
def hiF (R p lo room : Int) : Nat → Int
 | 0 => lo
 | n + 1 => if bk R (lo + ((n + 1 : Nat) : Int) + p) ≤ room then lo + ((n + 1 : Nat) : Int) else hiF R p lo room n
def hiI (R p lo hi room : Int) : Int := hiF R p lo room (hi - lo).toNat
theorem hiF_is {R p lo hi room : Int} : ∀ n : Nat, lo + (n : Int) ≤ hi → (∀ s, lo + (n : Int) < s → s ≤ hi → room < bk R (s + p)) → IsHi R p lo hi room (hiF R p lo room n)
 | 0, h1, h2 => by
  show IsHi R p lo hi room lo
  exact ⟨Int.le_refl _, by simpa using h1, .inl rfl, fun s h => h2 s (by simpa using h)⟩
 | n + 1, h1, h2 => by
  unfold hiF
  split
  · rename_i c
    exact ⟨by omega, h1, .inr c, h2⟩
  · rename_i c
    refine hiF_is n (by omega) (fun s h3 h4 => ?_)
    by_cases e : s = lo + ((n + 1 : Nat) : Int)
    · subst e; omega
    · exact h2 s (by omega) h4
theorem hiI_is {R p lo hi room h : Int} (H : IsHi R p lo hi room h) : hiI R p lo hi room = h := by
 have a := H.1; have b := H.2.1; exact (hiF_is (hi - lo).toNat (by omega) (fun s h3 h4 => by omega)).only H
def moI (C : CR) (i : Nat) : Int := (C.a i 4 - 1) * C.a i 5
def raI (C : CR) (i : Nat) : Int := (C.a i 4 - 1) * C.a i 6
def puI (C : CR) (i : Nat) : Int := C.a i 3 + C.a i 7
def skI (l : List Rd) (i : Nat) : Int := Zar (smp l (32 + (i : Int)) 3).2 (-100) 100
def pvI (C : CR) (i : Nat) (L : List Sv) : Int := Zar (smU L L.length) (-moI C i) (moI C i)
def wtM (C : CR) (i : Nat) (h : Int × Int × Int) (k x v n : Int) (L : List Sv) : Int := wX (C.a i 0) (C.a i 1) (C.a i 11) (moI C i) (C.al i) (C.zl i) h.1 h.2.1 h.2.2 k x v n (pvI C i L)
def haM (C : CR) (i : Nat) (h : Int × Int × Int) (k x n : Int) : Int := wA (C.a i 0) (C.a i 1) (C.a i 11) h.1 h.2.2 k x n
def hdM (C : CR) (i : Nat) (h : Int × Int × Int) (k x v n : Int) (L : List Sv) : Int := wD (C.a i 0) (C.a i 1) (C.a i 11) (moI C i) (C.al i) (C.zl i) h.1 h.2.1 h.2.2 k x v n (pvI C i L)
def bdL (C : CR) (i : Nat) (x n q : Int) : Int := if betw n 0 1 then -hiI (raI C i) (puI C i) (-Zdk (moI C i) (raI C i) q) (-Zdj (moI C i) (raI C i) q) (Zar x (-2000000) 2000000 - C.a i 2 - C.a i 0) else q - raI C i
def bdH (C : CR) (i : Nat) (x n q : Int) : Int := if betw n 0 1 then hiI (raI C i) (puI C i) (Zdj (moI C i) (raI C i) q) (Zdk (moI C i) (raI C i) q) (C.a i 1 - C.a i 2 - Zar x (-2000000) 2000000) else q + raI C i
def smI (T R : Int) (L : List Sv) (s : Int) : Int := Zar s (tot T R L (-T)) (tot T R L T)
def plI (T R : Int) (L : List Sv) (s : Int) : List Int := dlU T R L (levI T R L (smI T R L s)) (smI T R L s - tot T R L (levI T R L (smI T R L s))) L.length
theorem plI_len (T R : Int) (L : List Sv) (s : Int) : (plI T R L s).length = L.length := Zcg _ _ _ _ _ _
def sik (L : List Sv) (p : List Int) (k : Nat) : List Sv := (List.range L.length).map fun j => if j < k then (p.getD j 0, (svAt L j).2) else svAt L j
theorem sik_len (L : List Sv) (p : List Int) (k : Nat) : (sik L p k).length = L.length := by simp [sik]
theorem sik_zero (L : List Sv) (p : List Int) : sik L p 0 = L := by
 apply List.ext_getElem
 · simp [sik]
 · intro j h1 h2
   simp [sik, svAt, h2]
theorem sik_at (L : List Sv) (p : List Int) {k : Nat} (hk : k < L.length) : svAt (sik L p k) k = svAt L k := by
 simp [sik, svAt, hk]
theorem sik_step (L : List Sv) (p : List Int) {k : Nat} : (sik L p k).set k (p.getD k 0, (svAt L k).2) = sik L p (k + 1) := by
 apply List.ext_getElem
 · simp [sik]
 · intro j h1 h2; simp only [sik, List.length_set, List.length_map, List.length_range] at h1; rw [List.getElem_set]
   by_cases e : k = j
   · subst e
     simp [sik]
   · rw [if_neg e]; simp only [sik, List.getElem_map, List.getElem_range]
     by_cases h3 : j < k
     · rw [if_pos h3, if_pos (by omega)]
     · rw [if_neg h3, if_neg (by omega)]
def goM (C : CR) (i : Nat) (h : Int × Int × Int) (k x v n : Int) (L : List Sv) : Int := Zar (wtM C i h k x v n L) (bdL C i x n (pvI C i L)) (bdH C i x n (pvI C i L))
def svM (C : CR) (i : Nat) (h : Int × Int × Int) (k x v n : Int) (L : List Sv) : List Sv := sik L (plI (C.a i 5) (C.a i 6) L (goM C i h k x v n L)) L.length
def hoM (C : CR) (i : Nat) (h : Int × Int × Int) (k x v n : Int) (L : List Sv) : Int × Int × Int :=
 (haM C i h k x n, toD (C.a i 14) (moI C i) (haM C i h k x n) (hdM C i h k x v n L) x n (wtM C i h k x v n L) (smU (svM C i h k x v n L) L.length), n)
theorem hoE_want {L H U B M : Int} {al zl : List Int} {A D W k n q : Int} (p v : Int) (h : hoE L H U B M al zl A D W k n q = 0) : hoE L H U B M al zl (wA L H U A W k p n) (wD L H U M al zl A D W k p v n q) n k n q = 0 := by
 obtain ⟨e1, e2, e3⟩ := Zfw h; obtain ⟨e4, e5, e6, _⟩ := Zed e1; obtain ⟨⟨l0, l1⟩, ⟨u0, u1⟩, _, _, m0', m1'⟩ := Zee e4; obtain ⟨⟨a0, a1⟩, ⟨d0, d1⟩, w0, w1⟩ := stB_true e2
 have hn : betw n 0 3 = true := by simp only [asB, Bool.and_eq_true] at e3; exact e3.1.2
 have ha : betw (wA L H U A W k p n) L H = true := by
  unfold wA a2I
  have := Zdo (a1I L H A W p n + hunI k U) (show L ≤ H by omega)
  split <;> simp [betw] <;> omega
 have hd : betw (wD L H U M al zl A D W k p v n q) (-M) M = true := by
  unfold wD d2I
  have := Zdo (q - ppI L H U al zl A W k p v n) (show -M ≤ M by omega)
  split
  · split <;> simp [betw] <;> omega
  · simp [betw]; omega
 unfold hoE
 rw [if_pos e1, if_pos (by simp only [stB, ha, hd, hn, Bool.and_self]), if_pos e3]
def FB (w : World) (B ca : Nat) (a : Option Addr) (T R s : Int) (l : List Sv) : Prop := (w.cell? (Ad B 0) = some (.slice a l.length ca) ∧ w.cell? (Ad (B + 1) 0) = some (Vi T) ∧ w.cell? (Ad (B + 1 + 1) 0) = some (Vi s)) ∧ WLs w a T R l
theorem FB.later {w w' : World} {B ca : Nat} {a : Option Addr} {T R s : Int} {l : List Sv} (h : FB w B ca a T R s l) (hb : Below w.heap.size w w') : FB w' B ca a T R s l := ⟨⟨cell_later hb h.1.1, cell_later hb h.1.2.1, cell_later hb h.1.2.2⟩, h.2.later hb⟩
theorem keepF {w u u' : World} {B ca : Nat} {a : Option Addr} {T R s : Int} {l : List Sv} (hb : Below u.heap.size u u') (h : ((u.cell? (Ad B 0) = some (.slice a l.length ca) ∧ u.cell? (Ad (B + 1) 0) = some (Vi T) ∧ u.cell? (Ad (B + 1 + 1) 0) = some (Vi s)) ∧ WLs u a T R l) ∧ Below w.heap.size w u) : ((u'.cell? (Ad B 0) = some (.slice a l.length ca) ∧ u'.cell? (Ad (B + 1) 0) = some (Vi T) ∧ u'.cell? (Ad (B + 1 + 1) 0) = some (Vi s)) ∧ WLs u' a T R l) ∧ Below w.heap.size w u' :=
 ⟨⟨⟨cell_later hb h.1.1.1, cell_later hb h.1.1.2.1, cell_later hb h.1.1.2.2⟩, h.1.2.later hb⟩, Zac h.2 hb⟩
theorem tooHigh_any (T R S C s : Int) (l : List Sv) (a : Option Addr) (ca B : Nat) (i : Int) (i0 : -5000 ≤ i) (i1 : i ≤ 5000) (t0 : -1000 ≤ T) (t1 : T ≤ 1000) (hok : AllOk T R S C l) (hl : l.length ≤ 9) (w : World) (hw : FB w B ca a T R s l) :
 Calls prog 247 #[Vi i, .pointer (some (Ad B 0)), .pointer (some (Ad (B + 1) 0)), .pointer (some (Ad (B + 1 + 1) 0))] w fun e w' => e = .returned (.bool (decide (s < tot T R l (i - T)))) ∧ Below w.heap.size w w' := by
 have htg : ∀ u, WLs u a T R l → Calls prog 221 #[.slice a l.length ca, Vi (i - T)] u fun e w' => e = .returned (Vi (tot T R l (i - T))) ∧ Below u.heap.size u w' := fun u hu => Zdl T R S C l (i - T) a ca hok hl u hu; have v1 := Wr (i - T); have htg' : ∀ u, (((u.cell? (Ad B 0) = some (.slice a l.length ca) ∧ u.cell? (Ad (B + 1) 0) = some (Vi T) ∧ u.cell? (Ad (B + 1 + 1) 0) = some (Vi s)) ∧ WLs u a T R l) ∧ Below w.heap.size w u) → Calls prog 221 #[.slice a l.length ca, Vi (i - T)] u fun e w' => e = .returned (Vi (tot T R l (i - T))) ∧ Below u.heap.size u w' := fun u hu => htg u hu.1.2; have S0 : ((w.cell? (Ad B 0) = some (.slice a l.length ca) ∧ w.cell? (Ad (B + 1) 0) = some (Vi T) ∧ w.cell? (Ad (B + 1 + 1) 0) = some (Vi s)) ∧ WLs w a T R l) ∧ Below w.heap.size w w := ⟨hw, Below.refl _ _⟩; have Z := Zab S0; clear hok htg hw; generalize tot T R l (i - T) = t at *
 go_enter func247, ntmps247
 go_upto_region 1 with fail
 go_region_held3 (fun u => ((u.cell? (Ad B 0) = some (.slice a l.length ca) ∧ u.cell? (Ad (B + 1) 0) = some (Vi T) ∧ u.cell? (Ad (B + 1 + 1) 0) = some (Vi s)) ∧ WLs u a T R l) ∧ Below w.heap.size w u)
  (first
   | (with_reducible assumption)
   | (with_reducible apply keepF; with_reducible assumption; with_reducible assumption)
   | (refine keepF ?_ Z.out; exact (Below.refl _ _).drew))
  (first
   | (go_at_call 221; refine Sb (htg' _ (by with_reducible assumption)) fun w' hb => ?_))
 all_goals
  rename_i hH
  have HB := Zab hH.2; clear hH; go_wp2_with fail; go_ret; exact ⟨rfl, HB.out⟩
def Found (T R s : Int) (l : List Sv) (n i j : Int) : Prop := 0 ≤ i ∧ i ≤ j ∧ j ≤ n ∧ (i = 0 ∨ tot T R l (i - 1 - T) ≤ s) ∧ (j = n ∨ s < tot T R l (j - T))
theorem ssearch_any (T R S C s : Int) (l : List Sv) (a : Option Addr) (ca B : Nat) (n : Int) (n0 : 0 ≤ n) (n1 : n ≤ 4000) (t0 : -1000 ≤ T) (t1 : T ≤ 1000) (hok : AllOk T R S C l) (hl : l.length ≤ 9) (w : World) (hw : FB w B ca a T R s l) :
 Calls prog 246 #[Vi n, .func (.func 247) #[] #[.pointer (some (Ad B 0)), .pointer (some (Ad (B + 1) 0)), .pointer (some (Ad (B + 1 + 1) 0))]] w fun e w' => (∃ i, e = .returned (Vi i) ∧ Found T R s l n i i) ∧ Below w.heap.size w w' := by
 have HW := Zab hw; have HOK := Zab hok; clear hw hok
 go_enter func246, ntmps246
 go_wp2
 go_loopw [5, 6] (fun x y wr => ∃ i j : Int, x = Vi i ∧ y = Vi j ∧ Found T R s l n i j ∧ Below w.heap.size w wr) (fun x y _ => (intOf y - intOf x).toNat)
 case atStart => exact ⟨0, n, rfl, rfl, ⟨by omega, n0, by omega, .inl rfl, .inl rfl⟩, Below.refl _ _⟩
 case round =>
  obtain ⟨i, j, rfl, rfl, hF, hb⟩ := hrel; have HF := Zab hF; obtain ⟨i0, ij, jn, _, _⟩ := hF; have HB := Zab hb
  by_cases hlt : i < j
  · have hcl := fun h h0 h1 u hu => tooHigh_any T R S C s l a ca B h h0 h1 t0 t1 HOK.out hl u hu; have HL := Zab (HW.out.later hb); clear hb; have hm := hcl ((i + j) / 2) (by omega) (by omega) wr HL.out; clear hcl
    by_cases hq : s < tot T R l ((i + j) / 2 - T)
    · rw [decide_eq_true hq] at hm; have HQ := Zab hq; clear hq
      go_wp2_with (go_at_call 247; refine hm.mono ?_; rintro e w1 ⟨rfl, hb1⟩); go_roundw
      case rel =>
       obtain ⟨f0, f1, f2, f3, f4⟩ := HF.out; exact ⟨i, (i + j) / 2, rfl, rfl, ⟨f0, by omega, by omega, f3, .inr HQ.out⟩, Zac HB.out hb1⟩
      case measure => simp [intOf]; omega
    · rw [decide_eq_false hq] at hm; have HQ := Zab hq; clear hq
      go_wp2_with (go_at_call 247; refine hm.mono ?_; rintro e w1 ⟨rfl, hb1⟩); go_roundw
      case rel =>
       obtain ⟨f0, f1, f2, f3, f4⟩ := HF.out; exact ⟨(i + j) / 2 + 1, j, rfl, rfl, ⟨by omega, by omega, f2, .inr (by rw [show (i + j) / 2 + 1 - 1 - T = (i + j) / 2 - T by omega]; have := HQ.out; omega), f4⟩, Zac HB.out hb1⟩
      case measure => simp [intOf]; omega
  · have e : i = j := by omega
    subst e; clear hb; go_wp2; go_ret; exact ⟨⟨_, rfl, HF.out⟩, HB.out⟩
theorem found_lev {T R s : Int} {l : List Sv} (h0 : tot T R l (-T) ≤ s) {i : Int} (h : Found T R s l (2 * T + 1) i i) : IsLev T R l s (i - 1 - T) := by
 obtain ⟨f0, _, f2, f3, f4⟩ := h
 have hi : i ≠ 0 := by
  intro e; subst e
  rcases f4 with f4 | f4
  · omega
  · rw [show (0 : Int) - T = -T by omega] at f4; omega
 refine ⟨by omega, by omega, ?_, fun hlt => ?_⟩
 · rcases f3 with f3 | f3
   · exact absurd f3 hi
   · exact f3
 · rcases f4 with f4 | f4
   · omega
   · rw [show i - 1 - T + 1 = i - T by omega]; exact f4
theorem findLevel_any (T R S C s v : Int) (l : List Sv) (a : Option Addr) (ca : Nat) (t0 : 0 ≤ T) (t1 : T ≤ 1000) (hok : AllOk T R S C l) (hl : l.length ≤ 9) (h0 : tot T R l (-T) ≤ s) (hv : IsLev T R l s v) (w : World) (hw : WLs w a T R l) :
 Calls prog 223 #[.slice a l.length ca, Vi T, Vi s] w fun e w' => e = .returned (Vi v) ∧ Below w.heap.size w w' := by
 have HF : Hid (FB (((w.alloc (.cells #[.slice a l.length ca] 313)).alloc (.cells #[Vi T] 3)).alloc (.cells #[Vi s] 3)) w.heap.size ca a T R s l) := by
  refine ⟨⟨?_, ?_, ?_⟩, ((hw.later (Zaa _ _)).later (Zaa _ _)).later (Zaa _ _)⟩ <;> simp [go_sem, World.cell?_alloc_past]
 have HB := Zab (Zac (Zac (Zaa w (.cells #[.slice a l.length ca] 313)) (Zaa _ (.cells #[Vi T] 3))) (Zaa _ (.cells #[Vi s] 3))); have hse := fun u hu => ssearch_any T R S C s l a ca w.heap.size (2 * T + 1) (by omega) (by omega) (by omega) t1 hok hl u hu; have HV : Hid (∀ i, Found T R s l (2 * T + 1) i i → i - 1 - T = v) := fun i hi => (found_lev h0 hi).unique hv; have HI : Hid (∀ i, Found T R s l (2 * T + 1) i i → 0 ≤ i ∧ i ≤ 3000) := fun i hi => ⟨hi.1, by have := hi.2.2.1; omega⟩; clear hok h0 hv hw
 go_enter func223, ntmps223
 go_wp2_with (go_at_call 246; refine (hse _ HF.out).mono ?_; rintro e w1 ⟨⟨i, rfl, hi⟩, hb1⟩; have e1 := (FB.later HF.out hb1).1.2.1; obtain ⟨g0, g1⟩ := HI.out i hi; have HE := Zab (HV.out i hi); have HB := Zab (Zac HB.out hb1); clear hb1 hi); go_ret; exact ⟨by rw [← HE.out]; rfl, HB.out⟩
def DA (w : World) (D n : Nat) (f : Nat → Int) : Prop := ∀ j, j < n → w.cell? (Ad D j) = some (Vi (f j)) ∧ w.frozen? (Ad D j) = false
theorem DA.later {w w' : World} {D n : Nat} {f : Nat → Int} (h : DA w D n f) (hb : Below w.heap.size w w') : DA w' D n f := fun j hj =>
 ⟨cell_later hb (h j hj).1, (hb.frozen (p := ⟨D, j, none⟩) (World.block_lt_of_cell? w ⟨D, j, none⟩ (h j hj).1)).trans (h j hj).2⟩
def updD (f : Nat → Int) (k : Nat) (v : Int) (j : Nat) : Int := if j = k then v else f j
theorem DA.set {w : World} {D n : Nat} {f : Nat → Int} (h : DA w D n f) (k : Nat) (v : Int) : DA (w.setCell (Ad D k) (Vi v)) D n (updD f k v) := fun j hj => by
 refine ⟨?_, by simpa [go_sem] using (h j hj).2⟩
 unfold updD
 by_cases e : j = k
 · subst e; rw [if_pos rfl]; exact Zbk (h j hj).1
 · rw [if_neg e]; exact Zad (h j hj).1 (Zap (Ne.symm e))
theorem DA.new (w : World) (n : Nat) (t : TypeId) : DA (w.alloc (.cells (madeCells #[Vi 0] n) t)) w.heap.size n (fun _ => 0) := fun j hj => by
 have e : (madeCells #[Vi 0] n)[j]? = some (Vi 0) := by rw [← Array.getElem?_toList, toList_madeCells_one, List.getElem?_replicate, if_pos hj]
 exact ⟨by simp [go_sem, e], by simp [go_sem]⟩
theorem bset {w0 w : World} {K D k : Nat} {v : Value} (h : Below K w0 w) (hD : K ≤ D) : Below K w0 (w.setCell (Ad D k) v) := h.setCell hD v
def mixD (T R : Int) (l : List Sv) (v s : Int) (k j : Nat) : Int := if j < k then dlI T R l v s j else 0
theorem Zdv (T R : Int) (l : List Sv) (v s : Int) (k : Nat) : mixD T R l v s (k + 1) = updD (mixD T R l v s k) k (dlI T R l v s k) := by
 funext j; simp only [mixD, updD]; by_cases h1 : j = k
 · subst h1; simp
 · by_cases h2 : j < k
   · rw [if_pos (by omega), if_neg h1, if_pos h2]
   · rw [if_neg (by omega), if_neg h1, if_neg h2]
theorem updD_twice {f g : Nat → Int} {k : Nat} {a b : Int} (h : updD f k a = g) : updD f k b = updD g k b := by
 subst h; funext j; simp only [updD]; split <;> rfl
theorem keepD {w u u' : World} {D k n : Nat} {t : Int} {f : Nat → Int} (hb : Below u.heap.size u u') (h : u.cell? (Ad D k) = some (Vi t) ∧ DA u D n f ∧ Below w.heap.size w u) : u'.cell? (Ad D k) = some (Vi t) ∧ DA u' D n f ∧ Below w.heap.size w u' :=
 ⟨cell_later hb h.1, h.2.1.later hb, Zac h.2.2 hb⟩
theorem make_ints (n : Nat) (hn : n ≤ 9) (w : World) : (Instr.makeSlice 22 (Vi (n : Int)) (Vi (n : Int))).run prog w = .ok (.slice (some (Ad w.heap.size 0)) n n) (w.alloc (.cells (madeCells #[Vi 0] n) 3)) := by
 obtain ⟨i0, hi, hz0, hz1, hz2⟩ := info_parts infoInt; have h := run_make (P := prog) (w := w) 22 3 i0 (Vi 0) underlying22 hi hz0 .i64 .i64 (n : Int) (n : Int) (by omega) (by omega) (by rw [hz2]; omega) (by omega); rw [hz1, Int.toNat_natCast, Nat.mul_one] at h; exact h
theorem dl_ils {w : World} {D n : Nat} {T R : Int} {l : List Sv} {v s : Int} (hn : n = l.length) (h : DA w D n (mixD T R l v s n)) : ILs w (some (Ad D 0)) (dlU T R l v s l.length) := by
 subst hn
 right
 refine ⟨D, 0, rfl, fun k hk => ?_⟩; rw [Zcg] at hk; rw [Nat.zero_add, (h k hk).1]; have e : mixD T R l v s l.length k = dlI T R l v s k := if_pos hk
 have g : ∀ n k, k < n → (dlU T R l v s n).getD k 0 = dlI T R l v s k := by
  intro n
  induction n with
  | zero => intro k h; omega
  | succ n ih =>
   intro k h; rw [dlU, List.getD_eq_getElem?_getD]
   by_cases e : k = n
   · subst e; rw [List.getElem?_append_right (by rw [Zcg]; omega), Zcg]; simp
   · rw [List.getElem?_append_left (by rw [Zcg]; omega), ← List.getD_eq_getElem?_getD]; exact ih k (by omega)
 rw [e, g _ k hk]
theorem deal_at (T R S C v sm : Int) (l : List Sv) (a : Option Addr) (ca : Nat) (v0 : -2000 ≤ v) (v1 : v ≤ 2000) (m0 : -20000 ≤ sm) (m1 : sm ≤ 20000) (hok : AllOk T R S C l) (hl : l.length ≤ 9) (w : World) (hw : WLs w a T R l) :
 Calls prog 222 #[.slice a l.length ca, Vi v, Vi sm] w fun e w' => (∃ g cap, e = .returned (.slice (some (Ad g 0)) l.length cap) ∧ w.heap.size ≤ g ∧ ILs w' (some (Ad g 0)) (dlU T R l v (sm - tot T R l v) l.length)) ∧ Below w.heap.size w w' := by
 have HW := Zab hw; have HOK := Zab hok; have htg := Zdl T R S C l v a ca hok hl w hw; have htb := tot_bd hok hl v; have hmk := make_ints l.length hl; have hme := Zgt; have hml := lost_method; obtain ⟨s, HSE⟩ : ∃ s, Hid (sm - tot T R l v = s) := ⟨_, rfl⟩
 have s0 : -30000 ≤ s ∧ s ≤ 30000 := by have := HSE.out; omega
 clear hw hok
 go_enter func222, ntmps222
 go_wp2_with (go_at_call 221; refine htg.mono ?_; rintro e w0 ⟨rfl, hb0⟩); have HD := Zab (DA.new w0 l.length 3); have HB := Zab (Zac hb0 (Zaa w0 (.cells (madeCells #[Vi 0] l.length) 3))); have hDW := hb0.size; generalize w0.alloc (.cells (madeCells #[Vi 0] l.length) 3) = w3 at *; generalize w0.heap.size = D at *; clear hb0 htg hmk; rw [HSE.out]
 go_loopw [7, 21] (fun x i wr => ∃ k : Nat, k ≤ l.length ∧ i = Vi k ∧ x = Vi (lfU T R l v s k) ∧ DA wr D l.length (mixD T R l v s k) ∧ Below w.heap.size w wr) (fun _ i _ => l.length - (intOf i).toNat)
 case atStart => exact ⟨0, Nat.zero_le _, rfl, rfl, HD.out, HB.out⟩
 case round =>
  clear HD HB; obtain ⟨k, hk, rfl, rfl, hD, hb⟩ := hrel
  by_cases hlt : k < l.length
  · obtain ⟨bb, off, rfl, hc⟩ := (HW.out.later hb).at hlt; have HD := Zab hD; have HB := Zab hb; have hlb := lfU_bd T R l v s k; have htb1 := tk_bd HOK.out hlt v; have htb2 := tk_bd HOK.out hlt (v + 1); have HS := Zab (show lfU T R l v s (k + 1) = if 0 < lfU T R l v s k ∧ tk T R (svAt l k) v < tk T R (svAt l k) (v + 1) then lfU T R l v s k - 1 else lfU T R l v s k from rfl); have HI := Zab (show dlI T R l v s k = if 0 < lfU T R l v s k ∧ tk T R (svAt l k) v < tk T R (svAt l k) (v + 1) then tk T R (svAt l k) v + 1 else tk T R (svAt l k) v from rfl); have htk : ∀ u, tk T R (svAt l k) u = Zar u (loR T R (svAt l k).1 (svAt l k).2.2) (hiR T R (svAt l k).1 (svAt l k).2.2) := fun _ => rfl
    have j0 : (0 : Int) ≤ (k : Int) := by omega
    have j1 : (k : Int) < (l.length : Int) := by omega
    clear hD hb htb; generalize lfU T R l v s k = x at *
    cases ho : (svAt l k).2.2
    · have h1 := Zeo (loR T R (svAt l k).1 (svAt l k).2.2) (hiR T R (svAt l k).1 (svAt l k).2.2) v; have h2 := Zeo (loR T R (svAt l k).1 (svAt l k).2.2) (hiR T R (svAt l k).1 (svAt l k).2.2) (v + 1); rw [← htk] at h1 h2
      unfold tv at hc
      rw [if_neg (by simp [ho])] at hc; clear htk ho; generalize tk T R (svAt l k) v = t at *; generalize tk T R (svAt l k) (v + 1) = t2 at *; generalize loR T R (svAt l k).1 (svAt l k).2.2 = lo at *; generalize hiR T R (svAt l k).1 (svAt l k).2.2 = hi at *
      go_upto_region 7 with (go_at_call 323; refine Sb (h1 _) fun w1 hb1 => ?_; have HD := Zab (HD.out.later hb1); have HB := Zab (Zac HB.out hb1); have c0 := (HD.out k hlt).1; have c1 := (HD.out k hlt).2; clear hb1); have HD := Zab (HD.out.set k t); have HB := Zab (bset (k := k) (v := Vi t) HB.out hDW); generalize w1.setCell (Ad D k) (Vi t) = w2 at *; clear c0 c1; obtain ⟨f, HFE⟩ : ∃ f, Hid (updD (mixD T R l v s k) k t = f) := ⟨_, rfl⟩; rw [HFE.out] at HD; have c0 := (HD.out k hlt).1; have c1 := (HD.out k hlt).2
      have HFK : Hid (f k = t) := by show f k = t; rw [← HFE.out]; exact if_pos rfl
      rw [HFK.out] at c0
      by_cases hp : 0 < x
      · have S0 : w2.cell? (Ad D k) = some (Vi t) ∧ DA w2 D l.length f ∧ Below w.heap.size w w2 := ⟨c0, HD.out, HB.out⟩; have Z := Zab S0; have v1 := Wr (v + 1)
        by_cases hq : t < t2
        · rw [if_pos ⟨hp, hq⟩] at HS HI
          go_region_held3 (fun u => u.cell? (Ad D k) = some (Vi t) ∧ DA u D l.length f ∧ Below w.heap.size w u)
           (first
            | (with_reducible assumption)
            | (with_reducible apply keepD; with_reducible assumption; with_reducible assumption)
            | (refine keepD ?_ Z.out; exact (Below.refl _ _).drew))
           (first
            | (go_at_call 323; refine Sb (h2 _) fun w' hb => ?_))
          all_goals
           rename_i hH
           have HD2 := Zab hH.2.1; have HB2 := Zab hH.2.2; have d0 := hH.1; have d1 := (hH.2.1 k hlt).2; clear hH c0 c1; go_wp2_with fail; go_roundw
           (case rel => exact ⟨k + 1, by omega, by go_num, by rw [HS.out], by rw [Zdv, HI.out, updD_twice HFE.out]; exact HD2.out.set k (t + 1), bset HB2.out hDW⟩)
           (case measure => simp [intOf]; omega)
        · rw [if_neg (fun h => hq h.2)] at HS HI
          go_region_held3 (fun u => u.cell? (Ad D k) = some (Vi t) ∧ DA u D l.length f ∧ Below w.heap.size w u)
           (first
            | (with_reducible assumption)
            | (with_reducible apply keepD; with_reducible assumption; with_reducible assumption)
            | (refine keepD ?_ Z.out; exact (Below.refl _ _).drew))
           (first
            | (go_at_call 323; refine Sb (h2 _) fun w' hb => ?_))
          all_goals
           rename_i hH
           have HD2 := Zab hH.2.1; have HB2 := Zab hH.2.2; clear hH c0 c1; go_wp2_with fail; go_roundw
           (case rel => exact ⟨k + 1, by omega, by go_num, by rw [HS.out], by rw [Zdv, HI.out, HFE.out]; exact HD2.out, HB2.out⟩)
           (case measure => simp [intOf]; omega)
      · have hp' : decide (0 < x) = false := by simpa using hp
        rw [if_neg (fun h => hp h.1)] at HS HI; go_quiet (fail); go_wp2; go_roundw
        case rel => exact ⟨k + 1, by omega, by go_num, by rw [HS.out], by rw [Zdv, HI.out, HFE.out]; exact HD.out.later (below_drewN (Below.refl _ _) _), Zac HB.out (below_drewN (Below.refl _ _) _)⟩
        case measure => simp [intOf]; omega
    · have h1 := Zek v; have h2 := Zek (v + 1); rw [← tk_lost (T := T) (R := R) (v := v) ho] at h1; rw [← tk_lost (T := T) (R := R) (v := v + 1) ho] at h2
      unfold tv at hc
      rw [if_pos ho] at hc; clear htk ho; generalize tk T R (svAt l k) v = t at *; generalize tk T R (svAt l k) (v + 1) = t2 at *
      go_upto_region 7 with (go_at_call 322; refine Sb (h1 _) fun w1 hb1 => ?_; have HD := Zab (HD.out.later hb1); have HB := Zab (Zac HB.out hb1); have c0 := (HD.out k hlt).1; have c1 := (HD.out k hlt).2; clear hb1); have HD := Zab (HD.out.set k t); have HB := Zab (bset (k := k) (v := Vi t) HB.out hDW); generalize w1.setCell (Ad D k) (Vi t) = w2 at *; clear c0 c1; obtain ⟨f, HFE⟩ : ∃ f, Hid (updD (mixD T R l v s k) k t = f) := ⟨_, rfl⟩; rw [HFE.out] at HD; have c0 := (HD.out k hlt).1; have c1 := (HD.out k hlt).2
      have HFK : Hid (f k = t) := by show f k = t; rw [← HFE.out]; exact if_pos rfl
      rw [HFK.out] at c0
      by_cases hp : 0 < x
      · have S0 : w2.cell? (Ad D k) = some (Vi t) ∧ DA w2 D l.length f ∧ Below w.heap.size w w2 := ⟨c0, HD.out, HB.out⟩; have Z := Zab S0; have v1 := Wr (v + 1)
        by_cases hq : t < t2
        · rw [if_pos ⟨hp, hq⟩] at HS HI
          go_region_held3 (fun u => u.cell? (Ad D k) = some (Vi t) ∧ DA u D l.length f ∧ Below w.heap.size w u)
           (first
            | (with_reducible assumption)
            | (with_reducible apply keepD; with_reducible assumption; with_reducible assumption)
            | (refine keepD ?_ Z.out; exact (Below.refl _ _).drew))
           (first
            | (go_at_call 322; refine Sb (h2 _) fun w' hb => ?_))
          all_goals
           rename_i hH
           have HD2 := Zab hH.2.1; have HB2 := Zab hH.2.2; have d0 := hH.1; have d1 := (hH.2.1 k hlt).2; clear hH c0 c1; go_wp2_with fail; go_roundw
           (case rel => exact ⟨k + 1, by omega, by go_num, by rw [HS.out], by rw [Zdv, HI.out, updD_twice HFE.out]; exact HD2.out.set k (t + 1), bset HB2.out hDW⟩)
           (case measure => simp [intOf]; omega)
        · rw [if_neg (fun h => hq h.2)] at HS HI
          go_region_held3 (fun u => u.cell? (Ad D k) = some (Vi t) ∧ DA u D l.length f ∧ Below w.heap.size w u)
           (first
            | (with_reducible assumption)
            | (with_reducible apply keepD; with_reducible assumption; with_reducible assumption)
            | (refine keepD ?_ Z.out; exact (Below.refl _ _).drew))
           (first
            | (go_at_call 322; refine Sb (h2 _) fun w' hb => ?_))
          all_goals
           rename_i hH
           have HD2 := Zab hH.2.1; have HB2 := Zab hH.2.2; clear hH c0 c1; go_wp2_with fail; go_roundw
           (case rel => exact ⟨k + 1, by omega, by go_num, by rw [HS.out], by rw [Zdv, HI.out, HFE.out]; exact HD2.out, HB2.out⟩)
           (case measure => simp [intOf]; omega)
      · have hp' : decide (0 < x) = false := by simpa using hp
        rw [if_neg (fun h => hp h.1)] at HS HI; go_quiet (fail); go_wp2; go_roundw
        case rel => exact ⟨k + 1, by omega, by go_num, by rw [HS.out], by rw [Zdv, HI.out, HFE.out]; exact HD.out.later (below_drewN (Below.refl _ _) _), Zac HB.out (below_drewN (Below.refl _ _) _)⟩
        case measure => simp [intOf]; omega
  · have e : k = l.length := by omega
    have HL := Zab (dl_ils e (by subst e; exact hD)); subst e; clear hD; go_wp2; go_ret; exact ⟨⟨_, _, rfl, hDW, by rw [HSE.out]; exact HL.out⟩, hb⟩
theorem keepS {w u u' : World} {x : Option Addr} {T R : Int} {l : List Sv} (hb : Below u.heap.size u u') (h : u.cell? (Ad w.heap.size 0) = some (Vi T) ∧ WLs u x T R l ∧ Below w.heap.size w u) : u'.cell? (Ad w.heap.size 0) = some (Vi T) ∧ WLs u' x T R l ∧ Below w.heap.size w u' := ⟨cell_later hb h.1, h.2.1.later hb, Zac h.2.2 hb⟩
theorem spread_at (T R S C sum v : Int) (l : List Sv) (a : Option Addr) (ca : Nat) (hok : AllOk T R S C l) (h1 : 1 ≤ l.length) (h4 : l.length ≤ 4) (hv : IsLev T R l (Zar sum (tot T R l (-T)) (tot T R l T)) v) (w : World) (hw : VLs w a l) :
 Calls prog 171 #[.agg #[Vi T, Vi R, Vi S, Vi C], .slice a l.length ca, Vi sum] w fun e w' => (∃ g cap, e = .returned (.tuple #[.slice (some (Ad g 0)) l.length cap, .nilIface]) ∧ w.heap.size ≤ g ∧ ILs w' (some (Ad g 0)) (dlU T R l v (Zar sum (tot T R l (-T)) (tot T R l T) - tot T R l v) l.length)) ∧ Below w.heap.size w w' := by
 have HR := Zab (RB.new w T R S C); have HV := Zab hw; have HOK := Zab hok; have ⟨t0, t1⟩ := (Zas hok.1).1; have hcr := Zgy T R S C; rw [show arE T R S C = 0 by unfold arE; rw [if_pos hok.1], Zaq] at hcr; have htk := fun u hu => takers_any T R S C l a ca l.length (Nat.le_refl _) hok.1 hok.2 (fun h => by omega) (by omega) u hu; have b1 := tot_bd hok (by omega) (-T); have b2 := tot_bd hok (by omega) T; have HM := Zab (Zeb T R l (show -T ≤ T by omega)); obtain ⟨s, HSE⟩ : ∃ s, Hid (Zar sum (tot T R l (-T)) (tot T R l T) = s) := ⟨_, rfl⟩; have hcl := Zat sum (tot T R l (-T)) (tot T R l T); have bs := Zbr (v := sum) HM.out; rw [HSE.out] at hv hcl bs; have bv := And.intro hv.1 hv.2.1; have hfl := fun x c u hu => findLevel_any T R S C s v l x c (by omega) t1 hok (by omega) bs.1 hv u hu; have hdl := fun x c u hu => deal_at T R S C v s l x c (by omega) (by omega) (by omega) (by omega) hok (by omega) u hu; have htA := fun x c u hu => Zdl T R S C l (-T) x c hok (by omega) u hu; have htB := fun x c u hu => Zdl T R S C l T x c hok (by omega) u hu
 have i1 : (1 : Int) ≤ (l.length : Int) := by omega
 have i4 : (l.length : Int) ≤ 4 := by omega
 have v1 := Wr (-T); clear hw hok hv; rw [HSE.out]
 go_enter func171, ntmps171
 go_upto_region 9 with (first
  | (go_at_call 180; refine Sb (hcr _) fun w1 hb1 => ?_; have HR := Zab (HR.out.later hb1); obtain ⟨q0, q1, q2, q3⟩ := HR.out.1; clear hb1)
  | (go_at_call 220; refine (htk _ (HV.out.later HR.out.2)).mono ?_; rintro e w2 ⟨(⟨_, x, cap, rfl, hws⟩ | ⟨hno, _⟩), hb2⟩; rotate_left; omega; have HR := Zab (HR.out.later hb2); have HWS := Zab hws; obtain ⟨q0, q1, q2, q3⟩ := HR.out.1; clear hb2 hws))
 generalize tot T R l (-T) = tA at *; generalize tot T R l T = tB at *; have S0 : w2.cell? (Ad w.heap.size 0) = some (Vi T) ∧ WLs w2 x T R l ∧ Below w.heap.size w w2 := ⟨q0, HWS.out, HR.out.2⟩; have Z := Zab S0; have htA' : ∀ u, (u.cell? (Ad w.heap.size 0) = some (Vi T) ∧ WLs u x T R l ∧ Below w.heap.size w u) → Calls prog 221 #[.slice x l.length cap, Vi (-T)] u fun e w' => e = .returned (Vi tA) ∧ Below u.heap.size u w' := fun u hu => htA x cap u hu.2.1; have htB' : ∀ u, (u.cell? (Ad w.heap.size 0) = some (Vi T) ∧ WLs u x T R l ∧ Below w.heap.size w u) → Calls prog 221 #[.slice x l.length cap, Vi T] u fun e w' => e = .returned (Vi tB) ∧ Below u.heap.size u w' := fun u hu => htB x cap u hu.2.1; clear htA htB
 go_cut [2] (fun c u => c = Vi s ∧ (u.cell? (Ad w.heap.size 0) = some (Vi T) ∧ WLs u x T R l ∧ Below w.heap.size w u))
 case first =>
  go_region_held3 (fun u => u.cell? (Ad w.heap.size 0) = some (Vi T) ∧ WLs u x T R l ∧ Below w.heap.size w u)
   (first
    | (with_reducible assumption)
    | (with_reducible apply keepS; with_reducible assumption; with_reducible assumption)
    | (refine keepS ?_ Z.out; exact (Below.refl _ _).drew))
   (first
    | ((first | go_at_call_of 221 (Vi (-T)) | go_at_call_of 221 (Value.int .i64 (-T))); refine Sb (htA' _ (by with_reducible assumption)) fun w' hb => ?_)
    | (go_at_call 221; refine Sb (htB' _ (by with_reducible assumption)) fun w' hb => ?_)
    | (go_at_call 172; refine (hcl _).mono ?_; rintro e w' ⟨rfl, rfl⟩))
  all_goals
   rename_i hH
   go_wp2_with fail
   go_meet
   (case rel => exact ⟨rfl, hH⟩)
 case rest =>
  obtain ⟨rfl, hH⟩ := hcut; rename World => wb; clear S0 Z q0 q1 q2 q3 HWS HR; have HH := Zab hH; have p0 := hH.1; clear hH
  go_wp2_with (first
   | (go_at_call 223; refine Sb (hfl _ _ _ HH.out.2.1) fun w4 hb4 => ?_; have HH := Zab (keepS hb4 HH.out); clear hb4)
   | (go_at_call 222; refine (hdl _ _ _ HH.out.2.1).mono ?_; rintro e w5 ⟨⟨y, cy, rfl, hyg, hys⟩, hb5⟩; have HY := Zab hys; have HYG := Zab (Nat.le_trans HH.out.2.2.size hyg); clear hyg; have HB := Zab (Zac HH.out.2.2 hb5); clear hb5 hys))
  go_ret2; exact ⟨⟨_, _, rfl, HYG.out, HY.out⟩, HB.out⟩
end Go.Proofs.YtnfdfiholcelaaaGreatDoor
