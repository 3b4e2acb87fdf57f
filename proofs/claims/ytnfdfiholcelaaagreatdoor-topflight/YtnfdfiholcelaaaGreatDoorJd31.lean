import Derived.WalkKit
import Derived.ProofKit
import Derived.OpenShut
import Derived.ChangeOld
import Derived.Below
import Derived.Lib.SmallJoins
import Derived.Deep.CutRange
import Derived.Deep.SlicePairs
import Derived.Deep.Slices
import Derived.Test.YtnfdfiholcelaaaGreatDoorJd00
import Derived.Test.YtnfdfiholcelaaaGreatDoorJd01
import Derived.Test.YtnfdfiholcelaaaGreatDoorJd02
import Derived.Test.YtnfdfiholcelaaaGreatDoorJd03
import Derived.Test.YtnfdfiholcelaaaGreatDoorJd09
import Derived.Test.YtnfdfiholcelaaaGreatDoorJd12
import Derived.Test.YtnfdfiholcelaaaGreatDoorJd19
import Derived.Test.YtnfdfiholcelaaaGreatDoorJd29
import Derived.Test.YtnfdfiholcelaaaGreatDoorJd30
set_option maxRecDepth 100000
set_option maxHeartbeats 20000000
namespace Go.Proofs.YtnfdfiholcelaaaGreatDoor
open Go.RowKit Plain
theorem Zde {P : Program} {ops : Array Oper} {rest : List Oper} {op : Oper} {a : Act} {w : World} {Q : Exit → Act → World → Prop} (hw : Region.wanted op (yielded ops a.tmps) = true) (ty : TypeId) (x : Operand) (ho : op.op = .load ty x)
 (b o : Nat) (hx : a.eval x = .pointer (some (Ad b o))) (cs : List Value) (d : TypeDesc) (hc : w.rangeAt b o cs) (hu : P.underlying ty = some d) (hd : d.isRow = true) (hi : (P.info? ty).map (·.size) = some cs.length)
 (h : wpList P ops Q rest (a.put op.dst (.agg cs.toArray)) w) : wpList P ops Q (op :: rest) a w :=
 wpList_step fun K hK => by rw [if_pos hw]; exact wp_load_mid ty x ho b o hx cs d hc hu hd hi (hK _ _ h)
theorem RpO.slice {K : Nat} {u : World} {s : Value} {rs : List Rp} (h : RpO K u s rs) : ∃ a c, s = .slice a rs.length c := by
 rcases h.2 with ⟨rfl, e⟩ | ⟨g, cap, cur, rfl, _⟩
 · exact ⟨none, 0, by rw [e]⟩
 · exact ⟨_, cap, rfl⟩
def FwP (C : CR) (l : List Ft) (ss : List Stp) (K : Nat) (e : Ending) (w' : World) : Prop := ∃ s b, e = .returned (.tuple #[s, .bool b]) ∧ (b = true → FlOK C l ss ∧ RpO K w' s (rpU C l ss ss.length)) ∧ (b = false → s = .slice none 0 0)
theorem FwP.no (C : CR) (l : List Ft) (ss : List Stp) (K : Nat) (w' : World) : FwP C l ss K (.returned (.tuple #[.slice none 0 0, .bool false])) w' := ⟨_, _, rfl, (fun h => by cases h), fun _ => rfl⟩
theorem cr_p0 (C : CR) : (crL C)[12]? = some (.slice (C.p 0) (C.al 0).length (C.cn 0)) := rfl
theorem cr_p1 (C : CR) : (crL C)[27]? = some (.slice (C.p 1) (C.al 1).length (C.cn 1)) := rfl
theorem flown_any (C : CR) (pf : Option Addr) (cf : Nat) (l : List Ft) (ps : Option Addr) (cs : Nat) (ss : List Stp) (hml : l.length ≤ 9223372036854775807) (hms : ss.length ≤ 9223372036854775807) (w : World) (hg : GV w) (hcr : CrL w C) (hF : Fts w pf l) (hS : Sts w ps ss) :
 Calls Tryz.prog 37 #[.agg (crL C).toArray, .agg #[.slice pf l.length cf, .slice ps ss.length cs]] w fun e w' => FwP C l ss w.heap.size e w' ∧ Below w.heap.size w w' := by
 have HFM := Zab (fun u (h : Below w.heap.size w u) => flightMay_any C pf cf l ps cs ss hml hms u (hcr.later h) (hF.later h) (hS.later h)); have HFY := Zab (fun (ok : FlOK C l ss) u (h : Below w.heap.size w u) => fly_ok C pf cf l ps cs ss ok.cr ok.ft ok.st ok.nl ok.ns u (hg.later h) (hcr.later h) (hF.later h) (hS.later h)); have HK := Zab ((Blk.new w 29 (crL C)).later (Zaa (w.alloc (.cells (crL C).toArray 29)) (.cells #[.slice pf l.length cf, .slice ps ss.length cs] 67))); have HF : Hid (Blk 67 ((w.alloc (.cells (crL C).toArray 29)).alloc (.cells #[.slice pf l.length cf, .slice ps ss.length cs] 67)) (w.heap.size + 1) [.slice pf l.length cf, .slice ps ss.length cs]) := Zab (by have h := Blk.new (w.alloc (.cells (crL C).toArray 29)) 67 [.slice pf l.length cf, .slice ps ss.length cs]; rw [World.size_alloc] at h; exact h); have HB0 := Zab (Zac (Zaa w (.cells (crL C).toArray 29)) (Zaa (w.alloc (.cells (crL C).toArray 29)) (.cells #[.slice pf l.length cf, .slice ps ss.length cs] 67))); obtain ⟨ml0, mz0, mc0, _⟩ := hcr 0 (by omega); obtain ⟨ml1, mz1, mc1, _⟩ := hcr 1 (by omega); clear hcr hF hS hg
 go_enter Tryz.func37, Tryz.ntmps37
 go_upto_region 1 with fail; generalize (w.alloc (.cells (crL C).toArray 29)).alloc (.cells #[.slice pf l.length cf, .slice ps ss.length cs] 67) = v0 at *; generalize w.heap.size + 1 = QF at HF ⊢; generalize hQK : w.heap.size = QK at HK ⊢; have HQK := Zab hQK; clear hQK; have xf := (HF.out.cell (j := 0) rfl).1; have xs := (HF.out.cell (j := 1) rfl).1; have x0 := (HK.out.cell (cr_p0 C)).1; have x1 := (HK.out.cell (cr_p1 C)).1
 by_cases h1 : (20 : Int) < (l.length : Int)
 · go_wp2_with fail; go_ret2; exact ⟨FwP.no C l ss _ _, HB0.out⟩
 by_cases h2 : (300 : Int) < (ss.length : Int)
 · go_wp2_with fail; go_ret2; exact ⟨FwP.no C l ss _ _, HB0.out⟩
 by_cases h3 : (20 : Int) < ((C.al 0).length : Int)
 · go_wp2_with fail; go_ret2; exact ⟨FwP.no C l ss _ _, HB0.out⟩
 by_cases h4 : (20 : Int) < ((C.al 1).length : Int)
 · go_wp2_with fail; go_ret2; exact ⟨FwP.no C l ss _ _, HB0.out⟩
 have HOK := Zab (fun h => fmE_ok (C := C) (l := l) (ss := ss) h); have hfm := HFM.out v0 HB0.out; generalize fmE' C l ss = fe at *
 by_cases he : fe = 0
 · subst he; have HOK0 := Zab (HOK.out rfl); clear HOK; have hfy := HFY.out HOK0.out; have HRL := Zab (Zcl C l ss ss.length)
   go_upto_region 3 with (first
    | (refine Zcm _ rfl ?_; refine Zde (by rfl) 29 (.tmp 2) rfl QK 0 rfl (crL C) _ HK.out.range Tryz.underlying29 rfl Zbd ?_)
    | (go_at_call 25; refine hfm.mono ?_; rintro e v1 ⟨rfl, hb⟩; replace HK := Zab (HK.out.later hb); replace HF := Zab (HF.out.later hb); replace HB0 := Zab (Zac HB0.out hb); clear hb))
   clear xf xs x0 x1; have xf := (HF.out.cell (j := 0) rfl).1; have xs := (HF.out.cell (j := 1) rfl).1
   go_upto_region 4 with (first
    | (refine Zcm _ rfl ?_; refine Zde (by rfl) 29 (.tmp 2) rfl QK 0 rfl (crL C) _ HK.out.range Tryz.underlying29 rfl Zbd ?_)
    | (go_at_call 31; refine (hfy _ HB0.out).mono ?_; rintro e v2 ⟨⟨sr, rfl, hrp⟩, hb⟩; replace HF := Zab (HF.out.later hb); have HB1 := Zab (Zac HB0.out hb); have HRP := Zab hrp; clear hb hrp))
   obtain ⟨ra, rc, rfl⟩ := HRP.out.slice; rw [Zcl]; clear xf xs; have xs := (HF.out.cell (j := 1) rfl).1; rw [Zcl] at HRP; go_wp2_with fail; go_ret2; exact ⟨⟨.slice ra ss.length rc, true, rfl, fun _ => ⟨HOK0.out, HRP.out.weak (by have := HB0.out.size; omega)⟩, (fun h => by cases h)⟩, HB1.out⟩
 · go_wp2_with (first
    | (refine Zcm _ rfl ?_; refine Zde (by rfl) 29 (.tmp 2) rfl QK 0 rfl (crL C) _ HK.out.range Tryz.underlying29 rfl Zbd ?_)
    | (go_at_call 25; refine hfm.mono ?_; rintro e v1 ⟨rfl, hb⟩; replace HB0 := Zab (Zac HB0.out hb); clear hb))
   go_ret2; exact ⟨FwP.no C l ss _ _, HB0.out⟩
def rpD : Rp := ⟨fun _ => 0, fun _ => 0, fun _ => 0, 0, fun _ _ => 0⟩
def rpAt (rs : List Rp) (k : Nat) : Rp := rs.getD k rpD
theorem encP_get : ∀ (rs : List Rp) (j i : Nat), j < rs.length → i < 15 → (encP rs)[j * 15 + i]? = (rpL (rpAt rs j))[i]?
 | [], j, _, hj, _ => by simp at hj
 | r :: t, 0, i, _, hi => by
  have e : encP (r :: t) = rpL r ++ encP t := by simp [encP]
  rw [e, Nat.zero_mul, Nat.zero_add, List.getElem?_append_left (by rw [Zfl]; exact hi)]
  rfl
 | r :: t, j + 1, i, hj, hi => by
  have e : encP (r :: t) = rpL r ++ encP t := by simp [encP]
  rw [e, List.getElem?_append_right (by rw [Zfl]; omega), Zfl, show (j + 1) * 15 + i - 15 = j * 15 + i by omega, encP_get t j i (by simpa using hj) hi]
  rfl
theorem RpO.at {K : Nat} {u : World} {a : Option Addr} {n c : Nat} {rs : List Rp} (h : RpO K u (.slice a n c) rs) {j : Nat} (hj : j < rs.length) : ∃ g, a = some (Ad g 0) ∧ u.rangeAt g (j * 15) (rpL (rpAt rs j)) := by
 rcases h.2 with ⟨_, e⟩ | ⟨g, cap, cur, e, _, hb, h1, h2, h3, h4⟩
 · omega
 · simp only [Value.slice.injEq] at e; refine ⟨g, e.1, fun i v hv => ?_⟩
   have hi : i < 15 := by
    have := (List.getElem?_eq_some_iff.1 hv).1; rw [Zfl] at this; exact this
   have hlt : j * 15 + i < rs.length * 15 := by omega
   have hg := encP_get rs j i hj hi; rw [← h4, List.getElem?_take_of_lt hlt, Array.getElem?_toList, hv] at hg; simp only [World.cell?, hb]; simp only [Option.isSome_none, Bool.false_eq_true, if_false]; exact hg
theorem rpU_at (C : CR) (l : List Ft) (ss : List Stp) : ∀ n j, j < n → rpAt (rpU C l ss n) j = rpF (flU C l ss (j + 1))
 | 0, j, h => by omega
 | n + 1, j, h => by
  unfold rpAt
  rw [rpU, List.getD_eq_getElem?_getD]
  by_cases e : j = n
  · subst e; rw [List.getElem?_append_right (by rw [Zcl]; omega), Zcl]
    simp
  · rw [List.getElem?_append_left (by rw [Zcl]; omega), ← List.getD_eq_getElem?_getD]; exact rpU_at C l ss n j (by omega)
theorem rp_worse {C : CR} {l : List Ft} {ss : List Stp} (ok : FlOK C l ss) {k : Nat} (hk : k < ss.length) :
 ((stAt ss k).g = false → (rpF (flU C l ss k)).n ≤ (rpF (flU C l ss (k + 1))).n) ∧ ∀ i, i < 2 → (rpF (flU C l ss (k + 1))).l i ≤ (rpF (flU C l ss k)).l i ∧ (rpF (flU C l ss (k + 1))).s i ≤ (rpF (flU C l ss k)).s i :=
 step_worse (l := l) (now := (k : Int)) (flU_gi ok.cr ok.st k (by omega)) (ok.st k hk)
theorem Zfk (r : Rp) : (rpL r)[6]? = some (Vi r.n) := rfl
theorem rp_cell_x (r : Rp) {i : Nat} (hi : i < 2) : (rpL r)[i]? = some (Vi (r.x i)) := by
 rcases (show i = 0 ∨ i = 1 by omega) with rfl | rfl <;> rfl
theorem topLaw_walk (C : CR) (pf : Option Addr) (cf : Nat) (l : List Ft) (ps : Option Addr) (cs : Nat) (ss : List Stp) (hml : l.length ≤ 9223372036854775807) (hms : ss.length ≤ 9223372036854775807) (w : World) (hg : GV w) (hcr : CrL w C) (hF : Fts w pf l) (hS : Sts w ps ss) :
 Calls Tryz.prog 10 #[.agg (crL C).toArray, .agg #[.slice pf l.length cf, .slice ps ss.length cs]] w fun e w' => e = .returned (.bool true) ∧ Below w.heap.size w w' := by
 have HFW := Zab (fun u (h : Below w.heap.size w u) => flown_any C pf cf l ps cs ss hml hms u (hg.later h) (hcr.later h) (hF.later h) (hS.later h)); have HST := Zab (fun u (h : Below w.heap.size w u) => hS.later h); have HK := Zab ((Blk.new w 29 (crL C)).later (Zaa (w.alloc (.cells (crL C).toArray 29)) (.cells #[.slice pf l.length cf, .slice ps ss.length cs] 67))); have HF : Hid (Blk 67 ((w.alloc (.cells (crL C).toArray 29)).alloc (.cells #[.slice pf l.length cf, .slice ps ss.length cs] 67)) (w.heap.size + 1) [.slice pf l.length cf, .slice ps ss.length cs]) := Zab (by have h := Blk.new (w.alloc (.cells (crL C).toArray 29)) 67 [.slice pf l.length cf, .slice ps ss.length cs]; rw [World.size_alloc] at h; exact h); have HB0 := Zab (Zac (Zaa w (.cells (crL C).toArray 29)) (Zaa (w.alloc (.cells (crL C).toArray 29)) (.cells #[.slice pf l.length cf, .slice ps ss.length cs] 67))); clear hcr hF hS hg
 go_enter Tryz.func10, Tryz.ntmps10
 go_upto_region 1 with fail; generalize (w.alloc (.cells (crL C).toArray 29)).alloc (.cells #[.slice pf l.length cf, .slice ps ss.length cs] 67) = v0 at *; generalize w.heap.size + 1 = QF at HF ⊢; generalize hQK : w.heap.size = QK at HK ⊢; clear hQK
 go_upto_region 3 with (go_at_call 35; refine Sb (awake_any _) fun v1 hb => ?_; replace HK := Zab (HK.out.later hb); replace HF := Zab (HF.out.later hb); replace HB0 := Zab (Zac HB0.out hb); clear hb); have xf := (HF.out.cell (j := 0) rfl).1; have xs := (HF.out.cell (j := 1) rfl).1
 go_upto_region 5 with (first
  | (refine Zcm _ rfl ?_; refine wpList_load_mid rfl 29 (.tmp 2) rfl QK 0 rfl (crL C) _ HK.out.range Tryz.underlying29 rfl Zbd ?_)
  | (go_at_call 37; refine (HFW.out _ HB0.out).mono ?_; rintro e v2 ⟨⟨sr, ok, rfl, hy, hn⟩, hb⟩; replace HF := Zab (HF.out.later hb); have HB1 := Zab (Zac HB0.out hb); clear hb))
 cases ok
 · obtain rfl := hn rfl; clear hy hn; refine wp_loop_rounds 1 ?_; rw [rounds_succ]; go_wp2_with fail; go_ret; exact ⟨rfl, HB1.out⟩
 obtain ⟨OK, hrp⟩ := hy rfl; have HOK := Zab OK; obtain ⟨ra, rc, rfl⟩ := hrp.slice; rw [Zcl] at hrp ⊢; have HRP := Zab hrp; have HRL := Zab (Zcl C l ss ss.length); have hn3 := OK.ns; clear hy hn OK hrp xf xs HK
 go_loopw [7] (fun ix wr => ∃ j : Nat, ix = Vi ((j : Int) + 1) ∧ RpO v1.heap.size wr (.slice ra ss.length rc) (rpU C l ss ss.length) ∧ Blk 67 wr QF [.slice pf l.length cf, .slice ps ss.length cs] ∧ Below w.heap.size w wr) (fun ix _ => ss.length - (intOf ix).toNat)
 case atStart => exact ⟨0, rfl, HRP.out, HF.out, HB1.out⟩
 case round =>
  clear HRP HF HB1; obtain ⟨j, rfl, hrp, hff, hbw⟩ := hrel
  by_cases hlt : j + 1 < ss.length
  · have j0 : (0 : Int) ≤ (j : Int) := by omega
    have jn : j < ss.length := by omega
    have j2 : (0 : Int) ≤ (j : Int) + 1 := by omega
    have j1 : (j : Int) + 1 < (ss.length : Int) := by omega
    have hw1 : IntKind.i64.wrap (j : Int) = j := by rw [Zas] <;> omega
    obtain ⟨g, rfl, hra⟩ := hrp.at (j := j) (by rw [HRL.out]; omega); obtain ⟨g', e', hrb⟩ := hrp.at (j := j + 1) (by rw [HRL.out]; omega)
    cases e'
    rw [rpU_at C l ss ss.length j (by omega)] at hra; rw [rpU_at C l ss ss.length (j + 1) (by omega)] at hrb; obtain ⟨b, off, rfl, hst⟩ := (HST.out wr hbw).at hlt; have hgr := hst 7 _ rfl; have hwo := rp_worse HOK.out hlt; generalize (stAt ss (j + 1)).g = gr at *; generalize rpF (flU C l ss (j + 1)) = P at *; generalize rpF (flU C l ss (j + 1 + 1)) = R at *; have xs := (hff.cell (j := 1) rfl).1; clear hst
    go_upto_region 7 with fail; refine wp_region_held_drew (S := fun u => Below wr.heap.size wr u) (by kernel_rfl) ((Below.refl _ _).drew) (fun _ => ?_); have HS0 : Hid (Below wr.heap.size wr wr.drew) := Zab ((Below.refl _ _).drew); generalize wr.drew = u0 at HS0 ⊢; apply etwice
    · intro hk2; refine Tq 0 HS0.out ?_; simp only [Act.put, Ly]; refine Tq 1 HS0.out ?_; simp only [Act.put, Ly]; refine Tq 2 HS0.out ?_; simp only [Act.put, Ly]; refine Tq 3 HS0.out ?_; simp only [Act.put, Ly]; refine Tk 4 rfl (yieldsIf_load_mid (by rfl) 95 (.tmp 31) rfl g (j * 15) rfl (rpL P) _ (fun w hSw => Zae hra hSw) Tryz.underlying95 rfl Zfw) HS0.out ?_; simp only [Act.put, Ly]; refine Tq 5 HS0.out ?_; simp only [Act.put, Ly]; refine Tq 6 HS0.out ?_; simp only [Act.put, Ly]; refine Tq 7 HS0.out ?_; simp only [Act.put, Ly]; refine Tk 8 rfl (yieldsIf_load_mid (by rfl) 95 (.tmp 35) rfl g ((j + 1) * 15) rfl (rpL R) _ (fun w hSw => Zae hrb hSw) Tryz.underlying95 rfl Zfw) HS0.out ?_; simp only [Act.put, Ly]; refine Rb 9 10 (fun K hK => ?_) (fun K hK => ?_)
      · go_simp; have HS1 := Zab (Zac HS0.out (Zaa u0 (.cells #[Vi 0, Vi 0, Vi 0, Vi 0, Vi 0, Vi 0, Vi 0, Vi 0, Vi 0, Vi 0, Vi 0, Vi 0, Vi 0, Vi 0, Vi 0] 95))); have HAA1 := Zab (NB.new (t := 95) (K := wr.heap.size) [Vi 0, Vi 0, Vi 0, Vi 0, Vi 0, Vi 0, Vi 0, Vi 0, Vi 0, Vi 0, Vi 0, Vi 0, Vi 0, Vi 0, Vi 0] (X := u0) HS0.out.size); generalize u0.alloc (.cells #[Vi 0, Vi 0, Vi 0, Vi 0, Vi 0, Vi 0, Vi 0, Vi 0, Vi 0, Vi 0, Vi 0, Vi 0, Vi 0, Vi 0, Vi 0] 95) = u1 at HS1 HAA1 ⊢; generalize u0.heap.size = XA at HAA1  ⊢; refine hK.out _ _ HS1.out (fun _ => ?_); clear hK K; (try simp only [Act.put]); refine Ra 10 (fun K hK => ?_); go_simp; have HS2 := Zab (Zac HS1.out (Zaa u1 (.cells #[Vi 0, Vi 0, Vi 0, Vi 0, Vi 0, Vi 0, Vi 0, Vi 0, Vi 0, Vi 0, Vi 0, Vi 0, Vi 0, Vi 0, Vi 0] 95))); have HAA2 := Zab (HAA1.out.later (Zaa u1 (.cells #[Vi 0, Vi 0, Vi 0, Vi 0, Vi 0, Vi 0, Vi 0, Vi 0, Vi 0, Vi 0, Vi 0, Vi 0, Vi 0, Vi 0, Vi 0] 95))); have HAD2 := Zab (NB.new (t := 95) (K := wr.heap.size) [Vi 0, Vi 0, Vi 0, Vi 0, Vi 0, Vi 0, Vi 0, Vi 0, Vi 0, Vi 0, Vi 0, Vi 0, Vi 0, Vi 0, Vi 0] (X := u1) HS1.out.size); have HNAD : Hid (XA ≠ u1.heap.size) := Zab (Nat.ne_of_lt HAA1.out.1.lt); generalize u1.alloc (.cells #[Vi 0, Vi 0, Vi 0, Vi 0, Vi 0, Vi 0, Vi 0, Vi 0, Vi 0, Vi 0, Vi 0, Vi 0, Vi 0, Vi 0, Vi 0] 95) = u2 at HS2 HAA2 HAD2 ⊢; generalize u1.heap.size = XD at HAD2 HNAD ⊢; refine hK.out _ _ HS2.out (fun _ => ?_); clear hK K; (try simp only [Act.put]); clear HS1 HAA1; have hB := HS2.out; have hA := HAA2.out; have hD := HAD2.out; clear HS2 HAA2 HAD2; generalize u2 = v at hB hA hD ⊢; revert hB; revert HNAD; revert hA; revert hD; revert v; revert XA; revert XD; exact hk2.out
      · go_simp; have HS3 := Zab (Zac HS0.out (Zaa u0 (.cells #[Vi 0, Vi 0, Vi 0, Vi 0, Vi 0, Vi 0, Vi 0, Vi 0, Vi 0, Vi 0, Vi 0, Vi 0, Vi 0, Vi 0, Vi 0] 95))); have HAD3 := Zab (NB.new (t := 95) (K := wr.heap.size) [Vi 0, Vi 0, Vi 0, Vi 0, Vi 0, Vi 0, Vi 0, Vi 0, Vi 0, Vi 0, Vi 0, Vi 0, Vi 0, Vi 0, Vi 0] (X := u0) HS0.out.size); generalize u0.alloc (.cells #[Vi 0, Vi 0, Vi 0, Vi 0, Vi 0, Vi 0, Vi 0, Vi 0, Vi 0, Vi 0, Vi 0, Vi 0, Vi 0, Vi 0, Vi 0] 95) = u3 at HS3 HAD3 ⊢; generalize u0.heap.size = XD at HAD3  ⊢; refine hK.out _ _ HS3.out (fun _ => ?_); clear hK K; (try simp only [Act.put]); refine Ra 9 (fun K hK => ?_); go_simp; have HS4 := Zab (Zac HS3.out (Zaa u3 (.cells #[Vi 0, Vi 0, Vi 0, Vi 0, Vi 0, Vi 0, Vi 0, Vi 0, Vi 0, Vi 0, Vi 0, Vi 0, Vi 0, Vi 0, Vi 0] 95))); have HAD4 := Zab (HAD3.out.later (Zaa u3 (.cells #[Vi 0, Vi 0, Vi 0, Vi 0, Vi 0, Vi 0, Vi 0, Vi 0, Vi 0, Vi 0, Vi 0, Vi 0, Vi 0, Vi 0, Vi 0] 95))); have HAA4 := Zab (NB.new (t := 95) (K := wr.heap.size) [Vi 0, Vi 0, Vi 0, Vi 0, Vi 0, Vi 0, Vi 0, Vi 0, Vi 0, Vi 0, Vi 0, Vi 0, Vi 0, Vi 0, Vi 0] (X := u3) HS3.out.size); have HNAD : Hid (u3.heap.size ≠ XD) := Zab (Nat.ne_of_gt HAD3.out.1.lt); generalize u3.alloc (.cells #[Vi 0, Vi 0, Vi 0, Vi 0, Vi 0, Vi 0, Vi 0, Vi 0, Vi 0, Vi 0, Vi 0, Vi 0, Vi 0, Vi 0, Vi 0] 95) = u4 at HS4 HAD4 HAA4 ⊢; generalize u3.heap.size = XA at HAA4 HNAD ⊢; refine hK.out _ _ HS4.out (fun _ => ?_); clear hK K; (try simp only [Act.put]); clear HS3 HAD3; have hB := HS4.out; have hA := HAA4.out; have hD := HAD4.out; clear HS4 HAA4 HAD4; generalize u4 = v at hB hA hD ⊢; revert hB; revert HNAD; revert hA; revert hD; revert v; revert XA; revert XD; exact hk2.out
    intro XD XA u5 hD hA HNAD hB; have HS5 := Zab hB; have HAA5 := Zab hA; have HAD5 := Zab hD; clear hB hA hD; refine Ra 11 (fun K hK => ?_); rw [if_pos (by rfl)]; refine Zan 95 (.tmp 8) (.tmp 32) rfl XA 0 #[Vi (P.x 0), Vi (P.x 1), Vi (P.l 0), Vi (P.l 1), Vi (P.s 0), Vi (P.s 1), Vi P.n, Vi (P.a 0 0), Vi (P.a 0 1), Vi (P.a 0 2), Vi (P.a 0 3), Vi (P.a 1 0), Vi (P.a 1 1), Vi (P.a 1 2), Vi (P.a 1 3)] rfl rfl (HAA5.out.1.there (Nat.le_of_ble_eq_true rfl)) Zfw (Zat _ rfl) rfl ?_; have HS6 := Zab (Zah [Vi (P.x 0), Vi (P.x 1), Vi (P.l 0), Vi (P.l 1), Vi (P.s 0), Vi (P.s 1), Vi P.n, Vi (P.a 0 0), Vi (P.a 0 1), Vi (P.a 0 2), Vi (P.a 0 3), Vi (P.a 1 0), Vi (P.a 1 1), Vi (P.a 1 2), Vi (P.a 1 3)] 0 u5 HS5.out (NB.le HAA5.out)); have HAA6 : Hid (NB 95 wr.heap.size (u5.setCells XA 0 [Vi (P.x 0), Vi (P.x 1), Vi (P.l 0), Vi (P.l 1), Vi (P.s 0), Vi (P.s 1), Vi P.n, Vi (P.a 0 0), Vi (P.a 0 1), Vi (P.a 0 2), Vi (P.a 0 3), Vi (P.a 1 0), Vi (P.a 1 1), Vi (P.a 1 2), Vi (P.a 1 3)]) XA [Vi (P.x 0), Vi (P.x 1), Vi (P.l 0), Vi (P.l 1), Vi (P.s 0), Vi (P.s 1), Vi P.n, Vi (P.a 0 0), Vi (P.a 0 1), Vi (P.a 0 2), Vi (P.a 0 3), Vi (P.a 1 0), Vi (P.a 1 1), Vi (P.a 1 2), Vi (P.a 1 3)]) := Zab ⟨Blk.setCells [Vi (P.x 0), Vi (P.x 1), Vi (P.l 0), Vi (P.l 1), Vi (P.s 0), Vi (P.s 1), Vi P.n, Vi (P.a 0 0), Vi (P.a 0 1), Vi (P.a 0 2), Vi (P.a 0 3), Vi (P.a 1 0), Vi (P.a 1 1), Vi (P.a 1 2), Vi (P.a 1 3)] 0 u5 [Vi 0, Vi 0, Vi 0, Vi 0, Vi 0, Vi 0, Vi 0, Vi 0, Vi 0, Vi 0, Vi 0, Vi 0, Vi 0, Vi 0, Vi 0] HAA5.out.1, NB.le HAA5.out⟩; have HAD6 := Zab (NB.farCells (Ne.symm HNAD.out) [Vi (P.x 0), Vi (P.x 1), Vi (P.l 0), Vi (P.l 1), Vi (P.s 0), Vi (P.s 1), Vi P.n, Vi (P.a 0 0), Vi (P.a 0 1), Vi (P.a 0 2), Vi (P.a 0 3), Vi (P.a 1 0), Vi (P.a 1 1), Vi (P.a 1 2), Vi (P.a 1 3)] 0 HAD5.out); generalize hU : World.setCells _ XA 0 _ = u6 at *; clear hU; refine hK.out _ _ HS6.out (fun _ => ?_); clear hK K; clear HS5 HAA5 HAD5; refine Ra 12 (fun K hK => ?_); rw [if_pos (by rfl)]; refine Zan 95 (.tmp 9) (.tmp 36) rfl XD 0 #[Vi (R.x 0), Vi (R.x 1), Vi (R.l 0), Vi (R.l 1), Vi (R.s 0), Vi (R.s 1), Vi R.n, Vi (R.a 0 0), Vi (R.a 0 1), Vi (R.a 0 2), Vi (R.a 0 3), Vi (R.a 1 0), Vi (R.a 1 1), Vi (R.a 1 2), Vi (R.a 1 3)] rfl rfl (HAD6.out.1.there (Nat.le_of_ble_eq_true rfl)) Zfw (Zat _ rfl) rfl ?_
    have HS7 := Zab (Zah [Vi (R.x 0), Vi (R.x 1), Vi (R.l 0), Vi (R.l 1), Vi (R.s 0), Vi (R.s 1), Vi R.n, Vi (R.a 0 0), Vi (R.a 0 1), Vi (R.a 0 2), Vi (R.a 0 3), Vi (R.a 1 0), Vi (R.a 1 1), Vi (R.a 1 2), Vi (R.a 1 3)] 0 u6 HS6.out (NB.le HAD6.out)); have HAD7 : Hid (NB 95 wr.heap.size (u6.setCells XD 0 [Vi (R.x 0), Vi (R.x 1), Vi (R.l 0), Vi (R.l 1), Vi (R.s 0), Vi (R.s 1), Vi R.n, Vi (R.a 0 0), Vi (R.a 0 1), Vi (R.a 0 2), Vi (R.a 0 3), Vi (R.a 1 0), Vi (R.a 1 1), Vi (R.a 1 2), Vi (R.a 1 3)]) XD [Vi (R.x 0), Vi (R.x 1), Vi (R.l 0), Vi (R.l 1), Vi (R.s 0), Vi (R.s 1), Vi R.n, Vi (R.a 0 0), Vi (R.a 0 1), Vi (R.a 0 2), Vi (R.a 0 3), Vi (R.a 1 0), Vi (R.a 1 1), Vi (R.a 1 2), Vi (R.a 1 3)]) := Zab ⟨Blk.setCells [Vi (R.x 0), Vi (R.x 1), Vi (R.l 0), Vi (R.l 1), Vi (R.s 0), Vi (R.s 1), Vi R.n, Vi (R.a 0 0), Vi (R.a 0 1), Vi (R.a 0 2), Vi (R.a 0 3), Vi (R.a 1 0), Vi (R.a 1 1), Vi (R.a 1 2), Vi (R.a 1 3)] 0 u6 [Vi 0, Vi 0, Vi 0, Vi 0, Vi 0, Vi 0, Vi 0, Vi 0, Vi 0, Vi 0, Vi 0, Vi 0, Vi 0, Vi 0, Vi 0] HAD6.out.1, NB.le HAD6.out⟩; have HAA7 := Zab (NB.farCells HNAD.out [Vi (R.x 0), Vi (R.x 1), Vi (R.l 0), Vi (R.l 1), Vi (R.s 0), Vi (R.s 1), Vi R.n, Vi (R.a 0 0), Vi (R.a 0 1), Vi (R.a 0 2), Vi (R.a 0 3), Vi (R.a 1 0), Vi (R.a 1 1), Vi (R.a 1 2), Vi (R.a 1 3)] 0 HAA6.out); generalize hU : World.setCells _ XD 0 _ = u7 at *; clear hU; refine hK.out _ _ HS7.out (fun _ => ?_); clear hK K; clear HS6 HAA6 HAD6; refine wpAnyH_done (by kernel_rfl) ?_ _; go_simp; have hA := HAA7.out; have hD := HAD7.out; clear HAA7 HAD7; have hB := HS7.out; clear HS7; generalize u7 = v4 at hB hA hD ⊢; refine Zbh (by assumption) ?_; have HA : Hid (Blk 95 v4 XA (rpL P)) := Zab hA.1; have HD : Hid (Blk 95 v4 XD (rpL R)) := Zab hD.1; have HRP := Zab (hrp.later hB); have HFF := Zab (hff.later hB); have HBW := Zab (Zac hbw hB); replace hgr := cell_later hB hgr; clear xs hA hD hra hrb hrp hff hbw; have xs := (HFF.out.cell (j := 1) rfl).1; have an := (HA.out.cell (Zfk P)).1; have dn := (HD.out.cell (Zfk R)).1; have HLS := Zab hwo.2; have hnn := hwo.1; clear hwo hB
    have hnl : gr = true ∨ (gr = false ∧ ¬ R.n < P.n) := by
     cases gr
     · exact .inr ⟨rfl, by have := hnn rfl; omega⟩
     · exact .inl rfl
    clear hnn
    rcases hnl with rfl | ⟨rfl, hnl⟩
    all_goals (
     go_upto_region 11 with fail; clear hgr xs an dn
     go_loopw [10] (fun ix wz => ∃ i : Nat, i ≤ 2 ∧ ix = Vi i ∧ Below v4.heap.size v4 wz) (fun ix _ => 2 - (intOf ix).toNat)
     case atStart => exact ⟨0, by omega, rfl, Below.refl _ _⟩
     case round =>
      obtain ⟨i, hi2, rfl, hbz⟩ := hrel; rename World => wq
      by_cases hi : i < 2
      · have i0 : (0 : Int) ≤ (i : Int) := by omega
        have i1 : (i : Int) < 2 := by omega
        have a2 := ((HA.out.later hbz).cell (rp_l P hi)).1; have a4 := ((HA.out.later hbz).cell (rp_s P hi)).1; have d2 := ((HD.out.later hbz).cell (rp_l R hi)).1; have d4 := ((HD.out.later hbz).cell (rp_s R hi)).1
        have hl1 : ¬ P.l i < R.l i := by have := (HLS.out i hi).1; omega
        have hs1 : ¬ P.s i < R.s i := by have := (HLS.out i hi).2; omega
        go_upto_region 13 with fail; refine Cs [55, 56, 57, 58, 59, 60, 61, 62, 63, 64, 65, 66, 67, 68, 69, 70, 71, 72, 73, 74] ?_; refine Cp 0 55 [] ?_; refine Cp 1 56 [] ?_; refine Cp 2 57 [1, 0] ?_; refine Cq (fun _ h => cell_later h d2) 3 58 [2] ?_; refine Cp 4 59 [] ?_; refine Cp 5 60 [] ?_; refine Cp 6 61 [5, 4] ?_; refine Cq (fun _ h => cell_later h a2) 7 62 [6] ?_; refine Cp 8 63 [3, 7] ?_; refine Cp 9 64 [8] ?_; refine Cp 10 65 [9] ?_ (hw := fun y w hF => Zaj (congrArg some hF.1)); refine Cp 11 66 [9] ?_ (hw := fun y w hF => Zaj (congrArg some hF.1)); refine Cp 12 67 [11, 10, 9] ?_ (hw := fun y w hF => Zaj (congrArg some hF.2.2.1)); refine Cq (fun _ h => cell_later h d4) 13 68 [12, 9] ?_ (hw := fun y w hF => Zaj (congrArg some hF.2.1)); refine Cp 14 69 [9] ?_ (hw := fun y w hF => Zaj (congrArg some hF.1)); refine Cp 15 70 [9] ?_ (hw := fun y w hF => Zaj (congrArg some hF.1)); refine Cp 16 71 [15, 14, 9] ?_ (hw := fun y w hF => Zaj (congrArg some hF.2.2.1)); refine Cq (fun _ h => cell_later h a4) 17 72 [16, 9] ?_ (hw := fun y w hF => Zaj (congrArg some hF.2.1)); refine Cp 18 73 [13, 17, 9] ?_ (hw := fun y w hF => Zaj (congrArg some hF.2.2.1)); refine Cp 19 74 [9, 18] ?_; refine Ce (fun y u1 hB hf => ?_); have HS1 := Zab hB; clear hB hf; go_simp; have hB2 := HS1.out; clear HS1; generalize u1 = v6 at hB2 ⊢; refine Zbh (by assumption) ?_; go_wp2_with fail; go_roundw
        case rel => exact ⟨i + 1, by omega, by go_num, Zac hbz hB2⟩
        case measure => simp [intOf]; omega
      · obtain rfl : i = 2 := by omega
        have HRZ := Zab (HRP.out.later hbz); have HFZ := Zab (HFF.out.later hbz); have HBZ := Zab (Zac HBW.out hbz); clear hbz; go_wp2_with fail; go_roundw
        case rel => exact ⟨j + 1, by go_num, HRZ.out, HFZ.out, HBZ.out⟩
        case measure => simp [intOf]; omega)
  · have hn4 : ¬ (j : Int) + 1 < (ss.length : Int) := by omega
    have HBZ := Zab hbw; clear hrp hff hbw; go_wp2_with fail; go_ret; exact ⟨rfl, HBZ.out⟩
end Go.Proofs.YtnfdfiholcelaaaGreatDoor
namespace Go.Proofs.YtnfdfiholcelaaaGreatDoor
open Go.ChangeShapes Go.WideShapes Go.ChangeAt Go.RowKit Go.Joins Go.Deep Plain
set_option linter.unusedVariables false
theorem cellsHLine : Tryz.prog.cellsOf 24 = 2 := by kernel_rfl
theorem cellsHInt : Tryz.prog.cellsOf 3 = 1 := by kernel_rfl
theorem cellsHInts : Tryz.prog.cellsOf 22 = 1 := by kernel_rfl
theorem hrow_list {w : World} {a : Option Addr} {len cap : Nat} (hl : len ≤ cap) {zs : List Int} (hz : zs.length = cap) (h : ∀ x, a = some x → ∀ i, i < zs.length → w.cell? (x.add i) = some (Vi (zs.getD i 0))) (hn : a = none → zs = []) :
 (zs.take len).length = len ∧ Lst w a (zs.take len) := by
 have e : (zs.take len).length = len := by rw [List.length_take]; omega
 refine ⟨e, ?_⟩
 by_cases h0 : len = 0
 · left; subst h0; simp
 · cases a with
   | none => have := hn rfl; subst this; simp at hz; omega
   | some x =>
    obtain ⟨b, off, spot⟩ := x; have hc := h _ rfl 0 (by omega)
    have hspot : spot = none := by simpa [Addr.add] using World.cell?_spot hc
    subst hspot
    right
    refine ⟨b, off, rfl, fun k hk => ?_⟩; rw [e] at hk; have := h _ rfl k (by omega); rw [show at0 (zs.take len) k = zs.getD k 0 by simp [at0, List.getD_eq_getElem?_getD, hk]]
    by_cases k0 : k = 0
    · subst k0; simpa [Addr.add] using this
    · simpa [Addr.add, k0] using this
theorem open_lst {H : Type} {enc : TypeId × Value → H} {w : World} {base : Nat} {n : Nat} {v : Value} {y : DataW H × List MemPlace} (h : DataW.trod enc Tryz.prog w base (fun _ => true) true n 22 [v] = some y) :
 ∃ (a : Option Addr) (l : List Int) (cap : Nat), v = .slice a l.length cap ∧ l.length ≤ cap ∧ Lst w a l ∧ l.length ≤ 9223372036854775807 := by
 rcases open_ints Tryz.underlying22 Tryz.underlying3 (by kernel_rfl) h with ⟨hcs, _⟩ | ⟨x, len, cap, zs, hcs, _, hl, hm, hz, _, hcell, hwz⟩
 · simp at hcs
   exact ⟨none, [], 0, by simpa using hcs, Nat.le_refl _, .inl rfl, by simp⟩
 · simp at hcs hz
   obtain ⟨e, hr⟩ := hrow_list (w := w) (a := some x) hl hz (fun x' hx' => by cases hx'; exact hcell) (fun h => by cases h); exact ⟨some x, zs.take len, cap, by rw [e]; exact hcs, by omega, hr, by rw [e]; unfold maxLen at hm; omega⟩
end Go.Proofs.YtnfdfiholcelaaaGreatDoor
namespace Go.Proofs.YtnfdfiholcelaaaGreatDoor
open Go.ChangeShapes Go.WideShapes Go.ChangeAt Go.RowKit Go.Joins Go.Deep Plain
set_option linter.unusedVariables false
theorem cellsKAxis : Tryz.prog.cellsOf 26 = 15 := by kernel_rfl
theorem cellsKCraft : Tryz.prog.cellsOf 29 = 32 := by kernel_rfl
theorem cellsKAxes : Tryz.prog.cellsOf 27 = 30 := by kernel_rfl
theorem trod_fields3 {P : Program} {w : World} {base : Nat} {spare : Nat → Bool} {held : Bool} {H : Type} {enc : TypeId × Value → H} {t : TypeId} {f0 f1 f2 : Field} {fuel : Nat} {cs : List Value} {x : DataW H × List MemPlace} (ht : P.underlying t = some (.struct #[f0, f1, f2])) (h : DataW.trod enc P w base spare held fuel t cs = some x) :
 cs.length = P.cellsOf t ∧ ∃ y0 y1 y2 n, DataW.trod enc P w base spare held n f0.type ((cs.drop f0.offset).take (P.cellsOf f0.type)) = some y0 ∧ DataW.trod enc P w base spare held n f1.type ((cs.drop f1.offset).take (P.cellsOf f1.type)) = some y1 ∧ DataW.trod enc P w base spare held n f2.type ((cs.drop f2.offset).take (P.cellsOf f2.type)) = some y2 := by
 obtain ⟨xs, n, _, rfl, hl, hlen, hf⟩ := DataW.trod_struct ht h
 match xs, hlen with
 | [y0, y1, y2], _ => exact ⟨hl, y0, y1, y2, n, by simpa using hf 0 f0 rfl, by simpa using hf 1 f1 rfl, by simpa using hf 2 f2 rfl⟩
theorem trod_fields14 {P : Program} {w : World} {base : Nat} {spare : Nat → Bool} {held : Bool} {H : Type} {enc : TypeId × Value → H} {t : TypeId} {f0 f1 f2 f3 f4 f5 f6 f7 f8 f9 f10 f11 f12 f13 : Field} {fuel : Nat} {cs : List Value} {x : DataW H × List MemPlace} (ht : P.underlying t = some (.struct #[f0, f1, f2, f3, f4, f5, f6, f7, f8, f9, f10, f11, f12, f13])) (h : DataW.trod enc P w base spare held fuel t cs = some x) :
 cs.length = P.cellsOf t ∧ ∃ y0 y1 y2 y3 y4 y5 y6 y7 y8 y9 y10 y11 y12 y13 n, DataW.trod enc P w base spare held n f0.type ((cs.drop f0.offset).take (P.cellsOf f0.type)) = some y0 ∧ DataW.trod enc P w base spare held n f1.type ((cs.drop f1.offset).take (P.cellsOf f1.type)) = some y1 ∧ DataW.trod enc P w base spare held n f2.type ((cs.drop f2.offset).take (P.cellsOf f2.type)) = some y2 ∧ DataW.trod enc P w base spare held n f3.type ((cs.drop f3.offset).take (P.cellsOf f3.type)) = some y3 ∧ DataW.trod enc P w base spare held n f4.type ((cs.drop f4.offset).take (P.cellsOf f4.type)) = some y4 ∧ DataW.trod enc P w base spare held n f5.type ((cs.drop f5.offset).take (P.cellsOf f5.type)) = some y5 ∧ DataW.trod enc P w base spare held n f6.type ((cs.drop f6.offset).take (P.cellsOf f6.type)) = some y6 ∧ DataW.trod enc P w base spare held n f7.type ((cs.drop f7.offset).take (P.cellsOf f7.type)) = some y7 ∧ DataW.trod enc P w base spare held n f8.type ((cs.drop f8.offset).take (P.cellsOf f8.type)) = some y8 ∧ DataW.trod enc P w base spare held n f9.type ((cs.drop f9.offset).take (P.cellsOf f9.type)) = some y9 ∧ DataW.trod enc P w base spare held n f10.type ((cs.drop f10.offset).take (P.cellsOf f10.type)) = some y10 ∧ DataW.trod enc P w base spare held n f11.type ((cs.drop f11.offset).take (P.cellsOf f11.type)) = some y11 ∧ DataW.trod enc P w base spare held n f12.type ((cs.drop f12.offset).take (P.cellsOf f12.type)) = some y12 ∧ DataW.trod enc P w base spare held n f13.type ((cs.drop f13.offset).take (P.cellsOf f13.type)) = some y13 := by
 obtain ⟨xs, n, _, rfl, hl, hlen, hf⟩ := DataW.trod_struct ht h
 match xs, hlen with
 | [y0, y1, y2, y3, y4, y5, y6, y7, y8, y9, y10, y11, y12, y13], _ => exact ⟨hl, y0, y1, y2, y3, y4, y5, y6, y7, y8, y9, y10, y11, y12, y13, n, by simpa using hf 0 f0 rfl, by simpa using hf 1 f1 rfl, by simpa using hf 2 f2 rfl, by simpa using hf 3 f3 rfl, by simpa using hf 4 f4 rfl, by simpa using hf 5 f5 rfl, by simpa using hf 6 f6 rfl, by simpa using hf 7 f7 rfl, by simpa using hf 8 f8 rfl, by simpa using hf 9 f9 rfl, by simpa using hf 10 f10 rfl, by simpa using hf 11 f11 rfl, by simpa using hf 12 f12 rfl, by simpa using hf 13 f13 rfl⟩
theorem open_axis {H : Type} {enc : TypeId × Value → H} {w : World} {base : Nat} {n : Nat} {cs : List Value} {y : DataW H × List MemPlace} (h : DataW.trod enc Tryz.prog w base (fun _ => true) true n 26 cs = some y) :
 ∃ (a0 a1 a2 a3 a4 a5 a6 a7 a8 a9 a10 a11 a14 : Int) (p q : Option Addr) (al zl : List Int) (cn cm : Nat), cs = [Vi a0, Vi a1, Vi a2, Vi a3, Vi a4, Vi a5, Vi a6, Vi a7, Vi a8, Vi a9, Vi a10, Vi a11, .slice p al.length cn, .slice q zl.length cm, Vi a14] ∧ (al.length ≤ 9223372036854775807 ∧ zl.length ≤ 9223372036854775807 ∧ al.length ≤ cn ∧ Lst w p al ∧ Lst w q zl) := by
 obtain ⟨hl, y0, y1, y2, y3, y4, y5, y6, y7, y8, y9, y10, y11, y12, y13, n, h0, h1, h2, h3, h4, h5, h6, h7, h8, h9, h10, h11, h12, h13⟩ := trod_fields14 Tryz.underlying26 h; rw [cellsKAxis] at hl
 obtain ⟨c0, c1, c2, c3, c4, c5, c6, c7, c8, c9, c10, c11, c12, c13, c14, rfl⟩ : ∃ c0 c1 c2 c3 c4 c5 c6 c7 c8 c9 c10 c11 c12 c13 c14, cs = [c0, c1, c2, c3, c4, c5, c6, c7, c8, c9, c10, c11, c12, c13, c14] := by
  match cs, hl with
  | [c0, c1, c2, c3, c4, c5, c6, c7, c8, c9, c10, c11, c12, c13, c14], _ => exact ⟨c0, c1, c2, c3, c4, c5, c6, c7, c8, c9, c10, c11, c12, c13, c14, rfl⟩
 simp [cellsHLine, cellsHInt] at h0 h1 h2 h3 h4 h5 h6 h7 h8 h9 h10 h11 h12 h13
 obtain ⟨a0, e0, _⟩ := DataW.trod_int Tryz.underlying3 h0; obtain ⟨a1, e1, _⟩ := DataW.trod_int Tryz.underlying3 h1; obtain ⟨a2, e2, _⟩ := DataW.trod_int Tryz.underlying3 h2; obtain ⟨a3, e3, _⟩ := DataW.trod_int Tryz.underlying3 h3; obtain ⟨a4, e4, _⟩ := DataW.trod_int Tryz.underlying3 h4; obtain ⟨a5, e5, _⟩ := DataW.trod_int Tryz.underlying3 h5; obtain ⟨a6, e6, _⟩ := DataW.trod_int Tryz.underlying3 h6; obtain ⟨a7, e7, _⟩ := DataW.trod_int Tryz.underlying3 h7; obtain ⟨a8, e8, _⟩ := DataW.trod_int Tryz.underlying3 h8; obtain ⟨a9, e9, _⟩ := DataW.trod_int Tryz.underlying3 h9; obtain ⟨a10, e10, _⟩ := DataW.trod_int Tryz.underlying3 h10; obtain ⟨a11, e11, _⟩ := DataW.trod_int Tryz.underlying3 h11; obtain ⟨a14, e14, _⟩ := DataW.trod_int Tryz.underlying3 h13; obtain ⟨v0, v1, m', _, _, k0, k1⟩ := trod_struct2 Tryz.underlying24 h12
 simp [cellsHInts] at k0 k1
 obtain ⟨p, al, cn, rfl, hca, la, ma⟩ := open_lst k0; obtain ⟨q, zl, cm, rfl, hcz, lz, mz⟩ := open_lst k1
 simp at e0 e1 e2 e3 e4 e5 e6 e7 e8 e9 e10 e11 e14
 subst e0 e1 e2 e3 e4 e5 e6 e7 e8 e9 e10 e11 e14; exact ⟨a0, a1, a2, a3, a4, a5, a6, a7, a8, a9, a10, a11, a14, p, q, al, zl, cn, cm, rfl, ma, mz, hca, la, lz⟩
theorem open_craft {H : Type} {enc : TypeId × Value → H} {w : World} {base : Nat} {r : Reach} {b0 : Nat} {v : Value} {d : DataW H} {p : List MemPlace} (hv : Value.okWide Tryz.prog w r b0 29 v) (h : DataW.Trod enc Tryz.prog w base (fun _ => true) true 29 v d p) :
 ∃ (a0 a1 a2 a3 a4 a5 a6 a7 a8 a9 a10 a11 a14 : Int) (p q : Option Addr) (al zl : List Int) (cn cm : Nat) (b0 b1 b2 b3 b4 b5 b6 b7 b8 b9 b10 b11 b14 : Int) (r s : Option Addr) (bl yl : List Int) (dn dm : Nat) (c0 c1 : Int), v = .agg #[Vi a0, Vi a1, Vi a2, Vi a3, Vi a4, Vi a5, Vi a6, Vi a7, Vi a8, Vi a9, Vi a10, Vi a11, .slice p al.length cn, .slice q zl.length cm, Vi a14, Vi b0, Vi b1, Vi b2, Vi b3, Vi b4, Vi b5, Vi b6, Vi b7, Vi b8, Vi b9, Vi b10, Vi b11, .slice r bl.length dn, .slice s yl.length dm, Vi b14, Vi c0, Vi c1] ∧ (al.length ≤ 9223372036854775807 ∧ zl.length ≤ 9223372036854775807 ∧ al.length ≤ cn ∧ Lst w p al ∧ Lst w q zl) ∧ (bl.length ≤ 9223372036854775807 ∧ yl.length ≤ 9223372036854775807 ∧ bl.length ≤ dn ∧ Lst w r bl ∧ Lst w s yl) := by
 obtain ⟨cs, rfl, hsz⟩ := okWide_struct Tryz.underlying29 hv; rw [cellsKCraft] at hsz; obtain ⟨fuel, hf⟩ := h; obtain ⟨_, y0, y1, y2, n, h0, h1, h2⟩ := trod_fields3 Tryz.underlying29 hf; obtain ⟨l⟩ := cs
 simp [Value.cells, cellsKAxes, cellsHInt] at h0 h1 h2
 obtain ⟨xs, m, _, _, _, hxl, hx⟩ := DataW.trod_array Tryz.underlying27 h0; have g0 := hx 0 (by omega); have g1 := hx 1 (by omega); rw [List.getElem?_eq_getElem (by omega)] at g0 g1; obtain ⟨a0, a1, a2, a3, a4, a5, a6, a7, a8, a9, a10, a11, a14, p', q', al, zl, cn, cm, e0, k0⟩ := open_axis g0; obtain ⟨b0, b1, b2, b3, b4, b5, b6, b7, b8, b9, b10, b11, b14, r', s', bl, yl, dn, dm, e1, k1⟩ := open_axis g1; obtain ⟨x0, e2, _⟩ := DataW.trod_int Tryz.underlying3 h1; obtain ⟨x1, e3, _⟩ := DataW.trod_int Tryz.underlying3 h2; refine ⟨a0, a1, a2, a3, a4, a5, a6, a7, a8, a9, a10, a11, a14, p', q', al, zl, cn, cm, b0, b1, b2, b3, b4, b5, b6, b7, b8, b9, b10, b11, b14, r', s', bl, yl, dn, dm, x0, x1, ?_, k0, k1⟩
 obtain ⟨c0, c1, c2, c3, c4, c5, c6, c7, c8, c9, c10, c11, c12, c13, c14, c15, c16, c17, c18, c19, c20, c21, c22, c23, c24, c25, c26, c27, c28, c29, c30, c31, rfl⟩ : ∃ c0 c1 c2 c3 c4 c5 c6 c7 c8 c9 c10 c11 c12 c13 c14 c15 c16 c17 c18 c19 c20 c21 c22 c23 c24 c25 c26 c27 c28 c29 c30 c31, l = [c0, c1, c2, c3, c4, c5, c6, c7, c8, c9, c10, c11, c12, c13, c14, c15, c16, c17, c18, c19, c20, c21, c22, c23, c24, c25, c26, c27, c28, c29, c30, c31] := by
  match l, hsz with
  | [c0, c1, c2, c3, c4, c5, c6, c7, c8, c9, c10, c11, c12, c13, c14, c15, c16, c17, c18, c19, c20, c21, c22, c23, c24, c25, c26, c27, c28, c29, c30, c31], _ => exact ⟨c0, c1, c2, c3, c4, c5, c6, c7, c8, c9, c10, c11, c12, c13, c14, c15, c16, c17, c18, c19, c20, c21, c22, c23, c24, c25, c26, c27, c28, c29, c30, c31, rfl⟩
 rw [cellsKAxis] at e0 e1
 simp at e0 e1 e2 e3
 simp [e0, e1, e2, e3]
end Go.Proofs.YtnfdfiholcelaaaGreatDoor
namespace Go.Proofs.YtnfdfiholcelaaaGreatDoor
open Go.ChangeShapes Go.WideShapes Go.ChangeAt Go.RowKit Go.Joins Go.Deep
set_option linter.unusedVariables false
end Go.Proofs.YtnfdfiholcelaaaGreatDoor
namespace Go.Proofs.YtnfdfiholcelaaaGreatDoor
open Go.ChangeShapes Go.WideShapes Go.ChangeAt Go.RowKit Go.Joins Go.Deep
set_option linter.unusedVariables false
theorem cellsSInt : Tryz.prog.cellsOf 3 = 1 := by kernel_rfl
theorem cellsSBool : Tryz.prog.cellsOf 4 = 1 := by kernel_rfl
theorem saddr_add (b off n : Nat) : (⟨b, off, none⟩ : Addr).add n = ⟨b, off + n, none⟩ := by unfold Addr.add; split <;> simp_all
end Go.Proofs.YtnfdfiholcelaaaGreatDoor
namespace Go.Proofs.YtnfdfiholcelaaaGreatDoor
open Go.ChangeShapes Go.WideShapes Go.ChangeAt Go.RowKit Go.Joins Go.Deep
set_option linter.unusedVariables false
end Go.Proofs.YtnfdfiholcelaaaGreatDoor
namespace Go.Proofs.YtnfdfiholcelaaaGreatDoor
open Go.ChangeShapes Go.WideShapes Go.ChangeAt Go.RowKit Go.Joins Go.Deep Plain
set_option linter.unusedVariables false
def mk2 {α : Type} (a b : α) (i : Nat) : α := if i = 0 then a else b
end Go.Proofs.YtnfdfiholcelaaaGreatDoor
namespace Go.Proofs.YtnfdfiholcelaaaGreatDoor
open Go.ChangeShapes Go.WideShapes Go.ChangeAt Go.RowKit Go.Joins Plain
set_option linter.unusedVariables false
end Go.Proofs.YtnfdfiholcelaaaGreatDoor
namespace Go.Proofs.YtnfdfiholcelaaaGreatDoor
open Go.ChangeShapes Go.WideShapes Go.ChangeAt Go.RowKit Go.Joins Go.Deep Plain
set_option linter.unusedVariables false
theorem open_cr {H : Type} {enc : TypeId × Value → H} {w : World} {base : Nat} {r : Reach} {b0 : Nat} {v : Value} {d : DataW H} {p : List MemPlace} (hv : Value.okWide Tryz.prog w r b0 29 v) (h : DataW.Trod enc Tryz.prog w base (fun _ => true) true 29 v d p) :
 ∃ C : CR, v = .agg (crL C).toArray ∧ CrL w C := by
 obtain ⟨a0, a1, a2, a3, a4, a5, a6, a7, a8, a9, a10, a11, a14, p, q, al, zl, cn, cm, b0, b1, b2, b3, b4, b5, b6, b7, b8, b9, b10, b11, b14, r, s, bl, yl, dn, dm, c0, c1, rfl, hla, hlb⟩ := open_craft hv h; refine ⟨⟨mk2 (fun j => [a0, a1, a2, a3, a4, a5, a6, a7, a8, a9, a10, a11, 0, 0, a14].getD j 0) (fun j => [b0, b1, b2, b3, b4, b5, b6, b7, b8, b9, b10, b11, 0, 0, b14].getD j 0), mk2 p r, mk2 q s, mk2 al bl, mk2 zl yl, mk2 cn dn, mk2 cm dm, c0, c1⟩, rfl, fun i hi => ?_⟩
 rcases (show i = 0 ∨ i = 1 by omega) with rfl | rfl
 · exact hla
 · exact hlb
end Go.Proofs.YtnfdfiholcelaaaGreatDoor
