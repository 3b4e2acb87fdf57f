
import Derived.Test.YtnfdfiholcelaaaGreatDoorJe00
import Derived.Test.YtnfdfiholcelaaaGreatDoorJe28
import Derived.Test.YtnfdfiholcelaaaGreatDoorJe29
import Derived.Test.YtnfdfiholcelaaaGreatDoorJe35
import Derived.Test.YtnfdfiholcelaaaGreatDoorJe36
set_option maxRecDepth 100000
set_option maxHeartbeats 20000000
namespace Go.Proofs.YtnfdfiholcelaaaGreatDoor
open Go.RowKit Plain Tryz
theorem RwO.weak {α : Type} {f : α → List Value} {m : Nat} {t : TypeId} {K K' : Nat} {u : World} {s : Value} {rs : List α} (h : RwO f m t K u s rs) (hK : K' ≤ K) : RwO f m t K' u s rs := by
 refine ⟨h.1, ?_⟩
 rcases h.2 with h | ⟨g, cap, cur, h1, h2, h3⟩
 · exact .inl h
 · exact .inr ⟨g, cap, cur, h1, Nat.le_trans hK h2, h3⟩
theorem isStoreT {P : Program} {ops : Array Oper} {rest : List Oper} {op : Oper} {a : Act} {w : World} {Q : Exit → Act → World → Prop} (t : TypeId) (x y : Operand) (_ho : op.op = .store t x y) (h : wpList P ops Q (op :: rest) a w) : wpList P ops Q (op :: rest) a w := h
theorem Zdy {ops : Array Oper} {rest : List Oper} {op : Oper} {a : Act} {w : World} {Q : Exit → Act → World → Prop} {c c' : Array Value} (t : TypeId) (n : Nat) (hi : (prog.info? t).map (·.size) = some n) (x y : Operand) (hgd : op.guard = none) (ho : op.op = .store t x y)
 (hx : a.eval x = .pointer (some (Ad w.heap.size 0))) (hy : a.eval y = .agg c') (hs : c'.size = n) (hc : c.size = c'.size) (h1 : c'.all (·.oneCell') = true)
 (h : wpList prog ops Q rest (a.put op.dst undef) (w.alloc (.cells c' t))) : wpList prog ops Q (op :: rest) a (w.alloc (.cells c t)) :=
 wpList_plain hgd fun _ hK => by
  unfold Oper.wp execOp
  simp only [ho, hx, hy, Sem.run_bind, Sem.run_pure, Result.andThen_ok, run_storeAt_new w t c c' (by rw [hi, hs]) hc h1]; exact hK _ _ h
theorem infoFl2 : (prog.info? 67).map (·.size) = some 2 := by kernel_rfl
theorem RwO.fts {K : Nat} {u : World} {a : Option Addr} {n c : Nat} {l : List Ft} (h : RwO ftL 5 73 K u (.slice a n c) l) : Fts u a l := FtO.fts h
theorem RwO.sts {K : Nat} {u : World} {a : Option Addr} {n c : Nat} {l : List Stp} (h : RwO stpL 8 78 K u (.slice a n c) l) : Sts u a l := StO.sts h
theorem FV.push {C : CR} {w u u' : World} {QK QZ O QF QL K : Nat} {a : Option Addr} {l : List Int} {cap q : Nat} {s : Value} {ls : List Ft} {x y : Int} {v v' : Value} {ss ss' : List Stp} (p : FP w QK QZ O QF QL K a l s) (h : FV C w u QK QZ O QF QL K a l cap q s ls x y v ss) (hg : u.grownBy u' v.ownBlock) (hr : StO K u' v' ss') : FV C w (u'.setCell (Ad QF 1) v') QK QZ O QF QL K a l cap q s ls x y v' ss' := by
 have hb := h.t.below h.h hg; obtain ⟨⟨pk0, pk1⟩, pz, po, pf, pl, pr, pg⟩ := p; have ho : Oth u' (u'.setCell (Ad QF 1) v') QF := (Oth.refl u' QF).set; have hS : K ≤ u'.heap.size := Nat.le_trans h.h hb.size; have hd : Dc u' O a l cap q := h.d.up hb (by omega) (fun b off e hl => by have := pr b off e hl; omega); have hF : Blk 67 u' QF [s, v] := (hb.block QF (by omega)).trans h.f
 have hF' : Blk 67 (u'.setCells QF 1 [v']) QF [s, v'] := by
  have k := Blk.setCells [v'] 1 u' _ hF; exact k
 have hR : FtO (O + 1) u' s ls := World.ownsRow.kept h.r hg (by
  cases e : s.ownBlock with
  | none => exact .inl rfl
  | some g => exact .inr (fun e2 => by have := pg g e; have := (World.ownsRow.lt h.t g e2.symm).1; omega))
 refine ⟨hd.oth ho (by omega) (fun b off e hl => by have := pr b off e hl; omega), ho.mblk (by omega) ((hb.block _ (by omega)).trans h.k), ho.mblk (by omega) ((hb.block _ (by omega)).trans h.z), hF', ho.mblk (by omega) ((hb.block _ (by omega)).trans h.e), hR.far ho (fun g e => (pg g e).2.2.1), hr.far ho (fun g e => by have := (World.ownsRow.lt hr g e).1; omega), ?_, Nat.le_trans hS ho.1⟩; exact ⟨ho.2.1.trans (hb.os.trans h.b.os), ho.2.2.1.trans (hb.tape.trans h.b.tape), ho.2.2.2.1.trans (hb.output.trans h.b.output), Nat.le_trans h.b.size (Nat.le_trans hb.size ho.1), fun k hk => (ho.2.2.2.2 k (by omega) (by omega)).trans ((hb.block k (by omega)).trans (h.b.block k hk))⟩
theorem diceMost5 (O : Nat) (a : Option Addr) (l : List Int) (cap n : Nat) (x y z t r lo hi : Int) (hn : n ≤ 1000000) (hl : l.length ≤ 100) (hb : (lo ≤ x ∧ x ≤ hi) ∧ (lo ≤ y ∧ y ≤ hi) ∧ (lo ≤ z ∧ z ≤ hi) ∧ (lo ≤ t ∧ t ≤ hi) ∧ lo ≤ r ∧ r ≤ hi) (w : World) (hd : Dc w O a l cap n) :
 Calls prog 70 #[.pointer (some (Ad O 0)), .slice (some (Ad w.heap.size 0)) 5 5] (w.alloc (.cells #[Vi x, Vi y, Vi z, Vi t, Vi r] 3)) fun e w' => (∃ q, e = .returned (Vi q) ∧ lo ≤ q ∧ q ≤ hi) ∧ Dc w' O a l cap (n + 1) ∧ DK O w w' := by
 have hO := hd.lt; refine (Zcy O w.heap.size a l cap n 5 [x, y, z, t, r] lo hi hn hl (by simp) (by simp) ?_ (by omega) _ (hd.later (Zaa _ _)) ?_).mono fun e w' h => ⟨h.1, h.2.1, (DK.of_below (Zaa _ _)).trans h.2.2.1⟩
 · intro k hk; simp only [List.length_cons, List.length_nil] at hk
   rcases (show k = 0 ∨ k = 1 ∨ k = 2 ∨ k = 3 ∨ k = 4 by omega) with rfl | rfl | rfl | rfl | rfl
   · exact hb.1
   · exact hb.2.1
   · exact hb.2.2.1
   · exact hb.2.2.2.1
   · exact hb.2.2.2.2
 · intro k hk; simp only [List.length_cons, List.length_nil] at hk
   rcases (show k = 0 ∨ k = 1 ∨ k = 2 ∨ k = 3 ∨ k = 4 by omega) with rfl | rfl | rfl | rfl | rfl <;> simp [go_sem]
def stK (s : Stp) (i : Nat) (x : Int) : Stp := { s with k := fun j => if j = i then x else s.k j }
def stP (s : Stp) (i : Nat) (x : Int) : Stp := { s with p := fun j => if j = i then x else s.p j }
def stZ (s : Stp) (i : Nat) (x : Int) : Stp := { s with z := fun j => if j = i then x else s.z j }
theorem stpk_at (s : Stp) {i : Nat} (hi : i < 2) : (stpL s)[i]? = some (Vi (s.k i)) := by rcases (show i = 0 ∨ i = 1 by omega) with rfl | rfl <;> rfl
theorem stpp_at (s : Stp) {i : Nat} (hi : i < 2) : (stpL s)[2 + i]? = some (Vi (s.p i)) := by rcases (show i = 0 ∨ i = 1 by omega) with rfl | rfl <;> rfl
theorem stpz_at (s : Stp) {i : Nat} (hi : i < 2) : (stpL s)[4 + i]? = some (Vi (s.z i)) := by rcases (show i = 0 ∨ i = 1 by omega) with rfl | rfl <;> rfl
theorem stpk_set {t : TypeId} {u : World} {B : Nat} {s : Stp} {i : Nat} {x : Int} (hi : i < 2) (h : Blk t u B ((stpL s).set i (Vi x))) : Blk t u B (stpL (stK s i x)) := by
 have e : (stpL s).set i (Vi x) = stpL (stK s i x) := by rcases (show i = 0 ∨ i = 1 by omega) with rfl | rfl <;> simp [stpL, stK]
 rwa [e] at h
theorem stpp_set {t : TypeId} {u : World} {B : Nat} {s : Stp} {i : Nat} {x : Int} (hi : i < 2) (h : Blk t u B ((stpL s).set (2 + i) (Vi x))) : Blk t u B (stpL (stP s i x)) := by
 have e : (stpL s).set (2 + i) (Vi x) = stpL (stP s i x) := by rcases (show i = 0 ∨ i = 1 by omega) with rfl | rfl <;> simp [stpL, stP]
 rwa [e] at h
theorem stpz_set {t : TypeId} {u : World} {B : Nat} {s : Stp} {i : Nat} {x : Int} (hi : i < 2) (h : Blk t u B ((stpL s).set (4 + i) (Vi x))) : Blk t u B (stpL (stZ s i x)) := by
 have e : (stpL s).set (4 + i) (Vi x) = stpL (stZ s i x) := by rcases (show i = 0 ∨ i = 1 by omega) with rfl | rfl <;> simp [stpL, stZ]
 rwa [e] at h
theorem SA.setK {C : CR} {s : Stp} (h : SA C s) {i : Nat} (_hi : i < 2) {x : Int} (x0 : -100 ≤ x) (x1 : x ≤ 100) : SA C (stK s i x) := by
 refine ⟨fun j hj => ?_, h.p, h.z, h.v⟩
 by_cases e : j = i
 · simp only [stK, if_pos e]; exact ⟨x0, x1⟩
 · simp only [stK, if_neg e]; exact h.k j hj
theorem SA.setP {C : CR} {s : Stp} (h : SA C s) {i : Nat} (_hi : i < 2) {x : Int} (x0 : -C.a i 3 ≤ x) (x1 : x ≤ C.a i 3) : SA C (stP s i x) := by
 refine ⟨h.k, fun j hj => ?_, h.z, h.v⟩
 by_cases e : j = i
 · simp only [stP, if_pos e]; subst e; exact ⟨x0, x1⟩
 · simp only [stP, if_neg e]; exact h.p j hj
theorem SA.setZ {C : CR} {s : Stp} (h : SA C s) {i : Nat} (_hi : i < 2) {x : Int} (x0 : 0 ≤ x) (x1 : x ≤ 8589934591) : SA C (stZ s i x) := by
 refine ⟨h.k, h.p, fun j hj => ?_, h.v⟩
 by_cases e : j = i
 · simp only [stZ, if_pos e]; exact ⟨x0, x1⟩
 · simp only [stZ, if_neg e]; exact h.z j hj
theorem FV.fgrew {C : CR} {w u u' : World} {QK QZ O QF QL K : Nat} {a : Option Addr} {l : List Int} {cap q : Nat} {s : Value} {ls : List Ft} {x y : Int} {v : Value} {ss : List Stp} (p : FP w QK QZ O QF QL K a l s) (h : FV C w u QK QZ O QF QL K a l cap q s ls x y v ss) (hg : u.grownBy u' v.ownBlock) : Blk 67 u' QF [s, v] := by
 have hb := h.t.below h.h hg; obtain ⟨_, _, _, pf, pl, _, _⟩ := p; exact (hb.block QF (by omega)).trans h.f
theorem res_flight (tmps : Array Value) (U : World) (Z : Nat) (cs : List Value) (h2 : tmps.getD 8 undef = .pointer (some (Ad Z 0))) (hR : U.rangeAt Z 0 cs) (hn : cs.length = 2) :
 (results Tryz.f33 tmps).run prog U = .ok (.agg cs.toArray) U := by
 have h3 : tmps[8]?.getD undef = .pointer (some (Ad Z 0)) := by simpa using h2
 simp [results, results33, h3, asAddr, run_loadVar_mid U Z 0 67 cs _ hR underlying67 rfl (by rw [infoFl2, hn])]
theorem flightFrom_any (C : CR) (hcr : crE C = 0) (a : Option Addr) (l : List Int) (cap many : Nat) (lo : Bool) (hm : many ≤ 300) (hl : l.length ≤ 100) (w : World) (hil : ILs w a l) :
 Calls prog 33 #[.agg (crL C).toArray, .slice a l.length cap, Vi many, .bool lo] w fun e w' => (∃ pf cf ls ps cs ss, e = .returned (.agg #[.slice pf ls.length cf, .slice ps ss.length cs]) ∧ FlOK C ls ss ∧ Fts w' pf ls ∧ Sts w' ps ss) ∧ Below w.heap.size w w' := by
 have hraw := raw_of hil; have HB : Hid (Below w.heap.size w (((w.alloc (.cells (crL C).toArray 29)).alloc (.cells #[.slice none 0 0, .slice none 0 0] 67)).alloc (.cells #[.slice a l.length cap, Vi 0] 154))) := Zab (Zac (Zac (Zaa _ _) (Zaa _ _)) (Zaa _ _)); have HSZ : Hid ((((w.alloc (.cells (crL C).toArray 29)).alloc (.cells #[.slice none 0 0, .slice none 0 0] 67)).alloc (.cells #[.slice a l.length cap, Vi 0] 154)).heap.size = w.heap.size + 3) := Zab (by simp [World.size_alloc])
 have HD : Hid (Dc (((w.alloc (.cells (crL C).toArray 29)).alloc (.cells #[.slice none 0 0, .slice none 0 0] 67)).alloc (.cells #[.slice a l.length cap, Vi 0] 154)) (w.heap.size + 2) a l cap 0) := by
  refine Zab ⟨⟨by simp [go_sem], by simp [go_sem]⟩, by simp [go_sem], hil.later HB.out, fun b off e hne => ?_⟩; have := hraw b off e hne
  omega
 have HK : Hid (Blk 29 (((w.alloc (.cells (crL C).toArray 29)).alloc (.cells #[.slice none 0 0, .slice none 0 0] 67)).alloc (.cells #[.slice a l.length cap, Vi 0] 154)) w.heap.size (crL C)) := Zab (((Blk.new w 29 (crL C)).later (Zaa _ _)).later (Zaa _ _)); have HZ : Hid (Blk 67 (((w.alloc (.cells (crL C).toArray 29)).alloc (.cells #[.slice none 0 0, .slice none 0 0] 67)).alloc (.cells #[.slice a l.length cap, Vi 0] 154)) (w.heap.size + 1) [.slice none 0 0, .slice none 0 0]) := Zab (by have h := (Blk.new (w.alloc (.cells (crL C).toArray 29)) 67 [.slice none 0 0, .slice none 0 0]).later (Zaa _ (.cells #[.slice a l.length cap, Vi 0] 154)); rw [World.size_alloc] at h; exact h); have HRW := Zab hraw; clear hil hraw
 go_enter func33, ntmps33
 go_upto_region 2 with fail; generalize (((w.alloc (.cells (crL C).toArray 29)).alloc (.cells #[.slice none 0 0, .slice none 0 0] 67)).alloc (.cells #[.slice a l.length cap, Vi 0] 154)) = v2 at *; generalize hO : w.heap.size + 2 = O at HD ⊢; generalize hZ : w.heap.size + 1 = QZ at HZ ⊢; generalize hQ : w.heap.size = QK at HK ⊢; have HP : Hid ((QK = w.heap.size ∧ QZ = w.heap.size + 1) ∧ O = w.heap.size + 2) := Zab ⟨⟨hQ.symm, hZ.symm⟩, hO.symm⟩; clear hO hZ hQ; have HFF := Zab (faultsFrom_any C lo O a l cap 0 hcr (by omega) hl v2 HD.out (fun b off e h => by have := HRW.out b off e h; have := HB.out.size; omega)); have HKR := Zab HK.out.range
 go_upto_region 3 with (first
  | (refine Lq 29 _ rfl ?_; refine wpList_load_mid rfl 29 (.tmp 4) rfl QK 0 rfl (crL C) _ HKR.out underlying29 rfl Zam ?_)
  | (go_at_call 83; refine HFF.out.mono ?_; rintro e v3 ⟨q, s, ls, rfl, hM, hls, hok, hq⟩; have HM := Zab hM; have HOK := Zab hok; clear hM hok HFF HKR; obtain ⟨pf, cf, rfl⟩ := HM.out.2.1.slice)
  | (refine isStoreT 67 _ _ rfl ?_; refine Zdy (c' := #[.slice pf ls.length cf, .slice none 0 0]) 67 2 infoFl2 (.tmp 10) (.tmp 24) rfl rfl rfl rfl rfl rfl rfl ?_))
 have HA := Zaa v3 (.cells #[.slice pf ls.length cf, .slice none 0 0] 67); have HF : Hid (Blk 67 (v3.alloc (.cells #[.slice pf ls.length cf, .slice none 0 0] 67)) v3.heap.size [.slice pf ls.length cf, .slice none 0 0]) := Zab (Blk.new v3 _ _); have HQO : Hid (QK ≠ O ∧ QZ ≠ O) := Zab (by have := HP.out; omega); have HWO : Hid (w.heap.size ≤ O ∧ O < v2.heap.size) := Zab (by have := HP.out; have := HSZ.out; omega); have hk3 := HM.out.2.2.2.1; have HG : Hid (∀ g, (Value.slice pf ls.length cf).ownBlock = some g → O + 1 < g ∧ g < v3.heap.size) := Zab (fun g e => by have := World.ownsRow.lt HM.out.2.1 g e; have := HWO.out; omega); have HQF : Hid (O < v3.heap.size) := Zab (Nat.lt_of_lt_of_le HWO.out.2 hk3.size); have HR := Zab ((HM.out.2.1.weak (K' := O + 1) (by have := HWO.out; omega)).later HA); replace HK := Zab ((hk3.blk HQO.out.1 HK.out).later HA); replace HZ := Zab ((hk3.blk HQO.out.2 HZ.out).later HA); replace HD := Zab (HM.out.1.later HA); replace HB := Zab (Zac (DK.below HB.out hk3 HWO.out.1 HB.out.size) HA); clear hk3 HM HA HSZ; generalize v3.alloc (.cells #[.slice pf ls.length cf, .slice none 0 0] 67) = v4 at *; generalize v3.heap.size = QF at *; have HQF' : Hid (QF ≠ O) := Zab (by have := HQF.out; omega); have T1 : Hid True := trivial; have T2 : Hid True := trivial
 go_upto_region 4 with (first
  | (go_at_call 67; clear T1; refine (dN 3 hl HD.out).mono ?_; rintro e v5 ⟨⟨x, rfl, x0, x1⟩, hD, hK, hsz⟩; replace HD := Zab hD; replace HK := Zab (hK.blk HQO.out.1 HK.out); replace HZ := Zab (hK.blk HQO.out.2 HZ.out); replace HF := Zab (hK.blk HQF'.out HF.out); replace HR := Zab (HR.out.dk (Nat.lt_succ_self O) hK); replace HB := Zab (DK.below HB.out hK HWO.out.1 HB.out.size); have vx := Wr (x - 1); clear hsz hD hK)
  | (go_at_call 67; clear T2; refine (dN 3 hl HD.out).mono ?_; rintro e v6 ⟨⟨y, rfl, y0, y1⟩, hD, hK, hsz⟩; replace HD := Zab hD; replace HK := Zab (hK.blk HQO.out.1 HK.out); replace HZ := Zab (hK.blk HQO.out.2 HZ.out); replace HF := Zab (hK.blk HQF'.out HF.out); replace HR := Zab (HR.out.dk (Nat.lt_succ_self O) hK); replace HB := Zab (DK.below HB.out hK HWO.out.1 HB.out.size); have vy := Wr (y - 1); clear hsz hD hK)
  | (refine isStoreT 76 _ _ rfl ?_; refine Zdy (c' := #[Vi (x - 1), Vi (y - 1)]) 76 2 infoI2 (.tmp 11) (.tmp 31) rfl rfl rfl rfl rfl rfl rfl ?_))
 have HA := Zaa v6 (.cells #[Vi (x - 1), Vi (y - 1)] 76); have HL : Hid (Blk 76 (v6.alloc (.cells #[Vi (x - 1), Vi (y - 1)] 76)) v6.heap.size [Vi (x - 1), Vi (y - 1)]) := Zab (Blk.new v6 _ _); have HPP : Hid (FP w QK QZ O QF v6.heap.size (v6.heap.size + 1) a l (.slice pf ls.length cf)) := Zab ⟨by have := HP.out; omega, by have := HP.out; omega, HQF.out, HF.out.lt, Nat.lt_succ_self _, HRW.out, fun g e => by have := HG.out g e; have := HF.out.lt; omega⟩; have HV : Hid (FV C w (v6.alloc (.cells #[Vi (x - 1), Vi (y - 1)] 76)) QK QZ O QF v6.heap.size (v6.heap.size + 1) a l cap (q + 1 + 1) (.slice pf ls.length cf) ls (x - 1) (y - 1) (.slice none 0 0) []) := Zab ⟨HD.out.later HA, HK.out.later HA, HZ.out.later HA, HF.out.later HA, HL.out, HR.out.later HA, RwO.nil _ _ _ _ _, Zac HB.out HA, by rw [World.size_alloc]; exact Nat.le_refl _⟩; clear HA HD HK HZ HF HL HR HB HG HQF HQF' HQO HWO HRW HP; generalize v6.alloc (.cells #[Vi (x - 1), Vi (y - 1)] 76) = v7 at *; generalize v6.heap.size = QL at *; obtain ⟨x', hx'⟩ : ∃ x', x' = x - 1 := ⟨_, rfl⟩; obtain ⟨y', hy'⟩ : ∃ y', y' = y - 1 := ⟨_, rfl⟩; rw [← hx', ← hy'] at HV
 have bx : -1 ≤ x' ∧ x' ≤ 1 := by omega
 have bY : -1 ≤ y' ∧ y' ≤ 1 := by omega
 clear hx' hy' x0 x1 y0 y1 vx vy
 go_upto_region 5 with fail
 go_loopw [12] (fun ix wr => ∃ (k q : Nat) (v : Value) (ss : List Stp), k ≤ many ∧ ix = Vi k ∧ FV C w wr QK QZ O QF QL (QL + 1) a l cap q (.slice pf ls.length cf) ls x' y' v ss ∧ ss.length = k ∧ StsOK C ss ∧ q ≤ 200 + 40 * k) (fun ix _ => many - (intOf ix).toNat)
 case atStart => exact ⟨0, _, _, [], by omega, rfl, HV.out, rfl, StsOK.nil C, by omega⟩
 case round =>
  clear HV hq; obtain ⟨k, q, v, ss, hk, rfl, hV, hn, hsok, hq⟩ := hrel; have HV := Zab hV; have HSOK := Zab hsok; clear hV hsok
  by_cases hlt : k < many
  · have k0 : (0 : Int) ≤ (k : Int) := by omega
    have k1 : (k : Int) < (many : Int) := by omega
    have T1 : Hid True := trivial; have T2 : Hid True := trivial; have T3 : Hid True := trivial
    go_upto_region 8 with (first
     | (go_at_call 70; clear T1; refine (Zfk O a l cap _ 1200 262144 1200 262144 (by omega) hl (by omega) _ HV.out.d).mono ?_; rintro e v8 ⟨⟨m, rfl, m0, m1⟩, hD, hK⟩; replace HV := Zab (HV.out.dk HPP.out hD hK); clear hD hK)
     | (go_at_call 67; clear T2; refine (dN _ hl HV.out.d).mono ?_; rintro e v9 ⟨⟨sp, rfl, sp0, sp1⟩, hD, hK, hsz⟩; replace HV := Zab (HV.out.dk HPP.out hD hK); clear hsz hD hK)
     | (go_at_call 67; clear T3; refine (dN _ hl HV.out.d).mono ?_; rintro e v10 ⟨⟨gr, rfl, gr0, gr1⟩, hD, hK, hsz⟩; replace HV := Zab (HV.out.dk HPP.out hD hK); clear hsz hD hK)
     | (refine isStoreT 78 _ _ rfl ?_; refine Zdy (c' := (stpL ({ k := fun _ => 0, p := fun _ => 0, z := fun _ => 0, v := sp, g := gr == 0 } : Stp)).toArray) 78 8 infoStp (.tmp 13) (.tmp 45) rfl rfl rfl rfl rfl rfl rfl ?_))
    have HS : Hid (Blk 78 (v10.alloc (.cells #[Vi 0, Vi 0, Vi 0, Vi 0, Vi 0, Vi 0, Vi sp, .bool (gr == 0)] 78)) v10.heap.size (stpL ({ k := fun _ => 0, p := fun _ => 0, z := fun _ => 0, v := sp, g := gr == 0 } : Stp))) := Zab (Blk.new v10 _ _); have HVS : Hid (QL + 1 ≤ v10.heap.size ∧ ∀ g, v.ownBlock = some g → g ≠ v10.heap.size) := Zab ⟨HV.out.h, fun g e => by have := (World.ownsRow.lt HV.out.t g e).2; omega⟩; replace HV := Zab (HV.out.later HPP.out (Zaa v10 (.cells #[Vi 0, Vi 0, Vi 0, Vi 0, Vi 0, Vi 0, Vi sp, .bool (gr == 0)] 78))); have HSA : Hid (SA C ({ k := fun _ => 0, p := fun _ => 0, z := fun _ => 0, v := sp, g := gr == 0 } : Stp)) := Zab ⟨fun i hi => ⟨by dsimp only; omega, by dsimp only; omega⟩, fun i hi => by have := (Zdi hcr hi).2; dsimp only; omega, fun i hi => by dsimp only; omega, by dsimp only; omega⟩; generalize v10.alloc (.cells #[Vi 0, Vi 0, Vi 0, Vi 0, Vi 0, Vi 0, Vi sp, .bool (gr == 0)] 78) = v11 at *; generalize v10.heap.size = QS at *; have HQS : Hid (QS ≠ O) := Zab (by have := HVS.out.1; have := HPP.out.o; have := HPP.out.f; omega)
    go_upto_region 9 with fail
    go_loopw [14] (fun ix wr => ∃ (i q' : Nat) (st : Stp), i ≤ 2 ∧ ix = Vi i ∧ FV C w wr QK QZ O QF QL (QL + 1) a l cap q' (.slice pf ls.length cf) ls x' y' v ss ∧ Blk 78 wr QS (stpL st) ∧ SA C st ∧ q' ≤ q + 3 + 10 * i) (fun ix _ => 2 - (intOf ix).toNat)
    case atStart => exact ⟨0, _, _, by omega, rfl, HV.out, HS.out, HSA.out, by omega⟩
    case round =>
     clear HV HS HSA; obtain ⟨i, q', st, hi, rfl, hV, hS, hSA, hq'⟩ := hrel; have HV := Zab hV; have HS := Zab hS; have HSA := Zab hSA; clear hV hS hSA
     by_cases hi2 : i < 2
     · have i0 : (0 : Int) ≤ (i : Int) := by omega
       have i1 : (i : Int) < 2 := by omega
       obtain ⟨n0, n1⟩ := cr_noise hcr hi2; obtain ⟨p0, p1⟩ := (Zdi hcr hi2).2; obtain ⟨⟨b0, b1⟩, b2, b3⟩ := base3 n0 n1; have vb2 := Wr ((2 * C.a i 2 + 1) * (2 * C.a i 2 + 1)); have vb3 := Wr ((2 * C.a i 2 + 1) * (2 * C.a i 2 + 1) * (2 * C.a i 2 + 1)); have HRX := Zab (HV.out.k.sub (i * 15) 15); rw [cr_axi C hi2] at HRX; have HA := Zaa wr (.cells (axL C i).toArray 26); have HAX : Hid (Blk 26 (wr.alloc (.cells (axL C i).toArray 26)) wr.heap.size (axL C i)) := Zab (Blk.new wr _ _); have HQ : Hid (wr.heap.size ≠ O ∧ wr.heap.size ≠ QS) := Zab (by have := HV.out.d.lt; have := HS.out.lt; omega); replace HV := Zab (HV.out.later HPP.out HA); replace HS := Zab (HS.out.later HA); clear HA
       go_upto_region 12 with (first
        | (refine Lq 26 _ rfl ?_; refine wpList_load_mid rfl 26 (.tmp 52) rfl QK (i * 15) rfl (axL C i) _ HRX.out underlying26 rfl Zaw ?_)
        | (refine Sq 26 _ _ rfl ?_; refine Zbh (c' := (axL C i).toArray) (.tmp 15) (.tmp 53) rfl rfl rfl rfl rfl rfl (Zau _ rfl) ?_))
       clear HRX; generalize wr.alloc (.cells (axL C i).toArray 26) = v12 at *; generalize wr.heap.size = QA at HAX HQ ⊢; replace HV := Zab (HV.out.later HPP.out (Below.refl _ v12).drew); replace HS := Zab (HS.out.later (Below.refl _ v12).drew); replace HAX := Zab (HAX.out.later (Below.refl _ v12).drew); refine wp_region_held_drew (S := fun u => (u.rangeAt QA 0 (axL C i))) (by kernel_rfl) (HAX.out.range) (fun _ => ?_); have HS0 : Hid ((v12.drew.rangeAt QA 0 (axL C i))) := Zab (HAX.out.range); generalize v12.drew = u0 at HS0 HV HS HAX ⊢; refine Tk 0 rfl (yieldsIf_load_mid (by rfl) 26 (.tmp 15) rfl QA 0 rfl (axL C i) _ (fun w hSw => hSw) underlying26 rfl Zaw) HS0.out ?_; simp only [Act.put, Ly]; refine Tk 2 rfl (yieldsIf_load_mid (by rfl) 26 (.tmp 15) rfl QA 0 rfl (axL C i) _ (fun w hSw => hSw) underlying26 rfl Zaw) HS0.out ?_; simp only [Act.put, Ly]; refine Tk 5 rfl (yieldsIf_load_mid (by rfl) 26 (.tmp 15) rfl QA 0 rfl (axL C i) _ (fun w hSw => hSw) underlying26 rfl Zaw) HS0.out ?_; simp only [Act.put, Ly]; refine Ra 1 (fun K hK => ?_); go_simp; refine Sb (base_any C i n0 n1 _) fun u1 hb => ?_; replace HV := Zab (HV.out.later HPP.out hb); replace HS := Zab (HS.out.later hb); replace HAX := Zab (HAX.out.later hb); have HS1 : Hid (u1.rangeAt QA 0 (axL C i)) := Zab HAX.out.range; clear hb; refine hK.out _ _ HS1.out (fun _ => ?_); clear hK K; (try simp only [Act.put]); refine Ra 3 (fun K hK => ?_); go_simp; refine Sb (base_any C i n0 n1 _) fun u2 hb => ?_; replace HV := Zab (HV.out.later HPP.out hb); replace HS := Zab (HS.out.later hb); replace HAX := Zab (HAX.out.later hb); have HS2 : Hid (u2.rangeAt QA 0 (axL C i)) := Zab HAX.out.range; clear hb; refine hK.out _ _ HS2.out (fun _ => ?_); clear hK K; (try simp only [Act.put]); clear HS1; refine Tq 4 HS2.out ?_; simp only [Act.put, Ly]; refine Ra 6 (fun K hK => ?_); go_simp; refine Sb (base_any C i n0 n1 _) fun u3 hb => ?_; replace HV := Zab (HV.out.later HPP.out hb); replace HS := Zab (HS.out.later hb); replace HAX := Zab (HAX.out.later hb); have HS3 : Hid (u3.rangeAt QA 0 (axL C i)) := Zab HAX.out.range; clear hb; refine hK.out _ _ HS3.out (fun _ => ?_); clear hK K; (try simp only [Act.put]); clear HS2; refine Tq 7 HS3.out ?_; simp only [Act.put, Ly]; refine Tq 8 HS3.out ?_; simp only [Act.put, Ly]; refine wpAnyH_done (by kernel_rfl) ?_ _; go_simp; clear HS3; generalize u3 = v13 at HV HS HAX ⊢
       refine Zbd (by assumption) ?_; clear vb2 vb3 b0 b1; generalize (2 * C.a i 2 + 1) * (2 * C.a i 2 + 1) * (2 * C.a i 2 + 1) = M at b2 b3 ⊢
       obtain ⟨L, hL, L0, L1⟩ : ∃ L : Int, ([Vi x', Vi y'] : List Value)[i]? = some (Vi L) ∧ -1 ≤ L ∧ L ≤ 1 := by
        rcases (show i = 0 ∨ i = 1 by omega) with rfl | rfl
        · exact ⟨x', rfl, bx.1, bx.2⟩
        · exact ⟨y', rfl, bY.1, bY.2⟩
       have v100 := Wr (100 * L)
       go_upto_region 13 with fail; replace HV := Zab (HV.out.later HPP.out (Below.refl _ v13).drew); replace HS := Zab (HS.out.later (Below.refl _ v13).drew); replace HAX := Zab (HAX.out.later (Below.refl _ v13).drew); refine wp_region_held_drew (S := fun u => (u.cell? (Ad QL i) = some (Vi L))) (by kernel_rfl) ((HV.out.e.cell hL).1) (fun _ => ?_); have HS0 : Hid ((v13.drew.cell? (Ad QL i) = some (Vi L))) := Zab ((HV.out.e.cell hL).1); generalize v13.drew = u0 at HS0 HV HS HAX ⊢; refine Tq 0 HS0.out ?_; simp only [Act.put, Ly]; refine Tq 1 HS0.out ?_; simp only [Act.put, Ly]; refine Tq 2 HS0.out ?_; simp only [Act.put, Ly]; refine Tq 3 HS0.out ?_; simp only [Act.put, Ly]; refine Th 4 rfl (by intro w hSw; (try dsimp only at hSw); have xt := hSw;  clear hSw; go_simp; (try with_reducible rfl)) HS0.out ?_; simp only [Act.put, Ly]; refine Tq 5 HS0.out ?_; simp only [Act.put, Ly]; refine Tq 6 HS0.out ?_; simp only [Act.put, Ly]; refine Tq 7 HS0.out ?_; simp only [Act.put, Ly]; refine Th 8 rfl (by intro w hSw; (try dsimp only at hSw); have xt := hSw;  clear hSw; go_simp; (try with_reducible rfl)) HS0.out ?_; simp only [Act.put, Ly]; refine Tq 9 HS0.out ?_; simp only [Act.put, Ly]; refine Tq 10 HS0.out ?_; simp only [Act.put, Ly]; refine Tq 15 HS0.out ?_; simp only [Act.put, Ly]; refine Ra 11 (fun K hK => ?_); go_simp; refine (dN 201 hl HV.out.d).mono ?_; rintro e u1 ⟨⟨r, rfl, r0, r1⟩, hD, hK2, hsz⟩; replace HV := Zab (HV.out.dk HPP.out hD hK2); replace HS := Zab (hK2.blk HQS.out HS.out); replace HAX := Zab (hK2.blk HQ.out.1 HAX.out); have HS1 : Hid (u1.cell? (Ad QL i) = some (Vi L)) := Zab (HV.out.e.cell hL).1; clear hD hK2 hsz; have vr := Wr (r - 100); refine hK.out _ _ HS1.out (fun _ => ?_); clear hK K; (try simp only [Act.put]); refine Tq 12 HS1.out ?_; simp only [Act.put, Ly]; refine Ra 13 (fun K hK => ?_); go_simp; have HS2 := Zab (keepC (Zaa u1 (.cells #[Vi (100 * L), Vi (100 * L), Vi (r - 100)] 3)) HS1.out); refine hK.out _ _ HS2.out (fun _ => ?_); clear hK K; (try simp only [Act.put]); clear HS1; refine Ra 14 (fun K hK => ?_); go_simp; refine (Zdh O a l cap _ (100 * L) (100 * L) (r - 100) (-100) 100 (by omega) hl (by omega) _ HV.out.d).mono ?_; rintro e u3 ⟨⟨s, rfl, s0, s1⟩, hD, hK2⟩; replace HV := Zab (HV.out.dk HPP.out hD hK2); replace HS := Zab (hK2.blk HQS.out HS.out)
       replace HAX := Zab (hK2.blk HQ.out.1 HAX.out); have HS3 : Hid (u3.cell? (Ad QL i) = some (Vi L)) := Zab (HV.out.e.cell hL).1; clear hD hK2; refine hK.out _ _ HS3.out (fun _ => ?_); clear hK K; (try simp only [Act.put]); clear HS2; refine Tq 16 HS3.out ?_; simp only [Act.put, Ly]; refine Ra 17 (fun K hK => ?_); have k1 := HS.out.cell (stpk_at st hi2); have k2 := k1.2; replace k1 := k1.1; go_simp; have hO9 : Oth u3 (u3.setCell (Ad QS i) (Vi s)) QS := (Oth.refl u3 QS).set; replace HV := Zab (HV.out.oth HPP.out hO9 HVS.out.1 HVS.out.2); replace HAX := Zab (hO9.mblk HQ.out.2 HAX.out); replace HS := Zab (stpk_set (x := s) hi2 (HS.out.set (i) (Vi s))); generalize u3.setCell (Ad QS i) (Vi s) = u4 at HV HS HAX ⊢; have HS4 : Hid (u4.cell? (Ad QL i) = some (Vi L)) := Zab (HV.out.e.cell hL).1; clear k1 k2 hO9; refine hK.out _ _ HS4.out (fun _ => ?_); clear hK K; (try simp only [Act.put]); clear HS3; refine wpAnyH_done (by kernel_rfl) ?_ _; go_simp; clear HS4; generalize u4 = v14 at HV HS HAX ⊢; refine Zbd (by assumption) ?_; clear v100 vr; replace HSA := Zab (SA.setK HSA.out hi2 s0 s1); generalize stK st i s = st at HS HSA; obtain ⟨l0, l1⟩ := lean_bd p0 L0 L1; have vl := Wr (C.a i 3 * L); have vn := Wr (-C.a i 3); have v2p := Wr (2 * C.a i 3); have v2q := Wr (2 * C.a i 3 + 1)
       go_upto_region 14 with fail; replace HV := Zab (HV.out.later HPP.out (Below.refl _ v14).drew); replace HS := Zab (HS.out.later (Below.refl _ v14).drew); replace HAX := Zab (HAX.out.later (Below.refl _ v14).drew); refine wp_region_held_drew (S := fun u => (u.cell? (Ad QL i) = some (Vi L) ∧ u.cell? (Ad QA 3) = some (Vi (C.a i 3)))) (by kernel_rfl) (⟨(HV.out.e.cell hL).1, (HAX.out.cell (j := 3) rfl).1⟩) (fun _ => ?_); have HS0 : Hid ((v14.drew.cell? (Ad QL i) = some (Vi L) ∧ v14.drew.cell? (Ad QA 3) = some (Vi (C.a i 3)))) := Zab (⟨(HV.out.e.cell hL).1, (HAX.out.cell (j := 3) rfl).1⟩); generalize v14.drew = u0 at HS0 HV HS HAX ⊢; refine Tq 0 HS0.out ?_; simp only [Act.put, Ly]; refine Tq 1 HS0.out ?_; simp only [Act.put, Ly]; refine Tq 2 HS0.out ?_; simp only [Act.put, Ly]; refine Th 3 rfl (by intro w hSw; (try dsimp only at hSw); have xt := hSw.1; have xu := hSw.2;  clear hSw; go_simp; (try with_reducible rfl)) HS0.out ?_; simp only [Act.put, Ly]; refine Tq 4 HS0.out ?_; simp only [Act.put, Ly]; refine Tq 5 HS0.out ?_; simp only [Act.put, Ly]; refine Th 6 rfl (by intro w hSw; (try dsimp only at hSw); have xt := hSw.1; have xu := hSw.2;  clear hSw; go_simp; (try with_reducible rfl)) HS0.out ?_; simp only [Act.put, Ly]; refine Tq 7 HS0.out ?_; simp only [Act.put, Ly]; refine Tq 8 HS0.out ?_; simp only [Act.put, Ly]; refine Th 9 rfl (by intro w hSw; (try dsimp only at hSw); have xt := hSw.1; have xu := hSw.2;  clear hSw; go_simp; (try with_reducible rfl)) HS0.out ?_; simp only [Act.put, Ly]; refine Tq 10 HS0.out ?_; simp only [Act.put, Ly]; refine Tq 11 HS0.out ?_; simp only [Act.put, Ly]; refine Th 12 rfl (by intro w hSw; (try dsimp only at hSw); have xt := hSw.1; have xu := hSw.2;  clear hSw; go_simp; (try with_reducible rfl)) HS0.out ?_; simp only [Act.put, Ly]; refine Tq 13 HS0.out ?_; simp only [Act.put, Ly]; refine Tq 14 HS0.out ?_; simp only [Act.put, Ly]; refine Th 15 rfl (by intro w hSw; (try dsimp only at hSw); have xt := hSw.1; have xu := hSw.2;  clear hSw; go_simp; (try with_reducible rfl)) HS0.out ?_; simp only [Act.put, Ly]; refine Tq 16 HS0.out ?_; simp only [Act.put, Ly]; refine Th 17 rfl (by intro w hSw; (try dsimp only at hSw); have xt := hSw.1; have xu := hSw.2;  clear hSw; go_simp; (try with_reducible rfl)) HS0.out ?_; simp only [Act.put, Ly]; refine Tq 18 HS0.out ?_; simp only [Act.put, Ly]; refine Tq 19 HS0.out ?_; simp only [Act.put, Ly]; refine Tq 20 HS0.out ?_; simp only [Act.put, Ly]
       refine Th 21 rfl (by intro w hSw; (try dsimp only at hSw); have xt := hSw.1; have xu := hSw.2;  clear hSw; go_simp; (try with_reducible rfl)) HS0.out ?_; simp only [Act.put, Ly]; refine Tq 22 HS0.out ?_; simp only [Act.put, Ly]; refine Tq 23 HS0.out ?_; simp only [Act.put, Ly]; refine Tq 25 HS0.out ?_; simp only [Act.put, Ly]; refine Th 26 rfl (by intro w hSw; (try dsimp only at hSw); have xt := hSw.1; have xu := hSw.2;  clear hSw; go_simp; (try with_reducible rfl)) HS0.out ?_; simp only [Act.put, Ly]; refine Tq 30 HS0.out ?_; simp only [Act.put, Ly]; refine Ra 24 (fun K hK => ?_); go_simp; refine (dN (2 * C.a i 3 + 1) hl HV.out.d).mono ?_; rintro e u1 ⟨⟨pp, rfl, pp0, pp1⟩, hD, hK2, hsz⟩; replace HV := Zab (HV.out.dk HPP.out hD hK2); replace HS := Zab (hK2.blk HQS.out HS.out); replace HAX := Zab (hK2.blk HQ.out.1 HAX.out); have HS1 : Hid (u1.cell? (Ad QL i) = some (Vi L) ∧ u1.cell? (Ad QA 3) = some (Vi (C.a i 3))) := Zab ⟨(HV.out.e.cell hL).1, (HAX.out.cell (j := 3) rfl).1⟩; clear hD hK2 hsz; have vpp := Wr (pp - C.a i 3); refine hK.out _ _ HS1.out (fun _ => ?_); clear hK K; (try simp only [Act.put]); refine Tq 27 HS1.out ?_; simp only [Act.put, Ly]; refine Ra 28 (fun K hK => ?_); go_simp; have HS2 := Zab (And.intro (keepC (Zaa u1 (.cells #[Vi (C.a i 3 * L), Vi (C.a i 3 * L), Vi (C.a i 3), Vi (-C.a i 3), Vi (pp - C.a i 3)] 3)) HS1.out.1) (keepC (Zaa u1 (.cells #[Vi (C.a i 3 * L), Vi (C.a i 3 * L), Vi (C.a i 3), Vi (-C.a i 3), Vi (pp - C.a i 3)] 3)) HS1.out.2)); refine hK.out _ _ HS2.out (fun _ => ?_); clear hK K; (try simp only [Act.put]); clear HS1; refine Ra 29 (fun K hK => ?_); go_simp; refine (diceMost5 O a l cap _ (C.a i 3 * L) (C.a i 3 * L) (C.a i 3) (-C.a i 3) (pp - C.a i 3) (-C.a i 3) (C.a i 3) (by omega) hl (by omega) _ HV.out.d).mono ?_; rintro e u3 ⟨⟨s2, rfl, s20, s21⟩, hD, hK2⟩; replace HV := Zab (HV.out.dk HPP.out hD hK2); replace HS := Zab (hK2.blk HQS.out HS.out); replace HAX := Zab (hK2.blk HQ.out.1 HAX.out); have HS3 : Hid (u3.cell? (Ad QL i) = some (Vi L) ∧ u3.cell? (Ad QA 3) = some (Vi (C.a i 3))) := Zab ⟨(HV.out.e.cell hL).1, (HAX.out.cell (j := 3) rfl).1⟩; clear hD hK2; refine hK.out _ _ HS3.out (fun _ => ?_); clear hK K; (try simp only [Act.put]); clear HS2; refine Tq 31 HS3.out ?_; simp only [Act.put, Ly]; refine Ra 32 (fun K hK => ?_); have k1 := HS.out.cell (stpp_at st hi2)
       have k2 := k1.2; replace k1 := k1.1; go_simp; have hO9 : Oth u3 (u3.setCell (Ad QS (2 + i)) (Vi s2)) QS := (Oth.refl u3 QS).set; replace HV := Zab (HV.out.oth HPP.out hO9 HVS.out.1 HVS.out.2); replace HAX := Zab (hO9.mblk HQ.out.2 HAX.out); replace HS := Zab (stpp_set (x := s2) hi2 (HS.out.set (2 + i) (Vi s2))); generalize u3.setCell (Ad QS (2 + i)) (Vi s2) = u4 at HV HS HAX ⊢; have HS4 : Hid (u4.cell? (Ad QL i) = some (Vi L) ∧ u4.cell? (Ad QA 3) = some (Vi (C.a i 3))) := Zab ⟨(HV.out.e.cell hL).1, (HAX.out.cell (j := 3) rfl).1⟩; clear k1 k2 hO9; refine hK.out _ _ HS4.out (fun _ => ?_); clear hK K; (try simp only [Act.put]); clear HS3; refine wpAnyH_done (by kernel_rfl) ?_ _; go_simp; clear HS4; generalize u4 = v15 at HV HS HAX ⊢; refine Zbd (by assumption) ?_; clear vl vn v2p v2q vpp; replace HSA := Zab (SA.setP HSA.out hi2 s20 s21); generalize stP st i s2 = st at HS HSA; have vM := Wr (M - 1); have T1 : Hid True := trivial; have T2 : Hid True := trivial; have T3 : Hid True := trivial
       go_wp2_with (first
        | (go_at_call 67; clear T1; refine (dN M hl HV.out.d).mono ?_; rintro e v16 ⟨⟨r1, rfl, r10, r11⟩, hD, hK, hsz⟩; replace HV := Zab (HV.out.dk HPP.out hD hK); replace HS := Zab (hK.blk HQS.out HS.out); clear hsz hD hK)
        | (go_at_call 67; clear T2; refine (dN M hl HV.out.d).mono ?_; rintro e v17 ⟨⟨r2, rfl, r20, r21⟩, hD, hK, hsz⟩; replace HV := Zab (HV.out.dk HPP.out hD hK); replace HS := Zab (hK.blk HQS.out HS.out); clear hsz hD hK)
        | (go_at_call 70; clear T3; refine (diceMost4 O a l cap _ 0 (M - 1) r1 r2 0 (M - 1) (by omega) hl (by omega) _ HV.out.d).mono ?_; rintro e v18 ⟨⟨s3, rfl, s30, s31⟩, hD, hK⟩; replace HV := Zab (HV.out.dk HPP.out hD hK); replace HS := Zab (hK.blk HQS.out HS.out); clear hD hK; have k1 := HS.out.cell (stpz_at st hi2); have k2 := k1.2; replace k1 := k1.1))
       have hO9 : Oth v18 (v18.setCell (Ad QS (4 + i)) (Vi s3)) QS := (Oth.refl v18 QS).set; exact ⟨⟨i + 1, _, stZ st i s3, by omega, by go_num, HV.out.oth HPP.out hO9 HVS.out.1 HVS.out.2, stpz_set hi2 (HS.out.set (4 + i) (Vi s3)), SA.setZ HSA.out hi2 s30 (by omega), by omega⟩, by simp [intOf]; omega⟩
     · obtain rfl : i = 2 := by omega
       obtain ⟨ps, cs, rfl⟩ := HV.out.t.slice; have f1 := (HV.out.f.cell (j := 1) rfl).1; have HSR := Zab HS.out.range; have HLL : Hid (ss.length ≤ 1000) := Zab (by omega); have hsl := stpL_len st; have HV1 := Zab (HV.out.later HPP.out (Zaa wr (.cells (stpL st).toArray 78))); have HT1 := Zab HV1.out.t; have HT2 := Zab HV1.out.h; have HLY := Zab (lay_stp wr st); have HN := Zab hn; clear HV HS hn
       go_upto_region 16 with fail
       go_wp2_with (first
        | (refine Lq 78 _ rfl ?_; refine wpList_load_mid rfl 78 (.tmp 13) rfl QS 0 rfl [Vi (st.k 0), Vi (st.k 1), Vi (st.p 0), Vi (st.p 1), Vi (st.z 0), Vi (st.z 1), Vi st.v, .bool st.g] _ HSR.out underlying78 rfl infoStp ?_)
        | (at_builtin; refine wpList_apS (r := st) (.tmp 126) (.tmp 128) rfl rfl HT1.out HT2.out HLY.out HLL.out (fun s' v9 h1 h2 => ?_); obtain ⟨p9, c9, rfl⟩ := RwO.slice h1; clear f1; have hF2 := (HV1.out.fgrew HPP.out h2).cell (j := 1) rfl; have f2 := hF2.1; have f3 := hF2.2; replace HV1 := Zab (HV1.out.push HPP.out h2 h1); clear h1 h2 hF2))
       simp only [List.length_append, List.length_cons, List.length_nil, Nat.zero_add] at HV1; exact ⟨⟨k + 1, q', _, ss ++ [st], by omega, by go_num, HV1.out, by rw [List.length_append, HN.out]; rfl, HSOK.out.app HSA.out, by omega⟩, by simp [intOf]; omega⟩
  · obtain rfl : k = many := by omega
    obtain ⟨ps, cs, rfl⟩ := HV.out.t.slice; have f0 := (HV.out.f.cell (j := 0) rfl).1; have f1 := (HV.out.f.cell (j := 1) rfl).1; have z0 := (HV.out.z.cell (j := 0) rfl).1; have z1 := (HV.out.z.cell (j := 1) rfl).1; have z2 := (HV.out.z.cell (j := 0) rfl).2; have z3 := (HV.out.z.cell (j := 1) rfl).2
    have HZ : Hid (Blk 67 (wr.setCells QZ 0 [.slice pf ls.length cf, .slice ps ss.length cs]) QZ [.slice pf ls.length cf, .slice ps ss.length cs]) := by
     have h := Blk.setCells [.slice pf ls.length cf, .slice ps ss.length cs] 0 wr _ HV.out.z; exact Zab h
    have HO : Hid (Oth wr (wr.setCells QZ 0 [.slice pf ls.length cf, .slice ps ss.length cs]) QZ) := Zab (by
     have h := ((Oth.refl wr QZ).set (j := 0) (v := .slice pf ls.length cf)).set (j := 1) (v := .slice ps ss.length cs)
     exact h)
    have HFT := Zab (HV.out.r.far HO.out (fun g e => by have := HPP.out.g g e; have := HPP.out.z; omega)).fts; have HST := Zab (HV.out.t.far HO.out (fun g e => by have := (World.ownsRow.lt HV.out.t g e).1; have := HPP.out.z; have := HPP.out.o; have := HPP.out.f; omega)).sts; have HBB := Zab (HV.out.b.grown HO.out.grown HV.out.b.size (fun g e => by cases e; have := HPP.out.k; omega)); have HFL : Hid (FlOK C ls ss) := Zab ⟨hcr, by omega, by omega, HOK.out, HSOK.out⟩; clear hn; go_wp2_with fail; refine bodyPost_ret (v := .agg #[.slice pf ls.length cf, .slice ps ss.length cs]) ?_ rfl ⟨⟨pf, cf, ls, ps, cs, ss, rfl, HFL.out, HFT.out, HST.out⟩, HBB.out⟩; exact res_flight _ _ QZ [.slice pf ls.length cf, .slice ps ss.length cs] rfl HZ.out.range rfl
def LO (l : List Ft) (k : Nat) (a u : Int) : Prop := (∀ j, j < l.length → (ftAt l j).2.1 = 4 → 0 ≤ (ftAt l j).2.2.1) → ∀ j, j < k → (ftAt l j).2.1 = 4 → (ftAt l j).2.2.1 = a ∧ (ftAt l j).2.2.2.1 = u
def LoP (l : List Ft) (e : Ending) : Prop := ∃ a u o, e = .returned (.tuple #[Vi a, Vi u, .bool o]) ∧ (o = true → LO l l.length a u) ∧ (o = false → a = 0)
theorem LO.zero (l : List Ft) : LO l 0 (-1) (-1) := fun _ j hj => by omega
theorem LO.skip {l : List Ft} {k : Nat} {a u : Int} (h : LO l k a u) (hk : ¬ (ftAt l k).2.1 = 4) : LO l (k + 1) a u := fun v j hj e => by
 by_cases h1 : j = k
 · subst h1; exact absurd e hk
 · exact h v j (by omega) e
theorem LO.take {l : List Ft} {k : Nat} {a u : Int} (h : LO l k a u) (hk : k < l.length) (h2 : ¬ (0 ≤ a ∧ ¬ (a = (ftAt l k).2.2.1 ∧ u = (ftAt l k).2.2.2.1))) : LO l (k + 1) (ftAt l k).2.2.1 (ftAt l k).2.2.2.1 := fun v j hj e => by
 by_cases h1 : j = k
 · subst h1; exact ⟨rfl, rfl⟩
 · obtain ⟨e1, e2⟩ := h v j (by omega) e; have := v j (by omega) e
   omega
theorem looseOf_any (pf : Option Addr) (cf : Nat) (l : List Ft) (ps : Option Addr) (ns cs : Nat) (hml : l.length ≤ 9223372036854775807) (w : World) (hF : Fts w pf l) :
 Calls prog 34 #[.agg #[.slice pf l.length cf, .slice ps ns cs]] w fun e w' => LoP l e ∧ Below w.heap.size w w' := by
 have HFT := Zab (fun u (h : Below w.heap.size w u) => hF.later h); have HF := Zab (Blk.new w 67 [.slice pf l.length cf, .slice ps ns cs]); have HB0 := Zab (Zaa w (.cells #[.slice pf l.length cf, .slice ps ns cs] 67)); clear hF
 go_enter func34, ntmps34
 go_upto_region 1 with fail; generalize w.alloc (.cells #[.slice pf l.length cf, .slice ps ns cs] 67) = v0 at *; generalize hQF : w.heap.size = QF at HF ⊢; have HQF := Zab hQF; clear hQF
 go_upto_region 3 with fail
 go_loopw [5, 6, 7] (fun va vu ix wr => ∃ (k : Nat) (a u : Int), k ≤ l.length ∧ ix = Vi k ∧ va = Vi a ∧ vu = Vi u ∧ LO l k a u ∧ Blk 67 wr QF [.slice pf l.length cf, .slice ps ns cs] ∧ Below w.heap.size w wr) (fun _ _ ix _ => l.length - (intOf ix).toNat)
 case atStart => exact ⟨0, -1, -1, by omega, rfl, rfl, rfl, LO.zero l, HF.out, HB0.out⟩
 case round =>
  clear HF HB0; obtain ⟨k, a, u, hk, rfl, rfl, rfl, hlo, hff, hbw⟩ := hrel; have xf := (hff.cell (j := 0) rfl).1
  by_cases hlt : k < l.length
  · obtain ⟨b, off, rfl, hr⟩ := (HFT.out wr hbw).at hlt
    have k0 : (0 : Int) ≤ (k : Int) := by omega
    have k1 : (k : Int) < (l.length : Int) := by omega
    have HSK := Zab (fun h => hlo.skip h); have HTK := Zab (fun h => hlo.take hlt h); generalize ftAt l k = f at *; obtain ⟨fa, fk, fx, fu, fi⟩ := f; have c0 := hr 0 _ rfl; have c1 := hr 1 _ rfl; have c2 := hr 2 _ rfl; have c3 := hr 3 _ rfl; have c4 := hr 4 _ rfl
    dsimp only at c0 c1 c2 c3 c4 HSK HTK
    simp only [Nat.add_zero] at c0; have HA := Zaa wr (.cells #[Vi fa, Vi fk, Vi fx, Vi fu, Vi fi] 73); have HX : Hid (Blk 73 (wr.alloc (.cells #[Vi fa, Vi fk, Vi fx, Vi fu, Vi fi] 73)) wr.heap.size [Vi fa, Vi fk, Vi fx, Vi fu, Vi fi]) := Zab (Blk.new wr _ _); have HFF := Zab (hff.later HA); have HBW := Zab (Zac hbw HA); clear hr hff hbw HA hlo
    go_upto_region 6 with fail; generalize wr.alloc (.cells #[Vi fa, Vi fk, Vi fx, Vi fu, Vi fi] 73) = v1 at *; clear c0 c1 c2 c3 c4 xf; generalize wr.heap.size = QX at HX ⊢; have c1 := (HX.out.cell (j := 1) rfl).1; have c2 := (HX.out.cell (j := 2) rfl).1; have c3 := (HX.out.cell (j := 3) rfl).1
    by_cases hfk : fk = 4
    · subst hfk; have HT2 : Hid (¬ (0 ≤ a ∧ ¬ (a = fx ∧ u = fu)) → LO l (k + 1) fx fu) := HTK
      by_cases hbad : 0 ≤ a ∧ ¬ (a = fx ∧ u = fu)
      · obtain ⟨a0, hne⟩ := hbad
        by_cases hax : a = fx
        · have hun : ¬ u = fu := fun e => hne ⟨hax, e⟩; subst hax; clear hne; go_wp2_with fail; go_ret3; exact ⟨⟨0, 0, false, rfl, (fun h => by cases h), fun _ => rfl⟩, HBW.out⟩
        · clear hne; go_wp2_with fail; go_ret3; exact ⟨⟨0, 0, false, rfl, (fun h => by cases h), fun _ => rfl⟩, HBW.out⟩
      · have HLN := Zab (HT2.out hbad); clear HT2 HTK HSK
        have hgo : a < 0 ∨ (0 ≤ a ∧ a = fx ∧ u = fu) := by omega
        clear hbad
        rcases hgo with ha | ⟨ha, rfl, rfl⟩
        · go_upto_region 9 with fail; refine Cs [38, 39, 40, 41, 5, 6] ?_; refine Cp 0 38 [] ?_; refine Cq (fun _ h => cell_later h c2) 1 39 [0] ?_; refine Cp 2 40 [] ?_; refine Cq (fun _ h => cell_later h c3) 3 41 [2] ?_; refine Cp 4 5 [1] ?_; refine Cp 5 6 [3] ?_; refine Ce (fun y u1 hB hf => ?_); have HS1 := Zab hB; clear hB hf; go_simp; have hB := HS1.out; clear HS1; generalize u1 = v2 at hB ⊢; refine Zbd (by assumption) ?_; replace HFF := Zab (HFF.out.later hB); replace HBW := Zab (Zac HBW.out hB); clear hB c1 c2 c3; go_wp2_with fail; go_roundw
          case rel => exact ⟨k + 1, _, _, by omega, by go_num, rfl, rfl, HLN.out, HFF.out, HBW.out⟩
          case measure => simp [intOf]; omega
        · go_upto_region 9 with fail; refine Cs [38, 39, 40, 41, 5, 6] ?_; refine Cp 0 38 [] ?_; refine Cq (fun _ h => cell_later h c2) 1 39 [0] ?_; refine Cp 2 40 [] ?_; refine Cq (fun _ h => cell_later h c3) 3 41 [2] ?_; refine Cp 4 5 [1] ?_; refine Cp 5 6 [3] ?_; refine Ce (fun y u1 hB hf => ?_); have HS1 := Zab hB; clear hB hf; go_simp; have hB := HS1.out; clear HS1; generalize u1 = v2 at hB ⊢; refine Zbd (by assumption) ?_; replace HFF := Zab (HFF.out.later hB); replace HBW := Zab (Zac HBW.out hB); clear hB c1 c2 c3; go_wp2_with fail; go_roundw
          case rel => exact ⟨k + 1, _, _, by omega, by go_num, rfl, rfl, HLN.out, HFF.out, HBW.out⟩
          case measure => simp [intOf]; omega
    · have HLN := Zab (HSK.out hfk); clear HSK HTK; go_wp2_with fail; exact ⟨⟨k + 1, a, u, by omega, by go_num, rfl, rfl, HLN.out, HFF.out, HBW.out⟩, by simp [intOf]; omega⟩
  · obtain rfl : k = l.length := by omega
    have HBW := Zab hbw; have HLN := Zab hlo; clear hff hbw hlo; go_wp2_with fail; go_ret3; exact ⟨⟨a, u, true, rfl, (fun _ => HLN.out), fun h => by cases h⟩, HBW.out⟩
end Go.Proofs.YtnfdfiholcelaaaGreatDoor
