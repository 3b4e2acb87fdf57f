import Derived.LaidEql
import Derived.Stop.Asserts
import Derived.RowKitTokens
import Derived.Shelf.Abstract
import Derived.Test.YtnfdfiholcelaaaGreatDoorJd00
import Derived.Test.YtnfdfiholcelaaaGreatDoorJd05
import Derived.Test.YtnfdfiholcelaaaGreatDoorJd06
import Derived.Test.YtnfdfiholcelaaaGreatDoorJd07
set_option maxRecDepth 100000
set_option maxHeartbeats 20000000
namespace Go.Proofs.YtnfdfiholcelaaaGreatDoor
open Go.RowKit Plain
theorem Zan {P : Program} {op : Oper} {a : Act} {w : World} {K : Act → World → Prop} {Q : Exit → Act → World → Prop} (ty : TypeId) (x y : Operand) (ho : op.op = .store ty x y)
 (b o : Nat) (cells : Array Value) (hx : a.eval x = .pointer (some (Ad b o))) (hy : a.eval y = .agg cells)
 (ht : w.there b o cells.size) (hi : (P.info? ty).map (·.size) = some cells.size) (h1 : cells.all (·.oneCell') = true) (hd : op.dst = none)
 (h : K a (w.setCells b o cells.toList)) : op.wp P a w K Q := wp_store_mid ty x y ho b o cells hx hy ht hi h1 (by rw [hd]; exact h)
def NB (t : TypeId) (K : Nat) (u : World) (V : Nat) (cs : List Value) : Prop := Blk t u V cs ∧ K ≤ V
theorem NB.later {t : TypeId} {K : Nat} {u u' : World} {V : Nat} {cs : List Value} (h : NB t K u V cs) (hb : Below u.heap.size u u') : NB t K u' V cs := ⟨h.1.later hb, h.2⟩
theorem NB.le {t : TypeId} {K : Nat} {u : World} {V : Nat} {cs : List Value} (h : NB t K u V cs) : K ≤ V := h.2
theorem NB.new {t : TypeId} {K : Nat} {X : World} (cs : List Value) (h : K ≤ X.heap.size) : NB t K (X.alloc (.cells cs.toArray t)) X.heap.size cs := ⟨Blk.new X t cs, h⟩
theorem NB.ne {t t' : TypeId} {K K' : Nat} {u : World} {V V' : Nat} {cs cs' : List Value} (h : NB t K u V cs) (h' : NB t' K' u V' cs') (hn : t ≠ t') : V ≠ V' := by
 intro e; subst e; have a := h.1; have b := h'.1
 unfold Blk at a b
 rw [a] at b
 simp at b
 exact hn b.2
theorem NB.farCells {t : TypeId} {K : Nat} {u : World} {V X : Nat} {cs : List Value} (hX : V ≠ X) (vs : List Value) (o : Nat) (h : NB t K u V cs) : NB t K (u.setCells X o vs) V cs := ⟨Blk.farCells hX vs o u h.1, h.2⟩
theorem Zbh {K : Act → World → Prop} {P : Program} {c : Code} {Q : Exit → Act → World → Prop} {a : Act} {w : World} (h : ∀ a w, Code.wp P c Q a w → K a w) (k : Code.wp P c Q a w) : K a w := h a w k
theorem infoB7 : (Tryz.prog.info? 33).map (·.size) = some 7 := by kernel_rfl
theorem infoV2 : (Tryz.prog.info? 187).map (·.size) = some 2 := by kernel_rfl
theorem Zae {w u : World} {B o : Nat} {cs : List Value} (h : w.rangeAt B o cs) (hb : Below w.heap.size w u) : u.rangeAt B o cs := fun j v hj => cell_later hb (h j v hj)
theorem Zgz {K : Nat} {wz w : World} {B : Nat} {S : FS} {C : CR} {a : Option Addr} {cap : Nat} {l : List Rd} {sv : Nat → List Sv} {G : Nat → Nat} (hf : FR K wz w B S C a cap l sv G) (i : Nat) (hi : i < 3) (x m c : Int) (he : Zcs (S.bk i).b (S.bk i).l m c (tS l x) (sS l x) = 0) :
 Calls Tryz.prog 102 #[.pointer (some (Ad B 0)), Vi i, Vi x, .agg #[Vi m, Vi c]] w fun e w' => e = .returned .nilIface ∧ FR K wz w' B { S with bk := upd S.bk i (vbk (S.bk i) m c (tS l x) (sS l x)) } C a cap l sv G := by
 have hst := step_ok (S.bk i).b (S.bk i).o (S.bk i).l m c (tS l x) (sS l x) he; clear he; obtain ⟨vl, HV⟩ : ∃ vl, Hid (votI (tS l x) (S.bk i).o (sS l x) (S.bk i).l = vl) := ⟨_, Zab rfl⟩; simp only [HV.out] at hst; obtain ⟨n0, n1, n2, o0, o1, o2, mn, HE⟩ : ∃ n0 n1 n2 o0 o1 o2 mn, Hid (nbI (tS l x) (S.bk i).o (sS l x) (S.bk i).b vl m 0 = n0 ∧ nbI (tS l x) (S.bk i).o (sS l x) (S.bk i).b vl m 1 = n1 ∧ nbI (tS l x) (S.bk i).o (sS l x) (S.bk i).b vl m 2 = n2 ∧ noB (tS l x) (S.bk i).o (sS l x) (S.bk i).b vl m c 0 = o0 ∧ noB (tS l x) (S.bk i).o (sS l x) (S.bk i).b vl m c 1 = o1 ∧ noB (tS l x) (S.bk i).o (sS l x) (S.bk i).b vl m c 2 = o2 ∧ Zcw (tS l x) (S.bk i).o 3 = mn) := ⟨_, _, _, _, _, _, _, Zab ⟨rfl, rfl, rfl, rfl, rfl, rfl, rfl⟩⟩; simp only [HE.out.1, HE.out.2.1, HE.out.2.2.1, HE.out.2.2.2.1, HE.out.2.2.2.2.1, HE.out.2.2.2.2.2.1, HE.out.2.2.2.2.2.2] at hst; have HNB : Hid (bkL (vbk (S.bk i) m c (tS l x) (sS l x)) = [Vi n0, Vi n1, Vi n2, .bool o0, .bool o1, .bool o2, Vi vl]) := Zab (by unfold vbk bkL; simp only [HV.out, HE.out.1, HE.out.2.1, HE.out.2.2.1, HE.out.2.2.2.1, HE.out.2.2.2.2.1, HE.out.2.2.2.2.2.1]); clear HE HV; have HF := Zab (hf.later (Zaa w (.cells #[Vi m, Vi c] 124))); have HR : Hid (Blk 124 (w.alloc (.cells #[Vi m, Vi c] 124)) w.heap.size [Vi m, Vi c]) := Zab (Blk.new w _ [Vi m, Vi c]); clear hf
 have j0 : (0 : Int) ≤ (i : Int) := by omega
 have j1 : (i : Int) < 3 := by omega
 go_enter Tryz.func102, Tryz.ntmps102
 go_upto_region 1 with fail; generalize w.alloc (.cells #[Vi m, Vi c] 124) = w0 at *; generalize w.heap.size = R at *; have HG := Zab (HF.out.blk.sub (i * 7) 7); rw [fr_bank S C _ hi] at HG
 have kc : ∀ u, Below w0.heap.size w0 u → Calls Tryz.prog 158 #[.pointer (some (Ad B 0)), Vi x] u fun e w' => e = .returned (.agg #[.bool (tS l x 0), Vi (sS l x 0), .bool (tS l x 1), Vi (sS l x 1), .bool (tS l x 2), Vi (sS l x 2)]) ∧ Below u.heap.size u w' := fun u h => by
  have := channels_any B a cap l x HF.out.many u (cell_later h HF.out.said) (HF.out.rds.later h)
  rwa [smL_eq] at this
 have r0 := (HR.out.cell (j := 0) rfl).1; have r1 := (HR.out.cell (j := 1) rfl).1; have HI := Zab hi; clear hi HR; refine Cs [13, 14, 15, 16, 17, 18, 19, 20, 21, 22, 23, 24, 12, 25, 26, 27, 9, 10] ?_; refine Cp 0 13 [] ?_; refine Cp 1 14 [] ?_; refine Cp 2 15 [0] ?_; refine Cp 3 16 [2] ?_; refine Cp 4 17 [3] ?_; refine Cp 5 18 [4, 1] ?_; refine Cl (x := .tmp 18) 6 19 [5] (fun y w hF u hSw => ⟨Zae HG.out hSw, hF.1⟩) Tryz.underlying33 infoB7 ?_; refine Cq (fun _ h => And.intro (cell_later h r0) (cell_later h r1)) 7 20 [] ?_; refine Cp 8 21 [] ?_; refine Cp 9 22 [] ?_; refine Cc 10 23 [8, 9] (fun y w h _ => kc _ h) ?_; refine Cc 11 24 [6, 7, 10] (fun y w h _ => hst _) ?_; refine Cp 12 12 [11] ?_; refine Cp 13 25 [12] ?_; refine Cp 14 26 [12] ?_; refine Cp 15 27 [12] ?_; refine Ca 16 9 ?_; refine Ca 17 10 ?_; refine Cn 3 21 [18, 19, 20] (fun y u1 hB hf => ?_); obtain ⟨XV, e, hA⟩ := hf.1; have HAV1 : Hid (NB _ _ _ XV [Vi 0, Vi 0]) := Zab hA; (try simp only [e]); clear e hA; obtain ⟨XA, e, hA⟩ := hf.2.1; have HAA1 : Hid (NB _ _ _ XA [Vi 0, Vi 0, Vi 0, .bool false, .bool false, .bool false, Vi 0]) := Zab hA; (try simp only [e]); clear e hA; have HS1 := Zab hB; clear hB hf; refine Ra 18 (fun K hK => ?_); rw [if_pos (by rfl)]; refine Zan 33 (.tmp 9) (.tmp 25) rfl XA 0 #[Vi n0, Vi n1, Vi n2, .bool o0, .bool o1, .bool o2, Vi vl] rfl rfl (HAA1.out.1.there (Nat.le_of_ble_eq_true rfl)) infoB7 (Zat _ rfl) rfl ?_; have HS2 := Zab (Zah [Vi n0, Vi n1, Vi n2, .bool o0, .bool o1, .bool o2, Vi vl] 0 u1 HS1.out (NB.le HAA1.out)); have HAA2 : Hid (NB 33 w0.heap.size (u1.setCells XA 0 [Vi n0, Vi n1, Vi n2, .bool o0, .bool o1, .bool o2, Vi vl]) XA [Vi n0, Vi n1, Vi n2, .bool o0, .bool o1, .bool o2, Vi vl]) := Zab ⟨Blk.setCells [Vi n0, Vi n1, Vi n2, .bool o0, .bool o1, .bool o2, Vi vl] 0 u1 [Vi 0, Vi 0, Vi 0, .bool false, .bool false, .bool false, Vi 0] HAA1.out.1, NB.le HAA1.out⟩; have HAV2 := Zab (NB.farCells (NB.ne HAV1.out HAA1.out (by decide)) [Vi n0, Vi n1, Vi n2, .bool o0, .bool o1, .bool o2, Vi vl] 0 HAV1.out); generalize hU : World.setCells _ XA 0 _ = u2 at *; clear hU; refine hK.out _ _ HS2.out (fun _ => ?_); clear hK K; clear HS1 HAV1 HAA1; refine Ra 19 (fun K hK => ?_); rw [if_pos (by rfl)]; refine Zan 187 (.tmp 10) (.tmp 26) rfl XV 0 #[Vi vl, Vi mn] rfl rfl (HAV2.out.1.there (Nat.le_of_ble_eq_true rfl)) infoV2 (Zat _ rfl) rfl ?_
 have HS3 := Zab (Zah [Vi vl, Vi mn] 0 u2 HS2.out (NB.le HAV2.out)); have HAV3 : Hid (NB 187 w0.heap.size (u2.setCells XV 0 [Vi vl, Vi mn]) XV [Vi vl, Vi mn]) := Zab ⟨Blk.setCells [Vi vl, Vi mn] 0 u2 [Vi 0, Vi 0] HAV2.out.1, NB.le HAV2.out⟩; have HAA3 := Zab (NB.farCells (NB.ne HAA2.out HAV2.out (by decide)) [Vi vl, Vi mn] 0 HAA2.out); generalize hU : World.setCells _ XV 0 _ = u3 at *; clear hU; refine hK.out _ _ HS3.out (fun _ => ?_); clear hK K; clear HS2 HAV2 HAA2; refine Tq 20 HS3.out ?_; (try simp only [Act.put]); refine wpAnyH_done (by kernel_rfl) ?_ _; go_simp; have hA := HAA3.out.1; have hB := HS3.out; clear HAV3 HAA3 HS3; generalize u3 = v at hA hB ⊢; clear r0 r1 kc hst; refine Zbh (by assumption) ?_; have HFv := Zab (HF.out.later hB); have HXA := Zab hA; have HX : Hid (XA ≠ B) := Zab (fun e => by subst e; have a := hA; have b := HFv.out.blk; unfold Blk at a b; rw [a] at b; simp at b); clear HF hA hB
 go_upto_region 4 with fail; have HT : Hid (World.there v.drew B (i * 7) 7) := Zab ((HFv.out.later (Below.refl _ _).drew).blk.there (by rw [frL_len]; have := HI.out; omega)); have HX0 : Hid (World.rangeAt v.drew XA 0 [Vi n0, Vi n1, Vi n2, .bool o0, .bool o1, .bool o2, Vi vl]) := Zab ((HXA.out.later (Below.refl _ _).drew).range)
 have HFin : Hid (FR K wz (World.setCells v.drew B (i * 7) [Vi n0, Vi n1, Vi n2, .bool o0, .bool o1, .bool o2, Vi vl]) B { S with bk := upd S.bk i (vbk (S.bk i) m c (tS l x) (sS l x)) } C a cap l sv G) := by
  have h := (HFv.out.later (Below.refl _ _).drew).put { S with bk := upd S.bk i (vbk (S.bk i) m c (tS l x) (sS l x)) } (bkL (vbk (S.bk i) m c (tS l x) (sS l x))) (i * 7) (fr_putBank S C _ HI.out _) ⟨rfl, rfl⟩; rw [HNB.out] at h; exact Zab h
 clear HFv HXA; refine wp_region_held_drew (S := fun u => u.rangeAt XA 0 [Vi n0, Vi n1, Vi n2, .bool o0, .bool o1, .bool o2, Vi vl]) (by kernel_rfl) (HX0.out) (fun _ => ?_); have HS0 : Hid (v.drew.rangeAt XA 0 [Vi n0, Vi n1, Vi n2, .bool o0, .bool o1, .bool o2, Vi vl]) := Zab (HX0.out); refine Tq 0 HS0.out ?_; (try simp only [Act.put]); refine Tq 1 HS0.out ?_; (try simp only [Act.put]); refine Tk 2 rfl (yieldsIf_load_mid (by rfl) 33 (.tmp 9) rfl XA 0 rfl [Vi n0, Vi n1, Vi n2, .bool o0, .bool o1, .bool o2, Vi vl] _ (fun w hSw => hSw) Tryz.underlying33 rfl infoB7) HS0.out ?_; (try simp only [Act.put]); refine Tq 3 HS0.out ?_; (try simp only [Act.put]); refine Tq 4 HS0.out ?_; (try simp only [Act.put]); refine Tq 5 HS0.out ?_; (try simp only [Act.put]); refine Tq 6 HS0.out ?_; (try simp only [Act.put]); simp only [Ly]; refine Ra 7 (fun K hK => ?_); rw [if_pos (by rfl)]; refine Zan 33 (.tmp 37) (.tmp 33) rfl B (i * 7) #[Vi n0, Vi n1, Vi n2, .bool o0, .bool o1, .bool o2, Vi vl] rfl rfl (HT.out) infoB7 (Zat _ rfl) rfl ?_; have HS1 := Zab (World.rangeAt_setCells_apart HS0.out B (i * 7) [Vi n0, Vi n1, Vi n2, .bool o0, .bool o1, .bool o2, Vi vl] (.inl HX.out)); refine hK.out _ _ HS1.out (fun _ => ?_); clear hK K; refine wpAnyH_done (by kernel_rfl) ?_ _; go_simp; refine Zbh (by assumption) ?_; go_wp2_with fail; go_ret; exact ⟨rfl, HFin.out⟩
theorem fcells_far {B V j : Nat} {x : Value} (hV : B ≠ V) : ∀ (vs : List Value) (o : Nat) (u : World), u.cell? (Ad B j) = some x → (u.setCells V o vs).cell? (Ad B j) = some x
 | [], _, _, h => h
 | v :: r, o, u, h => fcells_far hV r (o + 1) (u.setCell ⟨V, o, none⟩ v) (Zcn hV h)
def BQ (w u : World) (T R Y : Nat) (S : FS) (m c : Int) : Prop := Blk 41 u T (stL S) ∧ Blk 124 u R [Vi m, Vi c] ∧ Blk 33 u Y [Vi 0, Vi 0, Vi 0, .bool false, .bool false, .bool false, Vi 0] ∧ Below w.heap.size w u ∧ w.heap.size ≤ Y
theorem BQ.later {w u u' : World} {T R Y : Nat} {S : FS} {m c : Int} (h : BQ w u T R Y S m c) (hb : Below u.heap.size u u') : BQ w u' T R Y S m c := ⟨h.1.later hb, h.2.1.later hb, h.2.2.1.later hb, Zac h.2.2.2.1 hb, h.2.2.2.2⟩
theorem BQ.far {w u : World} {T R Y V : Nat} {S : FS} {m c : Int} (h : BQ w u T R Y S m c) (hV : T ≠ V ∧ R ≠ V ∧ Y ≠ V ∧ w.heap.size ≤ V) (j : Nat) (v : Value) : BQ w (u.setCell (Ad V j) v) T R Y S m c :=
 ⟨h.1.far hV.1 j v, h.2.1.far hV.2.1 j v, h.2.2.1.far hV.2.2.1 j v, h.2.2.2.1.setCell (by simpa using hV.2.2.2) v, h.2.2.2.2⟩
end Go.Proofs.YtnfdfiholcelaaaGreatDoor
namespace Go.Proofs.YtnfdfiholcelaaaGreatDoor
open Go.RowKit Go.Extern.Stop Go.Stop Go.Extern Plain
def GV (w : World) : Prop := w.cell? (Ad 0 0) = some (.iface 293 (.agg #[.pointer (some (Ad 1 51))]))
theorem GV.later {w w' : World} (h : GV w) (hb : Below w.heap.size w w') : GV w' := cell_later hb h
theorem GV.lt {w : World} (h : GV w) : 0 < w.heap.size := World.block_lt_of_cell? w ⟨0, 0, none⟩ h
theorem as_nil (t : Value) (w : World) : Calls Tryz.prog 101 #[.nilIface, t] w fun e w' => e = .returned (.bool false) ∧ w' = w := by
 go_enter Tryz.func101, Tryz.ntmps101
 go_wp2; go_ret; exact ⟨rfl, rfl⟩
theorem as_valueOfP (t : Addr) (w : World) : (ReflectliteValue.unpack (.iface 202 (.pointer (some t)))).run Tryz.prog w = .ok (.agg #[.pointer (some (Ad 1 202)), .pointer (some (Ad w.heap.size 0)), .int .u64 150]) (w.alloc (.cells #[.pointer (some t)] 202)) := by kernel_rfl
theorem as_typeP (a : Addr) (w : World) : (ReflectliteValue.methodAny (ReflectliteValue.valueError "reflectlite.Value.Type" 0) (fun t _ _ _ => ReflectliteType.toType t) #[.agg #[.pointer (some (Ad 1 202)), .pointer (some a), .int .u64 150]]).run Tryz.prog w = .ok (.iface 293 (.agg #[.pointer (some (Ad 1 202))])) w := by kernel_rfl
theorem as_mKind (h : Value) (w : World) : (Go.method 521 293 (.agg #[h]) "Kind").run Tryz.prog w = .ok (304, h) w := by kernel_rfl
theorem as_kindP (w : World) : ((ReflectliteType.abiMethod fun t => (fun a : Nat => Value.int IntKind.u8 (a : Int)) <$> Rtype.kind t) #[.pointer (some (Ad 1 202))]).run Tryz.prog w = .ok (.int .u8 22) w := by kernel_rfl
theorem as_kindE (w : World) : ((ReflectliteType.abiMethod fun t => (fun a : Nat => Value.int IntKind.u8 (a : Int)) <$> Rtype.kind t) #[.pointer (some (Ad 1 44))]).run Tryz.prog w = .ok (.int .u8 2) w := by kernel_rfl
theorem as_partsP (a : Addr) (w : World) : (ReflectliteValue.parts (.agg #[.pointer (some (Ad 1 202)), .pointer (some a), .int .u64 150])).run Tryz.prog w = .ok (some (202, a, 150)) w := by kernel_rfl
theorem as_isNilP (a p : Addr) (W : World) (ha : W.cell? a = some (.pointer (some p))) :
 (ReflectliteValue.method (ReflectliteValue.valueError "reflectlite.Value.IsNil" 0) ReflectliteValue.isNil #[.agg #[.pointer (some (Ad 1 202)), .pointer (some a), .int .u64 150]]).run Tryz.prog W = .ok (.bool false) W := by
 show Sem.run Tryz.prog (ReflectliteValue.parts _ >>= _) W = _
 simp only [Array.getLit, List.getElem_toArray, List.getElem_cons_zero, Sem.run_bind, as_partsP, Result.andThen]
 simp [ReflectliteValue.isNil, loadVar, isAgg, underlying, Tryz.underlying202, ha, Result.andThen]
theorem as_mElem (h : Value) (w : World) : (Go.method 521 293 (.agg #[h]) "Elem").run Tryz.prog w = .ok (314, .agg #[h]) w := by kernel_rfl
theorem as_mImpl (h : Value) (w : World) : (Go.method 521 293 (.agg #[h]) "Implements").run Tryz.prog w = .ok (315, .agg #[h]) w := by kernel_rfl
theorem as_mAss (h : Value) (w : World) : (Go.method 521 293 (.agg #[h]) "AssignableTo").run Tryz.prog w = .ok (312, .agg #[h]) w := by kernel_rfl
theorem as_elemP (w : World) : (ReflectliteType.method ReflectliteType.elem #[.agg #[.pointer (some (Ad 1 202))]]).run Tryz.prog w = .ok (.iface 293 (.agg #[.pointer (some (Ad 1 44))])) w := by kernel_rfl
theorem as_implE (w : World) : (ReflectliteType.relation "Implements" ReflectliteType.implements_ #[.agg #[.pointer (some (Ad 1 44))], .iface 293 (.agg #[.pointer (some (Ad 1 51))])]).run Tryz.prog w = .ok (.bool true) w := by kernel_rfl
theorem as_typeOfE (v : Value) (w : World) : (ReflectliteType.typeOf #[.iface 44 v]).run Tryz.prog w = .ok (.iface 293 (.agg #[.pointer (some (Ad 1 44))])) w := by kernel_rfl
theorem as_assE (w : World) : (ReflectliteType.relation "AssignableTo" ReflectliteType.assignableTo #[.agg #[.pointer (some (Ad 1 44))], .iface 293 (.agg #[.pointer (some (Ad 1 44))])]).run Tryz.prog w = .ok (.bool true) w := by kernel_rfl
theorem as_valueOfE (e : Int) (w : World) : (ReflectliteValue.unpack (.iface 44 (Vi e))).run Tryz.prog w = .ok (.agg #[.pointer (some (Ad 1 44)), .pointer (some (Ad w.heap.size 0)), .int .u64 130]) (w.alloc (.cells #[Vi e] 44)) := by kernel_rfl
theorem as_elemOfP (w : World) : (Rtype.elem? 202).run Tryz.prog w = .ok (some 44) w := by kernel_rfl
theorem as_mkE (p : Addr) (w : World) : (ReflectliteValue.mk 44 p ReflectliteValue.flagAddr).run Tryz.prog w = .ok (.agg #[.pointer (some (Ad 1 44)), .pointer (some p), .int .u64 386]) w := by kernel_rfl
theorem as_elemVP (a p : Addr) (W : World) (ha : W.cell? a = some (.pointer (some p))) :
 (ReflectliteValue.method (ReflectliteValue.valueError "reflectlite.Value.Elem" 0) ReflectliteValue.elem #[.agg #[.pointer (some (Ad 1 202)), .pointer (some a), .int .u64 150]]).run Tryz.prog W = .ok (.agg #[.pointer (some (Ad 1 44)), .pointer (some p), .int .u64 386]) W := by
 show Sem.run Tryz.prog (ReflectliteValue.parts _ >>= _) W = _
 simp only [Array.getLit, List.getElem_toArray, List.getElem_cons_zero, Sem.run_bind, as_partsP, Result.andThen]
 simp [ReflectliteValue.elem, loadVar, isAgg, underlying, Tryz.underlying202, ha, Result.andThen, as_elemOfP, as_mkE]
theorem as_partsEa (a : Addr) (w : World) : (ReflectliteValue.parts (.agg #[.pointer (some (Ad 1 44)), .pointer (some a), .int .u64 386])).run Tryz.prog w = .ok (some (44, a, 386)) w := by kernel_rfl
theorem as_partsE (a : Addr) (w : World) : (ReflectliteValue.parts (.agg #[.pointer (some (Ad 1 44)), .pointer (some a), .int .u64 130])).run Tryz.prog w = .ok (some (44, a, 130)) w := by kernel_rfl
theorem as_directE (w : World) : (Rtype.directlyAssignable 44 44).run Tryz.prog w = .ok true w := by kernel_rfl
theorem as_setE (ta b : Addr) (e : Int) (old : Value) (W : World) (hb : W.cell? b = some (Vi e)) (ht : W.cell? ta = some old) (hf : W.frozen? ta = false) :
 (ReflectliteValue.set #[.agg #[.pointer (some (Ad 1 44)), .pointer (some ta), .int .u64 386], .agg #[.pointer (some (Ad 1 44)), .pointer (some b), .int .u64 130]]).run Tryz.prog W = .ok (.tuple #[]) (W.setCell ta (Vi e)) := by
 show Sem.run Tryz.prog (ReflectliteValue.parts _ >>= _) W = _
 simp only [Array.getLit, List.getElem_toArray, List.getElem_cons_zero, List.getElem_cons_succ, Sem.run_bind, as_partsEa, as_partsE, Result.andThen]
 simp [ReflectliteValue.flagAddr, loadVar, isAgg, underlying, Tryz.underlying44, hb, Result.andThen, as_directE, storeVar, Value.cells, storeCells, Addr.add]
 rw [run_store Tryz.prog W ta _ _ (by rfl)]
 simp [ht, hf]
theorem as_hit (e : Int) (t : Addr) (old : Value) (w : World) (hg : GV w) (ht0 : w.cell? t = some old) (hf0 : w.frozen? t = false) :
 Calls Tryz.prog 101 #[.iface 44 (Vi e), .iface 202 (.pointer (some t))] w fun ev w' => ev = .returned (.bool true) ∧ w' = ((((w.alloc (.cells #[.pointer (some t)] 202)).alloc (.cells #[.pointer (some (Ad 1 202)), .pointer (some (Ad w.heap.size 0)), .int .u64 150] 251)).alloc (.cells #[.pointer (some (Ad 1 202)), .pointer (some (Ad w.heap.size 0)), .int .u64 150] 251)).alloc (.cells #[Vi e] 44)).setCell t (Vi e) := by
 have x0 := @run_callFunc_extern Tryz.prog 153 _ (fun args => ReflectliteValue.unpack (args.getD 0 (.tuple #[]))) Tryz.func153 (by kernel_rfl) (by kernel_rfl) (by kernel_rfl) (by kernel_rfl); have x1 := @run_callFunc_extern Tryz.prog 154 _ (ReflectliteValue.methodAny (ReflectliteValue.valueError "reflectlite.Value.Type" 0) (fun t _ _ _ => ReflectliteType.toType t)) Tryz.func154 (by kernel_rfl) (by kernel_rfl) (by kernel_rfl) (by kernel_rfl); have x2 := @run_callFunc_extern Tryz.prog 155 _ (ReflectliteValue.method (ReflectliteValue.valueError "reflectlite.Value.IsNil" 0) ReflectliteValue.isNil) Tryz.func155 (by kernel_rfl) (by kernel_rfl) (by kernel_rfl) (by kernel_rfl); have x3 := @run_callFunc_extern Tryz.prog 304 _ (ReflectliteType.abiMethod fun t => do pure (.int .u8 (← Rtype.kind t))) Tryz.func304 (by kernel_rfl) (by kernel_rfl) (by kernel_rfl) (by kernel_rfl); have x4 := @run_callFunc_extern Tryz.prog 314 _ (ReflectliteType.method ReflectliteType.elem) Tryz.func314 (by kernel_rfl) (by kernel_rfl) (by kernel_rfl) (by kernel_rfl); have x5 := @run_callFunc_extern Tryz.prog 315 _ (ReflectliteType.relation "Implements" ReflectliteType.implements_) Tryz.func315 (by kernel_rfl) (by kernel_rfl) (by kernel_rfl) (by kernel_rfl); have x6 := @run_callFunc_extern Tryz.prog 207 _ ReflectliteType.typeOf Tryz.func207 (by kernel_rfl) (by kernel_rfl) (by kernel_rfl) (by kernel_rfl); have x7 := @run_callFunc_extern Tryz.prog 312 _ (ReflectliteType.relation "AssignableTo" ReflectliteType.assignableTo) Tryz.func312 (by kernel_rfl) (by kernel_rfl) (by kernel_rfl) (by kernel_rfl); have x8 := @run_callFunc_extern Tryz.prog 208 _ (ReflectliteValue.method (ReflectliteValue.valueError "reflectlite.Value.Elem" 0) ReflectliteValue.elem) Tryz.func208 (by kernel_rfl) (by kernel_rfl) (by kernel_rfl) (by kernel_rfl); have x9 := @run_callFunc_extern Tryz.prog 209 _ ReflectliteValue.set Tryz.func209 (by kernel_rfl) (by kernel_rfl) (by kernel_rfl) (by kernel_rfl); have tO := as_typeOfE; have mA := as_mAss; have a25 := as_assE; have v25 := as_valueOfE; have f6 := as_valueOfP; have f7 := as_typeP; have mK := as_mKind; have mE := as_mElem; have mI := as_mImpl; have k27 := as_kindP; have k25 := as_kindE; have e27 := as_elemP; have i25 := as_implE; have n8 := as_isNilP ⟨w.heap.size, 0, none⟩ t ((w.alloc (.cells #[.pointer (some t)] 202)).alloc (.cells #[.pointer (some (Ad 1 202)), .pointer (some (Ad w.heap.size 0)), .int .u64 150] 251)) (by simp); have hlt := hg.lt
 have hg2 : ((w.alloc (.cells #[.pointer (some t)] 202)).alloc (.cells #[.pointer (some (Ad 1 202)), .pointer (some (Ad w.heap.size 0)), .int .u64 150] 251)).cell? (Ad 0 0) = some (.iface 293 (.agg #[.pointer (some (Ad 1 51))])) := by
  rw [World.cell?_alloc_lt _ _ ⟨0, 0, none⟩ (by first | (simp; done) | (simp; omega)), World.cell?_alloc_lt _ _ ⟨0, 0, none⟩ hlt]; exact hg
 have htl : t.block < w.heap.size := World.block_lt_of_cell? w t ht0; have el := as_elemVP ⟨w.heap.size, 0, none⟩ t (((w.alloc (.cells #[.pointer (some t)] 202)).alloc (.cells #[.pointer (some (Ad 1 202)), .pointer (some (Ad w.heap.size 0)), .int .u64 150] 251)).alloc (.cells #[.pointer (some (Ad 1 202)), .pointer (some (Ad w.heap.size 0)), .int .u64 150] 251)) (by rw [World.cell?_alloc_lt _ _ ⟨w.heap.size, 0, none⟩ (by simp; omega)]; simp); have st := as_setE t ⟨w.heap.size + 1 + 1 + 1, 0, none⟩ e old ((((w.alloc (.cells #[.pointer (some t)] 202)).alloc (.cells #[.pointer (some (Ad 1 202)), .pointer (some (Ad w.heap.size 0)), .int .u64 150] 251)).alloc (.cells #[.pointer (some (Ad 1 202)), .pointer (some (Ad w.heap.size 0)), .int .u64 150] 251)).alloc (.cells #[Vi e] 44))
  (by rw [World.cell?_alloc_at _ _ _ _ (by simp)]; rfl)
  (by rw [World.cell?_alloc_lt _ _ t (by simp; omega), World.cell?_alloc_lt _ _ t (by simp; omega), World.cell?_alloc_lt _ _ t (by simp; omega), World.cell?_alloc_lt _ _ t htl]; exact ht0)
  (by rw [World.frozen?_alloc_old _ _ t (by simp; omega), World.frozen?_alloc_old _ _ t (by simp; omega), World.frozen?_alloc_old _ _ t (by simp; omega), World.frozen?_alloc_old _ _ t (Nat.ne_of_lt htl)]; exact hf0)
 go_enter Tryz.func101, Tryz.ntmps101
 go_wp2; refine wp_loop_rounds 1 ?_; rw [rounds_succ]; go_wp2; go_ret; exact ⟨rfl, rfl⟩
end Go.Proofs.YtnfdfiholcelaaaGreatDoor
namespace Go.Proofs.YtnfdfiholcelaaaGreatDoor
open Go.RowKit Plain
def fstN (e : Nat → Int) : Nat → Int
 | 0 => 0
 | n + 1 => if fstN e n = 0 then e n else fstN e n
theorem Zhy {e : Nat → Int} : ∀ {n : Nat}, (∀ j, j < n → e j = 0) → fstN e n = 0
 | 0, _ => rfl
 | n + 1, h => by
  have := Zhy (n := n) (fun j hj => h j (by omega))
  simp [fstN, this, h n (by omega)]
theorem fstN_at {e : Nat → Int} {k : Nat} (h : ∀ j, j < k → e j = 0) (hk : e k ≠ 0) : ∀ {n : Nat}, k < n → fstN e n = e k
 | 0, hn => by omega
 | n + 1, hn => by
  rcases Nat.lt_or_ge k n with h' | h'
  · have := fstN_at h hk h'; simp only [fstN, this, if_neg hk]
  · obtain rfl : k = n := by omega
    simp only [fstN, Zhy h, if_true]
theorem fstN_all {e : Nat → Int} : ∀ {n : Nat}, fstN e n = 0 → ∀ j, j < n → e j = 0
 | 0, _, j, hj => by omega
 | n + 1, h, j, hj => by
  have h0 : fstN e n = 0 := by
   unfold fstN at h
   split at h
   · assumption
   · exact h
  rcases Nat.lt_or_ge j n with h' | h'
  · exact fstN_all h0 j h'
  · obtain rfl : j = n := by omega
    simpa [fstN, h0] using h
def Clos (w : World) (a : Option Addr) (n : Nat) (g : Nat → Nat) (cb : Nat → Array Value) : Prop := n = 0 ∨ ∃ b off, a = some (Ad b off) ∧ ∀ k, k < n → w.cell? (Ad b (off + k)) = some (.func (.func (g k)) #[] (cb k))
theorem Clos.later {w w' : World} {a : Option Addr} {n : Nat} {g : Nat → Nat} {cb : Nat → Array Value} (h : Clos w a n g cb) (hb : Below w.heap.size w w') : Clos w' a n g cb := by
 rcases h with h | ⟨b, off, h, hc⟩
 · exact .inl h
 · exact .inr ⟨b, off, h, fun k hk => cell_later hb (hc k hk)⟩
theorem Clos.at {w : World} {a : Option Addr} {n : Nat} {g : Nat → Nat} {cb : Nat → Array Value} (h : Clos w a n g cb) {k : Nat} (hk : k < n) : ∃ b off, a = some (Ad b off) ∧ w.cell? (Ad b (off + k)) = some (.func (.func (g k)) #[] (cb k)) := by
 rcases h with rfl | ⟨b, off, h', hc⟩
 · omega
 · exact ⟨b, off, h', hc k hk⟩
theorem below_as {w u : World} {t : Nat} (hb : Below w.heap.size w u) (ht : w.heap.size ≤ t) (o1 o2 o3 o4 : Obj) (v : Value) : Below w.heap.size w (((((u.alloc o1).alloc o2).alloc o3).alloc o4).setCell (Ad t 0) v) :=
 ((((hb.alloc hb.size _).alloc (by have := hb.size; simp; omega) _).alloc (by have := hb.size; simp; omega) _).alloc (by have := hb.size; simp; omega) _).setCell ht _
theorem as_cell {u : World} {t : Nat} {x : Value} (h : u.cell? (Ad t 0) = some x) (o1 o2 o3 o4 : Obj) (v : Value) : (((((u.alloc o1).alloc o2).alloc o3).alloc o4).setCell (Ad t 0) v).cell? (Ad t 0) = some v := by
 have h1 := cell_later (Zaa _ o4) (cell_later (Zaa _ o3) (cell_later (Zaa _ o2) (cell_later (Zaa u o1) h))); exact World.cell?_setCell_same' _ _ _ (by rw [h1]; rfl)
theorem as_box (e : Int) (w0 : World) (B : Nat) (w : World) (hg : GV w) (hx : w.cell? (Ad B 0) = some (Vi 0) ∧ w.frozen? (Ad B 0) = false) (hb : Below w0.heap.size w0 w) (hB : w0.heap.size ≤ B) :
 Calls Tryz.prog 101 #[.iface 44 (Vi e), .iface 202 (.pointer (some (Ad B 0)))] w fun ev w' => ev = .returned (.bool true) ∧ w'.cell? (Ad B 0) = some (Vi e) ∧ Below w0.heap.size w0 w' :=
 (as_hit e ⟨B, 0, none⟩ (Vi 0) w hg hx.1 hx.2).mono fun _ _ h => ⟨h.1, by rw [h.2]; exact as_cell hx.1 _ _ _ _ _, by rw [h.2]; exact below_as hb hB _ _ _ _ _⟩
theorem Zgw (a : Option Addr) (n cap : Nat) (g : Nat → Nat) (cb : Nat → Array Value) (e : Nat → Int) (hn : n ≤ 1000) (w : World) (hc : Clos w a n g cb) (hg : GV w)
 (hent : ∀ k, k < n → ∀ args w, (callFunc (g k) args).run Tryz.prog w = .ok (.enter (g k) args) w)
 (hcall : ∀ k, k < n → (∀ j, j < k → e j = 0) → ∀ u, Below w.heap.size w u → Calls Tryz.prog (g k) (cb k) u fun r u' => r = .returned (errV (e k)) ∧ Below u.heap.size u u') :
 Calls Tryz.prog 57 #[.slice a n cap] w fun r w' => r = .returned (errV (fstN e n)) ∧ Below w.heap.size w w' := by
 have HC := Zab hc; have HG := Zab hg; have HK := Zab hcall; have HE := Zab hent; clear hc hg hcall hent
 go_enter Tryz.func57, Tryz.ntmps57
 go_wp2
 go_loopw [8] (fun i wr => ∃ k : Nat, k ≤ n ∧ i = Vi k ∧ Hid (∀ j, j < k → e j = 0) ∧ Below w.heap.size w wr) (fun i _ => n - (intOf i).toNat)
 case atStart => exact ⟨0, Nat.zero_le _, rfl, Zab (fun j hj => absurd hj (by omega)), Below.refl _ _⟩
 case round =>
  obtain ⟨k, hk, rfl, HZ, hb⟩ := hrel; have HB := Zab hb
  by_cases hlt : k < n
  · obtain ⟨b, off, rfl, hcell⟩ := (HC.out.later hb).at hlt; have hen := HE.out k hlt; have hB1 := Zac hb (Zaa wr (.cells #[Vi 0] 44)); have hca := HK.out k hlt HZ.out _ hB1; have HZ1 := Zab (fun h => (fun j hj => by rcases Nat.lt_or_ge j k with h' | h'; exact HZ.out j h'; rw [show j = k by omega]; exact h : ∀ j, j < k + 1 → e j = 0)); have HF := Zab (fun h => fstN_at HZ.out h hlt); have HB1 := Zab hB1; have HX : Hid ((wr.alloc (.cells #[Vi 0] 44)).cell? (Ad wr.heap.size 0) = some (Vi 0) ∧ (wr.alloc (.cells #[Vi 0] 44)).frozen? (Ad wr.heap.size 0) = false ∧ wr.heap.size < (wr.alloc (.cells #[Vi 0] 44)).heap.size) := Zab ⟨by simp [go_sem], by simp [go_sem], by simp⟩; clear hb hB1 HZ; generalize g k = gk at *; generalize cb k = ck at *
    by_cases hz : e k = 0
    · rw [hz, Zaq] at hca; have HZ2 := Zab (HZ1.out hz); clear hz HZ1 HF HX
      go_wp2_with (first
       | (go_at_fn gk; refine hca.mono ?_; rintro r w1 ⟨rfl, hb1⟩; have HB2 := Zab (Zac HB1.out hb1); clear hb1)
       | (go_at_call 101; refine (as_nil _ _).mono ?_; rintro r w2 ⟨rfl, rfl⟩))
      go_roundw
      case rel => exact ⟨k + 1, by omega, by go_num, HZ2, HB2.out⟩
      case measure => simp [intOf]; omega
    · rw [Zbe hz] at hca; have HF2 : Hid (errV (fstN e n) = .iface 44 (Vi (e k))) := Zab (by rw [HF.out hz, Zbe hz]); have HBL := Zab HB.out.size; clear hz HZ1 HF; generalize e k = ek at *
      go_wp2_with (first
       | (go_at_fn gk; refine hca.mono ?_; rintro r w1 ⟨rfl, hb1⟩; have HB2 := Zab (Zac HB1.out hb1); have HG1 := Zab (HG.out.later HB2.out); have HX1 : Hid (w1.cell? (Ad wr.heap.size 0) = some (Vi 0) ∧ w1.frozen? (Ad wr.heap.size 0) = false) := Zab ⟨cell_later hb1 HX.out.1, (hb1.frozen (p := ⟨wr.heap.size, 0, none⟩) HX.out.2.2).trans HX.out.2.1⟩; clear hb1 hca)
       | (go_at_call 101; refine (as_box ek w wr.heap.size w1 HG1.out HX1.out HB2.out HBL.out).mono ?_; rintro r w2 ⟨rfl, hc2, hb3⟩; have HB3 := Zab hb3; clear hb3))
      go_ret; exact ⟨by rw [HF2.out]; rfl, HB3.out⟩
  · obtain rfl : k = n := by omega
    have HF := Zab (Zhy HZ.out); clear hb; go_wp2; go_ret; exact ⟨by rw [HF.out, Zaq]; rfl, HB.out⟩
end Go.Proofs.YtnfdfiholcelaaaGreatDoor
namespace Go.Proofs.YtnfdfiholcelaaaGreatDoor.Plain
def bk (R f : Int) : Int := if _h : 0 < f ∧ 0 < R then f + bk R (f - R) else 0
termination_by f.toNat
decreasing_by omega
theorem bk_pos {R f : Int} (hR : 0 < R) (hf : 0 < f) : bk R f = f + bk R (f - R) := by
 rw [bk, dif_pos ⟨hf, hR⟩]
theorem Zga {R f : Int} (hf : f ≤ 0) : bk R f = 0 := by
 rw [bk, dif_neg (by omega)]
theorem Zca (R f : Int) : 0 ≤ bk R f := by
 rw [bk]
 split
 · rename_i h
   have := Zca R (f - R)
   omega
 · exact Int.le_refl _
termination_by f.toNat
decreasing_by omega
theorem Zfd {R f g : Int} (hR : 0 < R) (h : f ≤ g) : bk R f ≤ bk R g := by
 by_cases hf : 0 < f
 · rw [bk_pos hR hf, bk_pos (f := g) hR (by omega)]; have := Zfd (R := R) (f := f - R) (g := g - R) hR (by omega)
   omega
 · rw [Zga (by omega)]; exact Zca R g
termination_by f.toNat
decreasing_by omega
theorem bk_le {R f : Int} (hR : 0 < R) (hf : 0 < f) : bk R f ≤ f * f := by
 rw [bk_pos hR hf]
 by_cases h : 0 < f - R
 · have i := bk_le (R := R) (f := f - R) hR h; have h1 : (f - R) * (f - R) ≤ (f - 1) * (f - 1) := Int.mul_le_mul (by omega) (by omega) (by omega) (by omega)
   have h2 : (f - 1) * (f - 1) = f * f - f - f + 1 := by rw [Int.sub_mul, Int.mul_sub]; omega
   omega
 · rw [Zga (by omega)]; have : f * 1 ≤ f * f := Int.mul_le_mul_of_nonneg_left (by omega) (by omega)
   omega
termination_by f.toNat
decreasing_by omega
theorem bk_lt {R f : Int} (hR : 0 < R) (h : f ≤ 6000) : bk R f ≤ 36000000 := by
 have h0 := Zfd hR h; have h1 := bk_le (R := R) (f := 6000) hR (by omega)
 omega
theorem bk_twice {R f : Int} (hR : 0 < R) (hf : 0 < f) : 2 * bk R f = ((f - 1) / R + 1) * (f + (f - ((f - 1) / R) * R)) := by
 rw [bk_pos hR hf]
 by_cases h : 0 < f - R
 · have i := bk_twice (R := R) (f := f - R) hR h
   have e : (f - 1) / R = (f - R - 1) / R + 1 := by
    rw [show f - 1 = (f - R - 1) + R by omega, Int.add_ediv_of_dvd_right (Int.dvd_refl R), Int.ediv_self (by omega)]
   rw [Int.mul_add, i, e]; generalize (f - R - 1) / R = k
   have e1 : (k + 1) * R = k * R + R := by rw [Int.add_mul]; omega
   rw [e1]; generalize hq : k * R = q
   have e2 : (k + 1) * (f - R + (f - R - q)) = (k + 1) * (f + (f - (q + R))) - (k + 1) * R := by
    rw [← Int.mul_sub]; congr 1; omega
   have e3 : (k + 1 + 1) * (f + (f - (q + R))) = (k + 1) * (f + (f - (q + R))) + (f + (f - (q + R))) := by
    rw [Int.add_mul (k + 1) 1, Int.one_mul]
   rw [e2, e3, e1, hq]
   omega
 · rw [Zga (by omega), Int.ediv_eq_zero_of_lt (by omega) (by omega)]
   omega
termination_by f.toNat
decreasing_by omega
theorem bk_half {R f : Int} (hR : 0 < R) (hf : 0 < f) : ((f - 1) / R + 1) * (f + (f - ((f - 1) / R) * R)) / 2 = bk R f := by
 rw [← bk_twice hR hf]; omega
def IsHi (R p lo hi room h : Int) : Prop := lo ≤ h ∧ h ≤ hi ∧ (h = lo ∨ bk R (h + p) ≤ room) ∧ ∀ s, h < s → s ≤ hi → room < bk R (s + p)
theorem IsHi.only {R p lo hi room h k : Int} (H : IsHi R p lo hi room h) (K : IsHi R p lo hi room k) : h = k := by
 obtain ⟨a1, a2, a3, a4⟩ := H; obtain ⟨b1, b2, b3, b4⟩ := K
 rcases Int.lt_trichotomy h k with c | c | c
 · have := a4 k c b2
   omega
 · exact c
 · have := b4 h c a2
   omega
def grB (L H N P M R : Int) : Bool := decide (-100000 ≤ L) && decide (L ≤ 100000) && (decide (-100000 ≤ H) && decide (H ≤ 100000)) && (decide (0 ≤ N) && decide (N ≤ 1000)) && (decide (0 ≤ P) && decide (P ≤ 2000)) && (decide (1 ≤ M) && decide (M ≤ 4000)) && (decide (1 ≤ R) && decide (R ≤ M))
def gfB (L H N P M R : Int) : Bool := decide (P ≤ M) && decide (P ≤ R) && decide (2 * (N + bk R (M + P)) ≤ H - L)
def grE (L H N P M R : Int) : Int := if grB L H N P M R then (if gfB L H N P M R then 0 else 3) else 1
structure GR (L H N P M R : Int) : Prop where
 l0 : -100000 ≤ L
 l1 : L ≤ 100000
 h0 : -100000 ≤ H
 h1 : H ≤ 100000
 n0 : 0 ≤ N
 n1 : N ≤ 1000
 p0 : 0 ≤ P
 p1 : P ≤ 2000
 m0 : 1 ≤ M
 m1 : M ≤ 4000
 r0 : 1 ≤ R
 r1 : R ≤ M
theorem grB_true {L H N P M R : Int} (h : grB L H N P M R = true) : GR L H N P M R := by
 simp only [grB, Bool.and_eq_true, decide_eq_true_eq] at h
 constructor <;> omega
structure GOK (L H N P M R : Int) : Prop extends GR L H N P M R where
 pm : P ≤ M
 pr : P ≤ R
 room : 2 * (N + bk R (M + P)) ≤ H - L
theorem grE_ok {L H N P M R : Int} (h : grE L H N P M R = 0) : GOK L H N P M R := by
 unfold grE at h
 by_cases h1 : grB L H N P M R = true
 · rw [if_pos h1] at h
   by_cases h2 : gfB L H N P M R = true
   · have a := grB_true h1; simp only [gfB, Bool.and_eq_true, decide_eq_true_eq] at h2; exact ⟨a, h2.1.1, h2.1.2, h2.2⟩
   · rw [if_neg h2] at h; cases h
 · rw [if_neg h1] at h; cases h
theorem no_cross {L H N P M R lo hi y a b : Int} (g : GOK L H N P M R) (hl : -M ≤ lo) (hh : hi ≤ M)
 (A : IsHi R P (-hi) (-lo) (y - N - L) a) (B : IsHi R P lo hi (H - N - y) b) : -a ≤ b := by
 obtain ⟨a1, a2, a3, a4⟩ := A; obtain ⟨b1, b2, b3, b4⟩ := B; have := g.room
 rcases Int.lt_or_le b (-a) with c | c
 · have u := a4 (a + 1) (by omega) (by omega); have v := b4 (b + 1) (by omega) (by omega); have m1 := Zfd (R := R) (f := a + 1 + P) (g := M + P) (by have := g.r0; omega) (by omega); have m2 := Zfd (R := R) (f := b + 1 + P) (g := M + P) (by have := g.r0; omega) (by omega)
   omega
 · exact c
theorem one_side {H N P M R x y u s lo hi b q : Int} (hR : 1 ≤ R) (hPM : P ≤ M) (hlo : lo = -M ∨ lo = q - R)
 (hx : x ≤ H) (hq : x + bk R (q - R + P) ≤ H) (hy : x - N ≤ y) (B : IsHi R P lo hi (H - N - y) b) (hs : s ≤ b) (hl : lo ≤ s) (hu : u ≤ P) :
 x + s + u ≤ H ∧ x + s + u + bk R (s - R + P) ≤ H := by
 obtain ⟨b1, b2, b3, b4⟩ := B
 have key : x + bk R (s + P) ≤ H ∨ s + P ≤ 0 := by
  rcases b3 with c | c
  · have : s = lo := by omega
    rcases hlo with d | d
    · right; omega
    · left; rw [this, d]; exact hq
  · left
    have := Zfd (R := R) (f := s + P) (g := b + P) (by omega) (by omega)
    omega
 have n := Zca R (s - R + P)
 by_cases h : s + P ≤ 0
 · rw [Zga (f := s - R + P) (by omega)]
   omega
 · have k : x + bk R (s + P) ≤ H := by omega
   rw [bk_pos (by omega) (by omega), show s + P - R = s - R + P by omega] at k
   omega
structure Kept (L H P M R x q : Int) : Prop where
 lo : L ≤ x
 hi : x ≤ H
 q0 : -M ≤ q
 q1 : q ≤ M
 up : x + bk R (q - R + P) ≤ H
 dn : -x + bk R (-q - R + P) ≤ -L
theorem Kept.start {L H N P M R x : Int} (g : GOK L H N P M R) (h0 : L ≤ x) (h1 : x ≤ H) : Kept L H P M R x 0 := by
 have := g.m0; have := g.pr; refine ⟨h0, h1, by omega, by omega, ?_, ?_⟩
 · rw [Zga (by omega)]; omega
 · rw [Zga (by omega)]; omega
def Zdl (M R q : Int) : Int := if q - R ≤ -M then -M else q - R
def Zdm (M R q : Int) : Int := if M ≤ q + R then M else q + R
theorem canLo_or (M R q : Int) : Zdl M R q = -M ∨ Zdl M R q = q - R := by unfold Zdl; split <;> simp
theorem canHi_or (M R q : Int) : -Zdm M R q = -M ∨ -Zdm M R q = -q - R := by unfold Zdm; split <;> omega
theorem can_le {M R q : Int} (hR : 1 ≤ R) (hM : 1 ≤ M) (h0 : -M ≤ q) (h1 : q ≤ M) : Zdl M R q ≤ Zdm M R q ∧ -M ≤ Zdl M R q ∧ Zdm M R q ≤ M ∧ q - R ≤ Zdl M R q ∧ Zdm M R q ≤ q + R := by
 unfold Zdl Zdm; split <;> split <;> omega
def clp (x lo hi : Int) : Int := if hi < (if x < lo then lo else x) then hi else (if x < lo then lo else x)
theorem clp_in {x lo hi : Int} (h : lo ≤ hi) : lo ≤ clp x lo hi ∧ clp x lo hi ≤ hi := by unfold clp; split <;> split <;> omega
theorem Kept.step {L H N P M R x q off u a b wt : Int} (g : GOK L H N P M R) (k : Kept L H P M R x q) (ho : -N ≤ off) (ho' : off ≤ N) (hu : -P ≤ u) (hu' : u ≤ P)
 (A : IsHi R P (-Zdm M R q) (-Zdl M R q) (x + off - N - L) a) (B : IsHi R P (Zdl M R q) (Zdm M R q) (H - N - (x + off)) b) :
 Kept L H P M R (x + clp wt (-a) b + u) (clp wt (-a) b) ∧ -R ≤ clp wt (-a) b - q ∧ clp wt (-a) b - q ≤ R := by
 have c := can_le g.r0 g.m0 k.q0 k.q1; have x1 := no_cross g c.2.1 c.2.2.1 A B; have s := clp_in (x := wt) x1; generalize clp wt (-a) b = s0 at s; have U := one_side (u := u) (s := s0) g.r0 g.pm (canLo_or M R q) k.hi k.up (by omega) B s.2 (by have := A.2.1; omega) hu'; have D := one_side (H := -L) (N := N) (x := -x) (y := -(x + off)) (u := -u) (s := -s0) (q := -q) g.r0 g.pm (canHi_or M R q) (by have := k.lo; omega) k.dn (by omega)
  (by rw [show -L - N - -(x + off) = x + off - N - L by omega]; exact A) (by omega) (by have := B.2.1; omega) (by omega)
 have a2 := A.2.1; have b2 := B.2.1; refine ⟨⟨by omega, U.1, by omega, by omega, U.2, by omega⟩, by omega, by omega⟩
theorem isHi_count {R p lo hi room : Int} {n : Nat} (hR : 1 ≤ R) (hn : hi - lo + 1 = (n : Int)) (h : lo ≤ hi) :
 IsHi R p lo hi room (lo + (if ((List.range n).countP (fun i : Nat => decide (bk R (lo + (i : Int) + p) ≤ room)) : Int) - 1 ≤ 0 then 0 else ((List.range n).countP (fun i : Nat => decide (bk R (lo + (i : Int) + p) ≤ room)) : Int) - 1)) := by
 have key : ∀ m : Nat, ∃ c : Nat, (List.range m).countP (fun i : Nat => decide (bk R (lo + (i : Int) + p) ≤ room)) = c ∧ c ≤ m ∧ (∀ i, i < c → bk R (lo + (i : Int) + p) ≤ room) ∧ (∀ i, c ≤ i → i < m → room < bk R (lo + (i : Int) + p)) := by
  intro m
  induction m with
  | zero => exact ⟨0, rfl, Nat.le_refl _, fun i hi => absurd hi (Nat.not_lt_zero _), fun i _ h2 => absurd h2 (Nat.not_lt_zero _)⟩
  | succ m ih =>
   obtain ⟨c, e, cm, f, t⟩ := ih; rw [List.range_succ, List.countP_append, e]
   by_cases hb : bk R (lo + (m : Int) + p) ≤ room
   · have all : ∀ i, i < m + 1 → bk R (lo + (i : Int) + p) ≤ room := by
      intro i hi; have := Zfd (R := R) (f := lo + (i : Int) + p) (g := lo + (m : Int) + p) (by omega) (by omega)
      omega
     have hc : c = m := by
      rcases Nat.lt_or_ge c m with d | d
      · have := t c (Nat.le_refl _) d; have := all c (by omega)
        omega
      · omega
     subst hc; refine ⟨c + 1, by simp [hb], Nat.le_refl _, all, fun i h1 h2 => by omega⟩
   · refine ⟨c, by simp [hb], by omega, f, fun i h1 h2 => ?_⟩
     by_cases hi : i < m
     · exact t i h1 hi
     · have : i = m := by omega
       subst this; omega
 obtain ⟨c, e, cm, f, t⟩ := key n; rw [e]
 have up : ∀ s, lo + (c : Int) ≤ s → s ≤ hi → room < bk R (s + p) := by
  intro s h1 h2; have := t (s - lo).toNat (by omega) (by omega); rw [show lo + ((s - lo).toNat : Int) + p = s + p by omega] at this; exact this
 by_cases hc : c = 0
 · subst hc; rw [if_pos (by omega)]; exact ⟨by omega, by omega, Or.inl (by omega), fun s h1 h2 => up s (by omega) h2⟩
 · have q : (if (c : Int) - 1 ≤ 0 then (0 : Int) else (c : Int) - 1) = (c : Int) - 1 := by split <;> omega
   rw [q]; refine ⟨by omega, by omega, Or.inr ?_, fun s h1 h2 => up s (by omega) h2⟩; have := f (c - 1) (by omega); rw [show lo + ((c - 1 : Nat) : Int) + p = lo + ((c : Int) - 1) + p by omega] at this; exact this
end Go.Proofs.YtnfdfiholcelaaaGreatDoor.Plain
namespace Go.Proofs.YtnfdfiholcelaaaGreatDoor
open Go.RowKit Plain
theorem Zas {x : Int} (h0 : -9223372036854775808 ≤ x) (h1 : x ≤ 9223372036854775807) : IntKind.i64.wrap x = x := by
 rw [IntKind.wrap_i64]; omega
theorem refBrake_ex (L H N P M R s : Int) (p0 : 0 ≤ P) (p1 : P ≤ 2000) (r0 : 1 ≤ R) (r1 : R ≤ 4000) (s0 : -4000 ≤ s) (s1 : s ≤ 4000) (w : World) :
 Calls Tryz.prog 39 #[.agg #[Vi L, Vi H, Vi N, Vi P, Vi M, Vi R], Vi s] w fun e w' => e = .returned (Vi (bk R (s + P))) ∧ w' = w.alloc (.cells #[Vi L, Vi H, Vi N, Vi P, Vi M, Vi R] 99) := by
 have hm : Hid (bk R (s + P) ≤ 36000000) := bk_lt (by omega) (by omega); obtain ⟨tot, ht⟩ : ∃ t, Hid (bk R (s + P) = t) := ⟨_, rfl⟩; rw [ht.out] at hm ⊢
 go_enter Tryz.func39, Tryz.ntmps39
 go_wp2
 go_loop [1, 5] (fun u v => ∃ t n : Int, u = Vi t ∧ v = Vi n ∧ t ≤ s ∧ -8000 ≤ t ∧ 0 ≤ n ∧ n + bk R (t + P) = tot) (fun u _ => (intOf u + 8000).toNat)
 case atStart => exact ⟨s, 0, rfl, rfl, by omega, by omega, by omega, by rw [ht.out]; omega⟩
 case round =>
  obtain ⟨t, n, rfl, rfl, t0, t1, n0, hn0⟩ := hrel; have hn : Hid (n + bk R (t + P) = tot) := hn0; clear hn0
  have hn1 : n ≤ 36000000 := by have := Zca R (t + P); have := hn.out; have := hm.out; omega
  by_cases hgo : 0 < t + P
  · have hk : Hid (n + t + P + bk R (t - R + P) = tot) := by
     have e := bk_pos (R := R) (f := t + P) (by omega) hgo; rw [show t + P - R = t - R + P by omega] at e; have := hn.out
     show _ = _
     omega
    go_wp2
    go_round
    case rel => exact ⟨t - R, n + t + P, rfl, rfl, by omega, by omega, by omega, hk.out⟩
    case measure => simp [intOf]; omega
  · have hk : Hid (n = tot) := by
     have e := Zga (R := R) (f := t + P) (by omega); have := hn.out
     show _ = _
     omega
    go_wp2; go_ret; exact ⟨by rw [hk.out]; rfl, rfl⟩
theorem brake_ex (L H N P M R s : Int) (p0 : 0 ≤ P) (p1 : P ≤ 2000) (r0 : 1 ≤ R) (r1 : R ≤ 4000) (s0 : -4000 ≤ s) (s1 : s ≤ 4000) (w : World) :
 Calls Tryz.prog 227 #[.agg #[Vi L, Vi H, Vi N, Vi P, Vi M, Vi R], Vi s] w fun e w' => e = .returned (Vi (bk R (s + P))) ∧ w' = w.alloc (.cells #[Vi L, Vi H, Vi N, Vi P, Vi M, Vi R] 99) := by
 by_cases hgo : s + P ≤ 0
 · rw [Zga hgo]
   go_enter Tryz.func227, Tryz.ntmps227
   go_wp2; go_ret; exact ⟨rfl, rfl⟩
 · have hR : (R == 0) = false := by simp; omega
   have hk := bk_half (R := R) (f := s + P) (by omega) (by omega); rw [← Int.tdiv_eq_ediv_of_nonneg (a := s + P - 1) (by omega)] at hk; have q0 : 0 ≤ (s + P - 1).tdiv R := Int.tdiv_nonneg (by omega) (by omega)
   have q1 : (s + P - 1).tdiv R ≤ 6000 := by
    rw [Int.tdiv_eq_ediv_of_nonneg (by omega)]; have := Int.ediv_le_self (a := s + P - 1) R (by omega)
    omega
   have q2 : (s + P - 1).tdiv R * R ≤ s + P - 1 := by
    rw [Int.tdiv_eq_ediv_of_nonneg (by omega)]; exact Int.ediv_mul_le _ (by omega)
   generalize hkk : (s + P - 1).tdiv R = k at *; have q3 : 0 ≤ k * R := Int.mul_nonneg q0 (by omega)
   have q4 : k + 1 - 1 = k := by omega
   have v1 : IntKind.i64.wrap (k * R) = k * R := Zas (by omega) (by omega); have q5 : 0 ≤ (k + 1) * (s + P + (s + P - k * R)) := Int.mul_nonneg (by omega) (by omega); have q6 : (k + 1) * (s + P + (s + P - k * R)) ≤ 6001 * 12000 := Int.mul_le_mul (by omega) (by omega) (by omega) (by omega); have v2 : IntKind.i64.wrap ((k + 1) * (s + P + (s + P - k * R))) = (k + 1) * (s + P + (s + P - k * R)) := Zas (by omega) (by omega)
   have HK : Hid (((k + 1) * (s + P + (s + P - k * R))).tdiv 2 = bk R (s + P)) := by
    show _ = _
    rw [Int.tdiv_eq_ediv_of_nonneg q5]; exact hk
   have w2 : ((k + 1) * (s + P + (s + P - k * R))).tdiv 2 ≤ 100000000 ∧ 0 ≤ ((k + 1) * (s + P + (s + P - k * R))).tdiv 2 := by
    rw [Int.tdiv_eq_ediv_of_nonneg q5]; omega
   obtain ⟨w20, w21⟩ := w2; clear hk q4
   go_enter Tryz.func227, Tryz.ntmps227
   go_wp2; go_ret; exact ⟨by rw [← HK.out]; rfl, rfl⟩
end Go.Proofs.YtnfdfiholcelaaaGreatDoor
