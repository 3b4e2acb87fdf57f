import Derived.Deep.AppendLies
import Derived.Deep.AppendSrc
import Derived.Test.YtnfdfiholcelaaaGreatDoorJe00
import Derived.Test.YtnfdfiholcelaaaGreatDoorJe05
import Derived.Test.YtnfdfiholcelaaaGreatDoorJe11
import Derived.Test.YtnfdfiholcelaaaGreatDoorJe12
import Derived.Test.YtnfdfiholcelaaaGreatDoorJe16
import Derived.Test.YtnfdfiholcelaaaGreatDoorJe18
import Derived.Test.YtnfdfiholcelaaaGreatDoorJe23
import Derived.Test.YtnfdfiholcelaaaGreatDoorJe26
set_option maxRecDepth 100000
set_option maxHeartbeats 20000000
namespace Go.Proofs.YtnfdfiholcelaaaGreatDoor
open Go.RowKit Plain Tryz
theorem rds_one {w : World} {g : Nat} {r : Rd} (h0 : w.cell? (Ad g 0) = some (Vi r.1)) (h1 : w.cell? (Ad g 1) = some (Vi r.2.1)) (h2 : w.cell? (Ad g 2) = some (Vi r.2.2.1)) (h3 : w.cell? (Ad g 3) = some (Vi r.2.2.2)) : Rds w (some (Ad g 0)) [r] :=
 .inr ⟨g, rfl, fun k hk => by
  obtain rfl : k = 0 := by simpa using hk
  exact ⟨h0, h1, h2, h3⟩⟩
theorem Zhg {t fn : Nat} {v : Value} {a b c d x y z q : Int} (hta : ∀ w, Sem.run prog (Instr.typeAssert (.iface t v) 325 350 true) w = .ok (.tuple #[.agg #[], .bool false]) w) (hm : ∀ w, Sem.run prog (method 521 t v "fulmar/plant.spoil") w = .ok (fn, v) w)
 (hcf : ∀ z w, Sem.run prog (callFunc fn #[v, z]) w = .ok (.enter fn #[v, z]) w)
 (hs : ∀ w, Calls prog fn #[v, .agg #[Vi a, Vi b, Vi c, Vi d]] w fun e w' => e = .returned (.agg #[Vi x, Vi y, Vi z, Vi q]) ∧ Below w.heap.size w w') (w : World) :
 Calls prog 230 #[.iface t v, .agg #[Vi a, Vi b, Vi c, Vi d]] w fun e w' => (∃ p cap, e = .returned (.slice p 1 cap) ∧ Rds w' p [(x, y, z, q)]) ∧ Below w.heap.size w w' := by
 go_enter func230, ntmps230
 go_wp2_with (refine Sb (hs _) fun w2 hb => ?_; have HB := Zab (Zac (Zac (Zaa w _) (Zaa _ _)) hb); clear hb); go_ret
 refine ⟨⟨_, _, rfl, rds_one ?_ ?_ ?_ ?_⟩, Zac HB.out (Zaa _ _)⟩ <;> simp [go_sem]
theorem send_none (r : Rd) (w : World) : Calls prog 230 #[.iface 350 (.agg #[]), .agg (rdL r).toArray] w fun e w' => (∃ p cap, e = .returned (.slice p 0 cap) ∧ Rds w' p []) ∧ Below w.heap.size w w' := by
 have hta : ∀ w, Sem.run prog (Instr.typeAssert (.iface 350 (.agg #[])) 325 350 true) w = .ok (.tuple #[.agg #[], .bool true]) w := fun w => by kernel_rfl
 unfold rdL
 go_enter func230, ntmps230
 go_wp2; go_ret; exact ⟨⟨_, _, rfl, .inl rfl⟩, Zac (Zaa _ _) (Zaa _ _)⟩
theorem send_any (o : Option Ft) (r : Rd) (hd : -262144 ≤ r.2.2.2 ∧ r.2.2.2 ≤ 262143) (w : World) : Calls prog 230 #[aiV o, .agg (rdL r).toArray] w fun e w' => (∃ p cap, e = .returned (.slice p (sdL o r).length cap) ∧ Rds w' p (sdL o r)) ∧ Below w.heap.size w w' := by
 obtain ⟨a, b, c, d⟩ := r
 cases o with
 | none => exact Zhg (fun w => by kernel_rfl) (fun w => by kernel_rfl) (fun z w => by kernel_rfl) (well_spoil a b c d) w
 | some f =>
  obtain ⟨f0, k, f2, f3, i⟩ := f
  unfold aiV sdL
  dsimp only
  by_cases h0 : k = 0
  · rw [if_pos h0, if_pos h0]; exact send_none _ w
  rw [if_neg h0, if_neg h0]
  unfold spo
  dsimp only
  by_cases h1 : k = 1
  · rw [if_pos h1, if_pos h1]; exact Zhg (fun w => by kernel_rfl) (fun w => by kernel_rfl) (fun z w => by kernel_rfl) (stuck_spoil (cD i) a b c d) w
  rw [if_neg h1, if_neg h1]
  by_cases h2 : k = 2
  · rw [if_pos h2, if_pos h2]; exact Zhg (fun w => by kernel_rfl) (fun w => by kernel_rfl) (fun z w => by kernel_rfl) (shift_spoil (cD i) (Zbr (by omega)) a b c d hd) w
  rw [if_neg h2, if_neg h2]
  by_cases h3 : k = 3
  · rw [if_pos h3, if_pos h3]; exact Zhg (fun w => by kernel_rfl) (fun w => by kernel_rfl) (fun z w => by kernel_rfl) (mark_spoil a b c d) w
  rw [if_neg h3, if_neg h3]; exact Zhg (fun w => by kernel_rfl) (fun w => by kernel_rfl) (fun z w => by kernel_rfl) (well_spoil a b c d) w
theorem Zak {ops : Array Oper} {o : Oper} {j t : Nat} {b : Bool} {tm : Array Value} (ht : tm[t]? = some (.bool b)) (hg : o.guard = some (j, b) := by rfl) (hj : (ops[j]?).bind (·.dst) = some t := by rfl) : Region.wanted o (yielded ops tm) = true := by
 unfold Region.wanted yielded
 simp [hg, hj, ht]
theorem Zbb {ops : Array Oper} {o : Oper} {j t : Nat} {b : Bool} {tm : Array Value} (ht : tm[t]? = some (.bool (!b))) (hg : o.guard = some (j, b) := by rfl) (hj : (ops[j]?).bind (·.dst) = some t := by rfl) : Region.wanted o (yielded ops tm) = false := by
 unfold Region.wanted yielded
 simp [hg, hj, ht]
theorem ite3 {a b c : Prop} [Decidable a] [Decidable b] [Decidable c] {R : Type} (f : Bool → R) : (if a then if b then if c then f true else f false else f false else f false) = f (decide a && (decide b && decide c)) := by
 by_cases ha : a <;> by_cases hb : b <;> by_cases hc : c <;> simp [ha, hb, hc]
def Fts (u : World) (a : Option Addr) (l : List Ft) : Prop := l = [] ∨ ∃ b off, a = some (Ad b off) ∧ ∀ k, k < l.length → u.rangeAt b (off + k * 5) (ftL (ftAt l k))
theorem Fts.later {u u' : World} {a : Option Addr} {l : List Ft} (h : Fts u a l) (hb : Below u.heap.size u u') : Fts u' a l := by
 rcases h with h | ⟨b, off, h, hc⟩
 · exact .inl h
 · exact .inr ⟨b, off, h, fun k hk j v hj => cell_later hb (hc k hk j v hj)⟩
theorem Fts.at {u : World} {a : Option Addr} {l : List Ft} (h : Fts u a l) {k : Nat} (hk : k < l.length) : ∃ b off, a = some (Ad b off) ∧ u.rangeAt b (off + k * 5) (ftL (ftAt l k)) := by
 rcases h with h | ⟨b, off, h, hc⟩
 · subst h; simp at hk
 · exact ⟨b, off, h, hc k hk⟩
theorem infoF5 : (prog.info? 73).map (·.size) = some 5 := by kernel_rfl
theorem infoP3 : (prog.info? 329).map (·.size) = some 3 := by kernel_rfl
theorem blk_2of3 (w : World) (t : TypeId) (cs : List Value) (o o1 : Obj) : Blk t (((w.alloc o).alloc (.cells cs.toArray t)).alloc o1) (w.heap.size + 1) cs := by
 have := (Blk.new (w.alloc o) t cs).later (Zaa _ o1); rw [World.size_alloc] at this; exact this
theorem blk_1of3 (w : World) (t : TypeId) (cs : List Value) (o o1 : Obj) : Blk t (((w.alloc (.cells cs.toArray t)).alloc o).alloc o1) w.heap.size cs := ((Blk.new w t cs).later (Zaa _ _)).later (Zaa _ _)
theorem blk_3of3 (w : World) (t : TypeId) (cs : List Value) (o o1 : Obj) : Blk t (((w.alloc o).alloc o1).alloc (.cells cs.toArray t)) (w.heap.size + 1 + 1) cs := by
 have := Blk.new ((w.alloc o).alloc o1) t cs; rw [World.size_alloc, World.size_alloc] at this; exact this
theorem fault_any (B : Nat) (pf : Option Addr) (cf : Nat) (l : List Ft) (now ax un : Int) (sf : Bool) (hl : l.length ≤ 1000) (w : World) (h1 : w.cell? (Ad B 32) = some (.slice pf l.length cf)) (h2 : w.cell? (Ad B 63) = some (Vi now)) (hf : Fts w pf l) :
 Calls prog 232 #[.pointer (some (Ad B 0)), .agg #[Vi ax, Vi un, .bool sf]] w fun e w' => e = .returned (.tuple #[.agg (ftL ((ail l now ax un sf).getD ftD)).toArray, .bool (ail l now ax un sf).isSome]) ∧ Below w.heap.size w w' := by
 have HF := Zab (fun u (h : Below w.heap.size w u) => hf.later h); have H1 := Zab (fun u (h : Below w.heap.size w u) => cell_later h h1); have H2 := Zab (fun u (h : Below w.heap.size w u) => cell_later h h2); have HB := Zab (Zcs w (.cells #[Vi ax, Vi un, .bool sf] 329) (.cells #[Vi 0, Vi 0, Vi 0, Vi 0, Vi 0] 73) (.cells #[Vi 0, Vi 0, Vi 0, Vi 0, Vi 0] 73)); have HP := Zab (blk_1of3 w 329 [Vi ax, Vi un, .bool sf] (.cells #[Vi 0, Vi 0, Vi 0, Vi 0, Vi 0] 73) (.cells #[Vi 0, Vi 0, Vi 0, Vi 0, Vi 0] 73)); have HL := Zab (blk_3of3 w 73 [Vi 0, Vi 0, Vi 0, Vi 0, Vi 0] (.cells #[Vi ax, Vi un, .bool sf] 329) (.cells #[Vi 0, Vi 0, Vi 0, Vi 0, Vi 0] 73)); have HR := Zab (blk_2of3 w 73 [Vi 0, Vi 0, Vi 0, Vi 0, Vi 0] (.cells #[Vi ax, Vi un, .bool sf] 329) (.cells #[Vi 0, Vi 0, Vi 0, Vi 0, Vi 0] 73)); have HQ : Hid (w.heap.size ≤ w.heap.size + 1 + 1 ∧ w.heap.size ≠ w.heap.size + 1 + 1 ∧ w.heap.size + 1 ≠ w.heap.size + 1 + 1 ∧ w.heap.size ≤ w.heap.size + 1) := Zab (by omega); clear hf h1 h2
 go_enter func232, ntmps232
 go_upto_region 3 with fail; generalize (((w.alloc (.cells #[Vi ax, Vi un, .bool sf] 329)).alloc (.cells #[Vi 0, Vi 0, Vi 0, Vi 0, Vi 0] 73)).alloc (.cells #[Vi 0, Vi 0, Vi 0, Vi 0, Vi 0] 73)) = v0 at *; generalize w.heap.size + 1 + 1 = QL at *; generalize w.heap.size + 1 = QR at *; have h1 := H1.out v0 HB.out
 go_upto_region 4 with fail
 go_loopw [7, 15] (fun fo ix wr => ∃ k : Nat, k ≤ l.length ∧ ix = Vi k ∧ fo = .bool (ailU l now ax un sf k).isSome ∧ Below w.heap.size w wr ∧ Blk 329 wr w.heap.size [Vi ax, Vi un, .bool sf] ∧ Blk 73 wr QL (ftL ((ailU l now ax un sf k).getD ftD)) ∧ Blk 73 wr QR (ftL ftD)) (fun _ ix _ => l.length - (intOf ix).toNat)
 case atStart => exact ⟨0, Nat.zero_le _, rfl, rfl, HB.out, HP.out, HL.out, HR.out⟩
 case round =>
  obtain ⟨k, hk, rfl, rfl, hb, hp, hla, hre⟩ := hrel; clear HB HP HL HR h1
  by_cases hlt : k < l.length
  · obtain ⟨b, off, rfl, hr⟩ := (HF.out wr hb).at hlt; have HS : Hid (ailU l now ax un sf (k + 1) = if hits now ax un sf (ftAt l k) then some (ftAt l k) else ailU l now ax un sf k) := Zab rfl; have h2 := H2.out wr hb
    have k0 : (0 : Int) ≤ (k : Int) := by omega
    have k1 : (k : Int) < (l.length : Int) := by omega
    generalize hft : ftAt l k = f at *; obtain ⟨fa, fk, fx, fu, fi⟩ := f; have c0 := hr 0 _ rfl; have c1 := hr 1 _ rfl; have c2 := hr 2 _ rfl; have c3 := hr 3 _ rfl; have c4 := hr 4 _ rfl
    dsimp only at c0 c1 c2 c3 c4
    simp only [Nat.add_zero] at c0; have HBB := Zab hb; have HPP := Zab hp; have HLL := Zab hla; have HRR := Zab hre; generalize HAK : ailU l now ax un sf k = ak at *; clear hr hb hp hla hre hft HAK
    go_upto_region 6 with fail; have HX : Hid (Blk 73 (wr.alloc (.cells #[Vi fa, Vi fk, Vi fx, Vi fu, Vi fi] 73)) wr.heap.size [Vi fa, Vi fk, Vi fx, Vi fu, Vi fi]) := Zab (Blk.new wr _ _); have HBV := Zab (Zac HBB.out (Zaa wr (.cells #[Vi fa, Vi fk, Vi fx, Vi fu, Vi fi] 73))); have HPV := Zab (HPP.out.later (Zaa wr (.cells #[Vi fa, Vi fk, Vi fx, Vi fu, Vi fi] 73))); have HLV := Zab (HLL.out.later (Zaa wr (.cells #[Vi fa, Vi fk, Vi fx, Vi fu, Vi fi] 73))); have HRV := Zab (HRR.out.later (Zaa wr (.cells #[Vi fa, Vi fk, Vi fx, Vi fu, Vi fi] 73))); have h2 := cell_later (Zaa wr (.cells #[Vi fa, Vi fk, Vi fx, Vi fu, Vi fi] 73)) h2; have HXQ : Hid (QL ≠ wr.heap.size) := Zab (by have := HLL.out.lt; omega); clear HBB HPP HLL HRR c0 c1 c2 c3 c4; generalize wr.alloc (.cells #[Vi fa, Vi fk, Vi fx, Vi fu, Vi fi] 73) = v1 at *; generalize wr.heap.size = QX at *; have x0 := (HX.out.cell (j := 0) rfl).1; have HHT : Hid (hits now ax un sf (fa, fk, fx, fu, fi) = (decide (fa ≤ now) && (decide (fx = ax) && (decide (fu = un) && decide (decide (fk = 4) = sf))))) := Zab rfl
    by_cases hn : fa ≤ now
    · have hd : decide (fa ≤ now) = true := by simpa using hn
      rw [hd] at HHT; refine Cs [19, 20, 21, 22, 23, 24, 25, 26, 27, 28, 29, 30, 31] ?_; refine Cp 0 19 [] ?_; refine Cq (fun _ h => cell_later h x0) 1 20 [0] ?_; refine Cp 2 21 [] ?_; refine Cp 3 22 [2] ?_; refine Cp 4 23 [3] ?_; refine Cq (fun _ h => cell_later h h2) 5 24 [4] ?_; refine Cp 6 25 [1, 5] ?_; refine Cp 7 26 [6] ?_; refine Cl (x := .tmp 9) 8 27 [7] (fun y w _ u hSw => ⟨Zae HX.out.range hSw, rfl⟩) underlying73 infoF5 ?_ (hw := fun y w hF => Zak (congrArg some hF.1)); refine Cc 9 28 [8, 7] (fun y w h _ => partOf_any (fa, fk, fx, fu, fi) _) ?_ (hw := fun y w hF => Zak (congrArg some hF.2.1)); refine Cl (x := .tmp 3) 10 29 [7] (fun y w _ u hSw => ⟨Zae HPV.out.range hSw, rfl⟩) underlying329 infoP3 ?_ (hw := fun y w hF => Zak (congrArg some hF.1)); refine Cp 11 30 [9, 10, 7] ?_ (hy := fun y w hF u => by have e1 : y 29 = _ := hF.1; have e2 : y 28 = _ := hF.2.1; clear hF; go_simp; exact ite3 (fun x => Result.ok (Next.value (Value.bool x)) u)) (hw := fun y w hF => Zak (congrArg some hF.2.2.1)); refine Cp 12 31 [7, 11] ?_; refine Ce (fun y u1 hB hf => ?_); have HS1 := Zab hB; clear hB hf; go_simp; have hB := HS1.out; clear HS1; generalize u1 = v6 at hB ⊢; refine Zbd (by assumption) ?_; generalize (decide (fx = ax) && (decide (fu = un) && decide (decide (fk = 4) = sf))) = bb at *; have HBV := Zab (Zac HBV.out hB); have HPV := Zab (HPV.out.later hB); have HLV := Zab (HLV.out.later hB); have HRV := Zab (HRV.out.later hB); have HX := Zab (HX.out.later hB); clear hB h2 x0 hn hd
      cases bb
      · go_wp2_with fail; go_roundw
        case rel => exact ⟨k + 1, by omega, by go_num, by rw [HS.out, HHT.out]; rfl, HBV.out, HPV.out, by rw [HS.out, HHT.out]; exact HLV.out, HRV.out⟩
        case measure => simp [intOf]; omega
      · have x0 := (HX.out.cell (j := 0) rfl).1; have x1 := (HX.out.cell (j := 1) rfl).1; have x2 := (HX.out.cell (j := 2) rfl).1; have x3 := (HX.out.cell (j := 3) rfl).1; have x4 := (HX.out.cell (j := 4) rfl).1; have l0 := HLV.out.cell (j := 0) rfl; have l1 := HLV.out.cell (j := 1) rfl; have l2 := HLV.out.cell (j := 2) rfl; have l3 := HLV.out.cell (j := 3) rfl; have l4 := HLV.out.cell (j := 4) rfl; have HLN := Zab (((((HLV.out.set 0 (Vi fa)).set 1 (Vi fk)).set 2 (Vi fx)).set 3 (Vi fu)).set 4 (Vi fi)); have HPN := Zab (((((HPV.out.far HQ.out.2.1 0 (Vi fa)).far HQ.out.2.1 1 (Vi fk)).far HQ.out.2.1 2 (Vi fx)).far HQ.out.2.1 3 (Vi fu)).far HQ.out.2.1 4 (Vi fi)); have HRN := Zab (((((HRV.out.far HQ.out.2.2.1 0 (Vi fa)).far HQ.out.2.2.1 1 (Vi fk)).far HQ.out.2.2.1 2 (Vi fx)).far HQ.out.2.2.1 3 (Vi fu)).far HQ.out.2.2.1 4 (Vi fi)); have HBN := Zab (((((HBV.out.setCell (p := ⟨QL, 0, none⟩) HQ.out.1 (Vi fa)).setCell (p := ⟨QL, 1, none⟩) HQ.out.1 (Vi fk)).setCell (p := ⟨QL, 2, none⟩) HQ.out.1 (Vi fx)).setCell (p := ⟨QL, 3, none⟩) HQ.out.1 (Vi fu)).setCell (p := ⟨QL, 4, none⟩) HQ.out.1 (Vi fi)); have HXL := HXQ.out; go_wp2_with fail; go_roundw
        case rel => exact ⟨k + 1, by omega, by go_num, by rw [HS.out, HHT.out]; rfl, HBN.out, HPN.out, by rw [HS.out, HHT.out]; exact HLN.out, HRN.out⟩
        case measure => simp [intOf]; omega
    · have hd : decide (fa ≤ now) = false := by simpa using hn
      rw [hd] at HHT; refine Cs [19, 20, 21, 22, 23, 24, 25, 26, 27, 28, 29, 30, 31] ?_; refine Cp 0 19 [] ?_; refine Cq (fun _ h => cell_later h x0) 1 20 [0] ?_; refine Cp 2 21 [] ?_; refine Cp 3 22 [2] ?_; refine Cp 4 23 [3] ?_; refine Cq (fun _ h => cell_later h h2) 5 24 [4] ?_; refine Cp 6 25 [1, 5] ?_; refine Cp 7 26 [6] ?_; refine Cz 8 27 [7] ?_ (hw := fun y w hF => Zbb (congrArg some hF.1)); refine Cz 9 28 [7] ?_ (hw := fun y w hF => Zbb (congrArg some hF.1)); refine Cz 10 29 [7] ?_ (hw := fun y w hF => Zbb (congrArg some hF.1)); refine Cz 11 30 [7] ?_ (hw := fun y w hF => Zbb (congrArg some hF.1)); refine Cp 12 31 [7, 11] ?_; refine Ce (fun y u1 hB hf => ?_); have HS1 := Zab hB; clear hB hf; go_simp; have hB := HS1.out; clear HS1; generalize u1 = v6 at hB ⊢; refine Zbd (by assumption) ?_; have HBV := Zab (Zac HBV.out hB); have HPV := Zab (HPV.out.later hB); have HLV := Zab (HLV.out.later hB); have HRV := Zab (HRV.out.later hB); clear hB h2 x0 hn hd; go_wp2_with fail; go_roundw
      case rel => exact ⟨k + 1, by omega, by go_num, by rw [HS.out, HHT.out]; rfl, HBV.out, HPV.out, by rw [HS.out, HHT.out]; exact HLV.out, HRV.out⟩
      case measure => simp [intOf]; omega
  · obtain rfl : k = l.length := by omega
    have HBV := Zab hb; have HLV := Zab hla; have HRV := Zab hre; have HQQ := HQ.out.2.2.1; generalize hak : ailU l now ax un sf l.length = ak at *; generalize hfd : ak.getD ftD = f at *; have HAE := Zab hak; have HFD := Zab hfd; obtain ⟨fa, fk, fx, fu, fi⟩ := f; have x0 := (HLV.out.cell (j := 0) rfl).1; have x1 := (HLV.out.cell (j := 1) rfl).1; have x2 := (HLV.out.cell (j := 2) rfl).1; have x3 := (HLV.out.cell (j := 3) rfl).1; have x4 := (HLV.out.cell (j := 4) rfl).1; have l0 := HRV.out.cell (j := 0) rfl; have l1 := HRV.out.cell (j := 1) rfl; have l2 := HRV.out.cell (j := 2) rfl; have l3 := HRV.out.cell (j := 3) rfl; have l4 := HRV.out.cell (j := 4) rfl; have HBN := Zab (((((HBV.out.setCell (p := ⟨QR, 0, none⟩) HQ.out.2.2.2 (Vi fa)).setCell (p := ⟨QR, 1, none⟩) HQ.out.2.2.2 (Vi fk)).setCell (p := ⟨QR, 2, none⟩) HQ.out.2.2.2 (Vi fx)).setCell (p := ⟨QR, 3, none⟩) HQ.out.2.2.2 (Vi fu)).setCell (p := ⟨QR, 4, none⟩) HQ.out.2.2.2 (Vi fi)); clear hfd hak hb hp hla hre; go_wp2_with fail; exact bodyPost_ret (v := .tuple #[.agg (ftL (fa, fk, fx, fu, fi)).toArray, .bool ak.isSome]) (by simp [results, results232, go_sem, ftL, l0, l1, l2, l3, l4]) rfl ⟨by rw [show ail l now ax un sf = ak from HAE.out, HFD.out], HBN.out⟩
theorem ailment_any (B : Nat) (pf : Option Addr) (cf : Nat) (l : List Ft) (now ax k : Int) (hl : l.length ≤ 1000) (w : World) (h1 : w.cell? (Ad B 32) = some (.slice pf l.length cf)) (h2 : w.cell? (Ad B 63) = some (Vi now)) (hf : Fts w pf l) :
 Calls prog 231 #[.pointer (some (Ad B 0)), Vi ax, Vi k] w fun e w' => e = .returned (aiV (ail l now ax k false)) ∧ Below w.heap.size w w' := by
 have hfa := fun u (h : Below w.heap.size w u) => fault_any B pf cf l now ax k false hl u (cell_later h h1) (cell_later h h2) (hf.later h); clear h1 h2 hf; generalize ail l now ax k false = ak at *; generalize hf : ak.getD ftD = f at *; obtain ⟨fa, fk, fx, fu, fi⟩ := f; have HFD := Zab hf; have hao := ailmentOf_any (fa, fk, fx, fu, fi)
 unfold ftL at hfa hao
 dsimp only at hfa hao
 clear hf
 go_enter func231, ntmps231
 go_upto_region 2 with (go_at_call 232; refine Sb (hfa _ (Below.refl _ _)) fun v hb => ?_; have HB := Zab hb; clear hb); have HB := Zab (Zac HB.out (Zaa v (.cells #[Vi fa, Vi fk, Vi fx, Vi fu, Vi fi] 73))); clear hfa
 cases ak with
 | none =>
  go_wp2_with fail; go_ret; exact ⟨rfl, HB.out⟩
 | some f =>
  obtain rfl : f = (fa, fk, fx, fu, fi) := HFD.out
  go_wp2_with (go_at_call 250; refine Sb (hao _) fun v hb => ?_; have HB := Zab (Zac HB.out hb); clear hb); go_ret; exact ⟨rfl, HB.out⟩
theorem infoR4 : (prog.info? 161).map (·.size) = some 4 := by kernel_rfl
theorem channel_any (B : Nat) (pf : Option Addr) (cf : Nat) (l : List Ft) (now ax k lab x : Int) (hl : l.length ≤ 1000) (w : World) (h1 : w.cell? (Ad B 32) = some (.slice pf l.length cf)) (h2 : w.cell? (Ad B 63) = some (Vi now)) (hf : Fts w pf l) :
 Calls prog 189 #[.pointer (some (Ad B 0)), Vi ax, Vi k, Vi lab, Vi x] w fun e w' => (∃ p cap, e = .returned (.slice p (chR l now ax k lab x).length cap) ∧ Rds w' p (chR l now ax k lab x)) ∧ Below w.heap.size w w' := by
 have hai := fun u (h : Below w.heap.size w u) => ailment_any B pf cf l now ax k hl u (cell_later h h1) (cell_later h h2) (hf.later h); have hh : ∀ u, Calls prog 193 #[Vi x] u fun e w' => e = .returned (Vi (cW x)) ∧ w' = u := wHold_any x; have hsd := send_any (ail l now ax k false) (lab, k, 3, cW x) (Zbr (by omega)); have HE : Hid (chR l now ax k lab x = sdL (ail l now ax k false) (lab, k, 3, cW x)) := Zab rfl; rw [HE.out]
 unfold rdL at hsd
 dsimp only at hsd
 clear h1 h2 hf HE; generalize ail l now ax k false = ak at *; generalize cW x = cx at *
 go_enter func189, ntmps189
 go_upto_region 2 with (go_at_call 193; refine Sm (hh _) ?_); have hB := Zaa w (.cells #[Vi lab, Vi k, Vi 3, Vi cx] 161); have HR : Hid (Blk 161 (w.alloc (.cells #[Vi lab, Vi k, Vi 3, Vi cx] 161)) w.heap.size [Vi lab, Vi k, Vi 3, Vi cx]) := Zab (Blk.new w _ _); generalize w.alloc (.cells #[Vi lab, Vi k, Vi 3, Vi cx] 161) = v1 at *; generalize w.heap.size = QR at HR ⊢; clear hh; refine Cs [17, 18, 19, 20, 21, 22, 10] ?_; refine Cp 0 17 [] ?_; refine Cp 1 18 [] ?_; refine Cp 2 19 [] ?_; refine Cc 3 20 [0, 1, 2] (fun y w h _ => hai _ (Zac hB h)) ?_; refine Cl (x := .tmp 11) 4 21 [] (fun y w _ u hSw => ⟨Zae HR.out.range hSw, rfl⟩) underlying161 infoR4 ?_; refine Cd 5 22 [3, 4] (fun v u => ∃ p cap, v = .slice p (sdL ak (lab, k, 3, cx)).length cap ∧ Rds u p (sdL ak (lab, k, 3, cx))) (fun y w h _ => (hsd _).mono (by rintro e w' ⟨⟨p, cap, rfl, hr⟩, hb⟩; exact ⟨_, rfl, ⟨p, cap, rfl, hr⟩, hb⟩)) (fun _ _ _ ⟨a, b, h1, h3⟩ hb => ⟨a, b, h1, h3.later hb⟩) ?_; refine Cu (fun y => y 22) 6 10 [5] ?_ (hy := fun y w _ u => by go_simp); refine Ce (fun y u1 hB hf => ?_); obtain ⟨p, cap, e, hr⟩ := hf.2.1; simp only [e]; have HRD := Zab hr; clear hr e; have HS1 := Zab hB; clear hB hf; go_simp; have hB2 := HS1.out; clear HS1; generalize u1 = v2 at hB2 HRD ⊢; refine Zbd (by assumption) ?_; clear hai hsd; go_wp2_with fail; go_ret; exact ⟨⟨p, cap, rfl, HRD.out⟩, Zac hB hB2⟩
theorem Cy {P : Program} {md : Region.Mode} {ops : Array Oper} {Q : Exit → Act → World → Prop} {w0 : World} {D : List Nat} {F : (Nat → Value) → Act} {S' : World → Prop} {listed0 : Array Bool} {fuel : Nat} {r : List Ent} {v : Value} {G : World → Prop} (g : ∀ w, Below w0.heap.size w0 w → G w) (i d : Nat) (cl : List Nat) {o : Oper} (k : Cb P md ops Q w0 D F S' listed0 fuel (⟨i, d, false, fun y _ => y d = v⟩ :: r))
 (ho : ops[i]? = some o := by rfl) (hc : Zds md ops D listed0 cl i d false r = true := by kernel_rfl)
 (hw : ∀ y w, depF cl y w r → Region.wanted o (yielded ops (F y).tmps) = true := by intro y w hF; rfl)
 (hy : ∀ y w, G w → depF cl y w r → (execOp (F y).eval o).run P w = .ok (.value v) w := by intro y w hG hF; simp only [depF, List.contains_cons, List.contains_nil, Nat.reduceBEq, Bool.or_false, Bool.or_true, if_true, if_false, Bool.false_eq_true] at hF; go_simp; (try first | with_reducible rfl | rfl)) :
 Cb P md ops Q w0 D F S' listed0 fuel r :=
 Cv i d cl _ (fun y w hS hF => ⟨v, w, hy y w (g w hS) hF, Below.refl _ _, if_pos rfl⟩) k (fun _ _ _ _ h ha _ => (ha _ (List.mem_cons_self ..)).trans h) ho hc hw
def nz (f : Nat → Int) (k : Nat) : List Value := [Vi (if 0 < k then f 0 else 0), Vi (if 1 < k then f 1 else 0), Vi (if 2 < k then f 2 else 0)]
theorem nz_set (f : Nat → Int) {k : Nat} (hk : k < 3) : (nz f k).set k (Vi (f k)) = nz f (k + 1) := by
 rcases (show k = 0 ∨ k = 1 ∨ k = 2 by omega) with rfl | rfl | rfl <;> rfl
theorem nz_get (f : Nat → Int) {k : Nat} (hk : k < 3) : (nz f k)[k]? = some (Vi 0) := by
 rcases (show k = 0 ∨ k = 1 ∨ k = 2 by omega) with rfl | rfl | rfl <;> rfl
theorem dig_bd (b z : Int) (hb : 1 ≤ b) (h0 : 0 ≤ z) : ∀ k, 0 ≤ dig b z k ∧ dig b z k ≤ z
 | 0 => by simp [dig]; exact h0
 | k + 1 => by
  have := dig_bd b z hb h0 k; rw [dig]; have h1 := Int.ediv_le_self b this.1; exact ⟨Int.ediv_nonneg this.1 (by omega), by omega⟩
theorem noises_any (a0 a1 a3 a4 a5 a6 a7 a8 a9 a10 a11 a14 N z : Int) (p q : Option Addr) (n m cn cm : Nat) (hN : 0 ≤ N ∧ N ≤ 1000) (hz : 0 ≤ z ∧ z ≤ 8589934591) (w : World) :
 Calls prog 188 #[.agg #[Vi a0, Vi a1, Vi N, Vi a3, Vi a4, Vi a5, Vi a6, Vi a7, Vi a8, Vi a9, Vi a10, Vi a11, .slice p n cn, .slice q m cm, Vi a14], Vi z] w fun e w' => e = .returned (.agg (nz (noi N z) 3).toArray) ∧ Below w.heap.size w w' := by
 obtain ⟨N0, N1⟩ := hN; have HZ := Zab (dig_bd (2 * N + 1) z (by omega) hz.1); have HZ1 := Zab hz.2; clear hz; have HB := Zab (Zcs w (.cells #[Vi a0, Vi a1, Vi N, Vi a3, Vi a4, Vi a5, Vi a6, Vi a7, Vi a8, Vi a9, Vi a10, Vi a11, .slice p n cn, .slice q m cm, Vi a14] 26) (.cells #[Vi 0, Vi 0, Vi 0] 30) (.cells #[Vi 0, Vi 0, Vi 0] 30)); have HA := Zab (blk_1of3 w 26 [Vi a0, Vi a1, Vi N, Vi a3, Vi a4, Vi a5, Vi a6, Vi a7, Vi a8, Vi a9, Vi a10, Vi a11, .slice p n cn, .slice q m cm, Vi a14] (.cells #[Vi 0, Vi 0, Vi 0] 30) (.cells #[Vi 0, Vi 0, Vi 0] 30)); have HR : Hid (Blk 30 _ _ (nz (noi N z) 0)) := Zab (blk_2of3 w 30 [Vi 0, Vi 0, Vi 0] (.cells #[Vi a0, Vi a1, Vi N, Vi a3, Vi a4, Vi a5, Vi a6, Vi a7, Vi a8, Vi a9, Vi a10, Vi a11, .slice p n cn, .slice q m cm, Vi a14] 26) (.cells #[Vi 0, Vi 0, Vi 0] 30)); have HL : Hid (Blk 30 _ _ (nz (noi N z) 0)) := Zab (blk_3of3 w 30 [Vi 0, Vi 0, Vi 0] (.cells #[Vi a0, Vi a1, Vi N, Vi a3, Vi a4, Vi a5, Vi a6, Vi a7, Vi a8, Vi a9, Vi a10, Vi a11, .slice p n cn, .slice q m cm, Vi a14] 26) (.cells #[Vi 0, Vi 0, Vi 0] 30)); have HQ : Hid (w.heap.size ≤ w.heap.size + 1 + 1 ∧ w.heap.size ≠ w.heap.size + 1 + 1 ∧ w.heap.size + 1 ≠ w.heap.size + 1 + 1 ∧ w.heap.size ≤ w.heap.size + 1) := Zab (by omega)
 go_enter func188, ntmps188
 go_upto_region 2 with fail; generalize (((w.alloc (.cells #[Vi a0, Vi a1, Vi N, Vi a3, Vi a4, Vi a5, Vi a6, Vi a7, Vi a8, Vi a9, Vi a10, Vi a11, .slice p n cn, .slice q m cm, Vi a14] 26)).alloc (.cells #[Vi 0, Vi 0, Vi 0] 30)).alloc (.cells #[Vi 0, Vi 0, Vi 0] 30)) = v0 at *; generalize w.heap.size + 1 + 1 = QL at *; generalize w.heap.size + 1 = QR at *; have x2 := (HA.out.cell (j := 2) rfl).1
 go_upto_region 4 with fail; clear x2
 go_loopw [1, 12] (fun g ix wr => ∃ k : Nat, k ≤ 3 ∧ ix = Vi k ∧ g = Vi (dig (2 * N + 1) z k) ∧ Below w.heap.size w wr ∧ Blk 26 wr w.heap.size [Vi a0, Vi a1, Vi N, Vi a3, Vi a4, Vi a5, Vi a6, Vi a7, Vi a8, Vi a9, Vi a10, Vi a11, .slice p n cn, .slice q m cm, Vi a14] ∧ Blk 30 wr QL (nz (noi N z) k) ∧ Blk 30 wr QR (nz (noi N z) 0)) (fun _ ix _ => 3 - (intOf ix).toNat)
 case atStart => exact ⟨0, Nat.zero_le _, rfl, rfl, HB.out, HA.out, HL.out, HR.out⟩
 case round =>
  obtain ⟨k, hk, rfl, rfl, hb, ha, hla, hre⟩ := hrel; clear HB HA HL HR; have g0 := (HZ.out k).1; have g1 := Int.le_trans (HZ.out k).2 HZ1.out
  by_cases hlt : k < 3
  · have x2 := (ha.cell (j := 2) rfl).1; have xk := (hla.cell (nz_get _ hlt)).1; have fk := (hla.cell (nz_get _ hlt)).2
    have k0 : (0 : Int) ≤ (k : Int) := by omega
    have k1 : (k : Int) < 3 := by omega
    have HD : Hid (dig (2 * N + 1) z (k + 1) = dig (2 * N + 1) z k / (2 * N + 1)) := Zab rfl; have HN : Hid (noi N z k = dig (2 * N + 1) z k % (2 * N + 1) - N) := Zab rfl; generalize dig (2 * N + 1) z k = g at *; have hm0 := Int.emod_nonneg g (show 2 * N + 1 ≠ 0 by omega); have hm1 := Int.emod_lt_of_pos g (show 0 < 2 * N + 1 by omega); have hne : (2 * N + 1 = 0) = False := eq_false (by omega); have htm : g.tmod (2 * N + 1) = g % (2 * N + 1) := Int.tmod_eq_emod_of_nonneg g0; have htd : g.tdiv (2 * N + 1) = g / (2 * N + 1) := Int.tdiv_eq_ediv_of_nonneg g0; have hwr := Wr (g % (2 * N + 1) - N); have hd0 := Int.ediv_nonneg g0 (show 0 ≤ 2 * N + 1 by omega); have hd1 := Int.ediv_le_self (2 * N + 1) g0
    have hwd : wrap64 (g / (2 * N + 1)) = g / (2 * N + 1) := by unfold wrap64; omega
    have HLA := Zab hla; have HAA := Zab ha; have HRE := Zab hre; have HBB := Zab hb; clear hb ha hla hre
    go_upto_region 6 with fail; refine Ct [15, 16, 17, 18, 19, 20, 21, 22] ?_; refine Cp 0 15 [] ?_; refine Cp 1 16 [] ?_; refine Cp 2 17 [] ?_; refine Cp 3 18 [1, 2] ?_; refine Cp 4 19 [] ?_; refine Cy (fun _ h => cell_later h x2) 5 20 [4] ?_; refine Cp 6 21 [3, 5] ?_; refine Cp 7 22 [0] ?_; refine Cn 1 9 [8] (fun y u hB _ => ?_); refine Ra 8 (fun K hK => ?_); have e := cell_later hB xk; have e1 := Zbj hB xk fk; go_simp; refine hK.out _ _ trivial (fun _ => ?_); clear hK K e e1; refine wpAnyH_done (by kernel_rfl) ?_ _; have HBN := Zab ((HBB.out.trans (hB.mono HBB.out.size)).setCell (p := ⟨QL, k, none⟩) HQ.out.1 (Vi (g % (2 * N + 1) - N))); have HLN := Zab ((HLA.out.later hB).set k (Vi (noi N z k))); rw [nz_set _ hlt, HN.out] at HLN; have HAN := Zab ((HAA.out.later hB).far HQ.out.2.1 k (Vi (g % (2 * N + 1) - N))); have HRN := Zab ((HRE.out.later hB).far HQ.out.2.2.1 k (Vi (g % (2 * N + 1) - N))); clear HBB HLA HAA HRE hB xk fk x2; generalize u.setCell (Ad QL k) (Vi (g % (2 * N + 1) - N)) = v1 at *; go_simp; refine Zbd (by assumption) ?_; go_wp2_with fail; go_roundw
    case rel => exact ⟨k + 1, by omega, by go_num, by rw [HD.out], HBN.out, HAN.out, HLN.out, HRN.out⟩
    case measure => simp [intOf]; omega
  · obtain rfl : k = 3 := by omega
    have HBB := Zab hb; have x0 := (hla.cell (j := 0) rfl).1; have x1 := (hla.cell (j := 1) rfl).1; have x2 := (hla.cell (j := 2) rfl).1; have l0 := hre.cell (j := 0) rfl; have l1 := hre.cell (j := 1) rfl; have l2 := hre.cell (j := 2) rfl; simp only [Nat.reduceLT, if_true] at x0 x1 x2; have HQQ := HQ.out.2.2.1; have HE : Hid (nz (noi N z) 3 = [Vi (noi N z 0), Vi (noi N z 1), Vi (noi N z 2)]) := Zab rfl; generalize noi N z 0 = n0 at *; generalize noi N z 1 = n1 at *; generalize noi N z 2 = n2 at *; have HBN := Zab (((HBB.out.setCell (p := ⟨QR, 0, none⟩) HQ.out.2.2.2 (Vi n0)).setCell (p := ⟨QR, 1, none⟩) HQ.out.2.2.2 (Vi n1)).setCell (p := ⟨QR, 2, none⟩) HQ.out.2.2.2 (Vi n2)); clear hb ha hla hre; go_wp2_with fail; exact bodyPost_ret (v := .agg #[Vi n0, Vi n1, Vi n2]) (by simp [results, results188, go_sem, l0, l1, l2]) rfl ⟨by rw [HE.out], HBN.out⟩
end Go.Proofs.YtnfdfiholcelaaaGreatDoor
namespace Go.Proofs.YtnfdfiholcelaaaGreatDoor
open Go.RowKit Tryz
theorem run_append_zero {P : Program} {w : World} {t ty e : TypeId} {i : TypeInfo} (ht : P.underlying t = some (.slice e)) (hi : P.info? e = some i) {base n size : Nat} {s : Value} {xs : List Value} (h : w.ownsRow base e size s n xs) (p : Option Addr) (c : Nat) :
 (Builtin.append_ #[t, t] ty #[s, .slice p 0 c]).run P w = .ok s w := by
 have hc : Src P i.size t (.slice p 0 c) 0 [] w := by
  cases p with
  | none => exact Src.ofNil w ht c
  | some a => exact Src.ofSlice w ht a 0 c [] (by simp) (by simp) (by simp)
 rcases h.2 with ⟨rfl, _⟩ | ⟨g, cap, cur, rfl, _, _, hn, _⟩
 · simp [Builtin.append_, run_underlying ht, sizeOf, typeInfo, hi, hc.len, hc.cells]
 · exact run_append_room_src w t t ty e i ht hi g 0 n cap _ 0 [] hc (by omega) (by simp) (by simp)
def Lay (u : World) (p : Option Addr) (ys : List Value) : Prop := ys = [] ∨ ∃ g off, p = some (Ad g off) ∧ u.rangeAt g off ys
theorem Zgz {P : Program} {ops : Array Oper} {rest : List Oper} {o : Oper} {a : Act} {u : World} {Q : Exit → Act → World → Prop} {s : Value} {xs : List Value} {n base e : Nat} {i : TypeInfo} {z : Value} {size bytes : Nat} {t : TypeId} (sO xO : Operand)
 (ho : o.op = .call { callee := .builtin .append, args := #[sO, xO], argTypes := #[t, t] }) (ht : P.underlying t = some (.slice e)) (hi : P.info? e = some i) (hz : i.zero = some z) (hsize : i.size = size) (hby : i.bytes = bytes)
 {p : Option Addr} {m c : Nat} {ys : List Value} (hx : a.eval xO = .slice p m c) (hown : u.ownsRow base e size s n xs) (hy : Lay u p ys) (hl : ys.length = m * size) (h1 : ∀ v ∈ ys, v.oneCell' = true)
 (hm : n + m ≤ maxLen) (hbytes : (n + m) * bytes ≤ 140737488355328) (hbase : base ≤ u.heap.size)
 (h : ∀ s' u', u'.ownsRow base e size s' (n + m) (xs ++ ys) → u.grownBy u' s.ownBlock → wpList P ops Q rest (a.put o.dst s') u')
 (hsz : 0 < size := by decide) (hzs : z.cells.size = size := by rfl) (hgd : o.guard = none := by rfl) (hs : a.eval sO = s := by rfl) : wpList P ops Q (o :: rest) a u := by
 by_cases h0 : m = 0
 · subst h0
   have hys : ys = [] := by simpa using hl
   subst hys; refine wpList_plain hgd fun _ hK => ?_
   unfold Oper.wp execOp
   simp only [ho, resolve, invoke, builtin, Sem.run_bind, Sem.run_pure, Result.andThen_ok, List.map_toArray, List.map_cons, List.map_nil, hs, hx, run_append_zero ht hi hown p c]; exact hK _ _ (h s u (by simpa using hown) (World.grownBy.refl _ _))
 · have hm' : 0 < m := by omega
   rcases hy with hy | ⟨g, off, rfl, hr⟩
   · subst hy; have : 0 < m * size := Nat.mul_pos hm' hsz
     simp at hl
     omega
   · exact wpList_append_lies u hgd sO xO t ho base e i z size bytes ht hi hz hsize hby hzs hsz s n xs hs hown ⟨g, off, none⟩ m c ys hx hl (fun j v hj => by rw [Addr.add_lit]; exact hr j v hj) h1 hm' hm hbytes hbase _ rfl
      (fun g' cap w' h2 h3 _ _ => h _ _ h2 h3)
end Go.Proofs.YtnfdfiholcelaaaGreatDoor
namespace Go.Proofs.YtnfdfiholcelaaaGreatDoor
open Go.RowKit Plain Tryz
theorem rds_lay {u : World} {p : Option Addr} {rs : List Rd} (h : Rds u p rs) : Lay u p (encL rs) := by
 rcases h with rfl | ⟨g, rfl, hc⟩
 · exact .inl rfl
 · refine .inr ⟨g, 0, rfl, fun j v hj => ?_⟩; have hl := Zcf rs; have hlt : j < (encL rs).length := (List.getElem?_eq_some_iff.1 hj).1
   have hk : j / 4 < rs.length := by omega
   have f := encL_four rs (j / 4) hk; have q := hc (j / 4) hk; rw [Nat.zero_add]
   rcases (show j = j / 4 * 4 ∨ j = j / 4 * 4 + 1 ∨ j = j / 4 * 4 + 2 ∨ j = j / 4 * 4 + 3 by omega) with e | e | e | e <;> rw [e] at hj ⊢
   · rw [f.1] at hj; cases hj; exact q.1
   · rw [f.2.1] at hj; cases hj; exact q.2.1
   · rw [f.2.2.1] at hj; cases hj; exact q.2.2.1
   · rw [f.2.2.2] at hj; cases hj; exact q.2.2.2
theorem rdL_one : ∀ (rs : List Rd), ∀ v ∈ encL rs, v.oneCell' = true
 | [], v, h => by cases h
 | r :: l, v, h => by
  have e : encL (r :: l) = Vi r.1 :: Vi r.2.1 :: Vi r.2.2.1 :: Vi r.2.2.2 :: encL l := rfl; rw [e] at h; simp only [List.mem_cons] at h
  rcases h with rfl | rfl | rfl | rfl | h
  · rfl
  · rfl
  · rfl
  · rfl
  · exact rdL_one l v h
theorem encL_app : ∀ (a b : List Rd), encL (a ++ b) = encL a ++ encL b
 | [], _ => rfl
 | r :: l, b => by
  have e : ∀ l, encL (r :: l) = Vi r.1 :: Vi r.2.1 :: Vi r.2.2.1 :: Vi r.2.2.2 :: encL l := fun _ => rfl; rw [List.cons_append, e, e, encL_app l b]; rfl
theorem Blk.grew' {t : TypeId} {u u' : World} {B : Nat} {cs : List Value} {row : Option Nat} (h : Blk t u B cs) (hg : u.grownBy u' row) (hr : some B ≠ row) : Blk t u' B cs := (hg.block B h.lt hr).trans h
def ROw (v0 u : World) (s : Value) (rs : List Rd) : Prop := u.ownsRow v0.heap.size 161 4 s rs.length (encL rs) ∧ Below v0.heap.size v0 u
theorem ROw.later {v0 u u' : World} {s : Value} {rs : List Rd} (h : ROw v0 u s rs) (hb : Below u.heap.size u u') : ROw v0 u' s rs := ⟨Zbp h.1 hb, Zac h.2 hb⟩
theorem ROw.nil (v0 : World) : ROw v0 v0 (.slice none 0 0) [] := ⟨World.ownsRow_nil _ _ _ _, Below.refl _ _⟩
theorem Zdu {ops : Array Oper} {rest : List Oper} {o : Oper} {a : Act} {v0 u : World} {Q : Exit → Act → World → Prop} {s : Value} {rs ns : List Rd} {p : Option Addr} {c : Nat} (sO xO : Operand)
 (ho : o.op = .call { callee := .builtin .append, args := #[sO, xO], argTypes := #[118, 118] }) (hx : a.eval xO = .slice p ns.length c) (hown : ROw v0 u s rs) (hy : Rds u p ns) (hm : rs.length + ns.length ≤ 1000)
 (h : ∀ s' u', ROw v0 u' s' (rs ++ ns) → (∀ t B cs, t ≠ 161 → Blk t u B cs → Blk t u' B cs) → wpList prog ops Q rest (a.put o.dst s') u') (hgd : o.guard = none := by rfl) (hs : a.eval sO = s := by rfl) : wpList prog ops Q (o :: rest) a u := by
 obtain ⟨i0, hi4, hz0, hz1, hz2⟩ := info_parts rd_info; refine Zgz sO xO ho Zhh hi4 hz0 hz1 hz2 hx hown.1 (rds_lay hy) (Zcf ns) (rdL_one ns) (by unfold maxLen; omega) (by omega) hown.2.size (fun s' u' h1 h2 => h s' u' ⟨?_, hown.2.grown h2 hown.2.size (fun k hk => (hown.1.lt k hk).1)⟩ (fun t B cs ht hb => hb.grew' h2 (fun e => ?_))) (by decide) rfl hgd hs
 · rw [List.length_append, encL_app]; exact h1
 · rcases hown.1.2 with ⟨rfl, _⟩ | ⟨g, cap, cur, rfl, _, hg, _⟩
   · cases e
   · obtain rfl : B = g := Option.some.inj e
     unfold Blk at hb
     rw [hg] at hb
     simp at hb
     exact ht hb.2.symm
theorem chR_len (l : List Ft) (now ax k lab x : Int) : (chR l now ax k lab x).length ≤ 1 := by
 unfold chR sdL
 split
 · simp
 · split <;> simp
theorem chU_len (l : List Ft) (now : Int) (i : Nat) (N x z : Int) : ∀ k, (chU l now i N x z k).length ≤ k
 | 0 => by simp [chU]
 | k + 1 => by
  have := chU_len l now i N x z k; have := chR_len l now i k (1 + i) (x + noi N z k); rw [chU, List.length_append]; omega
theorem suU_len (i : Nat) (at' : Nat → Int) : ∀ k, (suU i at' k).length = k
 | 0 => rfl
 | k + 1 => by rw [suU, List.length_append, suU_len i at' k]; rfl
theorem spR_len (l : List Ft) (now v : Int) : ∀ k, (spR l now v k).length ≤ k
 | 0 => by simp [spR]
 | k + 1 => by
  have := spR_len l now v k; have := chR_len l now 2 k 8 v; rw [spR, List.length_append]; omega
theorem axU_len (C : CR) (l : List Ft) (now : Int) (x : Nat → Int) (at' : Nat → Nat → Int) (s : Stp) (h : ∀ i, i < 2 → C.a i 4 ≤ 4) : ∀ i, i ≤ 2 → (axU C l now x at' s i).length ≤ 8 * i
 | 0, _ => by simp [axU]
 | i + 1, hi => by
  have a := axU_len C l now x at' s h i (by omega); have b := chU_len l now i (C.a i 2) (x i) (s.z i) 3; have c := h i (by omega); rw [axU, axR, List.length_append, List.length_append, List.length_append, suU_len]; simp only [List.length_cons, List.length_nil]
  omega
def flL (C : CR) (pf : Option Addr) (nf cf : Nat) (S : FS) (now : Int) (x : Nat → Int) (at' : Nat → Nat → Int) : List Value :=
 crL C ++ [.slice pf nf cf] ++ stL S ++ [Vi now, Vi (x 0), Vi (x 1), Vi (at' 0 0), Vi (at' 0 1), Vi (at' 0 2), Vi (at' 0 3), Vi (at' 1 0), Vi (at' 1 1), Vi (at' 1 2), Vi (at' 1 3)]
def stpL (s : Stp) : List Value := [Vi (s.k 0), Vi (s.k 1), Vi (s.p 0), Vi (s.p 1), Vi (s.z 0), Vi (s.z 1), Vi s.v, .bool s.g]
section
variable (C : CR) (pf : Option Addr) (nf cf : Nat) (S : FS) (now : Int) (x : Nat → Int) (at' : Nat → Nat → Int) (s : Stp)
theorem fl_axes : ((flL C pf nf cf S now x at').drop 0).take 30 = axL C 0 ++ axL C 1 := rfl
theorem fl_x {i : Nat} (hi : i < 2) : (flL C pf nf cf S now x at')[64 + i]? = some (Vi (x i)) := by
 rcases (show i = 0 ∨ i = 1 by omega) with rfl | rfl <;> rfl
theorem fl_at {i k : Nat} (hi : i < 2) (hk : k < 4) : (flL C pf nf cf S now x at')[66 + i * 4 + k]? = some (Vi (at' i k)) := by
 rcases (show i = 0 ∨ i = 1 by omega) with rfl | rfl <;> rcases (show k = 0 ∨ k = 1 ∨ k = 2 ∨ k = 3 by omega) with rfl | rfl | rfl | rfl <;> rfl
theorem stp_k {i : Nat} (hi : i < 2) : (stpL s)[i]? = some (Vi (s.k i)) := by
 rcases (show i = 0 ∨ i = 1 by omega) with rfl | rfl <;> rfl
theorem stp_p {i : Nat} (hi : i < 2) : (stpL s)[2 + i]? = some (Vi (s.p i)) := by
 rcases (show i = 0 ∨ i = 1 by omega) with rfl | rfl <;> rfl
theorem stp_z {i : Nat} (hi : i < 2) : (stpL s)[4 + i]? = some (Vi (s.z i)) := by
 rcases (show i = 0 ∨ i = 1 by omega) with rfl | rfl <;> rfl
end
theorem nz_idx (f : Nat → Int) {k : Nat} (hk : k < 3) (w : World) : (Instr.index 30 (.agg (nz f 3).toArray) (Vi k)).run prog w = .ok (Vi (f k)) w := by
 rcases (show k = 0 ∨ k = 1 ∨ k = 2 by omega) with rfl | rfl | rfl <;> kernel_rfl
theorem rds_new (w : World) (r : Rd) : Rds (w.alloc (.cells (rdL r).toArray 161)) (some (Ad w.heap.size 0)) [r] :=
 have h := Blk.new w 161 (rdL r)
 rds_one (h.cell (j := 0) rfl).1 (h.cell (j := 1) rfl).1 (h.cell (j := 2) rfl).1 (h.cell (j := 3) rfl).1
theorem axidx_i (C : CR) {i : Nat} (hi : i < 2) (w : World) : (Instr.index 27 (.agg (axL C 0 ++ axL C 1).toArray) (Vi i)).run prog w = .ok (.agg (axL C i).toArray) w := by
 rcases (show i = 0 ∨ i = 1 by omega) with rfl | rfl
 · exact axidx0 C w
 · exact axidx1 C w
theorem noises_c (C : CR) (i : Nat) (z : Int) (hN : 0 ≤ C.a i 2 ∧ C.a i 2 ≤ 1000) (hz : 0 ≤ z ∧ z ≤ 8589934591) (w : World) : Calls prog 188 #[.agg (axL C i).toArray, Vi z] w fun e w' => e = .returned (.agg (nz (noi (C.a i 2) z) 3).toArray) ∧ Below w.heap.size w w' :=
 noises_any _ _ _ _ _ _ _ _ _ _ _ _ (C.a i 2) z _ _ _ _ _ _ hN hz w
theorem noi_bd {N z : Int} (hN : 0 ≤ N) (k : Nat) : -N ≤ noi N z k ∧ noi N z k ≤ N := by
 have h0 := Int.emod_nonneg (dig (2 * N + 1) z k) (show 2 * N + 1 ≠ 0 by omega); have h1 := Int.emod_lt_of_pos (dig (2 * N + 1) z k) (show 0 < 2 * N + 1 by omega)
 unfold noi
 omega
def plR (T : Int) (o : Option Rd) (f : Option Ft) : Int := match o with
 | none => 0
 | some r => if r.2.2.1 = 3 then (match f with
  | some f => Zar f.2.2.2.2 (-T) T
  | none => r.2.2.2) else 0
theorem fl_tr (C : CR) (pf : Option Addr) (nf cf : Nat) (S : FS) (now : Int) (x : Nat → Int) (at' : Nat → Nat → Int) {i : Nat} (hi : i < 2) : (flL C pf nf cf S now x at')[i * 15 + 5]? = some (Vi (C.a i 5)) := by
 rcases (show i = 0 ∨ i = 1 by omega) with rfl | rfl <;> rfl
theorem place_any (B : Nat) (C : CR) (pf : Option Addr) (cf : Nat) (l : List Ft) (S : FS) (now : Int) (x : Nat → Int) (at' : Nat → Nat → Int) (i k : Nat) (hi : i < 2) (hk : k < 4) (ta : Option Addr) (tc : Nat) (rs : List Rd) (hrl : rs.length ≤ 1000) (w : World) (hb : Blk 173 w B (flL C pf l.length cf S now x at')) (hf : Fts w pf l) (hl : l.length ≤ 1000) (hT : 1 ≤ C.a i 5 ∧ C.a i 5 ≤ 1000) (hr : Rds w ta rs) :
 Calls prog 191 #[.pointer (some (Ad B 0)), Vi i, Vi k, .slice ta rs.length tc] w fun e w' => e = .returned (Vi (plR (C.a i 5) (fnd (64 + 4 * (i : Int) + (k : Int)) 3 rs) (ail l now i k true))) ∧ Below w.heap.size w w' := by
 obtain ⟨T0, T1⟩ := hT; have hul := Zdc 64 (i : Int) (k : Int) (by omega) (by omega) (by omega); have hfi := find_any ta tc rs (64 + 4 * (i : Int) + (k : Int)) 3 hrl w hr; have hfa := fun u (h : Below w.heap.size w u) => fault_any B pf cf l now i k true hl u ((hb.later h).cell (j := 32) rfl).1 ((hb.later h).cell (j := 63) rfl).1 (hf.later h); have HTR := Zab (fun u (h : Below w.heap.size w u) => ((hb.later h).cell (fl_tr C pf l.length cf S now x at' hi)).1); clear hb hf hr
 have i0 : (0 : Int) ≤ (i : Int) := by omega
 have i1 : (i : Int) < 2 := by omega
 have k0 : (0 : Int) ≤ (k : Int) := by omega
 have k1 : (k : Int) < 4 := by omega
 generalize ail l now i k true = ak at *; generalize 64 + 4 * (i : Int) + (k : Int) = lb at *
 unfold fndV at hfi
 cases hfn : fnd lb 3 rs with
 | none =>
  rw [hfn] at hfi
  dsimp only [rdV] at hfi
  go_enter func191, ntmps191
  go_wp2_with (first
   | (go_at_call 108; refine Sm (hul _) ?_)
   | (go_at_call 161; refine hfi.mono ?_; rintro e v ⟨rfl, hb⟩; have HB := Zab hb; clear hb))
  go_ret; exact ⟨rfl, Zac HB.out (Zaa _ _)⟩
 | some r =>
  obtain ⟨ra, rb, rc, rd⟩ := r; rw [hfn] at hfi
  dsimp only [rdV] at hfi
  clear hfn
  by_cases hc : rc = 3
  · subst hc
    cases ak with
    | none =>
     dsimp only [Option.getD_none, ftL, ftD, Option.isSome_none] at hfa
     go_enter func191, ntmps191
     go_upto_region 4 with (first | (go_at_call 108; refine Sm (hul _) ?_) | (go_at_call 161; refine hfi.mono ?_; rintro e v ⟨rfl, hb⟩; have HB := Zab (Zac hb (Zaa v (.cells #[Vi ra, Vi rb, Vi 3, Vi rd] 161))); clear hb)); have hcl := (Blk.new v 161 [Vi ra, Vi rb, Vi 3, Vi rd]).cell (j := 3) rfl; generalize v.alloc (.cells #[Vi ra, Vi rb, Vi 3, Vi rd] 161) = v1 at *
     go_upto_region 5 with (go_at_call 232; refine Sb (hfa _ HB.out) fun z hb => ?_; replace HB := Zab (Zac HB.out hb); have hcl := cell_later hb hcl.1; clear hb); have HBZ := Zab (Zac HB.out (Zaa z (.cells #[Vi 0, Vi 0, Vi 0, Vi 0, Vi 0] 73))); have hcl := cell_later (Zaa z (.cells #[Vi 0, Vi 0, Vi 0, Vi 0, Vi 0] 73)) hcl; generalize z.alloc (.cells #[Vi 0, Vi 0, Vi 0, Vi 0, Vi 0] 73) = v2 at *; go_wp2_with fail; go_ret; exact ⟨rfl, HBZ.out⟩
    | some f =>
     obtain ⟨fa, fk, fx, fu, fi⟩ := f
     dsimp only [Option.getD_some, ftL, Option.isSome_some] at hfa
     have hcp := Zat fi (-(C.a i 5)) (C.a i 5)
     go_enter func191, ntmps191
     go_upto_region 4 with (first | (go_at_call 108; refine Sm (hul _) ?_) | (go_at_call 161; refine hfi.mono ?_; rintro e v ⟨rfl, hb⟩; have HB := Zab (Zac hb (Zaa v (.cells #[Vi ra, Vi rb, Vi 3, Vi rd] 161))); clear hb)); have hcl := (Blk.new v 161 [Vi ra, Vi rb, Vi 3, Vi rd]).cell (j := 3) rfl; generalize v.alloc (.cells #[Vi ra, Vi rb, Vi 3, Vi rd] 161) = v1 at *
     go_upto_region 6 with (go_at_call 232; refine Sb (hfa _ HB.out) fun z hb => ?_; replace HB := Zab (Zac HB.out hb); have hcl := cell_later hb hcl.1; clear hb); have HBZ := Zab (Zac HB.out (Zaa z (.cells #[Vi fa, Vi fk, Vi fx, Vi fu, Vi fi] 73))); have c4 := ((Blk.new z 73 [Vi fa, Vi fk, Vi fx, Vi fu, Vi fi]).cell (j := 4) rfl).1; have ht := HTR.out _ HBZ.out; generalize z.alloc (.cells #[Vi fa, Vi fk, Vi fx, Vi fu, Vi fi] 73) = v2 at *
     go_wp2_with (go_at_call 172; refine Sm (hcp _) ?_); go_ret; exact ⟨rfl, HBZ.out⟩
  · have hcb : (rc == 3) = false := by simpa using hc
    have HNE : Hid (plR (C.a i 5) (some (ra, rb, rc, rd)) ak = 0) := Zab (by unfold plR; exact if_neg hc); rw [HNE.out]; clear hc
    go_enter func191, ntmps191
    go_wp2_with (first | (go_at_call 108; refine Sm (hul _) ?_) | (go_at_call 161; refine hfi.mono ?_; rintro e v ⟨rfl, hb⟩; have HB := Zab (Zac hb (Zaa v (.cells #[Vi ra, Vi rb, Vi rc, Vi rd] 161))); clear hb)); go_ret; exact ⟨rfl, HB.out⟩
end Go.Proofs.YtnfdfiholcelaaaGreatDoor
