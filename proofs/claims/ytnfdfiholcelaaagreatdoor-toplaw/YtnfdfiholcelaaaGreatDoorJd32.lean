
import Derived.Test.YtnfdfiholcelaaaGreatDoorJd00
import Derived.Test.YtnfdfiholcelaaaGreatDoorJd26
import Derived.Test.YtnfdfiholcelaaaGreatDoorJd27
import Derived.Test.YtnfdfiholcelaaaGreatDoorJd31
set_option maxRecDepth 100000
set_option maxHeartbeats 20000000
namespace Go.Proofs.YtnfdfiholcelaaaGreatDoor
open Go.ChangeShapes Go.WideShapes Go.ChangeAt Go.RowKit Go.Joins Go.Deep Plain
set_option linter.unusedVariables false
theorem open_rows {H : Type} {enc : TypeId × Value → H} {w : World} {base : Nat} {sp : Nat → Bool} {held : Bool} {n : Nat} {v : Value} {y : DataW H × List MemPlace} {t e : TypeId} {α : Type} (f : α → List Value) (d : α) (sz : Nat) (h0 : 0 < sz) (ht : Tryz.prog.underlying t = some (.slice e)) (hsz : Tryz.prog.cellsOf e = sz)
 (hel : ∀ m cs z, cs.length = sz → DataW.trod enc Tryz.prog w base sp held m e cs = some z → ∃ a, cs = f a) (h : DataW.trod enc Tryz.prog w base sp held n t [v] = some y) :
 ∃ (a : Option Addr) (l : List α) (cap : Nat), v = .slice a l.length cap ∧ l.length ≤ 9223372036854775807 ∧ (l = [] ∨ ∃ b off, a = some (Ad b off) ∧ ∀ k, k < l.length → w.rangeAt b (off + k * sz) (f (l.getD k d))) := by
 rcases open_slice ht h with ⟨hcs, _⟩ | ⟨x, len, cap, m, n, D, Pl, hcs, _, hl, hm, hmm, _, hx⟩
 · simp at hcs
   exact ⟨none, [], 0, by simpa using hcs, by simp, .inl rfl⟩
 · simp at hcs
   have hlm : len ≤ m := by rw [hmm]; split <;> omega
   have each : ∀ i, i < len → ∃ a : α, (f a).length = sz ∧ ∀ j, j < sz → w.cell? (x.add (i * sz + j)) = (f a)[j]? := by
    intro i hi; obtain ⟨cs', h1, h2⟩ := hx i (by omega); rw [hsz] at h1; obtain ⟨_, hlen, hcell⟩ := World.cells?_some h1; obtain ⟨a, rfl⟩ := hel _ _ _ hlen h2; refine ⟨a, hlen, fun j hj => ?_⟩; have := hcell j hj; rw [add_add] at this; exact this
   let g : Nat → α := fun i => if h : i < len then Classical.choose (each i h) else d
   have hg : ∀ i (h : i < len), (f (g i)).length = sz ∧ ∀ j, j < sz → w.cell? (x.add (i * sz + j)) = (f (g i))[j]? := by
    intro i h; have e : g i = Classical.choose (each i h) := dif_pos h; rw [e]; exact Classical.choose_spec (each i h)
   refine ⟨some x, (List.range len).map g, cap, by simpa using hcs, by simp; unfold maxLen at hm; omega, ?_⟩
   by_cases hz : len = 0
   · left; subst hz; rfl
   · right
     obtain ⟨b, off, spot⟩ := x; obtain ⟨hl0, hc0⟩ := hg 0 (by omega); have hc := hc0 0 h0; rw [List.getElem?_eq_getElem (by omega)] at hc
     have hspot : spot = none := by simpa [Addr.add] using World.cell?_spot hc
     subst hspot; refine ⟨b, off, rfl, fun k hk j u hj => ?_⟩; simp only [List.length_map, List.length_range] at hk
     have e : ((List.range len).map g).getD k d = g k := by
      rw [List.getD_eq_getElem?_getD, List.getElem?_map, List.getElem?_range hk]; rfl
     rw [e] at hj; obtain ⟨hl1, hc1⟩ := hg k hk
     have hjs : j < sz := by have := (List.getElem?_eq_some_iff.1 hj).1; omega
     have := hc1 j hjs; rw [saddr_add, hj, ← Nat.add_assoc] at this; exact this
theorem trod_fields5 {P : Program} {w : World} {base : Nat} {spare : Nat → Bool} {held : Bool} {H : Type} {enc : TypeId × Value → H} {t : TypeId} {f0 f1 f2 f3 f4 : Field} {fuel : Nat} {cs : List Value} {x : DataW H × List MemPlace} (ht : P.underlying t = some (.struct #[f0, f1, f2, f3, f4])) (h : DataW.trod enc P w base spare held fuel t cs = some x) :
 ∃ y0 y1 y2 y3 y4 n, DataW.trod enc P w base spare held n f0.type ((cs.drop f0.offset).take (P.cellsOf f0.type)) = some y0 ∧ DataW.trod enc P w base spare held n f1.type ((cs.drop f1.offset).take (P.cellsOf f1.type)) = some y1 ∧ DataW.trod enc P w base spare held n f2.type ((cs.drop f2.offset).take (P.cellsOf f2.type)) = some y2 ∧ DataW.trod enc P w base spare held n f3.type ((cs.drop f3.offset).take (P.cellsOf f3.type)) = some y3 ∧ DataW.trod enc P w base spare held n f4.type ((cs.drop f4.offset).take (P.cellsOf f4.type)) = some y4 := by
 obtain ⟨xs, n, _, rfl, hl, hlen, hf⟩ := DataW.trod_struct ht h
 match xs, hlen with
 | [y0, y1, y2, y3, y4], _ => exact ⟨y0, y1, y2, y3, y4, n, by simpa using hf 0 f0 rfl, by simpa using hf 1 f1 rfl, by simpa using hf 2 f2 rfl, by simpa using hf 3 f3 rfl, by simpa using hf 4 f4 rfl⟩
theorem cellsFFault : Tryz.prog.cellsOf 73 = 5 := by kernel_rfl
theorem cellsFStep : Tryz.prog.cellsOf 78 = 8 := by kernel_rfl
theorem cellsFTwo : Tryz.prog.cellsOf 76 = 2 := by kernel_rfl
theorem cellsFFts : Tryz.prog.cellsOf 64 = 1 := by kernel_rfl
theorem cellsFSts : Tryz.prog.cellsOf 65 = 1 := by kernel_rfl
theorem cellsFFlight : Tryz.prog.cellsOf 67 = 2 := by kernel_rfl
theorem open_ft {H : Type} {enc : TypeId × Value → H} {w : World} {base : Nat} {sp : Nat → Bool} {held : Bool} {m : Nat} {cs : List Value} {z : DataW H × List MemPlace} (hl : cs.length = 5) (h : DataW.trod enc Tryz.prog w base sp held m 73 cs = some z) : ∃ f : Ft, cs = ftL f := by
 match cs, hl with
 | [c0, c1, c2, c3, c4], _ =>
  obtain ⟨y0, y1, y2, y3, y4, k, g0, g1, g2, g3, g4⟩ := trod_fields5 Tryz.underlying73 h
  simp [cellsSInt] at g0 g1 g2 g3 g4
  obtain ⟨p, e0, _⟩ := DataW.trod_int Tryz.underlying3 g0; obtain ⟨q, e1, _⟩ := DataW.trod_int Tryz.underlying3 g1; obtain ⟨r, e2, _⟩ := DataW.trod_int Tryz.underlying3 g2; obtain ⟨s, e3, _⟩ := DataW.trod_int Tryz.underlying3 g3; obtain ⟨u, e4, _⟩ := DataW.trod_int Tryz.underlying3 g4
  simp at e0 e1 e2 e3 e4
  subst e0 e1 e2 e3 e4; exact ⟨(p, q, r, s, u), rfl⟩
theorem open_two {H : Type} {enc : TypeId × Value → H} {w : World} {base : Nat} {sp : Nat → Bool} {held : Bool} {m : Nat} {c0 c1 : Value} {z : DataW H × List MemPlace} (h : DataW.trod enc Tryz.prog w base sp held m 76 [c0, c1] = some z) : ∃ p q : Int, c0 = Vi p ∧ c1 = Vi q := by
 obtain ⟨xs, k, _, _, _, hxl, hx⟩ := DataW.trod_array Tryz.underlying76 h; have g0 := hx 0 (by omega); have g1 := hx 1 (by omega); rw [List.getElem?_eq_getElem (by omega)] at g0 g1
 simp [cellsSInt] at g0 g1
 obtain ⟨p, e0, _⟩ := DataW.trod_int Tryz.underlying3 g0; obtain ⟨q, e1, _⟩ := DataW.trod_int Tryz.underlying3 g1
 simp at e0 e1
 exact ⟨p, q, e0, e1⟩
theorem open_stp {H : Type} {enc : TypeId × Value → H} {w : World} {base : Nat} {sp : Nat → Bool} {held : Bool} {m : Nat} {cs : List Value} {z : DataW H × List MemPlace} (hl : cs.length = 8) (h : DataW.trod enc Tryz.prog w base sp held m 78 cs = some z) : ∃ s : Stp, cs = stpL s := by
 match cs, hl with
 | [c0, c1, c2, c3, c4, c5, c6, c7], _ =>
  obtain ⟨y0, y1, y2, y3, y4, k, g0, g1, g2, g3, g4⟩ := trod_fields5 Tryz.underlying78 h
  simp [cellsSInt, cellsSBool, cellsFTwo] at g0 g1 g2 g3 g4
  obtain ⟨p0, p1, rfl, rfl⟩ := open_two g0; obtain ⟨q0, q1, rfl, rfl⟩ := open_two g1; obtain ⟨r0, r1, rfl, rfl⟩ := open_two g2; obtain ⟨s, e3, _⟩ := DataW.trod_int Tryz.underlying3 g3; obtain ⟨u, e4, _⟩ := DataW.trod_bool Tryz.underlying4 g4
  simp at e3 e4
  subst e3 e4; exact ⟨⟨mk2 p0 p1, mk2 q0 q1, mk2 r0 r1, s, u⟩, rfl⟩
theorem open_flight {H : Type} {enc : TypeId × Value → H} {w : World} {base : Nat} {r : Reach} {b0 : Nat} {v : Value} {d : DataW H} {p : List MemPlace} (hv : Value.okWide Tryz.prog w r b0 67 v) (h : DataW.Trod enc Tryz.prog w base (fun _ => true) true 67 v d p) :
 ∃ (pf : Option Addr) (l : List Ft) (cf : Nat) (ps : Option Addr) (ss : List Stp) (cs : Nat), v = .agg #[.slice pf l.length cf, .slice ps ss.length cs] ∧ (l.length ≤ 9223372036854775807 ∧ ss.length ≤ 9223372036854775807) ∧ Fts w pf l ∧ Sts w ps ss := by
 obtain ⟨cs, rfl, hsz⟩ := okWide_struct Tryz.underlying67 hv; rw [cellsFFlight] at hsz; obtain ⟨fuel, hf⟩ := h; obtain ⟨l⟩ := cs
 match l, hsz with
 | [c0, c1], _ =>
  obtain ⟨v0, v1, m', _, _, k0, k1⟩ := trod_struct2 Tryz.underlying67 hf
  simp [Value.cells, cellsFFts, cellsFSts] at k0 k1
  obtain ⟨pf, l, cf, rfl, hl, hF⟩ := open_rows ftL ftD 5 (by decide) Tryz.underlying64 cellsFFault (fun _ _ _ hl h => open_ft hl h) k0; obtain ⟨ps, ss, cs, rfl, hs, hS⟩ := open_rows stpL stD 8 (by decide) Tryz.underlying65 cellsFStep (fun _ _ _ hl h => open_stp hl h) k1; exact ⟨pf, l, cf, ps, ss, cs, rfl, ⟨hl, hs⟩, hF, hS⟩
end Go.Proofs.YtnfdfiholcelaaaGreatDoor
namespace Go.Proofs.YtnfdfiholcelaaaGreatDoor
open Go.RowKit Plain
def LO (l : List Ft) (k : Nat) (a u : Int) : Prop := (∀ j, j < l.length → (ftAt l j).2.1 = 4 → 0 ≤ (ftAt l j).2.2.1) → ∀ j, j < k → (ftAt l j).2.1 = 4 → (ftAt l j).2.2.1 = a ∧ (ftAt l j).2.2.2.1 = u
def LoP (l : List Ft) (e : Ending) : Prop := ∃ a u o, e = .returned (.tuple #[Vi a, Vi u, .bool o]) ∧ (o = true → LO l l.length a u) ∧ (o = false → a = 0)
theorem LO.zero (l : List Ft) : LO l 0 (-1) (-1) := fun _ j hj => by omega
theorem LO.skip {l : List Ft} {k : Nat} {a u : Int} (h : LO l k a u) (hk : ¬ (ftAt l k).2.1 = 4) : LO l (k + 1) a u := fun v j hj e => by
 by_cases h1 : j = k
 · subst h1; exact absurd e hk
 · exact h v j (by omega) e
theorem LO.take {l : List Ft} {k : Nat} {a u : Int} (h : LO l k a u) (hk : k < l.length) (h2 : ¬ (0 ≤ a ∧ ¬ (a = (ftAt l k).2.2.1 ∧ u = (ftAt l k).2.2.2.1))) : LO l (k + 1) (ftAt l k).2.2.1 (ftAt l k).2.2.2.1 := fun v j hj e => by
 by_cases h1 : j = k
 · subst h1; exact ⟨rfl, rfl⟩
 · obtain ⟨e1, e2⟩ := h v j (by omega) e; have := v j (by omega) e
   omega
theorem looseOf_any (pf : Option Addr) (cf : Nat) (l : List Ft) (ps : Option Addr) (ns cs : Nat) (hml : l.length ≤ 9223372036854775807) (w : World) (hF : Fts w pf l) :
 Calls Tryz.prog 34 #[.agg #[.slice pf l.length cf, .slice ps ns cs]] w fun e w' => LoP l e ∧ Below w.heap.size w w' := by
 have HFT := Zab (fun u (h : Below w.heap.size w u) => hF.later h); have HF := Zab (Blk.new w 67 [.slice pf l.length cf, .slice ps ns cs]); have HB0 := Zab (Zaa w (.cells #[.slice pf l.length cf, .slice ps ns cs] 67)); clear hF
 go_enter Tryz.func34, Tryz.ntmps34
 go_upto_region 1 with fail; generalize w.alloc (.cells #[.slice pf l.length cf, .slice ps ns cs] 67) = v0 at *; generalize hQF : w.heap.size = QF at HF ⊢; have HQF := Zab hQF; clear hQF
 go_upto_region 3 with fail
 go_loopw [5, 6, 7] (fun va vu ix wr => ∃ (k : Nat) (a u : Int), k ≤ l.length ∧ ix = Vi k ∧ va = Vi a ∧ vu = Vi u ∧ LO l k a u ∧ Blk 67 wr QF [.slice pf l.length cf, .slice ps ns cs] ∧ Below w.heap.size w wr) (fun _ _ ix _ => l.length - (intOf ix).toNat)
 case atStart => exact ⟨0, -1, -1, by omega, rfl, rfl, rfl, LO.zero l, HF.out, HB0.out⟩
 case round =>
  clear HF HB0; obtain ⟨k, a, u, hk, rfl, rfl, rfl, hlo, hff, hbw⟩ := hrel; have xf := (hff.cell (j := 0) rfl).1
  by_cases hlt : k < l.length
  · obtain ⟨b, off, rfl, hr⟩ := (HFT.out wr hbw).at hlt
    have k0 : (0 : Int) ≤ (k : Int) := by omega
    have k1 : (k : Int) < (l.length : Int) := by omega
    have HSK := Zab (fun h => hlo.skip h); have HTK := Zab (fun h => hlo.take hlt h); generalize ftAt l k = f at *; obtain ⟨fa, fk, fx, fu, fi⟩ := f; have c0 := hr 0 _ rfl; have c1 := hr 1 _ rfl; have c2 := hr 2 _ rfl; have c3 := hr 3 _ rfl; have c4 := hr 4 _ rfl
    dsimp only at c0 c1 c2 c3 c4 HSK HTK
    simp only [Nat.add_zero] at c0; have HA := Zaa wr (.cells #[Vi fa, Vi fk, Vi fx, Vi fu, Vi fi] 73); have HX : Hid (Blk 73 (wr.alloc (.cells #[Vi fa, Vi fk, Vi fx, Vi fu, Vi fi] 73)) wr.heap.size [Vi fa, Vi fk, Vi fx, Vi fu, Vi fi]) := Zab (Blk.new wr _ _); have HFF := Zab (hff.later HA); have HBW := Zab (Zac hbw HA); clear hr hff hbw HA hlo
    go_upto_region 6 with fail; generalize wr.alloc (.cells #[Vi fa, Vi fk, Vi fx, Vi fu, Vi fi] 73) = v1 at *; clear c0 c1 c2 c3 c4 xf; generalize wr.heap.size = QX at HX ⊢; have c1 := (HX.out.cell (j := 1) rfl).1; have c2 := (HX.out.cell (j := 2) rfl).1; have c3 := (HX.out.cell (j := 3) rfl).1
    by_cases hfk : fk = 4
    · subst hfk; have HT2 : Hid (¬ (0 ≤ a ∧ ¬ (a = fx ∧ u = fu)) → LO l (k + 1) fx fu) := HTK
      by_cases hbad : 0 ≤ a ∧ ¬ (a = fx ∧ u = fu)
      · obtain ⟨a0, hne⟩ := hbad
        by_cases hax : a = fx
        · have hun : ¬ u = fu := fun e => hne ⟨hax, e⟩; subst hax; clear hne; go_wp2_with fail; go_ret3; exact ⟨⟨0, 0, false, rfl, (fun h => by cases h), fun _ => rfl⟩, HBW.out⟩
        · clear hne; go_wp2_with fail; go_ret3; exact ⟨⟨0, 0, false, rfl, (fun h => by cases h), fun _ => rfl⟩, HBW.out⟩
      · have HLN := Zab (HT2.out hbad); clear HT2 HTK HSK
        have hgo : a < 0 ∨ (0 ≤ a ∧ a = fx ∧ u = fu) := by omega
        clear hbad
        rcases hgo with ha | ⟨ha, rfl, rfl⟩
        · go_upto_region 9 with fail; refine Cs [38, 39, 40, 41, 5, 6] ?_; refine Cp 0 38 [] ?_; refine Cq (fun _ h => cell_later h c2) 1 39 [0] ?_; refine Cp 2 40 [] ?_; refine Cq (fun _ h => cell_later h c3) 3 41 [2] ?_; refine Cp 4 5 [1] ?_; refine Cp 5 6 [3] ?_; refine Ce (fun y u1 hB hf => ?_); have HS1 := Zab hB; clear hB hf; go_simp; have hB := HS1.out; clear HS1; generalize u1 = v2 at hB ⊢; refine Zbh (by assumption) ?_; replace HFF := Zab (HFF.out.later hB); replace HBW := Zab (Zac HBW.out hB); clear hB c1 c2 c3; go_wp2_with fail; go_roundw
          case rel => exact ⟨k + 1, _, _, by omega, by go_num, rfl, rfl, HLN.out, HFF.out, HBW.out⟩
          case measure => simp [intOf]; omega
        · go_upto_region 9 with fail; refine Cs [38, 39, 40, 41, 5, 6] ?_; refine Cp 0 38 [] ?_; refine Cq (fun _ h => cell_later h c2) 1 39 [0] ?_; refine Cp 2 40 [] ?_; refine Cq (fun _ h => cell_later h c3) 3 41 [2] ?_; refine Cp 4 5 [1] ?_; refine Cp 5 6 [3] ?_; refine Ce (fun y u1 hB hf => ?_); have HS1 := Zab hB; clear hB hf; go_simp; have hB := HS1.out; clear HS1; generalize u1 = v2 at hB ⊢; refine Zbh (by assumption) ?_; replace HFF := Zab (HFF.out.later hB); replace HBW := Zab (Zac HBW.out hB); clear hB c1 c2 c3; go_wp2_with fail; go_roundw
          case rel => exact ⟨k + 1, _, _, by omega, by go_num, rfl, rfl, HLN.out, HFF.out, HBW.out⟩
          case measure => simp [intOf]; omega
    · have HLN := Zab (HSK.out hfk); clear HSK HTK; go_wp2_with fail; exact ⟨⟨k + 1, a, u, by omega, by go_num, rfl, rfl, HLN.out, HFF.out, HBW.out⟩, by simp [intOf]; omega⟩
  · obtain rfl : k = l.length := by omega
    have HBW := Zab hbw; have HLN := Zab hlo; clear hff hbw hlo; go_wp2_with fail; go_ret3; exact ⟨⟨a, u, true, rfl, (fun _ => HLN.out), fun h => by cases h⟩, HBW.out⟩
def LC (l : List Ft) (p q : Nat) : Prop := (ftAt l p).2.1 ≠ 4 → (ftAt l q).2.1 ≠ 4 → (ftAt l p).2.2.1 = (ftAt l q).2.2.1 → (ftAt l p).2.2.2.1 = (ftAt l q).2.2.2.1
def LiP (l : List Ft) (e : Ending) : Prop := ∃ b, e = .returned (.bool b) ∧ (b = true → ∀ p, p < l.length → ∀ q, q < p → LC l p q)
theorem lies_any (pf : Option Addr) (cf : Nat) (l : List Ft) (ps : Option Addr) (ns cs : Nat) (hml : l.length ≤ 9223372036854775807) (w : World) (hF : Fts w pf l) :
 Calls Tryz.prog 36 #[.agg #[.slice pf l.length cf, .slice ps ns cs]] w fun e w' => LiP l e ∧ Below w.heap.size w w' := by
 have HFT := Zab (fun u (h : Below w.heap.size w u) => hF.later h); have HF := Zab (Blk.new w 67 [.slice pf l.length cf, .slice ps ns cs]); have HB0 := Zab (Zaa w (.cells #[.slice pf l.length cf, .slice ps ns cs] 67)); clear hF
 go_enter Tryz.func36, Tryz.ntmps36
 go_upto_region 1 with fail; generalize w.alloc (.cells #[.slice pf l.length cf, .slice ps ns cs] 67) = v0 at *; generalize hQF : w.heap.size = QF at HF ⊢; have HQF := Zab hQF; clear hQF
 go_upto_region 2 with fail
 go_loopw [3] (fun ix wr => ∃ i : Nat, i ≤ l.length ∧ ix = Vi i ∧ (∀ p, p < i → ∀ q, q < p → LC l p q) ∧ Blk 67 wr QF [.slice pf l.length cf, .slice ps ns cs] ∧ Below w.heap.size w wr) (fun ix _ => l.length - (intOf ix).toNat)
 case atStart => exact ⟨0, by omega, rfl, (fun p hp => by omega), HF.out, HB0.out⟩
 case round =>
  clear HF HB0; obtain ⟨i, hi, rfl, hlc, hff, hbw⟩ := hrel; have xf := (hff.cell (j := 0) rfl).1
  by_cases hlt : i < l.length
  · have i0 : (0 : Int) ≤ (i : Int) := by omega
    have i1 : (i : Int) < (l.length : Int) := by omega
    have HFF := Zab hff; have HBW := Zab hbw; have HPC := Zab hlc; clear hff hbw hlc
    go_upto_region 5 with fail; clear xf
    go_loopw [4] (fun ix wz => ∃ k : Nat, k ≤ i ∧ ix = Vi k ∧ (∀ q, q < k → LC l i q) ∧ Blk 67 wz QF [.slice pf l.length cf, .slice ps ns cs] ∧ Below w.heap.size w wz) (fun ix _ => i - (intOf ix).toNat)
    case atStart => exact ⟨0, by omega, rfl, (fun q hq => by omega), HFF.out, HBW.out⟩
    case round =>
     clear HFF HBW; obtain ⟨k, hk, rfl, hlc, hff, hbw⟩ := hrel; rename World => wq
     by_cases hki : k < i
     · have k0 : (0 : Int) ≤ (k : Int) := by omega
       have k1 : (k : Int) < (i : Int) := by omega
       have k2 : (k : Int) < (l.length : Int) := by omega
       have kn : k < l.length := by omega
       have xf := (hff.cell (j := 0) rfl).1; obtain ⟨b, off, rfl, hri⟩ := (HFT.out wq hbw).at hlt; obtain ⟨b', off', e', hrk⟩ := (HFT.out wq hbw).at kn
       cases e'
       have HNX : Hid (LC l i k → ∀ q, q < k + 1 → LC l i q) := Zab (fun h q hq => by
        by_cases e : q = k
        · rw [e]; exact h
        · exact hlc q (by omega))
       have HLD : Hid (LC l i k = ((ftAt l i).2.1 ≠ 4 → (ftAt l k).2.1 ≠ 4 → (ftAt l i).2.2.1 = (ftAt l k).2.2.1 → (ftAt l i).2.2.2.1 = (ftAt l k).2.2.2.1)) := Zab rfl; generalize ftAt l i = f at *; generalize ftAt l k = g at *; obtain ⟨fa, fk, fx, fu, fi⟩ := f; obtain ⟨ga, gk, gx, gu, gi⟩ := g; replace hri : wq.rangeAt b (off + i * 5) [Vi fa, Vi fk, Vi fx, Vi fu, Vi fi] := hri; replace hrk : wq.rangeAt b (off + k * 5) [Vi ga, Vi gk, Vi gx, Vi gu, Vi gi] := hrk
       dsimp only at HLD
       go_upto_region 7 with fail; refine wp_region_held_drew (S := fun u => Below wq.heap.size wq u) (by kernel_rfl) ((Below.refl _ _).drew) (fun _ => ?_); have HS0 : Hid (Below wq.heap.size wq wq.drew) := Zab ((Below.refl _ _).drew); generalize wq.drew = u0 at HS0 ⊢; apply etwice
       · intro hk2; refine Tq 0 HS0.out ?_; simp only [Act.put, Ly]; refine Th 1 rfl (by intro w hSw; (try dsimp only at hSw); have y := cell_later hSw xf; clear hSw; go_simp; (try with_reducible rfl)) HS0.out ?_; simp only [Act.put, Ly]; refine Tq 2 HS0.out ?_; simp only [Act.put, Ly]; refine Tq 3 HS0.out ?_; simp only [Act.put, Ly]; refine Tk 4 rfl (yieldsIf_load_mid (by rfl) 73 (.tmp 22) rfl b (off + i * 5) rfl [Vi fa, Vi fk, Vi fx, Vi fu, Vi fi] _ (fun w hSw => Zae hri hSw) Tryz.underlying73 rfl infoFt) HS0.out ?_; simp only [Act.put, Ly]; refine Tq 5 HS0.out ?_; simp only [Act.put, Ly]; refine Th 6 rfl (by intro w hSw; (try dsimp only at hSw); have y := cell_later hSw xf; clear hSw; go_simp; (try with_reducible rfl)) HS0.out ?_; simp only [Act.put, Ly]; refine Tq 7 HS0.out ?_; simp only [Act.put, Ly]; refine Tq 8 HS0.out ?_; simp only [Act.put, Ly]; refine Tk 9 rfl (yieldsIf_load_mid (by rfl) 73 (.tmp 27) rfl b (off + k * 5) rfl [Vi ga, Vi gk, Vi gx, Vi gu, Vi gi] _ (fun w hSw => Zae hrk hSw) Tryz.underlying73 rfl infoFt) HS0.out ?_; simp only [Act.put, Ly]; refine Rb 10 11 (fun K hK => ?_) (fun K hK => ?_)
         · go_simp; have HS1 := Zab (Zac HS0.out (Zaa u0 (.cells #[Vi 0, Vi 0, Vi 0, Vi 0, Vi 0] 73))); have HAA1 := Zab (NB.new (t := 73) (K := wq.heap.size) [Vi 0, Vi 0, Vi 0, Vi 0, Vi 0] (X := u0) HS0.out.size); generalize u0.alloc (.cells #[Vi 0, Vi 0, Vi 0, Vi 0, Vi 0] 73) = u1 at HS1 HAA1 ⊢; generalize u0.heap.size = XA at HAA1  ⊢; refine hK.out _ _ HS1.out (fun _ => ?_); clear hK K; (try simp only [Act.put]); refine Ra 11 (fun K hK => ?_); go_simp; have HS2 := Zab (Zac HS1.out (Zaa u1 (.cells #[Vi 0, Vi 0, Vi 0, Vi 0, Vi 0] 73))); have HAA2 := Zab (HAA1.out.later (Zaa u1 (.cells #[Vi 0, Vi 0, Vi 0, Vi 0, Vi 0] 73))); have HAD2 := Zab (NB.new (t := 73) (K := wq.heap.size) [Vi 0, Vi 0, Vi 0, Vi 0, Vi 0] (X := u1) HS1.out.size); have HNAD : Hid (XA ≠ u1.heap.size) := Zab (Nat.ne_of_lt HAA1.out.1.lt); generalize u1.alloc (.cells #[Vi 0, Vi 0, Vi 0, Vi 0, Vi 0] 73) = u2 at HS2 HAA2 HAD2 ⊢; generalize u1.heap.size = XD at HAD2 HNAD ⊢; refine hK.out _ _ HS2.out (fun _ => ?_); clear hK K; (try simp only [Act.put]); clear HS1 HAA1; have hB := HS2.out; have hA := HAA2.out; have hD := HAD2.out; clear HS2 HAA2 HAD2; generalize u2 = v at hB hA hD ⊢; revert hB; revert HNAD; revert hA; revert hD; revert v; revert XA; revert XD; exact hk2.out
         · go_simp; have HS3 := Zab (Zac HS0.out (Zaa u0 (.cells #[Vi 0, Vi 0, Vi 0, Vi 0, Vi 0] 73))); have HAD3 := Zab (NB.new (t := 73) (K := wq.heap.size) [Vi 0, Vi 0, Vi 0, Vi 0, Vi 0] (X := u0) HS0.out.size); generalize u0.alloc (.cells #[Vi 0, Vi 0, Vi 0, Vi 0, Vi 0] 73) = u3 at HS3 HAD3 ⊢; generalize u0.heap.size = XD at HAD3  ⊢; refine hK.out _ _ HS3.out (fun _ => ?_); clear hK K; (try simp only [Act.put]); refine Ra 10 (fun K hK => ?_); go_simp; have HS4 := Zab (Zac HS3.out (Zaa u3 (.cells #[Vi 0, Vi 0, Vi 0, Vi 0, Vi 0] 73))); have HAD4 := Zab (HAD3.out.later (Zaa u3 (.cells #[Vi 0, Vi 0, Vi 0, Vi 0, Vi 0] 73))); have HAA4 := Zab (NB.new (t := 73) (K := wq.heap.size) [Vi 0, Vi 0, Vi 0, Vi 0, Vi 0] (X := u3) HS3.out.size); have HNAD : Hid (u3.heap.size ≠ XD) := Zab (Nat.ne_of_gt HAD3.out.1.lt); generalize u3.alloc (.cells #[Vi 0, Vi 0, Vi 0, Vi 0, Vi 0] 73) = u4 at HS4 HAD4 HAA4 ⊢; generalize u3.heap.size = XA at HAA4 HNAD ⊢; refine hK.out _ _ HS4.out (fun _ => ?_); clear hK K; (try simp only [Act.put]); clear HS3 HAD3; have hB := HS4.out; have hA := HAA4.out; have hD := HAD4.out; clear HS4 HAA4 HAD4; generalize u4 = v at hB hA hD ⊢; revert hB; revert HNAD; revert hA; revert hD; revert v; revert XA; revert XD; exact hk2.out
       intro XD XA u5 hD hA HNAD hB; have HS5 := Zab hB; have HAA5 := Zab hA; have HAD5 := Zab hD; clear hB hA hD; refine Ra 12 (fun K hK => ?_); rw [if_pos (by rfl)]; refine Zan 73 (.tmp 5) (.tmp 23) rfl XA 0 #[Vi fa, Vi fk, Vi fx, Vi fu, Vi fi] rfl rfl (HAA5.out.1.there (Nat.le_of_ble_eq_true rfl)) infoFt (Zat _ rfl) rfl ?_; have HS6 := Zab (Zah [Vi fa, Vi fk, Vi fx, Vi fu, Vi fi] 0 u5 HS5.out (NB.le HAA5.out)); have HAA6 : Hid (NB 73 wq.heap.size (u5.setCells XA 0 [Vi fa, Vi fk, Vi fx, Vi fu, Vi fi]) XA [Vi fa, Vi fk, Vi fx, Vi fu, Vi fi]) := Zab ⟨Blk.setCells [Vi fa, Vi fk, Vi fx, Vi fu, Vi fi] 0 u5 [Vi 0, Vi 0, Vi 0, Vi 0, Vi 0] HAA5.out.1, NB.le HAA5.out⟩; have HAD6 := Zab (NB.farCells (Ne.symm HNAD.out) [Vi fa, Vi fk, Vi fx, Vi fu, Vi fi] 0 HAD5.out); generalize hU : World.setCells _ XA 0 _ = u6 at *; clear hU; refine hK.out _ _ HS6.out (fun _ => ?_); clear hK K; clear HS5 HAA5 HAD5; refine Ra 13 (fun K hK => ?_); rw [if_pos (by rfl)]; refine Zan 73 (.tmp 6) (.tmp 28) rfl XD 0 #[Vi ga, Vi gk, Vi gx, Vi gu, Vi gi] rfl rfl (HAD6.out.1.there (Nat.le_of_ble_eq_true rfl)) infoFt (Zat _ rfl) rfl ?_; have HS7 := Zab (Zah [Vi ga, Vi gk, Vi gx, Vi gu, Vi gi] 0 u6 HS6.out (NB.le HAD6.out)); have HAD7 : Hid (NB 73 wq.heap.size (u6.setCells XD 0 [Vi ga, Vi gk, Vi gx, Vi gu, Vi gi]) XD [Vi ga, Vi gk, Vi gx, Vi gu, Vi gi]) := Zab ⟨Blk.setCells [Vi ga, Vi gk, Vi gx, Vi gu, Vi gi] 0 u6 [Vi 0, Vi 0, Vi 0, Vi 0, Vi 0] HAD6.out.1, NB.le HAD6.out⟩; have HAA7 := Zab (NB.farCells HNAD.out [Vi ga, Vi gk, Vi gx, Vi gu, Vi gi] 0 HAA6.out); generalize hU : World.setCells _ XD 0 _ = u7 at *; clear hU; refine hK.out _ _ HS7.out (fun _ => ?_); clear hK K; clear HS6 HAA6 HAD6; refine wpAnyH_done (by kernel_rfl) ?_ _; go_simp; have hA := HAA7.out; have hD := HAD7.out; clear HAA7 HAD7; have hB := HS7.out; clear HS7; generalize u7 = v4 at hB hA hD ⊢; refine Zbh (by assumption) ?_; have HA : Hid (Blk 73 v4 XA [Vi fa, Vi fk, Vi fx, Vi fu, Vi fi]) := Zab hA.1; have HD : Hid (Blk 73 v4 XD [Vi ga, Vi gk, Vi gx, Vi gu, Vi gi]) := Zab hD.1; have HFF := Zab (hff.later hB); have HBW := Zab (Zac hbw hB); clear xf hA hD hri hrk hff hbw hB hlc; have a1 := (HA.out.cell (j := 1) rfl).1; have a2 := (HA.out.cell (j := 2) rfl).1; have a3 := (HA.out.cell (j := 3) rfl).1; have d1 := (HD.out.cell (j := 1) rfl).1; have d2 := (HD.out.cell (j := 2) rfl).1; have d3 := (HD.out.cell (j := 3) rfl).1
       by_cases q1 : fk = 4
       · have HLC : Hid (LC l i k) := Zab (by rw [HLD.out]; intro h; exact absurd q1 h); subst q1; clear HLD; go_wp2_with fail; exact ⟨⟨k + 1, by omega, by go_num, HNX.out HLC.out, HFF.out, HBW.out⟩, by simp [intOf]; omega⟩
       by_cases q2 : gk = 4
       · have HLC : Hid (LC l i k) := Zab (by rw [HLD.out]; intro _ h; exact absurd q2 h); subst q2; clear HLD; go_wp2_with fail; exact ⟨⟨k + 1, by omega, by go_num, HNX.out HLC.out, HFF.out, HBW.out⟩, by simp [intOf]; omega⟩
       by_cases q3 : fx = gx
       · by_cases q4 : fu = gu
         · have HLC : Hid (LC l i k) := Zab (by rw [HLD.out]; intro _ _ _; exact q4); subst q3 q4; clear HLD; go_wp2_with fail; exact ⟨⟨k + 1, by omega, by go_num, HNX.out HLC.out, HFF.out, HBW.out⟩, by simp [intOf]; omega⟩
         · subst q3; clear HLD HNX
           have hbn : (fu != gu) = true := by simpa using q4
           have hb1 : (fk != 4) = true := by simpa using q1
           have hb2 : (gk != 4) = true := by simpa using q2
           go_wp2_with fail; go_ret; exact ⟨⟨false, rfl, fun h => by cases h⟩, HBW.out⟩
       · have HLC : Hid (LC l i k) := Zab (by rw [HLD.out]; intro _ _ h; exact absurd h q3); clear HLD; go_wp2_with fail; exact ⟨⟨k + 1, by omega, by go_num, HNX.out HLC.out, HFF.out, HBW.out⟩, by simp [intOf]; omega⟩
     · obtain rfl : k = i := by omega
       have HFF := Zab hff; have HBW := Zab hbw; have HLC := Zab hlc; clear hff hbw hlc; go_wp2_with fail
       exact ⟨⟨k + 1, by omega, by go_num, (fun p hp q hq => by
        by_cases e : p = k
        · rw [e]; exact HLC.out q (by omega)
        · exact HPC.out p (by omega) q hq), HFF.out, HBW.out⟩, by simp [intOf]; omega⟩
  · obtain rfl : i = l.length := by omega
    have HBW := Zab hbw; have HPC := Zab hlc; clear hff hbw hlc; go_wp2_with fail; go_ret; exact ⟨⟨true, rfl, fun _ => HPC.out⟩, HBW.out⟩
def FA (l : List Ft) (lq lu : Nat → Nat) : Prop := ∀ j, j < l.length → ((ftAt l j).2.1 ≠ 4 → ∀ i : Nat, i < 2 → (ftAt l j).2.2.1 = i → (ftAt l j).2.2.2.1 = (lq i : Int)) ∧ ((ftAt l j).2.1 = 4 → ∀ i : Nat, i < 2 → (ftAt l j).2.2.1 = i → (ftAt l j).2.2.2.1 = (lu i : Int))
theorem ailU_none {l : List Ft} {now ax un : Int} {sf : Bool} : ∀ n, (∀ j, j < n → hits now ax un sf (ftAt l j) = false) → ailU l now ax un sf n = none
 | 0, _ => rfl
 | n + 1, h => by
  rw [ailU, h n (by omega)]; exact ailU_none n fun j hj => h j (by omega)
theorem FA.hon {l : List Ft} {lq lu : Nat → Nat} (h : FA l lq lu) {i k : Nat} (hi : i < 2) (hk : k ≠ lq i) (now : Int) : ail l now i k false = none := by
 refine ailU_none _ fun j hj => ?_
 cases e : hits now i k false (ftAt l j)
 · rfl
 · simp only [hits, Bool.and_eq_true, decide_eq_true_eq, beq_iff_eq, decide_eq_false_iff_not] at e; have := (h j hj).1 e.2.2.2 i hi e.2.1
   omega
theorem FA.fast {l : List Ft} {lq lu : Nat → Nat} (h : FA l lq lu) {i k : Nat} (hi : i < 2) (hk : k ≠ lu i) (now : Int) : ail l now i k true = none := by
 refine ailU_none _ fun j hj => ?_
 cases e : hits now i k true (ftAt l j)
 · rfl
 · simp only [hits, Bool.and_eq_true, decide_eq_true_eq, beq_iff_eq] at e; have := (h j hj).2 e.2.2.2 i hi e.2.1
   omega
structure FI (C : CR) (lq lu : Nat → Nat) (q : FT) : Prop where
 law : betw q.S.n 0 1 = true
 nor : (∀ i, i < 2 → C.a i 4 ≤ lu i) → q.S.n = 0
 bank : ∀ i, i < 2 → ∃ far, TInv (lq i) (C.a i 9) far (q.S.bk i).b (q.S.bk i).o (q.S.bk i).l
 ax : ∀ i, i < 2 → ∃ E, AI C i (lu i) (q.sv i) (q.at' i) (q.x i) E
theorem tS_at (ws : List Rd) (x : Int) {k : Nat} (hk : k < 3) : tS ws x k = (smp ws x k).1 ∧ sS ws x k = (smp ws x k).2 := by
 rcases (show k = 0 ∨ k = 1 ∨ k = 2 by omega) with rfl | rfl | rfl <;> exact ⟨rfl, rfl⟩
theorem sndU_inN (l : List Sv) : ∀ n, sndU l n = (inN l n : Int)
 | 0 => rfl
 | n + 1 => by
  have := sndU_inN l n; simp only [sndU, inN]
  split <;> omega
theorem left_two {o : Nat → Bool} {q : Nat} (h : ∀ k, k < 3 → k ≠ q → o k = false) : 2 ≤ Zbz o 3 := by
 have a := h 0 (by omega); have b := h 1 (by omega); have c := h 2 (by omega); simp only [Zbz]
 by_cases e0 : 0 = q
 · rw [b (by omega), c (by omega)]; cases o 0 <;> decide
 · by_cases e1 : 1 = q
   · rw [a e0, c (by omega)]; cases o 1 <;> decide
   · rw [a e0, b e1]; cases o 2 <;> decide
theorem AW.law {C : CR} {i u : Nat} {L : List Sv} {x E c : Int} (w : AW C i u L x E) (hn : 2 ≤ C.a i 4) (hc : 2 ≤ c) : 0 ≤ lawI c (sndU L L.length) (C.a i 4) ∧ lawI c (sndU L L.length) (C.a i 4) ≤ 1 ∧ (C.a i 4 ≤ u → lawI c (sndU L L.length) (C.a i 4) = 0 ∧ sndU L L.length = C.a i 4) := by
 have g := inN_ge (l := L) (u := u) L.length fun k hk hu => (w.rest k hk hu).1; have hl := w.len; have hle := inN_le L L.length; rw [sndU_inN]
 unfold lawI
 rw [if_neg (by omega), if_neg (by omega), if_neg (by omega)]
 split
 · refine ⟨by omega, by omega, fun e => ?_⟩; have := g.1 (by omega)
   omega
 · refine ⟨by omega, by omega, fun e => ⟨rfl, ?_⟩⟩
   omega
section
variable {C : CR} {l : List Ft} {lq lu : Nat → Nat} {now n : Int} {q : FT} {s : Stp}
theorem FI.new (h : crE C = 0) : FI C lq lu (q0 C) := by
 refine ⟨rfl, fun _ => rfl, fun i hi => ⟨0, ?_⟩, fun i hi => ⟨0, ?_⟩⟩
 · have hr : Zcj (C.a i 8) (C.a i 9) = 0 := Zcp h hi (k := 1) (by omega)
   have hb : ruleB (C.a i 8) (C.a i 9) = true := by
    unfold Zcj at hr
    split at hr
    · assumption
    · cases hr
   exact TInv.new (lq i) (Zge hb).2.1
 · have r := Zeb h hi; have ar := Zau (cr_ar h hi); have hl : (List.replicate (C.a i 4).toNat svD).length = (C.a i 4).toNat := List.length_replicate
   have hz : smU (List.replicate (C.a i 4).toNat svD) (List.replicate (C.a i 4).toNat svD).length = 0 := by
    generalize (List.replicate (C.a i 4).toNat svD).length = m
    induction m with
    | zero => rfl
    | succ m ih => rw [smU, ih, Zbf]; rfl
   have hp : pnd (C.a i 7) svD 0 = 0 := pnd_self (by omega) svD; have f := cr_fm h hi; refine ⟨⟨cr_ar h hi, fun k _ => ?_⟩, by show ((List.replicate (C.a i 4).toNat svD).length : Int) = _; rw [hl]; omega, fun j k _ _ _ _ => ?_, fun k _ _ => ?_, fun _ _ => rfl, ⟨Int.le_refl _, fun _ _ => ?_, fun _ e => ?_, fun _ => rfl⟩, ?_⟩
   · show svB _ _ (svAt (List.replicate _ svD) k).1 (svAt (List.replicate _ svD) k).2.1 (svAt (List.replicate _ svD) k).2.2 = true
     rw [Zbf]; exact sv_mk (show -C.a i 5 ≤ (0 : Int) ∧ (0 : Int) ≤ C.a i 5 by omega) (show (0 : Int) ≤ 0 ∧ (0 : Int) ≤ C.a i 10 by omega) (fun h => by cases h) (fun _ => show (0 : Int) < C.a i 10 by omega)
   · show (svAt (List.replicate _ svD) j).1 - (svAt (List.replicate _ svD) k).1 ≤ 1
     rw [Zbf, Zbf]
     omega
   · show ((svAt (List.replicate _ svD) k).2.2 = false ∧ (svAt (List.replicate _ svD) k).2.1 = 0) ∧ (0 : Int) = (svAt (List.replicate _ svD) k).1
     rw [Zbf]; exact ⟨⟨rfl, rfl⟩, rfl⟩
   · show (0 : Int) ≤ 2 * C.a i 5 * ((svAt (List.replicate _ svD) (lu i)).2.1 + pnd (C.a i 7) (svAt (List.replicate _ svD) (lu i)) 0)
     rw [Zbf, hp]
     show (0 : Int) ≤ 2 * C.a i 5 * (0 + 0)
     omega
   · have e' : (svAt (List.replicate (C.a i 4).toNat svD) (lu i)).2.2 = true := e; rw [Zbf] at e'
     cases e'
   · show Kept (C.a i 0 - 0) (C.a i 1 + 0) _ _ _ (0 : Int) (smU (List.replicate (C.a i 4).toNat svD) (List.replicate (C.a i 4).toNat svD).length)
     rw [hz, Int.sub_zero, Int.add_zero]; exact Kept.start (cr_gok h hi) f.2.1 f.2.2
theorem FI.step (g : GI C n q) (h : FI C lq lu q) (hf : FA l lq lu) (hs : SA C s) : FI C lq lu (stpF C l now q s) := by
 have hm := g.may (l := l) (now := now) hs; have hcr := g.cr; have h4 : ∀ i, i < 2 → C.a i 4 ≤ 4 := fun i hi => (Zeb hcr hi).1.2
 have hv : ∀ i, i < 2 → ((q.x i - C.a i 2 ≤ ((sS3 C q.S (wsF C l now q s) q.sv).bk i).l ∧ ((sS3 C q.S (wsF C l now q s) q.sv).bk i).l ≤ q.x i + C.a i 2)) ∧ ∃ far, TInv (lq i) (C.a i 9) far ((sS3 C q.S (wsF C l now q s) q.sv).bk i).b ((sS3 C q.S (wsF C l now q s) q.sv).bk i).o ((sS3 C q.S (wsF C l now q s) q.sv).bk i).l := fun i hi => by
  obtain ⟨far, ti⟩ := h.bank i hi; obtain ⟨E, ai⟩ := h.ax i hi; have bd := ai.bd hcr hi; have gok := cr_gok hcr hi; have n0 := gok.n0; have n1 := gok.n1
  have tin : TIn (lq i) (C.a i 2) (q.x i) (tS (wsF C l now q s) (1 + (i : Int)) (lq i)) (if lq i < 3 then sS (wsF C l now q s) (1 + (i : Int)) (lq i) else 0) (tS (wsF C l now q s) (1 + (i : Int))) (sS (wsF C l now q s) (1 + (i : Int))) := by
   refine ⟨fun k hk hq => ?_, fun hq => ⟨rfl, by rw [if_pos hq]⟩, ?_, by omega, by omega⟩
   · have e := smp_hon hm hi hk h4 (hf.hon hi hq now); rw [(tS_at _ _ hk).1, (tS_at _ _ hk).2, e]; have nb := noi_bd (z := s.z i) n0 k; have : cW (q.x i + noi (C.a i 2) (s.z i) k) = q.x i + noi (C.a i 2) (s.z i) k := clip_id (by omega) (by omega); rw [this]
     refine ⟨rfl, ?_, ?_⟩ <;> dsimp only <;> omega
   · split
     · rename_i hq
       rw [(tS_at _ _ hq).2]; have := smp_bd ((saR C l now q.x q.at' s).map pk1) (1 + (i : Int)) (lq i)
       unfold wsF
       omega
     · omega
  rw [bk_at _ _ _ hi]; have st := tinv_step (show Zcj (C.a i 8) (C.a i 9) = 0 from Zcp hcr hi (k := 1) (by omega)) (cr_fm hcr hi).1 ti tin; exact ⟨st.1, _, st.2⟩
 have hw : ∀ i, i < 2 → ∃ E', AW C i (lu i) (vS1 C (wsF C l now q s) q.sv i) (q.x i) E' := fun i hi => by
  obtain ⟨E, ai⟩ := h.ax i hi; have e := vS1_at C (wsF C l now q s) q.sv hi; have ok := vS1_ok (ws := (saR C l now q.x q.at' s).map pk1) g.st hi; have := ai.watch (ws := wsF C l now q s) hcr hi (fun k hk => smp_pl hm hi (by have := ai.len; omega) h4) (by rw [← e]; exact ok); rw [e]; exact this
 have hleft : ∀ i, i < 2 → 2 ≤ Zbz ((sS1 C q.S (wsF C l now q s)).bk i).o 3 := fun i hi => by
  obtain ⟨_, far, ti⟩ := hv i hi; exact left_two fun k hk hq => (ti.good k hk hq).1
 have hlaw : ∀ i, i < 2 → 0 ≤ lawI (heM C (sS1 C q.S (wsF C l now q s)) (vS1 C (wsF C l now q s) q.sv) i).1 (heM C (sS1 C q.S (wsF C l now q s)) (vS1 C (wsF C l now q s) q.sv) i).2.1 (heM C (sS1 C q.S (wsF C l now q s)) (vS1 C (wsF C l now q s) q.sv) i).2.2 ∧ lawI (heM C (sS1 C q.S (wsF C l now q s)) (vS1 C (wsF C l now q s) q.sv) i).1 (heM C (sS1 C q.S (wsF C l now q s)) (vS1 C (wsF C l now q s) q.sv) i).2.1 (heM C (sS1 C q.S (wsF C l now q s)) (vS1 C (wsF C l now q s) q.sv) i).2.2 ≤ 1 ∧ (C.a i 4 ≤ lu i → lawI (heM C (sS1 C q.S (wsF C l now q s)) (vS1 C (wsF C l now q s) q.sv) i).1 (heM C (sS1 C q.S (wsF C l now q s)) (vS1 C (wsF C l now q s) q.sv) i).2.1 (heM C (sS1 C q.S (wsF C l now q s)) (vS1 C (wsF C l now q s) q.sv) i).2.2 = 0) := fun i hi => by
  obtain ⟨E', aw⟩ := hw i hi; have := aw.law (Zeb hcr hi).1.1 (hleft i hi); exact ⟨this.1, this.2.1, fun e => (this.2.2 e).1⟩
 have hwa : ∀ X Y, X = heM C (sS1 C q.S (wsF C l now q s)) (vS1 C (wsF C l now q s) q.sv) 0 → Y = heM C (sS1 C q.S (wsF C l now q s)) (vS1 C (wsF C l now q s) q.sv) 1 → waI [X, Y] = mxL (mxL 0 (lawI X.1 X.2.1 X.2.2)) (lawI Y.1 Y.2.1 Y.2.2) := by
  rintro X Y rfl rfl; exact waI_two (he_ok (ws := (saR C l now q.x q.at' s).map pk1) g.st (i := 0) (by omega) (sS1 C q.S (wsF C l now q s))) (he_ok (ws := (saR C l now q.x q.at' s).map pk1) g.st (i := 1) (by omega) (sS1 C q.S (wsF C l now q s)))
 have hn0 := Zal h.law
 have hlw : (0 ≤ (stpF C l now q s).S.n ∧ (stpF C l now q s).S.n ≤ 1) ∧ ((∀ i, i < 2 → C.a i 4 ≤ lu i) → (stpF C l now q s).S.n = 0) := by
  show (0 ≤ lwM C (sS1 C q.S (wsF C l now q s)) (wsF C l now q s) (vS1 C (wsF C l now q s) q.sv) ∧ lwM C (sS1 C q.S (wsF C l now q s)) (wsF C l now q s) (vS1 C (wsF C l now q s) q.sv) ≤ 1) ∧ (_ → lwM C (sS1 C q.S (wsF C l now q s)) (wsF C l now q s) (vS1 C (wsF C l now q s) q.sv) = 0)
  have a := hlaw 0 (by omega); have b := hlaw 1 (by omega); have hnn := h.nor
  unfold lwM
  rw [hwa _ _ rfl rfl]; generalize lawI (heM C (sS1 C q.S (wsF C l now q s)) (vS1 C (wsF C l now q s) q.sv) 0).1 _ _ = A at *; generalize lawI (heM C (sS1 C q.S (wsF C l now q s)) (vS1 C (wsF C l now q s) q.sv) 1).1 _ _ = B at *
  show (0 ≤ neI q.S.n (mxL (mxL 0 A) B) _ ∧ neI q.S.n (mxL (mxL 0 A) B) _ ≤ 1) ∧ (_ → neI q.S.n (mxL (mxL 0 A) B) _ = 0)
  have m : 0 ≤ mxL (mxL 0 A) B ∧ mxL (mxL 0 A) B ≤ 1 ∧ (A = 0 → B = 0 → mxL (mxL 0 A) B = 0) := by unfold mxL; split <;> split <;> omega
  generalize mxL (mxL 0 A) B = W at *
  unfold neI
  rw [if_pos (by rw [Bool.and_eq_true]; exact ⟨Zbo (by omega), Zbo (by omega)⟩)]
  split
  · exact ⟨by omega, fun e => m.2.2 (a.2.2 (e 0 (by omega))) (b.2.2 (e 1 (by omega)))⟩
  · have m2 : 0 ≤ mxL q.S.n W ∧ mxL q.S.n W ≤ 1 ∧ (q.S.n = 0 → W = 0 → mxL q.S.n W = 0) := by unfold mxL; split <;> omega
    exact ⟨by omega, fun e => m2.2.2 (hnn e) (m.2.2 (a.2.2 (e 0 (by omega))) (b.2.2 (e 1 (by omega))))⟩
 refine ⟨Zbo hlw.1, hlw.2, fun i hi => (hv i hi).2, fun i hi => ?_⟩; obtain ⟨E', aw⟩ := hw i hi; obtain ⟨hy, far, ti⟩ := hv i hi
 have hlen : (C.a i 4).toNat = (vS1 C (wsF C l now q s) q.sv i).length := by have := aw.len; omega
 have mv := aw.move (h := (sS2 C q.S (wsF C l now q s) q.sv).hd i) (k := skI (wsF C l now q s) i) (v := ((sS2 C q.S (wsF C l now q s) q.sv).bk 2).l) (n := (stpF C l now q s).S.n) (l := l) (now := now) (p := s.p i) hcr hi hy.1 hy.2 ti.last.1 ti.last.2 (Zbo hlw.1) (fun k _ hk => hf.fast hi hk now) (hs.p i hi).1 (hs.p i hi).2 hlen (q.at' i)
 have e3 : svM C i ((sS2 C q.S (wsF C l now q s) q.sv).hd i) (skI (wsF C l now q s) i) ((sS3 C q.S (wsF C l now q s) q.sv).bk i).l ((sS2 C q.S (wsF C l now q s) q.sv).bk 2).l (stpF C l now q s).S.n (vS1 C (wsF C l now q s) q.sv i) = vS3 C q.S (wsF C l now q s) q.sv i := by
  rw [fv3_at _ hi]; rfl
 rw [e3] at mv; exact mv
end
theorem flU_fi {C : CR} {l : List Ft} {ss : List Stp} {lq lu : Nat → Nat} (h : crE C = 0) (hs : ∀ k, k < ss.length → SA C (stAt ss k)) (hf : FA l lq lu) : ∀ n : Nat, n ≤ ss.length → FI C lq lu (flU C l ss n)
 | 0, _ => FI.new h
 | n + 1, hn => by
  rw [flU]; exact (flU_fi h hs hf n (by omega)).step (flU_gi h hs n (by omega)) hf (hs n (by omega))
theorem FI.flight {C : CR} {lq lu : Nat → Nat} {n : Int} {q : FT} (g : GI C n q) (h : FI C lq lu q) (hn : ∀ i, i < 2 → C.a i 4 ≤ lu i) :
 q.S.n = 0 ∧ ∀ i, i < 2 → 2 ≤ Zbz (q.S.bk i).o 3 ∧ sndU (q.sv i) (q.sv i).length = C.a i 4 ∧ C.a i 0 ≤ q.x i ∧ q.x i ≤ C.a i 1 := by
 refine ⟨h.nor hn, fun i hi => ?_⟩; obtain ⟨far, ti⟩ := h.bank i hi; obtain ⟨E, ai⟩ := h.ax i hi; have hl := g.len hi; have hu := hn i hi; have hE := ai.eb.enone (by omega); have k0 := ai.kept.lo; have k1 := ai.kept.hi; refine ⟨left_two fun k hk hq => (ti.good k hk hq).1, ?_, by omega, by omega⟩; rw [sndU_inN, inN_all _ fun k hk => (ai.rest k hk (by omega)).1.1]; exact hl
theorem FI.loose {C : CR} {lq lu : Nat → Nat} {n : Int} {q : FT} (g : GI C n q) (h : FI C lq lu q) :
 (0 ≤ q.S.n ∧ q.S.n ≤ 1) ∧ ∀ i, i < 2 → (C.a i 4 ≤ lu i → C.a i 0 ≤ q.x i ∧ q.x i ≤ C.a i 1) ∧ C.a i 0 - (2 * C.a i 5 * C.a i 10 + bk (raI C i) (moI C i + puI C i)) ≤ q.x i ∧ q.x i ≤ C.a i 1 + (2 * C.a i 5 * C.a i 10 + bk (raI C i) (moI C i + puI C i)) := by
 refine ⟨Zal h.law, fun i hi => ?_⟩; obtain ⟨E, ai⟩ := h.ax i hi; refine ⟨fun hu => ?_, ai.most⟩; have hl := g.len hi; have hE := ai.eb.enone (by omega); have k0 := ai.kept.lo; have k1 := ai.kept.hi
 omega
theorem lq_is {C : CR} {l : List Ft} (hok : ∀ k, k < l.length → FtOK C (ftAt l k)) (h : ∀ p, p < l.length → ∀ q, q < p → LC l p q) (i : Nat) : ∃ q : Nat, ∀ j, j < l.length → (ftAt l j).2.1 ≠ 4 → (ftAt l j).2.2.1 = (i : Int) → (ftAt l j).2.2.2.1 = (q : Int) := by
 by_cases e : ∃ j, j < l.length ∧ (ftAt l j).2.1 ≠ 4 ∧ (ftAt l j).2.2.1 = (i : Int)
 · obtain ⟨j, hj, hk, hx⟩ := e; refine ⟨(ftAt l j).2.2.2.1.toNat, fun m hm hmk hmx => ?_⟩; have hu := (hok j hj).u
   have : (ftAt l m).2.2.2.1 = (ftAt l j).2.2.2.1 := by
    rcases Nat.lt_trichotomy m j with c | c | c
    · exact (h j hj m c hk hmk (by rw [hx, hmx])).symm
    · rw [c]
    · exact h m hm j c hmk hk (by rw [hx, hmx])
   omega
 · exact ⟨0, fun j hj hk hx => absurd ⟨j, hj, hk, hx⟩ e⟩
theorem lq_fun {C : CR} {l : List Ft} (hok : ∀ k, k < l.length → FtOK C (ftAt l k)) (h : ∀ p, p < l.length → ∀ q, q < p → LC l p q) : ∃ lq : Nat → Nat, ∀ (i j : Nat), j < l.length → (ftAt l j).2.1 ≠ 4 → (ftAt l j).2.2.1 = (i : Int) → (ftAt l j).2.2.2.1 = (lq i : Int) :=
 ⟨fun i => Classical.choose (lq_is hok h i), fun i => Classical.choose_spec (lq_is hok h i)⟩
theorem lo_valid {C : CR} {l : List Ft} (hok : ∀ k, k < l.length → FtOK C (ftAt l k)) : ∀ j, j < l.length → (ftAt l j).2.1 = 4 → 0 ≤ (ftAt l j).2.2.1 := fun j hj _ => (hok j hj).x.1
theorem fa_none {C : CR} {l : List Ft} {a u : Int} (hok : ∀ k, k < l.length → FtOK C (ftAt l k)) (h : ∀ p, p < l.length → ∀ q, q < p → LC l p q) (ho : LO l l.length a u) (ha : a < 0) : ∃ lq : Nat → Nat, FA l lq (fun _ => 4) := by
 obtain ⟨lq, hq⟩ := lq_fun hok h; refine ⟨lq, fun j hj => ⟨fun hk i _ hx => hq i j hj hk hx, fun hk i _ hx => ?_⟩⟩; have := ho (lo_valid hok) j hj hk; have := (hok j hj).x.1
 omega
theorem fa_one {C : CR} {l : List Ft} {a u : Int} (hok : ∀ k, k < l.length → FtOK C (ftAt l k)) (h : ∀ p, p < l.length → ∀ q, q < p → LC l p q) (ho : LO l l.length a u) : ∃ lq lu : Nat → Nat, FA l lq lu ∧ ∀ i : Nat, (i : Int) ≠ a → lu i = 4 := by
 obtain ⟨lq, hq⟩ := lq_fun hok h; refine ⟨lq, fun i => if (i : Int) = a then u.toNat else 4, fun j hj => ⟨fun hk i _ hx => hq i j hj hk hx, fun hk i _ hx => ?_⟩, fun i hi => if_neg hi⟩; have e := ho (lo_valid hok) j hj hk; have hu := (hok j hj).u
 show (ftAt l j).2.2.2.1 = ((if (i : Int) = a then u.toNat else 4 : Nat) : Int)
 rw [if_pos (by omega)]
 omega
theorem rp_flight {C : CR} {l : List Ft} {ss : List Stp} {lq : Nat → Nat} (ok : FlOK C l ss) (hf : FA l lq (fun _ => 4)) {k : Nat} (hk : k < ss.length) :
 (rpF (flU C l ss (k + 1))).n = 0 ∧ ∀ i, i < 2 → 2 ≤ (rpF (flU C l ss (k + 1))).l i ∧ (rpF (flU C l ss (k + 1))).s i = C.a i 4 ∧ C.a i 0 ≤ (rpF (flU C l ss (k + 1))).x i ∧ (rpF (flU C l ss (k + 1))).x i ≤ C.a i 1 :=
 FI.flight (flU_gi ok.cr ok.st (k + 1) (by omega)) (flU_fi ok.cr ok.st hf (k + 1) (by omega)) (fun i hi => (Zeb ok.cr hi).1.2)
theorem rp_loose {C : CR} {l : List Ft} {ss : List Stp} {lq lu : Nat → Nat} {a : Int} (ok : FlOK C l ss) (hf : FA l lq lu) (hu : ∀ i : Nat, (i : Int) ≠ a → lu i = 4) {k : Nat} (hk : k < ss.length) :
 (0 ≤ (rpF (flU C l ss (k + 1))).n ∧ (rpF (flU C l ss (k + 1))).n ≤ 1) ∧ ∀ i : Nat, i < 2 → ((i : Int) ≠ a → C.a i 0 ≤ (rpF (flU C l ss (k + 1))).x i ∧ (rpF (flU C l ss (k + 1))).x i ≤ C.a i 1) ∧ C.a i 0 - (2 * C.a i 5 * C.a i 10 + bk (raI C i) (moI C i + puI C i)) ≤ (rpF (flU C l ss (k + 1))).x i ∧ (rpF (flU C l ss (k + 1))).x i ≤ C.a i 1 + (2 * C.a i 5 * C.a i 10 + bk (raI C i) (moI C i + puI C i)) := by
 obtain ⟨h1, h2⟩ := FI.loose (flU_gi ok.cr ok.st (k + 1) (by omega)) (flU_fi ok.cr ok.st hf (k + 1) (by omega)); exact ⟨h1, fun i hi => ⟨fun hne => (h2 i hi).1 (by rw [hu i hne]; exact (Zeb ok.cr hi).1.2), (h2 i hi).2⟩⟩
end Go.Proofs.YtnfdfiholcelaaaGreatDoor
