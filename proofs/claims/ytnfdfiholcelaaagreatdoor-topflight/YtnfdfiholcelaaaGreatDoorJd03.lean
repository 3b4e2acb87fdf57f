import Derived.ChangeKeysEq
import Derived.Test.YtnfdfiholcelaaaGreatDoorJd00
import Derived.Test.YtnfdfiholcelaaaGreatDoorJd01
import Derived.Test.YtnfdfiholcelaaaGreatDoorJd02
set_option maxRecDepth 100000
set_option maxHeartbeats 20000000
namespace Go.Proofs.YtnfdfiholcelaaaGreatDoor
open Go.RowKit Go.Sort Go.Shelf Plain Go.Maps
def rdOf (x : Int) : Option Rd := if ones x 32 % 2 = 1 then some (labI x, srcI x, staI x, datI x) else none
theorem rdOf_yes {x : Int} (h : ones x 32 % 2 = 1) : rdOf x = some (labI x, srcI x, staI x, datI x) := if_pos h
theorem rdOf_no {x : Int} (h : ¬ ones x 32 % 2 = 1) : rdOf x = none := if_neg h
def Wds (w : World) (a : Option Addr) (l : List Int) : Prop := (l = [] ∨ ∃ b off, a = some (Ad b off) ∧ ∀ k, k < l.length → w.cell? (Ad b (off + k)) = some (.int .u32 (at0 l k))) ∧ ∀ x ∈ l, 0 ≤ x ∧ x < 4294967296
theorem Wds.later {w w' : World} {a : Option Addr} {l : List Int} (h : Wds w a l) (hb : Below w.heap.size w w') : Wds w' a l := by
 refine ⟨?_, h.2⟩
 rcases h.1 with h | ⟨b, off, h, hc⟩
 · exact .inl h
 · exact .inr ⟨b, off, h, fun k hk => cell_later hb (hc k hk)⟩
theorem Wds.at {w : World} {a : Option Addr} {l : List Int} (h : Wds w a l) {k : Nat} (hk : k < l.length) : ∃ b off, a = some (Ad b off) ∧ w.cell? (Ad b (off + k)) = some (.int .u32 (at0 l k)) ∧ 0 ≤ at0 l k ∧ at0 l k < 4294967296 := by
 have hm : at0 l k ∈ l := by simp [at0, hk]
 rcases h.1 with rfl | ⟨b, off, h', hc⟩
 · simp at hk
 · exact ⟨b, off, h', hc k hk, h.2 _ hm⟩
theorem by_any (a b c d : Int) (w : World) : Calls Tryz.prog 149 #[.agg #[Vi a, Vi b, Vi c, Vi d]] w fun e w' => e = .returned (.agg #[Vi a, Vi b]) ∧ Below w.heap.size w w' := by
 go_enter Tryz.func149, Tryz.ntmps149
 go_wp2; exact bodyPost_ret (v := .agg #[Vi a, Vi b]) (by simp [results, Tryz.results149, go_sem]) rfl ⟨rfl, Zcc (Zaw _ _) (Zaw _ _)⟩
theorem Zdj {H : Type} {P : Program} {k : TypeId} {R : Value → Option (DataW H × List MemPlace)} {w w' : World} {b n : Nat} {D : DataW H} (h : w.ownsMap P k R b n D) (hb : Below w.heap.size w w') : w'.ownsMap P k R b n D := by
 have hl := h.lt; obtain ⟨es, clock, hb', F, hs, hD⟩ := h; exact ⟨es, clock, (hb.block b hl).trans hb', F, hs, hD⟩
theorem vals_gives {H : Type} (n : Nat) (hn : 1 ≤ n) (Bm b nn : Nat) (D0 : DataW H) (ls : List Rd) (hrep : RepM D0 ls) (hwf : ∀ z ∈ ls, wfR z) (hso : ls.Pairwise (fun x y => rlt x y = true)) (w : World)
 (hm : w.cell? (Ad Bm 0) = some (.map (some b))) (hown : w.ownsMap Tryz.prog 241 (rdRead (H := H)) b nn D0) :
 SeqGives Fence.wide n Tryz.prog 204 #[.pointer (some (Ad Bm 0))] rdV (fun ss => ss.Perm ls) ls.length w := fun l J W hW hJ hY h0 =>
 vals1_in n hn l Bm b nn D0 ls hrep hwf hso J hY W hJ (cell_later hW hm) (Zdj hown hW) h0
theorem values_any (mb : Option Nat) (w : World) : Calls Tryz.prog 151 #[.map mb] w fun e w' => e = .returned (.func (.func 204) #[] #[.pointer (some (Ad w.heap.size 0))]) ∧ w' = w.alloc (.cells #[.map mb] 238) := by
 go_enter Tryz.func151, Tryz.ntmps151
 go_wp2; go_ret; exact ⟨rfl, rfl⟩
theorem Zgl {w w' : World} {r V o : Nat} {x : Value} (h : w.grownBy w' (some r)) (hc : w.cell? (Ad V o) = some x) (hV : V ≠ r) : w'.cell? (Ad V o) = some x :=
 (World.cell?_of_block (w := w) (h.block V (World.block_lt_of_cell? w ⟨V, o, none⟩ hc) (fun e => hV (by cases e; rfl)))).trans hc
theorem lab_bd (x : Int) : 0 ≤ labI x ∧ labI x ≤ 255 := by
 have := lab_turn x; have := turn_le x 8 (by omega)
 omega
theorem rd_wf (x : Int) : (Lit.int .i64 (labI x)).wf = true ∧ (Lit.int .i64 (srcI x)).wf = true := by
 have := lab_bd x; exact ⟨WalkArith.wf_i64 (by omega), WalkArith.wf_i64 (by unfold srcI; omega)⟩
theorem gat_wf (ws : List Int) : ∀ z ∈ gat rdOf ws, wfR z := fun z hz => by
 obtain ⟨x, _, hx⟩ := gat_mem rdOf ws z hz
 unfold rdOf at hx
 split at hx
 · cases hx; exact rd_wf x
 · cases hx
theorem gather_step {H : Type} {ws : List Int} {k : Nat} {x A B C E : Int} {D : DataW H} (hsn : ws.take (k + 1) = ws.take k ++ [x]) (hr : rdOf x = some (A, B, C, E)) (hwf : (Lit.int .i64 A).wf = true ∧ (Lit.int .i64 B).wf = true) (hp : RepM D (gat rdOf (ws.take k))) :
 bads rdOf (ws.take (k + 1)) = bads rdOf (ws.take k) ∧ RepM (D.put (klI A B) (datR (A, B, C, E))) (gat rdOf (ws.take (k + 1))) := by
 have h := hp.put (r := (A, B, C, E)) (gat_wf _) hwf (gat_sorted _ _); rw [hsn, bads_snoc, Zgm, hr]; exact ⟨by simp, h⟩
theorem gather_any (a : Option Addr) (cap : Nat) (ws : List Int) (hl : ws.length ≤ 64) (w : World) (hw : Wds w a ws) :
 Calls Tryz.prog 100 #[.slice a ws.length cap] w fun e w' => (∃ v, e = .returned (.tuple #[v, Vi (bads rdOf ws), .nilIface]) ∧ OwnL w.heap.size v (gat rdOf ws) w') ∧ Below w.heap.size w w' := by
 have HW := Zbw hw; clear hw
 have h64 : ¬ (64 : Int) < (ws.length : Int) := by omega
 have hmm := @run_makeMap Tryz.prog
 go_enter Tryz.func100, Tryz.ntmps100
 go_wp2
 go_loopw [6, 18] (fun p i wr => ∃ (k : Nat) (D : DataW Unit), k ≤ ws.length ∧ p = Vi (bads rdOf (ws.take k)) ∧ i = Vi k ∧ wr.ownsMap Tryz.prog 241 (rdRead (H := Unit)) w.heap.size k D ∧ RepM D (gat rdOf (ws.take k)) ∧ Below w.heap.size w wr) (fun _ i _ => ws.length - (intOf i).toNat)
 case atStart =>
  exact ⟨0, .map [], Nat.zero_le _, rfl, rfl, World.ownsMap_made _ _ _ _, RepM.nil, (Below.refl _ _).alloc (Nat.le_refl _) _⟩
 case round =>
  obtain ⟨k, D, hk, rfl, rfl, hown, hrep, hb⟩ := hrel; have hbd := bads_le rdOf (ws.take k); have hb64 : bads rdOf (ws.take k) ≤ 64 := Nat.le_trans hbd (Nat.le_trans (List.length_take_le k ws) (by omega)); clear hbd
  by_cases hlt : k < ws.length
  · obtain ⟨b, off, rfl, hcell, hx0, hx1⟩ := (HW.out.later hb).at hlt; have hsn : Hid (ws.take (k + 1) = ws.take k ++ [at0 ws k]) := take_succ_getD ws 0 k hlt; have HE := Zbw hown; have HP := Zbw hrep; have HB := Zbw hb; clear hown hrep hb
    by_cases ho : ones (at0 ws k) 32 % 2 = 1
    · have hu := unpack_yes _ hx0 hx1 ho; have HR := Zbw (rdOf_yes ho); have HWF := Zbw (rd_wf (at0 ws k))
      unfold readV at hu
      generalize labI (at0 ws k) = A at *; generalize srcI (at0 ws k) = B at *; generalize staI (at0 ws k) = C at *; generalize datI (at0 ws k) = E at *; generalize at0 ws k = x at *; clear ho; have HST := Zbw (gather_step hsn.out HR.out HWF.out HP.out)
      go_upto_region 11 with (go_at_call 148; refine Sb (hu _) fun w1 hb1 => ?_); have HE2 := Zbw ((Zdj HE.out hb1).alloc (.cells #[Vi A, Vi B, Vi C, Vi E] 161)); have HB2 := Zbw (Zcc (Zcc HB.out hb1) (Zaw w1 (.cells #[Vi A, Vi B, Vi C, Vi E] 161))); have HC := Zbw (Box4.new w1 A B C E 161); generalize w1.alloc (.cells #[Vi A, Vi B, Vi C, Vi E] 161) = w2 at *; generalize w1.heap.size = V at *; clear hb1; obtain ⟨q0, q1, q2, q3, _⟩ := HC.out; have HV : Hid (V ≠ w.heap.size) := Zbw (fun e => by subst e; obtain ⟨es, clock, hh, _⟩ := HE2.out; simp [World.cell?, hh] at q0); have Z : Hid (w2.cell? (Ad V 0) = some (Vi A) ∧ w2.cell? (Ad V 1) = some (Vi B) ∧ w2.cell? (Ad V 2) = some (Vi C) ∧ w2.cell? (Ad V 3) = some (Vi E)) := Zbw ⟨q0, q1, q2, q3⟩
      go_region_held3 (fun u => (u.cell? (Ad V 0) = some (Vi A) ∧ u.cell? (Ad V 1) = some (Vi B) ∧ u.cell? (Ad V 2) = some (Vi C) ∧ u.cell? (Ad V 3) = some (Vi E)))
       (first
        | (with_reducible assumption)
        | exact Z.out
        | (with_reducible exact KS4.out))
       (first
        | (go_at_call 149; refine Sb (by_any A B C E _) fun w3 hb3 => ?_; have HC3 := Zbw (HC.out.drew.later hb3); have KS3 : (w3.cell? (Ad V 0) = some (.int .i64 A) ∧ w3.cell? (Ad V 1) = some (.int .i64 B) ∧ w3.cell? (Ad V 2) = some (.int .i64 C) ∧ w3.cell? (Ad V 3) = some (.int .i64 E)) := ⟨HC3.out.1, HC3.out.2.1, HC3.out.2.2.1, HC3.out.2.2.2.1⟩; have HB3 := Zbw (Zcc (Zcc HB2.out (Below.refl _ _).drew) hb3); obtain ⟨w4, hrun, own4, hg4⟩ := (Zdj HE2.out.drew hb3).update Zhj map_under (by unfold maxLen; omega) (keyOf_who HWF.out.1 HWF.out.2) (val := .agg #[.int .i64 A, .int .i64 B, .int .i64 C, .int .i64 E]) (rdRead_mk (A, B, C, E)); have HE4 := Zbw own4; have HG4 := Zbw hg4; have KS4 : Hid (w4.cell? (Ad V 0) = some (.int .i64 A) ∧ w4.cell? (Ad V 1) = some (.int .i64 B) ∧ w4.cell? (Ad V 2) = some (.int .i64 C) ∧ w4.cell? (Ad V 3) = some (.int .i64 E)) := Zbw ⟨Zgl hg4 KS3.1 HV.out, Zgl hg4 KS3.2.1 HV.out, Zgl hg4 KS3.2.2.1 HV.out, Zgl hg4 KS3.2.2.2 HV.out⟩; clear own4 hg4 hb3))
      all_goals
       go_wp2_with fail; go_roundw
       (case rel => exact ⟨k + 1, D.put (klI A B) (datR (A, B, C, E)), by omega, by rw [HST.out.1], by go_num, HE4.out, HST.out.2, HB3.out.grown HG4.out HB3.out.size (fun j e => by cases e; exact Nat.le_refl _)⟩)
       (case measure => simp [intOf]; omega)
    · have hu := unpack_no _ hx0 hx1 ho; have HR := Zbw (rdOf_no ho); have HN : Hid ((bads rdOf (ws.take (k + 1)) : Int) = (bads rdOf (ws.take k) : Int) + 1) := Zbw (by rw [hsn.out, bads_snoc, HR.out]; simp); rw [Zbe (by decide)] at hu; generalize at0 ws k = x at *; clear ho
      go_wp2_with (go_at_call 148; refine Sb (hu _) fun w1 hb1 => ?_); go_roundw
      case rel => exact ⟨k + 1, D, by omega, by rw [HN.out], by go_num, ((Zdj HE.out hb1).alloc _).mono (Nat.le_succ _), by rw [hsn.out, Zgm, HR.out]; exact HP.out, Zcc (Zcc HB.out hb1) (Zaw _ _)⟩
      case measure => simp [intOf]; omega
  · obtain rfl : k = ws.length := by omega
    rw [List.take_length] at hrep; rw [List.take_length]; have hsd := gat_sorted rdOf ws; have hgl := gat_length rdOf ws; have hwf := gat_wf ws; have HB := Zbw hb; have hv := values_any (some w.heap.size) wr; have HM : Hid ((wr.alloc (.cells #[.map (some w.heap.size)] 238)).cell? (Ad wr.heap.size 0) = some (.map (some w.heap.size))) := Zbw (by simp [go_sem]); have hs := sortedFunc_any 204 #[.pointer (some (Ad wr.heap.size 0))] (enters_of Tryz.func204 (by kernel_rfl) rfl) (gat rdOf ws) hsd (by omega) (wr.alloc (.cells #[.map (some w.heap.size)] 238)) (vals_gives 7 (by omega) wr.heap.size w.heap.size ws.length D (gat rdOf ws) hrep hwf hsd _ HM.out (hown.alloc _)); clear hsd hgl hwf hown hrep hb hb64
    go_wp2_with (first
     | (go_at_call 151; refine hv.mono ?_; rintro e w1 ⟨rfl, rfl⟩)
     | (go_at_call 150; refine hs.mono ?_; rintro e w2 ⟨v, rfl, ho, hb2⟩))
    go_ret3; refine ⟨⟨v, rfl, ?_⟩, Zcc (Zcc HB.out (Zaw _ _)) hb2⟩; exact ⟨ownsRow_base_a ho.1 (by have := HB.out.size; simp; omega), ho.2⟩
end Go.Proofs.YtnfdfiholcelaaaGreatDoor
namespace Go.Proofs.YtnfdfiholcelaaaGreatDoor
open Go.RowKit Plain
theorem OwnL.rds {B : Nat} {v : Value} {l : List Rd} {w : World} (h : OwnL B v l w) : ∃ a cap, v = .slice a l.length cap ∧ Rds w a l := by
 rcases h.1.2 with ⟨rfl, hz⟩ | ⟨g, cap, cur, rfl, _, hb, r1, r2, r3, r4⟩
 · have hl : l = [] := h.2.1 rfl; subst hl; exact ⟨none, 0, rfl, .inl rfl⟩
 · refine ⟨_, cap, rfl, .inr ⟨g, rfl, fun k hk => ?_⟩⟩
   have hc : ∀ j, j < 4 → w.cell? (Ad g (k * 4 + j)) = (encR (rat l k))[j]? := fun j hj => by
    have ht : k * 4 + j < l.length * 4 := by omega
    have h1 : (cur.toList.take (l.length * 4))[k * 4 + j]? = (encL l)[k * 4 + j]? := by rw [r4]
    rw [List.getElem?_take_of_lt ht, encL_get l _ ht, show (k * 4 + j) / 4 = k by omega, show (k * 4 + j) % 4 = j by omega, Array.getElem?_toList] at h1; simp only [World.cell?, hb]; simp only [Option.isSome_none, Bool.false_eq_true, if_false]; exact h1
   exact ⟨hc 0 (by omega), hc 1 (by omega), hc 2 (by omega), hc 3 (by omega)⟩
def fndV (a b : Int) (l : List Rd) : Value := match fnd a b l with
 | some r => .tuple #[rdV r, .bool true]
 | none => .tuple #[.agg #[Vi 0, Vi 0, Vi 0, Vi 0], .bool false]
theorem fndV_yes {a b : Int} {l : List Rd} {k : Nat} (hk : k < l.length) (hf : fndV a b l = fndV a b (l.drop k)) (h1 : (rat l k).1 = a) (h2 : (rat l k).2.1 = b) : fndV a b l = .tuple #[rdV (rat l k), .bool true] := by
 rw [hf]
 unfold fndV
 rw [fnd_step a b l k hk, if_pos ⟨h1, h2⟩]
theorem fndV_no {a b : Int} {l : List Rd} {k : Nat} (hk : k < l.length) (hf : fndV a b l = fndV a b (l.drop k)) (h : ¬ ((rat l k).1 = a ∧ (rat l k).2.1 = b)) : fndV a b l = fndV a b (l.drop (k + 1)) := by
 rw [hf]
 unfold fndV
 rw [fnd_step a b l k hk, if_neg h]
theorem fndV_end {a b : Int} {l : List Rd} (hf : fndV a b l = fndV a b (l.drop l.length)) : fndV a b l = .tuple #[.agg #[Vi 0, Vi 0, Vi 0, Vi 0], .bool false] := by
 rw [hf, List.drop_length]
 rfl
theorem info_int : ∃ i, Tryz.prog.info? 3 = some i ∧ i.size = 1 := by
 have h : (Tryz.prog.info? 3).map (·.size) = some 1 := by kernel_rfl
 cases hq : Tryz.prog.info? 3 with
 | none => rw [hq] at h; cases h
 | some i => rw [hq] at h; exact ⟨i, rfl, by simpa using h⟩
theorem eq_who (d : Nat) (a b p q : Int) (w : World) : (Op.equalIn (d + 1 + 1) 241 (.agg #[Vi a, Vi b]) (.agg #[Vi p, Vi q])).run Tryz.prog w = .ok (decide (a = p) && decide (b = q)) w := by
 obtain ⟨i, hi, _⟩ := info_int; rw [run_equalIn_array w _ _ _ who_under hi, who_one, show List.range 2 = [0, 1] from rfl]
 by_cases h1 : a = p
 · by_cases h2 : b = q
   · simp [Op.eqItems, go_sem, h1, h2]
   · have : (b == q) = false := by simpa using h2
     simp [Op.eqItems, go_sem, h1, h2, this]
 · have : (a == p) = false := by simpa using h1
   simp [Op.eqItems, go_sem, h1, this]
def FindS (w u : World) (B : Nat) (a : Option Addr) (l : List Rd) (x y : Int) : Prop :=
 Box4 u B 0 0 0 0 ∧ (u.cell? (Ad (B + 1) 0) = some (Vi x) ∧ u.cell? (Ad (B + 1) 1) = some (Vi y)) ∧ Rds u a l ∧ Below B w u
theorem FindS.later {w u u' : World} {B : Nat} {a : Option Addr} {l : List Rd} {x y : Int} (h : FindS w u B a l x y) (hb : Below u.heap.size u u') : FindS w u' B a l x y :=
 ⟨h.1.later hb, ⟨cell_later hb h.2.1.1, cell_later hb h.2.1.2⟩, h.2.2.1.later hb, h.2.2.2.trans (hb.mono (Nat.le_of_lt h.1.2.2.2.2.2.2.2.2))⟩
theorem find_any (a : Option Addr) (cap : Nat) (l : List Rd) (x y : Int) (hl : l.length ≤ 1000) (w : World) (hr : Rds w a l) :
 Calls Tryz.prog 161 #[.slice a l.length cap, Vi x, Vi y] w fun e w' => e = .returned (fndV x y l) ∧ Below w.heap.size w w' := by
 have hq := eq_who; have HF : Hid (FindS w ((w.alloc (.cells #[Vi 0, Vi 0, Vi 0, Vi 0] 161)).alloc (.cells #[Vi x, Vi y] 241)) w.heap.size a l x y) :=
  Zbw ⟨(Box4.new w 0 0 0 0 161).later (Zaw _ _), ⟨by simp [go_sem], by simp [go_sem]⟩, hr.later (Zcc (Zaw _ _) (Zaw _ _)), Zcc (Zaw _ _) (Zaw _ _)⟩
 clear hr
 go_enter Tryz.func161, Tryz.ntmps161
 go_wp2; generalize (w.alloc (.cells #[Vi 0, Vi 0, Vi 0, Vi 0] 161)).alloc (.cells #[Vi x, Vi y] 241) = w1 at *; obtain ⟨B, hB⟩ : ∃ B, B = w.heap.size := ⟨_, rfl⟩; rw [← hB] at HF; rw [← hB]; have HBB := Zbw hB; clear hB
 go_loopw [16] (fun i wr => ∃ k : Nat, k ≤ l.length ∧ i = Vi k ∧ Hid (fndV x y l = fndV x y (l.drop k)) ∧ FindS w wr B a l x y) (fun i _ => l.length - (intOf i).toNat)
 case atStart => exact ⟨0, Nat.zero_le _, rfl, by show fndV x y l = fndV x y (l.drop 0); rw [List.drop_zero], HF.out⟩
 case round =>
  obtain ⟨k, hk, rfl, hf, hS⟩ := hrel; have HS := Zbw hS; clear hS
  by_cases hlt : k < l.length
  · obtain ⟨g, rfl, c0, c1, c2, c3⟩ := HS.out.2.2.1.at hlt; have HY := Zbw (fun h1 h2 => fndV_yes hlt hf.out h1 h2); have HN := Zbw (fun h => fndV_no hlt hf.out h)
    unfold rdV at HY
    generalize (rat l k).1 = r1 at *; generalize (rat l k).2.1 = r2 at *; generalize (rat l k).2.2.1 = r3 at *; generalize (rat l k).2.2.2 = r4 at *; clear hf
    go_upto_region 5 with fail; have HS1 := Zbw (HS.out.later (Zaw wr (.cells #[Vi r1, Vi r2, Vi r3, Vi r4] 161))); have HC := Zbw (Box4.new wr r1 r2 r3 r4 161); generalize wr.alloc (.cells #[Vi r1, Vi r2, Vi r3, Vi r4] 161) = w2 at *; generalize wr.heap.size = V at *; have Z : Hid (w2.cell? (Ad V 0) = some (Vi r1) ∧ w2.cell? (Ad V 1) = some (Vi r2) ∧ w2.cell? (Ad V 2) = some (Vi r3) ∧ w2.cell? (Ad V 3) = some (Vi r4) ∧ w2.cell? (Ad (B + 1) 0) = some (Vi x) ∧ w2.cell? (Ad (B + 1) 1) = some (Vi y)) := Zbw ⟨HC.out.1, HC.out.2.1, HC.out.2.2.1, HC.out.2.2.2.1, HS1.out.2.1.1, HS1.out.2.1.2⟩; clear c0 c1 c2 c3
    by_cases h : r1 = x ∧ r2 = y
    · have hq1 : ∀ d w, (Op.equalIn (d + 1 + 1) 241 (.agg #[Vi r1, Vi r2]) (.agg #[Vi x, Vi y])).run Tryz.prog w = .ok true w := fun d w => by rw [hq]; simp [h]
      have HV := Zbw (HY.out h.1 h.2); clear HY HN h hq
      go_region_held3 (fun u => (u.cell? (Ad V 0) = some (Vi r1) ∧ u.cell? (Ad V 1) = some (Vi r2) ∧ u.cell? (Ad V 2) = some (Vi r3) ∧ u.cell? (Ad V 3) = some (Vi r4) ∧ u.cell? (Ad (B + 1) 0) = some (Vi x) ∧ u.cell? (Ad (B + 1) 1) = some (Vi y)))
       (first
        | (with_reducible assumption)
        | exact Z.out)
       (first
        | (go_at_call 149; refine Sb (by_any r1 r2 r3 r4 _) fun w3 hb3 => ?_; have HC3 := Zbw (HC.out.drew.later hb3); have HS3 := Zbw ((HS1.out.later (Below.refl _ _).drew).later hb3); have KS3 : (w3.cell? (Ad V 0) = some (Vi r1) ∧ w3.cell? (Ad V 1) = some (Vi r2) ∧ w3.cell? (Ad V 2) = some (Vi r3) ∧ w3.cell? (Ad V 3) = some (Vi r4) ∧ w3.cell? (Ad (B + 1) 0) = some (Vi x) ∧ w3.cell? (Ad (B + 1) 1) = some (Vi y)) := ⟨HC3.out.1, HC3.out.2.1, HC3.out.2.2.1, HC3.out.2.2.2.1, HS3.out.2.1.1, HS3.out.2.1.2⟩; clear hb3))
      all_goals
       obtain ⟨y0, y1, y2, y3, f0, f1, f2, f3, _⟩ := HS3.out.1; obtain ⟨z0, z1, z2, z3, _⟩ := HC3.out; go_wp2_with fail; refine bodyPost_ret (v := .tuple #[.agg #[Vi r1, Vi r2, Vi r3, Vi r4], .bool true]) (by simp [results, Tryz.results161, go_sem, *]) rfl ⟨by rw [HV.out], ?_⟩; rw [HBB.out] at HS3 ⊢; exact Zgo HS3.out.2.2.2 (Nat.le_refl _) _ _ _ _
    · have hq1 : ∀ d w, (Op.equalIn (d + 1 + 1) 241 (.agg #[Vi r1, Vi r2]) (.agg #[Vi x, Vi y])).run Tryz.prog w = .ok false w := fun d w => by rw [hq]; simp; intro h1 h2; exact h ⟨h1, h2⟩
      have HV := Zbw (HN.out h); clear HY HN h hq
      go_region_held3 (fun u => (u.cell? (Ad V 0) = some (Vi r1) ∧ u.cell? (Ad V 1) = some (Vi r2) ∧ u.cell? (Ad V 2) = some (Vi r3) ∧ u.cell? (Ad V 3) = some (Vi r4) ∧ u.cell? (Ad (B + 1) 0) = some (Vi x) ∧ u.cell? (Ad (B + 1) 1) = some (Vi y)))
       (first
        | (with_reducible assumption)
        | exact Z.out)
       (first
        | (go_at_call 149; refine Sb (by_any r1 r2 r3 r4 _) fun w3 hb3 => ?_; have HC3 := Zbw (HC.out.drew.later hb3); have HS3 := Zbw ((HS1.out.later (Below.refl _ _).drew).later hb3); have KS3 : (w3.cell? (Ad V 0) = some (Vi r1) ∧ w3.cell? (Ad V 1) = some (Vi r2) ∧ w3.cell? (Ad V 2) = some (Vi r3) ∧ w3.cell? (Ad V 3) = some (Vi r4) ∧ w3.cell? (Ad (B + 1) 0) = some (Vi x) ∧ w3.cell? (Ad (B + 1) 1) = some (Vi y)) := ⟨HC3.out.1, HC3.out.2.1, HC3.out.2.2.1, HC3.out.2.2.2.1, HS3.out.2.1.1, HS3.out.2.1.2⟩; clear hb3))
      all_goals
       go_wp2_with fail; go_roundw
       (case rel => exact ⟨k + 1, by omega, by go_num, HV, HS3.out⟩)
       (case measure => simp [intOf]; omega)
  · obtain rfl : k = l.length := by omega
    have HV := Zbw (fndV_end hf.out); obtain ⟨y0, y1, y2, y3, f0, f1, f2, f3, _⟩ := HS.out.1; clear hf hq; go_wp2; refine bodyPost_ret (v := .tuple #[.agg #[Vi 0, Vi 0, Vi 0, Vi 0], .bool false]) (by simp [results, Tryz.results161, go_sem, *]) rfl ⟨by rw [HV.out], ?_⟩; rw [HBB.out] at HS ⊢; exact Zgo HS.out.2.2.2 (Nat.le_refl _) _ _ _ _
theorem fndV_smp (l : List Rd) (x y : Int) : ∃ (r1 r2 r3 r4 : Int) (b : Bool), fndV x y l = .tuple #[.agg #[Vi r1, Vi r2, Vi r3, Vi r4], .bool b] ∧ ((b = true ∧ r3 = 3 ∧ smp l x y = (true, r4)) ∨ (b = true ∧ r3 ≠ 3 ∧ smp l x y = (false, 0)) ∨ (b = false ∧ smp l x y = (false, 0))) := by
 unfold fndV smp
 cases fnd x y l with
 | none => exact ⟨0, 0, 0, 0, false, rfl, .inr (.inr ⟨rfl, rfl⟩)⟩
 | some r =>
  by_cases h : r.2.2.1 = 3
  · exact ⟨r.1, r.2.1, r.2.2.1, r.2.2.2, true, rfl, .inl ⟨rfl, h, by simp [h]⟩⟩
  · exact ⟨r.1, r.2.1, r.2.2.1, r.2.2.2, true, rfl, .inr (.inl ⟨rfl, h, by simp [h]⟩)⟩
theorem Zgd (B : Nat) (a : Option Addr) (cap : Nat) (l : List Rd) (x y : Int) (hl : l.length ≤ 1000) (w : World) (hc : w.cell? (Ad B 62) = some (.slice a l.length cap)) (hr : Rds w a l) :
 Calls Tryz.prog 107 #[.pointer (some (Ad B 0)), Vi x, Vi y] w fun e w' => e = .returned (.agg #[.bool (smp l x y).1, Vi (smp l x y).2]) ∧ Below w.heap.size w w' := by
 have HR := Zab (hr.later (Zaa w (.cells #[.bool false, Vi 0] 131))); have HZ : Hid (Blk 131 (w.alloc (.cells #[.bool false, Vi 0] 131)) w.heap.size [.bool false, Vi 0]) := Zab (Blk.new w _ _); have HB := Zab (Zaa w (.cells #[.bool false, Vi 0] 131)); have hc1 := cell_later (Zaa w (.cells #[.bool false, Vi 0] 131)) hc; clear hc; clear hr; obtain ⟨r1, r2, r3, r4, b, hfv, hs⟩ := fndV_smp l x y; have hs' : Hid _ := Zab hs; clear hs
 go_enter Tryz.func107, Tryz.ntmps107
 go_upto_region 1 with fail; generalize w.alloc (.cells #[.bool false, Vi 0] 131) = w0 at *; have HW : Hid (∀ w1, Below w0.heap.size w0 w1 → Blk 131 (w1.alloc (.cells #[Vi r1, Vi r2, Vi r3, Vi r4] 161)) w.heap.size [.bool false, Vi 0] ∧ Blk 161 (w1.alloc (.cells #[Vi r1, Vi r2, Vi r3, Vi r4] 161)) w1.heap.size [Vi r1, Vi r2, Vi r3, Vi r4] ∧ Below w.heap.size w (w1.alloc (.cells #[Vi r1, Vi r2, Vi r3, Vi r4] 161))) := Zab (fun w1 hb => ⟨(HZ.out.later hb).later (Zaa _ _), Blk.new w1 _ [Vi r1, Vi r2, Vi r3, Vi r4], Zac (Zac HB.out hb) (Zaa _ _)⟩)
 go_upto_region 2 with (first
  | (go_at_call 161; refine Sb (find_any a cap l x y hl _ HR.out) fun w1 hb => ?_; rw [hfv]; have HV := Zab (HW.out w1 hb); clear hb HW))
 generalize w1.alloc (.cells #[Vi r1, Vi r2, Vi r3, Vi r4] 161) = w2 at *; generalize w1.heap.size = E at *; have q0 := (HV.out.1.cell (j := 0) rfl).1; have q1 := (HV.out.1.cell (j := 1) rfl).1; have f0 := (HV.out.1.cell (j := 0) rfl).2; have f1 := (HV.out.1.cell (j := 1) rfl).2; have p2 := (HV.out.2.1.cell (j := 2) rfl).1; have p3 := (HV.out.2.1.cell (j := 3) rfl).1; have h1 := (HV.out.2.2.setCell (p := ⟨w.heap.size, 0, none⟩) (by simp) (.bool true)).setCell (p := ⟨w.heap.size, 1, none⟩) (by simp) (Vi r4); have h0 := (HV.out.2.2.setCell (p := ⟨w.heap.size, 0, none⟩) (by simp) (.bool false)).setCell (p := ⟨w.heap.size, 1, none⟩) (by simp) (Vi 0); have H1 := Zab h1; have H0 := Zab h0; clear h0 h1
 rcases hs'.out with ⟨rfl, hr3, hsm⟩ | ⟨rfl, hr3, hsm⟩ | ⟨rfl, hsm⟩
 · subst hr3; go_wp2; exact bodyPost_ret (v := .agg #[.bool true, Vi r4]) (by simp [results, Tryz.results107, go_sem, q0, q1]) rfl ⟨by first | rfl | rw [hsm], H1.out⟩
 · have hr4 : (r3 != 3) = true := by simpa using hr3
   go_wp2; exact bodyPost_ret (v := .agg #[.bool false, Vi 0]) (by simp [results, Tryz.results107, go_sem, q0, q1]) rfl ⟨by first | rfl | rw [hsm], H0.out⟩
 · go_wp2; exact bodyPost_ret (v := .agg #[.bool false, Vi 0]) (by simp [results, Tryz.results107, go_sem, q0, q1]) rfl ⟨by first | rfl | rw [hsm], H0.out⟩
theorem Zcn {u : World} {B V j k : Nat} {x v : Value} (hV : B ≠ V) (h : u.cell? (Ad B j) = some x) : (u.setCell (Ad V k) v).cell? (Ad B j) = some x := (World.cell?_setCell_other _ _ _ _ (fun e => hV (congrArg Addr.block e).symm)).trans h
theorem Zhb {u : World} {a : Option Addr} {l : List Rd} {V j : Nat} {v : Value} (hV : ∀ g, a = some (Ad g 0) → l ≠ [] → g ≠ V) (h : Rds u a l) : Rds (u.setCell (Ad V j) v) a l := by
 rcases h with h | ⟨g, h, hc⟩
 · exact .inl h
 · by_cases hn : l = []
   · exact .inl hn
   · have := hV g h hn; exact .inr ⟨g, h, fun k hk => ⟨Zcn this (hc k hk).1, Zcn this (hc k hk).2.1, Zcn this (hc k hk).2.2.1, Zcn this (hc k hk).2.2.2⟩⟩
theorem Rds.lt {u : World} {a : Option Addr} {l : List Rd} (h : Rds u a l) : ∀ g, a = some (Ad g 0) → l ≠ [] → g < u.heap.size := by
 intro g hg hl
 rcases h with h | ⟨g', h, hc⟩
 · exact absurd h hl
 · subst hg; cases h
   have h0 : 0 < l.length := by cases l with | nil => exact absurd rfl hl | cons _ _ => simp
   exact World.block_lt_of_cell? u _ (hc 0 h0).1
def smL (l : List Rd) (x : Int) : List Value := [.bool (smp l x 0).1, Vi (smp l x 0).2, .bool (smp l x 1).1, Vi (smp l x 1).2, .bool (smp l x 2).1, Vi (smp l x 2).2]
theorem channels_any (B : Nat) (a : Option Addr) (cap : Nat) (l : List Rd) (x : Int) (hl : l.length ≤ 1000) (w : World) (hc : w.cell? (Ad B 62) = some (.slice a l.length cap)) (hr : Rds w a l) :
 Calls Tryz.prog 158 #[.pointer (some (Ad B 0)), Vi x] w fun e w' => e = .returned (.agg (smL l x).toArray) ∧ Below w.heap.size w w' := by
 have HB0 : Hid (Below w.heap.size w ((w.alloc (.cells #[.bool false, Vi 0, .bool false, Vi 0, .bool false, Vi 0] 185)).alloc (.cells #[.bool false, Vi 0, .bool false, Vi 0, .bool false, Vi 0] 185))) := Zab (Zac (Zaa _ _) (Zaa _ _)); have HY0 : Hid (Blk 185 ((w.alloc (.cells #[.bool false, Vi 0, .bool false, Vi 0, .bool false, Vi 0] 185)).alloc (.cells #[.bool false, Vi 0, .bool false, Vi 0, .bool false, Vi 0] 185)) w.heap.size [.bool false, Vi 0, .bool false, Vi 0, .bool false, Vi 0]) := Zab (Blk.later (Blk.new w _ [.bool false, Vi 0, .bool false, Vi 0, .bool false, Vi 0]) (Zaa _ _)); have HI0 : Hid (Blk 185 ((w.alloc (.cells #[.bool false, Vi 0, .bool false, Vi 0, .bool false, Vi 0] 185)).alloc (.cells #[.bool false, Vi 0, .bool false, Vi 0, .bool false, Vi 0] 185)) (w.heap.size + 1) [.bool false, Vi 0, .bool false, Vi 0, .bool false, Vi 0]) := Zab (by have := Blk.new (w.alloc (.cells #[.bool false, Vi 0, .bool false, Vi 0, .bool false, Vi 0] 185)) 185 [.bool false, Vi 0, .bool false, Vi 0, .bool false, Vi 0]; rw [World.size_alloc] at this; exact this); have HR0 := Zab (hr.later HB0.out); have hc0 := cell_later HB0.out hc; have hBl : B < w.heap.size := World.block_lt_of_cell? w _ hc; have HQ : Hid (B ≠ w.heap.size + 1) := Zab (by omega); have HP : Hid (∀ g, a = some (Ad g 0) → l ≠ [] → g ≠ w.heap.size + 1) := Zab (fun g hg hn => by have := hr.lt g hg hn; omega); have HN : Hid (w.heap.size ≠ w.heap.size + 1) := Zab (by omega); have HM : Hid (w.heap.size ≤ w.heap.size + 1) := Zab (by omega); clear hr hc hBl
 go_enter Tryz.func158, Tryz.ntmps158
 go_upto_region 2 with fail; generalize ((w.alloc (.cells #[.bool false, Vi 0, .bool false, Vi 0, .bool false, Vi 0] 185)).alloc (.cells #[.bool false, Vi 0, .bool false, Vi 0, .bool false, Vi 0] 185)) = w0 at *; generalize w.heap.size + 1 = I at *; go_wp2_with fail; refine wp_loop_rounds 4 ?_; rw [rounds_succ]
 go_wp2_with (first
  | (go_at_call 107; refine Sb (Zgd B a cap l x 0 hl _ hc0 HR0.out) fun u0 hb => ?_; have HBu := Zab (Zac HB0.out hb); have HYu := Zab (HY0.out.later hb); have HIu := Zab (HI0.out.later hb); have HRu := Zab (HR0.out.later hb); have hcu := cell_later hb hc0; have q0 := (HIu.out.cell (j := 0) rfl).1; have q1 := (HIu.out.cell (j := 1) rfl).1; have f0 := (HIu.out.cell (j := 0) rfl).2; have f1 := (HIu.out.cell (j := 1) rfl).2; clear hb HR0 HI0 HY0 HB0 hc0))
 have HI1 : Hid (Blk 185 ((u0.setCell (Ad I 0) (.bool (smp l x 0).1)).setCell (Ad I 1) (Vi (smp l x 0).2)) I [.bool (smp l x 0).1, Vi (smp l x 0).2, .bool false, Vi 0, .bool false, Vi 0]) := Zab ((HIu.out.set 0 (.bool (smp l x 0).1)).set 1 (Vi (smp l x 0).2)); have HY1 := Zab ((HYu.out.far (V := I) HN.out 0 (.bool (smp l x 0).1)).far (V := I) HN.out 1 (Vi (smp l x 0).2)); have HB1 := Zab ((HBu.out.setCell (p := ⟨I, 0, none⟩) HM.out (.bool (smp l x 0).1)).setCell (p := ⟨I, 1, none⟩) HM.out (Vi (smp l x 0).2)); have hc1 : ((u0.setCell (Ad I 0) (.bool (smp l x 0).1)).setCell (Ad I 1) (Vi (smp l x 0).2)).cell? (Ad B 62) = some (.slice a l.length cap) := Zcn HQ.out (Zcn HQ.out hcu); have HR1 := Zab (Zhb HP.out (Zhb HP.out HRu.out (j := 0) (v := .bool (smp l x 0).1)) (j := 1) (v := Vi (smp l x 0).2)); clear q0 q1 f0 f1 hcu HIu HYu HBu HRu; generalize (u0.setCell (Ad I 0) (.bool (smp l x 0).1)).setCell (Ad I 1) (Vi (smp l x 0).2) = w1 at *; rw [rounds_succ]
 go_wp2_with (first
  | (go_at_call 107; refine Sb (Zgd B a cap l x 1 hl _ hc1 HR1.out) fun u1 hb => ?_; have HBu := Zab (Zac HB1.out hb); have HYu := Zab (HY1.out.later hb); have HIu := Zab (HI1.out.later hb); have HRu := Zab (HR1.out.later hb); have hcu := cell_later hb hc1; have q0 := (HIu.out.cell (j := 2) rfl).1; have q1 := (HIu.out.cell (j := 3) rfl).1; have f0 := (HIu.out.cell (j := 2) rfl).2; have f1 := (HIu.out.cell (j := 3) rfl).2; clear hb HR1 HI1 HY1 HB1 hc1))
 have HI2 : Hid (Blk 185 ((u1.setCell (Ad I 2) (.bool (smp l x 1).1)).setCell (Ad I 3) (Vi (smp l x 1).2)) I [.bool (smp l x 0).1, Vi (smp l x 0).2, .bool (smp l x 1).1, Vi (smp l x 1).2, .bool false, Vi 0]) := Zab ((HIu.out.set 2 (.bool (smp l x 1).1)).set 3 (Vi (smp l x 1).2)); have HY2 := Zab ((HYu.out.far (V := I) HN.out 2 (.bool (smp l x 1).1)).far (V := I) HN.out 3 (Vi (smp l x 1).2)); have HB2 := Zab ((HBu.out.setCell (p := ⟨I, 2, none⟩) HM.out (.bool (smp l x 1).1)).setCell (p := ⟨I, 3, none⟩) HM.out (Vi (smp l x 1).2)); have hc2 : ((u1.setCell (Ad I 2) (.bool (smp l x 1).1)).setCell (Ad I 3) (Vi (smp l x 1).2)).cell? (Ad B 62) = some (.slice a l.length cap) := Zcn HQ.out (Zcn HQ.out hcu); have HR2 := Zab (Zhb HP.out (Zhb HP.out HRu.out (j := 2) (v := .bool (smp l x 1).1)) (j := 3) (v := Vi (smp l x 1).2)); clear q0 q1 f0 f1 hcu HIu HYu HBu HRu; generalize (u1.setCell (Ad I 2) (.bool (smp l x 1).1)).setCell (Ad I 3) (Vi (smp l x 1).2) = w2 at *; rw [rounds_succ]
 go_wp2_with (first
  | (go_at_call 107; refine Sb (Zgd B a cap l x 2 hl _ hc2 HR2.out) fun u2 hb => ?_; have HBu := Zab (Zac HB2.out hb); have HYu := Zab (HY2.out.later hb); have HIu := Zab (HI2.out.later hb); have HRu := Zab (HR2.out.later hb); have hcu := cell_later hb hc2; have q0 := (HIu.out.cell (j := 4) rfl).1; have q1 := (HIu.out.cell (j := 5) rfl).1; have f0 := (HIu.out.cell (j := 4) rfl).2; have f1 := (HIu.out.cell (j := 5) rfl).2; clear hb HR2 HI2 HY2 HB2 hc2))
 have HI3 : Hid (Blk 185 ((u2.setCell (Ad I 4) (.bool (smp l x 2).1)).setCell (Ad I 5) (Vi (smp l x 2).2)) I [.bool (smp l x 0).1, Vi (smp l x 0).2, .bool (smp l x 1).1, Vi (smp l x 1).2, .bool (smp l x 2).1, Vi (smp l x 2).2]) := Zab ((HIu.out.set 4 (.bool (smp l x 2).1)).set 5 (Vi (smp l x 2).2)); have HY3 := Zab ((HYu.out.far (V := I) HN.out 4 (.bool (smp l x 2).1)).far (V := I) HN.out 5 (Vi (smp l x 2).2)); have HB3 := Zab ((HBu.out.setCell (p := ⟨I, 4, none⟩) HM.out (.bool (smp l x 2).1)).setCell (p := ⟨I, 5, none⟩) HM.out (Vi (smp l x 2).2)); have hc3 : ((u2.setCell (Ad I 4) (.bool (smp l x 2).1)).setCell (Ad I 5) (Vi (smp l x 2).2)).cell? (Ad B 62) = some (.slice a l.length cap) := Zcn HQ.out (Zcn HQ.out hcu); have HR3 := Zab (Zhb HP.out (Zhb HP.out HRu.out (j := 4) (v := .bool (smp l x 2).1)) (j := 5) (v := Vi (smp l x 2).2)); clear q0 q1 f0 f1 hcu HIu HYu HBu HRu; generalize (u2.setCell (Ad I 4) (.bool (smp l x 2).1)).setCell (Ad I 5) (Vi (smp l x 2).2) = w3 at *; rw [rounds_succ]; have q0 := (HI3.out.cell (j := 0) rfl).1; have r0 := (HY3.out.cell (j := 0) rfl).1; have f0 := (HY3.out.cell (j := 0) rfl).2; have q1 := (HI3.out.cell (j := 1) rfl).1; have r1 := (HY3.out.cell (j := 1) rfl).1; have f1 := (HY3.out.cell (j := 1) rfl).2; have q2 := (HI3.out.cell (j := 2) rfl).1; have r2 := (HY3.out.cell (j := 2) rfl).1; have f2 := (HY3.out.cell (j := 2) rfl).2; have q3 := (HI3.out.cell (j := 3) rfl).1; have r3 := (HY3.out.cell (j := 3) rfl).1; have f3 := (HY3.out.cell (j := 3) rfl).2; have q4 := (HI3.out.cell (j := 4) rfl).1; have r4 := (HY3.out.cell (j := 4) rfl).1; have f4 := (HY3.out.cell (j := 4) rfl).2; have q5 := (HI3.out.cell (j := 5) rfl).1; have r5 := (HY3.out.cell (j := 5) rfl).1; have f5 := (HY3.out.cell (j := 5) rfl).2; go_wp2_with fail; exact bodyPost_ret (v := .agg (smL l x).toArray) (by simp [results, Tryz.results158, go_sem, smL, r0, r1, r2, r3, r4, r5]) rfl ⟨rfl, Zah [.bool (smp l x 0).1, Vi (smp l x 0).2, .bool (smp l x 1).1, Vi (smp l x 1).2, .bool (smp l x 2).1, Vi (smp l x 2).2] 0 w3 HB3.out (b := w.heap.size) (Nat.le_refl _)⟩
def B2 (w : World) (B : Nat) (a b : Value) : Prop := w.cell? (Ad B 0) = some a ∧ w.cell? (Ad B 1) = some b
def B3 (w : World) (B : Nat) (a b c : Value) : Prop := w.cell? (Ad B 0) = some a ∧ w.cell? (Ad B 1) = some b ∧ w.cell? (Ad B 2) = some c
def B4 (w : World) (B : Nat) (a b c d : Value) : Prop := w.cell? (Ad B 0) = some a ∧ w.cell? (Ad B 1) = some b ∧ w.cell? (Ad B 2) = some c ∧ w.cell? (Ad B 3) = some d
theorem B2.later {w w' : World} {B : Nat} {a b : Value} (h : B2 w B a b) (hb : Below w.heap.size w w') : B2 w' B a b := ⟨cell_later hb h.1, cell_later hb h.2⟩
theorem B3.later {w w' : World} {B : Nat} {a b c : Value} (h : B3 w B a b c) (hb : Below w.heap.size w w') : B3 w' B a b c := ⟨cell_later hb h.1, cell_later hb h.2.1, cell_later hb h.2.2⟩
theorem B4.later {w w' : World} {B : Nat} {a b c d : Value} (h : B4 w B a b c d) (hb : Below w.heap.size w w') : B4 w' B a b c d := ⟨cell_later hb h.1, cell_later hb h.2.1, cell_later hb h.2.2.1, cell_later hb h.2.2.2⟩
theorem B2.new (w : World) (a b : Value) (t : TypeId) : B2 (w.alloc (.cells #[a, b] t)) w.heap.size a b := by refine ⟨?_, ?_⟩ <;> simp [go_sem]
theorem B3.new (w : World) (a b c : Value) (t : TypeId) : B3 (w.alloc (.cells #[a, b, c] t)) w.heap.size a b c := by refine ⟨?_, ?_, ?_⟩ <;> simp [go_sem]
theorem B4.new (w : World) (a b c d : Value) (t : TypeId) : B4 (w.alloc (.cells #[a, b, c, d] t)) w.heap.size a b c d := by refine ⟨?_, ?_, ?_, ?_⟩ <;> simp [go_sem]
theorem size_alloc (w : World) (o : Obj) : (w.alloc o).heap.size = w.heap.size + 1 := by simp [go_sem]
def RS (w0 w : World) (T R S C i b : Int) (o : Bool) : Prop :=
 B4 w w0.heap.size (Vi T) (Vi R) (Vi S) (Vi C) ∧ B3 w (w0.heap.size + 1) (Vi i) (Vi b) (.bool o) ∧ Below w0.heap.size w0 w
theorem RS.later {w0 w w' : World} {T R S C i b : Int} {o : Bool} (h : RS w0 w T R S C i b o) (hb : Below w.heap.size w w') : RS w0 w' T R S C i b o := ⟨h.1.later hb, h.2.1.later hb, Zac h.2.2 hb⟩
theorem RS.new (w : World) (T R S C i b : Int) (o : Bool) : RS w ((w.alloc (.cells #[Vi T, Vi R, Vi S, Vi C] 113)).alloc (.cells #[Vi i, Vi b, .bool o] 116)) T R S C i b o := by
 refine ⟨(B4.new w _ _ _ _ _).later (Zaa _ _), ?_, Zac (Zaa _ _) (Zaa _ _)⟩; rw [← size_alloc w (.cells #[Vi T, Vi R, Vi S, Vi C] 113)]; exact B3.new _ _ _ _ _
theorem Zgi (x lo hi : Int) (w : World) :
 Calls Tryz.prog 76 #[Vi x, Vi lo, Vi hi] w fun e w' => e = .returned (.bool (betw x lo hi)) ∧ Below w.heap.size w w' :=
 (Zay x lo hi w).mono fun e w' h => ⟨h.1, by rw [h.2]; exact Zaa _ _⟩
def svB (T C i b : Int) (o : Bool) : Bool := betw i (-T) T && betw b 0 C && (!o || i == 0) && (o || decide (b < C))
def svE (T R S C i b : Int) (o : Bool) : Int := if arE T R S C = 0 then (if svB T C i b o then 0 else 3) else arE T R S C
theorem Zgc {T R S C i b : Int} {o : Bool} (h : svE T R S C i b o = 0) : arB T R S C = true ∧ svB T C i b o = true := by
 unfold svE at h
 split at h
 · split at h
   · exact ⟨Zfe (by assumption), by assumption⟩
   · omega
 · exact absurd h (by assumption)
theorem svE_mk {T R S C i b : Int} {o : Bool} (h : arB T R S C = true) (h' : svB T C i b o = true) : svE T R S C i b o = 0 := by
 unfold svE arE; rw [if_pos h, if_pos rfl, if_pos h']
theorem Zbi {T C i b : Int} {o : Bool} (h : svB T C i b o = true) : (-T ≤ i ∧ i ≤ T) ∧ (0 ≤ b ∧ b ≤ C) ∧ (o = true → i = 0) ∧ (o = false → b < C) := by
 simp only [svB, Bool.and_eq_true, Bool.or_eq_true, Bool.not_eq_true', beq_iff_eq, decide_eq_true_eq] at h; obtain ⟨⟨⟨h1, h2⟩, h3⟩, h4⟩ := h; refine ⟨Zal h1, Zal h2, ?_, ?_⟩
 · rintro rfl; simpa using h3
 · rintro rfl; simpa using h4
theorem Zcz (T R S C i b : Int) (o : Bool) (w : World) :
 Calls Tryz.prog 159 #[.agg #[Vi T, Vi R, Vi S, Vi C], .agg #[Vi i, Vi b, .bool o]] w fun e w' => e = .returned (errV (svE T R S C i b o)) ∧ Below w.heap.size w w' := by
 have hr := Zhi T R S C; have HX := Zab (RS.new w T R S C i b o)
 by_cases e1 : arE T R S C = 0
 · rw [e1, Zaq] at hr; have f1 := Zgi i (-T) T; have f2 := Zgi b 0 C
   have hE : svE T R S C i b o = if svB T C i b o then 0 else 3 := by unfold svE; rw [if_pos e1]
   obtain ⟨⟨t0, t1⟩, _, _, c0, c1⟩ := Zau (Zfe e1); have hb2 : betw b 0 C = true → b ≤ C := fun h => (Zal h).2
   unfold svB at hE
   clear e1; generalize betw i (-T) T = x1 at *; generalize betw b 0 C = x2 at *
   cases x1
   · have HE : Hid (svE T R S C i b o = 3) := hE; clear hE hb2
     go_enter Tryz.func159, Tryz.ntmps159
     go_wp2_with (first
      | (go_at_call 180; refine Sb (hr _) fun w1 hb1 => ?_; have HX := Zab (HX.out.later hb1); obtain ⟨⟨r0, r1, r2, r3⟩, ⟨s0, s1, s2⟩, _⟩ := HX.out; clear hb1)
      | ((first | go_at_call_of 76 (Vi i) | go_at_call_of 76 (Value.int .i64 i)); refine Sb (f1 _) fun w2 hb2 => ?_; have HX := Zab (HX.out.later hb2); obtain ⟨⟨r0, r1, r2, r3⟩, ⟨s0, s1, s2⟩, _⟩ := HX.out; clear hb2))
     go_ret; exact ⟨by rw [HE.out]; rfl, HX.out.2.2⟩
   · cases x2
     · have HE : Hid (svE T R S C i b o = 3) := hE; clear hE hb2
       go_enter Tryz.func159, Tryz.ntmps159
       go_wp2_with (first
        | (go_at_call 180; refine Sb (hr _) fun w1 hb1 => ?_; have HX := Zab (HX.out.later hb1); obtain ⟨⟨r0, r1, r2, r3⟩, ⟨s0, s1, s2⟩, _⟩ := HX.out; clear hb1)
        | ((first | go_at_call_of 76 (Vi i) | go_at_call_of 76 (Value.int .i64 i)); refine Sb (f1 _) fun w2 hb2 => ?_; have HX := Zab (HX.out.later hb2); obtain ⟨⟨r0, r1, r2, r3⟩, ⟨s0, s1, s2⟩, _⟩ := HX.out; clear hb2)
        | ((first | go_at_call_of 76 (Vi b) | go_at_call_of 76 (Value.int .i64 b)); refine Sb (f2 _) fun w3 hb3 => ?_; have HX := Zab (HX.out.later hb3); obtain ⟨⟨r0, r1, r2, r3⟩, ⟨s0, s1, s2⟩, _⟩ := HX.out; clear hb3))
       go_ret; exact ⟨by rw [HE.out]; rfl, HX.out.2.2⟩
     · have hbC := hb2 rfl; clear hb2
       cases o
       · by_cases hlt : b < C
         · have HE : Hid (svE T R S C i b false = 0) := by show svE T R S C i b false = 0; rw [hE]; simp [hlt]
           have hq : (b == C) = false := by simp; omega
           clear hE
           go_enter Tryz.func159, Tryz.ntmps159
           go_wp2_with (first
            | (go_at_call 180; refine Sb (hr _) fun w1 hb1 => ?_; have HX := Zab (HX.out.later hb1); obtain ⟨⟨r0, r1, r2, r3⟩, ⟨s0, s1, s2⟩, _⟩ := HX.out; clear hb1)
            | ((first | go_at_call_of 76 (Vi i) | go_at_call_of 76 (Value.int .i64 i)); refine Sb (f1 _) fun w2 hb2 => ?_; have HX := Zab (HX.out.later hb2); obtain ⟨⟨r0, r1, r2, r3⟩, ⟨s0, s1, s2⟩, _⟩ := HX.out; clear hb2)
            | ((first | go_at_call_of 76 (Vi b) | go_at_call_of 76 (Value.int .i64 b)); refine Sb (f2 _) fun w3 hb3 => ?_; have HX := Zab (HX.out.later hb3); obtain ⟨⟨r0, r1, r2, r3⟩, ⟨s0, s1, s2⟩, _⟩ := HX.out; clear hb3))
           go_ret; exact ⟨by rw [HE.out]; rfl, HX.out.2.2⟩
         · have HE : Hid (svE T R S C i b false = 3) := by show svE T R S C i b false = 3; rw [hE]; simp [hlt]
           have hq : (b == C) = true := by simp; omega
           clear hE
           go_enter Tryz.func159, Tryz.ntmps159
           go_wp2_with (first
            | (go_at_call 180; refine Sb (hr _) fun w1 hb1 => ?_; have HX := Zab (HX.out.later hb1); obtain ⟨⟨r0, r1, r2, r3⟩, ⟨s0, s1, s2⟩, _⟩ := HX.out; clear hb1)
            | ((first | go_at_call_of 76 (Vi i) | go_at_call_of 76 (Value.int .i64 i)); refine Sb (f1 _) fun w2 hb2 => ?_; have HX := Zab (HX.out.later hb2); obtain ⟨⟨r0, r1, r2, r3⟩, ⟨s0, s1, s2⟩, _⟩ := HX.out; clear hb2)
            | ((first | go_at_call_of 76 (Vi b) | go_at_call_of 76 (Value.int .i64 b)); refine Sb (f2 _) fun w3 hb3 => ?_; have HX := Zab (HX.out.later hb3); obtain ⟨⟨r0, r1, r2, r3⟩, ⟨s0, s1, s2⟩, _⟩ := HX.out; clear hb3))
           go_ret; exact ⟨by rw [HE.out]; rfl, HX.out.2.2⟩
       · by_cases hi : i = 0
         · have HE : Hid (svE T R S C i b true = 0) := by show svE T R S C i b true = 0; rw [hE]; simp [hi]
           have hq : (i != 0) = false := by simp [hi]
           clear hE hi
           go_enter Tryz.func159, Tryz.ntmps159
           go_wp2_with (first
            | (go_at_call 180; refine Sb (hr _) fun w1 hb1 => ?_; have HX := Zab (HX.out.later hb1); obtain ⟨⟨r0, r1, r2, r3⟩, ⟨s0, s1, s2⟩, _⟩ := HX.out; clear hb1)
            | ((first | go_at_call_of 76 (Vi i) | go_at_call_of 76 (Value.int .i64 i)); refine Sb (f1 _) fun w2 hb2 => ?_; have HX := Zab (HX.out.later hb2); obtain ⟨⟨r0, r1, r2, r3⟩, ⟨s0, s1, s2⟩, _⟩ := HX.out; clear hb2)
            | ((first | go_at_call_of 76 (Vi b) | go_at_call_of 76 (Value.int .i64 b)); refine Sb (f2 _) fun w3 hb3 => ?_; have HX := Zab (HX.out.later hb3); obtain ⟨⟨r0, r1, r2, r3⟩, ⟨s0, s1, s2⟩, _⟩ := HX.out; clear hb3))
           go_ret; exact ⟨by rw [HE.out]; rfl, HX.out.2.2⟩
         · have HE : Hid (svE T R S C i b true = 3) := by show svE T R S C i b true = 3; rw [hE]; simp [hi]
           have hq : (i != 0) = true := by simpa using hi
           clear hE hi
           go_enter Tryz.func159, Tryz.ntmps159
           go_wp2_with (first
            | (go_at_call 180; refine Sb (hr _) fun w1 hb1 => ?_; have HX := Zab (HX.out.later hb1); obtain ⟨⟨r0, r1, r2, r3⟩, ⟨s0, s1, s2⟩, _⟩ := HX.out; clear hb1)
            | ((first | go_at_call_of 76 (Vi i) | go_at_call_of 76 (Value.int .i64 i)); refine Sb (f1 _) fun w2 hb2 => ?_; have HX := Zab (HX.out.later hb2); obtain ⟨⟨r0, r1, r2, r3⟩, ⟨s0, s1, s2⟩, _⟩ := HX.out; clear hb2)
            | ((first | go_at_call_of 76 (Vi b) | go_at_call_of 76 (Value.int .i64 b)); refine Sb (f2 _) fun w3 hb3 => ?_; have HX := Zab (HX.out.later hb3); obtain ⟨⟨r0, r1, r2, r3⟩, ⟨s0, s1, s2⟩, _⟩ := HX.out; clear hb3))
           go_ret; exact ⟨by rw [HE.out]; rfl, HX.out.2.2⟩
 · have HE : Hid (svE T R S C i b o = 1) := by show svE T R S C i b o = 1; unfold svE; rw [if_neg e1, arE_ne e1]
   rw [arE_ne e1, Zbe (by decide)] at hr; clear e1
   go_enter Tryz.func159, Tryz.ntmps159
   go_wp2_with (first
    | (go_at_call 180; refine Sb (hr _) fun w1 hb1 => ?_; have HX := Zab (HX.out.later hb1); obtain ⟨⟨r0, r1, r2, r3⟩, ⟨s0, s1, s2⟩, _⟩ := HX.out; clear hb1))
   go_ret; exact ⟨by rw [HE.out]; rfl, HX.out.2.2⟩
end Go.Proofs.YtnfdfiholcelaaaGreatDoor
