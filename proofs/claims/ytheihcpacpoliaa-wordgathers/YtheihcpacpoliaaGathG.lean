/-
  word.by and word.Gather: what is gathered of words, in a slice of its own.
-/
import Derived.Test.YtheihcpacpoliaaGathT
import Derived.Test.YtheihcpacpoliaaWordE
namespace Go.Proofs.Ytheihcpacpoliaa
open Go.RowKit Go.Sort Go.Shelf Plain Go.Maps

/-- What a word says, if it is no bad one. -/
def rdOf (x : Int) : Option Rd := if ones x 32 % 2 = 1 then some (labI x, srcI x, staI x, datI x) else none
theorem rdOf_yes {x : Int} (h : ones x 32 % 2 = 1) : rdOf x = some (labI x, srcI x, staI x, datI x) := if_pos h
theorem rdOf_no {x : Int} (h : ¬ ones x 32 % 2 = 1) : rdOf x = none := if_neg h

/-- Words lie at an address. -/
def Wds (w : World) (a : Option Addr) (l : List Int) : Prop := (l = [] ∨ ∃ b off, a = some ⟨b, off, none⟩ ∧ ∀ k, k < l.length → w.cell? ⟨b, off + k, none⟩ = some (.int .u32 (at0 l k))) ∧ ∀ x ∈ l, 0 ≤ x ∧ x < 4294967296
theorem Wds.later {w w' : World} {a : Option Addr} {l : List Int} (h : Wds w a l) (hb : Below w.heap.size w w') : Wds w' a l := by
  refine ⟨?_, h.2⟩
  rcases h.1 with h | ⟨b, off, h, hc⟩
  · exact .inl h
  · exact .inr ⟨b, off, h, fun k hk => cell_later hb (hc k hk)⟩
theorem Wds.at {w : World} {a : Option Addr} {l : List Int} (h : Wds w a l) {k : Nat} (hk : k < l.length) : ∃ b off, a = some ⟨b, off, none⟩ ∧ w.cell? ⟨b, off + k, none⟩ = some (.int .u32 (at0 l k)) ∧ 0 ≤ at0 l k ∧ at0 l k < 4294967296 := by
  have hm : at0 l k ∈ l := by simp [at0, hk]
  rcases h.1 with rfl | ⟨b, off, h', hc⟩
  · simp at hk
  · exact ⟨b, off, h', hc k hk, h.2 _ hm⟩

theorem by_any (a b c d : Int) (w : World) : Calls Try.prog 21 #[.agg #[.int .i64 a, .int .i64 b, .int .i64 c, .int .i64 d]] w fun e w' => e = .returned (.agg #[.int .i64 a, .int .i64 b]) ∧ Below w.heap.size w w' := by
  go_enter Try.func21, Try.ntmps21
  go_wp2
  exact bodyPost_ret (v := .agg #[.int .i64 a, .int .i64 b]) (by simp [results, Try.results21, go_sem]) rfl ⟨rfl, below_up (below_alloc _ _) (below_alloc _ _)⟩

theorem ownsMap_later {H : Type} {P : Program} {k : TypeId} {R : Value → Option (DataW H × List MemPlace)} {w w' : World} {b n : Nat} {D : DataW H} (h : w.ownsMap P k R b n D) (hb : Below w.heap.size w w') : w'.ownsMap P k R b n D := by
  have hl := h.lt
  obtain ⟨es, clock, hb', F, hs, hD⟩ := h
  exact ⟨es, clock, (hb.block b hl).trans hb', F, hs, hD⟩
theorem vals_gives {H : Type} (n : Nat) (hn : 1 ≤ n) (Bm b nn : Nat) (D0 : DataW H) (ls : List Rd) (hrep : RepM D0 ls) (hwf : ∀ z ∈ ls, wfR z) (hso : ls.Pairwise (fun x y => rlt x y = true)) (w : World)
    (hm : w.cell? ⟨Bm, 0, none⟩ = some (.map (some b))) (hown : w.ownsMap Try.prog 73 (rdRead (H := H)) b nn D0) :
    SeqGives Fence.wide n Try.prog 45 #[.pointer (some ⟨Bm, 0, none⟩)] rdV (fun ss => ss.Perm ls) ls.length w := fun l J W hW hJ hY h0 =>
  vals1_in n hn l Bm b nn D0 ls hrep hwf hso J hY W hJ (cell_later hW hm) (ownsMap_later hown hW) h0
theorem values_any (mb : Option Nat) (w : World) : Calls Try.prog 23 #[.map mb] w fun e w' => e = .returned (.func (.func 45) #[] #[.pointer (some ⟨w.heap.size, 0, none⟩)]) ∧ w' = w.alloc (.cells #[.map mb] 69) := by
  go_enter Try.func23, Try.ntmps23
  go_wp2
  go_ret
  exact ⟨rfl, rfl⟩

theorem grown_cell {w w' : World} {r V o : Nat} {x : Value} (h : w.grownBy w' (some r)) (hc : w.cell? ⟨V, o, none⟩ = some x) (hV : V ≠ r) : w'.cell? ⟨V, o, none⟩ = some x :=
  (World.cell?_of_block (w := w) (h.block V (World.block_lt_of_cell? w ⟨V, o, none⟩ hc) (fun e => hV (by cases e; rfl)))).trans hc
theorem lab_bd (x : Int) : 0 ≤ labI x ∧ labI x ≤ 255 := by
  have := lab_turn x
  have := turn_le x 8 (by omega)
  omega
theorem rd_wf (x : Int) : (Lit.int .i64 (labI x)).wf = true ∧ (Lit.int .i64 (srcI x)).wf = true := by
  have := lab_bd x
  exact ⟨WalkArith.wf_i64 (by omega), WalkArith.wf_i64 (by unfold srcI; omega)⟩
theorem gat_wf (ws : List Int) : ∀ z ∈ gat rdOf ws, wfR z := fun z hz => by
  obtain ⟨x, _, hx⟩ := gat_mem rdOf ws z hz
  unfold rdOf at hx
  split at hx
  · cases hx; exact rd_wf x
  · cases hx

theorem gather_step {H : Type} {ws : List Int} {k : Nat} {x A B C E : Int} {D : DataW H} (hsn : ws.take (k + 1) = ws.take k ++ [x]) (hr : rdOf x = some (A, B, C, E)) (hwf : (Lit.int .i64 A).wf = true ∧ (Lit.int .i64 B).wf = true) (hp : RepM D (gat rdOf (ws.take k))) :
    bads rdOf (ws.take (k + 1)) = bads rdOf (ws.take k) ∧ RepM (D.put (klI A B) (datR (A, B, C, E))) (gat rdOf (ws.take (k + 1))) := by
  have h := hp.put (r := (A, B, C, E)) (gat_wf _) hwf (gat_sorted _ _)
  rw [hsn, bads_snoc, gat_snoc, hr]
  exact ⟨by simp, h⟩
theorem gather_many (a : Option Addr) (n cap : Nat) (hn : 64 < n) (w : World) : Calls Try.prog 7 #[.slice a n cap] w fun e w' => e = .returned (.tuple #[.slice none 0 0, .int .i64 0, .iface 23 (.int .i64 2)]) ∧ w' = w := by
  have h : (64 : Int) < (n : Int) := by omega
  go_enter Try.func7, Try.ntmps7
  go_wp2
  go_ret3
  exact ⟨rfl, rfl⟩

set_option maxHeartbeats 4000000 in
set_option maxRecDepth 100000 in
theorem gather_any (a : Option Addr) (cap : Nat) (ws : List Int) (hl : ws.length ≤ 64) (w : World) (hw : Wds w a ws) :
    Calls Try.prog 7 #[.slice a ws.length cap] w fun e w' => (∃ v, e = .returned (.tuple #[v, .int .i64 (bads rdOf ws), .nilIface]) ∧ OwnL w.heap.size v (gat rdOf ws) w') ∧ Below w.heap.size w w' := by
  have HW := ghide hw
  clear hw
  have h64 : ¬ (64 : Int) < (ws.length : Int) := by omega
  have hmm := @run_makeMap Try.prog
  go_enter Try.func7, Try.ntmps7
  go_wp2
  go_loopw [6, 18] (fun p i wr => ∃ (k : Nat) (D : DataW Unit), k ≤ ws.length ∧ p = .int .i64 (bads rdOf (ws.take k)) ∧ i = .int .i64 k ∧ wr.ownsMap Try.prog 73 (rdRead (H := Unit)) w.heap.size k D ∧ RepM D (gat rdOf (ws.take k)) ∧ Below w.heap.size w wr) (fun _ i _ => ws.length - (intOf i).toNat)
  case atStart =>
    exact ⟨0, .map [], Nat.zero_le _, rfl, rfl, World.ownsMap_made _ _ _ _, RepM.nil, (Below.refl _ _).alloc (Nat.le_refl _) _⟩
  case round =>
    obtain ⟨k, D, hk, rfl, rfl, hown, hrep, hb⟩ := hrel
    have hbd := bads_le rdOf (ws.take k)
    have hb64 : bads rdOf (ws.take k) ≤ 64 := Nat.le_trans hbd (Nat.le_trans (List.length_take_le k ws) (by omega))
    clear hbd
    by_cases hlt : k < ws.length
    · obtain ⟨b, off, rfl, hcell, hx0, hx1⟩ := (HW.out.later hb).at hlt
      have hsn : Hid (ws.take (k + 1) = ws.take k ++ [at0 ws k]) := take_succ_getD ws 0 k hlt
      have HE := ghide hown
      have HP := ghide hrep
      have HB := ghide hb
      clear hown hrep hb
      by_cases ho : ones (at0 ws k) 32 % 2 = 1
      · have hu := unpack_yes _ hx0 hx1 ho
        have HR := ghide (rdOf_yes ho)
        have HWF := ghide (rd_wf (at0 ws k))
        unfold readV at hu
        generalize labI (at0 ws k) = A at *
        generalize srcI (at0 ws k) = B at *
        generalize staI (at0 ws k) = C at *
        generalize datI (at0 ws k) = E at *
        generalize at0 ws k = x at *
        clear ho
        have HST := ghide (gather_step hsn.out HR.out HWF.out HP.out)
        go_upto_region 11 with (go_at_call 20; refine (hu _).mono ?_; rintro e w1 ⟨rfl, hb1⟩)
        have HE2 := ghide ((ownsMap_later HE.out hb1).alloc (.cells #[.int .i64 A, .int .i64 B, .int .i64 C, .int .i64 E] 33))
        have HB2 := ghide (below_up (below_up HB.out hb1) (below_alloc w1 (.cells #[.int .i64 A, .int .i64 B, .int .i64 C, .int .i64 E] 33)))
        have HC := ghide (Box4.new w1 A B C E 33)
        generalize w1.alloc (.cells #[.int .i64 A, .int .i64 B, .int .i64 C, .int .i64 E] 33) = w2 at *
        generalize w1.heap.size = V at *
        clear hb1
        obtain ⟨q0, q1, q2, q3, _⟩ := HC.out
        have HV : Hid (V ≠ w.heap.size) := ghide (fun e => by subst e; obtain ⟨es, clock, hh, _⟩ := HE2.out; simp [World.cell?, hh] at q0)
        have Z : Hid (w2.cell? ⟨V, 0, none⟩ = some (.int .i64 A) ∧ w2.cell? ⟨V, 1, none⟩ = some (.int .i64 B) ∧ w2.cell? ⟨V, 2, none⟩ = some (.int .i64 C) ∧ w2.cell? ⟨V, 3, none⟩ = some (.int .i64 E)) := ghide ⟨q0, q1, q2, q3⟩
        go_region_held3 (fun u => (u.cell? ⟨V, 0, none⟩ = some (.int .i64 A) ∧ u.cell? ⟨V, 1, none⟩ = some (.int .i64 B) ∧ u.cell? ⟨V, 2, none⟩ = some (.int .i64 C) ∧ u.cell? ⟨V, 3, none⟩ = some (.int .i64 E)))
          (first
            | (with_reducible assumption)
            | exact Z.out
            | (with_reducible exact KS4.out))
          (first
            | (go_at_call 21; refine (by_any A B C E _).mono ?_; rintro e w3 ⟨rfl, hb3⟩; have HC3 := ghide (HC.out.drew.later hb3); have KS3 : (w3.cell? ⟨V, 0, none⟩ = some (.int .i64 A) ∧ w3.cell? ⟨V, 1, none⟩ = some (.int .i64 B) ∧ w3.cell? ⟨V, 2, none⟩ = some (.int .i64 C) ∧ w3.cell? ⟨V, 3, none⟩ = some (.int .i64 E)) := ⟨HC3.out.1, HC3.out.2.1, HC3.out.2.2.1, HC3.out.2.2.2.1⟩; have HB3 := ghide (below_up (below_up HB2.out (Below.refl _ _).drew) hb3); obtain ⟨w4, hrun, own4, hg4⟩ := (ownsMap_later HE2.out.drew hb3).update who_keyed map_under (by unfold maxLen; omega) (keyOf_who HWF.out.1 HWF.out.2) (val := .agg #[.int .i64 A, .int .i64 B, .int .i64 C, .int .i64 E]) (rdRead_mk (A, B, C, E)); have HE4 := ghide own4; have HG4 := ghide hg4; have KS4 : Hid (w4.cell? ⟨V, 0, none⟩ = some (.int .i64 A) ∧ w4.cell? ⟨V, 1, none⟩ = some (.int .i64 B) ∧ w4.cell? ⟨V, 2, none⟩ = some (.int .i64 C) ∧ w4.cell? ⟨V, 3, none⟩ = some (.int .i64 E)) := ghide ⟨grown_cell hg4 KS3.1 HV.out, grown_cell hg4 KS3.2.1 HV.out, grown_cell hg4 KS3.2.2.1 HV.out, grown_cell hg4 KS3.2.2.2 HV.out⟩; clear own4 hg4 hb3))
        all_goals
          go_wp2_with fail
          go_roundw
          (case rel => exact ⟨k + 1, D.put (klI A B) (datR (A, B, C, E)), by omega, by rw [HST.out.1], by go_num, HE4.out, HST.out.2, HB3.out.grown HG4.out HB3.out.size (fun j e => by cases e; exact Nat.le_refl _)⟩)
          (case measure => simp [intOf]; omega)
      · have hu := unpack_no _ hx0 hx1 ho
        have HR := ghide (rdOf_no ho)
        have HN : Hid ((bads rdOf (ws.take (k + 1)) : Int) = (bads rdOf (ws.take k) : Int) + 1) := ghide (by rw [hsn.out, bads_snoc, HR.out]; simp)
        rw [errV_ne (by decide)] at hu
        generalize at0 ws k = x at *
        clear ho
        go_wp2_with (go_at_call 20; refine (hu _).mono ?_; rintro e w1 ⟨rfl, hb1⟩)
        go_roundw
        case rel => exact ⟨k + 1, D, by omega, by rw [HN.out], by go_num, ((ownsMap_later HE.out hb1).alloc _).mono (Nat.le_succ _), by rw [hsn.out, gat_snoc, HR.out]; exact HP.out, below_up (below_up HB.out hb1) (below_alloc _ _)⟩
        case measure => simp [intOf]; omega
    · obtain rfl : k = ws.length := by omega
      rw [List.take_length] at hrep
      rw [List.take_length]
      have hsd := gat_sorted rdOf ws
      have hgl := gat_length rdOf ws
      have hwf := gat_wf ws
      have HB := ghide hb
      have hv := values_any (some w.heap.size) wr
      have HM : Hid ((wr.alloc (.cells #[.map (some w.heap.size)] 69)).cell? ⟨wr.heap.size, 0, none⟩ = some (.map (some w.heap.size))) := ghide (by simp [go_sem])
      have hs := sortedFunc_any 45 #[.pointer (some ⟨wr.heap.size, 0, none⟩)] (enters_of Try.func45 (by kernel_rfl) rfl) (gat rdOf ws) hsd (by omega) (wr.alloc (.cells #[.map (some w.heap.size)] 69)) (vals_gives 7 (by omega) wr.heap.size w.heap.size ws.length D (gat rdOf ws) hrep hwf hsd _ HM.out (hown.alloc _))
      clear hsd hgl hwf hown hrep hb hb64
      go_wp2_with (first
        | (go_at_call 23; refine hv.mono ?_; rintro e w1 ⟨rfl, rfl⟩)
        | (go_at_call 22; refine hs.mono ?_; rintro e w2 ⟨v, rfl, ho, hb2⟩))
      go_ret3
      refine ⟨⟨v, rfl, ?_⟩, below_up (below_up HB.out (below_alloc _ _)) hb2⟩
      exact ⟨ownsRow_base_a ho.1 (by have := HB.out.size; simp; omega), ho.2⟩

end Go.Proofs.Ytheihcpacpoliaa
