
import Derived.Test.YtnfdfiholcelaaaGreatDoorJe00
import Derived.Test.YtnfdfiholcelaaaGreatDoorJe31
import Derived.Test.YtnfdfiholcelaaaGreatDoorJe32
set_option maxRecDepth 100000
set_option maxHeartbeats 20000000
namespace Go.Proofs.YtnfdfiholcelaaaGreatDoor
open Go.RowKit Plain Tryz
def ftB (C : CR) (f : Ft) : Bool := betw f.1 0 300 && (betw f.2.1 0 4 && (betw f.2.2.1 0 2 && (decide (0 ≤ f.2.2.2.1) && if f.2.1 = 4 then (decide (f.2.2.1 < 2) && decide (f.2.2.2.1 < C.a f.2.2.1.toNat 4)) else decide (f.2.2.2.1 < 3))))
def ftE (C : CR) (f : Ft) : Int := if ftB C f then 0 else 1
theorem ftB_ok {C : CR} {f : Ft} (h : ftB C f = true) : FtOK C f := by
 simp only [ftB, Bool.and_eq_true, decide_eq_true_eq] at h; obtain ⟨h1, h2, h3, h4, h5⟩ := h; refine ⟨Zal h1, Zal h2, Zal h3, h4, fun e => ?_, fun e => ?_⟩
 · rw [if_neg e] at h5; have := of_decide_eq_true h5
   omega
 · rw [if_pos e] at h5; simp only [Bool.and_eq_true, decide_eq_true_eq] at h5; exact ⟨by omega, h5.2⟩
theorem ftB_mk {C : CR} {f : Ft} (h : FtOK C f) : ftB C f = true := by
 simp only [ftB, Bool.and_eq_true, decide_eq_true_eq]; refine ⟨Zay h.a, Zay h.k, Zay h.x, h.u, ?_⟩
 split
 · rename_i e
   simp only [Bool.and_eq_true, decide_eq_true_eq]; exact ⟨by have := (h.su e).1; omega, (h.su e).2⟩
 · rename_i e
   have := h.ch e; simp only [decide_eq_true_eq]
   omega
theorem irem2 {i : Nat} (hi : i < 2) : (i : Int).tmod 2 = i := by
 rcases (show i = 0 ∨ i = 1 by omega) with rfl | rfl <;> rfl
theorem faultMay_any (C : CR) (f : Ft) (w : World) : Calls prog 28 #[.agg (crL C).toArray, .agg (ftL f).toArray] w fun e w' => e = .returned (Vi (ftE C f)) ∧ Below w.heap.size w w' := by
 obtain ⟨fa, fk, fx, fu, fi⟩ := f; have hi1 := Zai fa 0 300; have hi2 := Zai fk 0 4; have hi3 := Zai fx 0 2; have hE : ftE C (fa, fk, fx, fu, fi) = if betw fa 0 300 && (betw fk 0 4 && (betw fx 0 2 && (decide (0 ≤ fu) && if fk = 4 then (decide (fx < 2) && decide (fu < C.a fx.toNat 4)) else decide (fu < 3)))) then 0 else 1 := rfl; have hx := fun h => Zal (x := fx) (lo := 0) (hi := 2) h
 change Calls prog 28 #[.agg (crL C).toArray, .agg #[Vi fa, Vi fk, Vi fx, Vi fu, Vi fi]] w _
 have HK := Zab ((Blk.new w 29 (crL C)).later (Zaa (w.alloc (.cells (crL C).toArray 29)) (.cells #[Vi fa, Vi fk, Vi fx, Vi fu, Vi fi] 73))); have HF : Hid (Blk 73 ((w.alloc (.cells (crL C).toArray 29)).alloc (.cells #[Vi fa, Vi fk, Vi fx, Vi fu, Vi fi] 73)) (w.heap.size + 1) [Vi fa, Vi fk, Vi fx, Vi fu, Vi fi]) := Zab (by have h := Blk.new (w.alloc (.cells (crL C).toArray 29)) 73 [Vi fa, Vi fk, Vi fx, Vi fu, Vi fi]; rw [World.size_alloc] at h; exact h); have HB0 := Zab (Zac (Zaa w (.cells (crL C).toArray 29)) (Zaa (w.alloc (.cells (crL C).toArray 29)) (.cells #[Vi fa, Vi fk, Vi fx, Vi fu, Vi fi] 73)))
 go_enter func28, ntmps28
 go_upto_region 1 with fail; generalize (w.alloc (.cells (crL C).toArray 29)).alloc (.cells #[Vi fa, Vi fk, Vi fx, Vi fu, Vi fi] 73) = v0 at *; have c0 := (HF.out.cell (j := 0) rfl).1; have c1 := (HF.out.cell (j := 1) rfl).1; have c2 := (HF.out.cell (j := 2) rfl).1; have c3 := (HF.out.cell (j := 3) rfl).1; generalize betw fa 0 300 = b1 at *; generalize betw fk 0 4 = b2 at *; generalize hb3 : betw fx 0 2 = b3 at *
 cases b1
 · have HE := Zab hE; clear hE hx hb3
   go_wp2_with (first
    | ((first | go_at_call_of 38 (Vi 300) | go_at_call_of 38 (Value.int .i64 300)); refine Sm (hi1 _) ?_)
    | ((first | go_at_call_of 38 (Vi 4) | go_at_call_of 38 (Value.int .i64 4)); refine Sm (hi2 _) ?_)
    | ((first | go_at_call_of 38 (Vi 2) | go_at_call_of 38 (Value.int .i64 2)); refine Sm (hi3 _) ?_)
    | (go_at_call 14; refine Sm (Zaz 1 _) ?_))
   go_ret; exact ⟨by rw [HE.out]; rfl, HB0.out⟩
 cases b2
 · have HE := Zab hE; clear hE hx hb3
   go_wp2_with (first
    | ((first | go_at_call_of 38 (Vi 300) | go_at_call_of 38 (Value.int .i64 300)); refine Sm (hi1 _) ?_)
    | ((first | go_at_call_of 38 (Vi 4) | go_at_call_of 38 (Value.int .i64 4)); refine Sm (hi2 _) ?_)
    | ((first | go_at_call_of 38 (Vi 2) | go_at_call_of 38 (Value.int .i64 2)); refine Sm (hi3 _) ?_)
    | (go_at_call 14; refine Sm (Zaz 1 _) ?_))
   go_ret; exact ⟨by rw [HE.out]; rfl, HB0.out⟩
 cases b3
 · have HE := Zab hE; clear hE hx hb3
   go_wp2_with (first
    | ((first | go_at_call_of 38 (Vi 300) | go_at_call_of 38 (Value.int .i64 300)); refine Sm (hi1 _) ?_)
    | ((first | go_at_call_of 38 (Vi 4) | go_at_call_of 38 (Value.int .i64 4)); refine Sm (hi2 _) ?_)
    | ((first | go_at_call_of 38 (Vi 2) | go_at_call_of 38 (Value.int .i64 2)); refine Sm (hi3 _) ?_)
    | (go_at_call 14; refine Sm (Zaz 1 _) ?_))
   go_ret; exact ⟨by rw [HE.out]; rfl, HB0.out⟩
 by_cases hu : 0 ≤ fu
 · by_cases hk : fk = 4
   · obtain ⟨x0, x1⟩ := hx rfl
     by_cases h2 : fx = 2
     · subst h2 hk; have HE : Hid (ftE C (fa, 4, 2, fu, fi) = 1) := Zab (by rw [hE]; simp); clear hE hx hb3
       go_upto_region 3 with (first
        | ((first | go_at_call_of 38 (Vi 300) | go_at_call_of 38 (Value.int .i64 300)); refine Sm (hi1 _) ?_)
        | ((first | go_at_call_of 38 (Vi 4) | go_at_call_of 38 (Value.int .i64 4)); refine Sm (hi2 _) ?_)
        | ((first | go_at_call_of 38 (Vi 2) | go_at_call_of 38 (Value.int .i64 2)); refine Sm (hi3 _) ?_)
        | (go_at_call 14; refine Sm (Zaz 1 _) ?_))
       refine Cs [30, 31, 32, 33, 34, 35, 36, 37, 38, 39, 40, 41, 42, 43, 44, 5] ?_; refine Cp 0 30 [] ?_; refine Cq (fun _ h => cell_later h c2) 1 31 [0] ?_; refine Cp 2 32 [1] ?_; refine Cp 3 33 [2] ?_; refine Cz 4 34 [3] ?_ (hw := fun y w hF => Zbb (congrArg some hF.1)); refine Cz 5 35 [3] ?_ (hw := fun y w hF => Zbb (congrArg some hF.1)); refine Cz 6 36 [3] ?_ (hw := fun y w hF => Zbb (congrArg some hF.1)); refine Cz 7 37 [3] ?_ (hw := fun y w hF => Zbb (congrArg some hF.1)); refine Cz 8 38 [3] ?_ (hw := fun y w hF => Zbb (congrArg some hF.1)); refine Cz 9 39 [3] ?_ (hw := fun y w hF => Zbb (congrArg some hF.1)); refine Cz 10 40 [3] ?_ (hw := fun y w hF => Zbb (congrArg some hF.1)); refine Cz 11 41 [3] ?_ (hw := fun y w hF => Zbb (congrArg some hF.1)); refine Cz 12 42 [3] ?_ (hw := fun y w hF => Zbb (congrArg some hF.1)); refine Cz 13 43 [3] ?_ (hw := fun y w hF => Zbb (congrArg some hF.1)); refine Cp 14 44 [3, 13] ?_; refine Cp 15 5 [14] ?_; refine Ce (fun y u1 hB hf => ?_); have HS1 := Zab hB; clear hB hf; go_simp; have hB := HS1.out; clear HS1; generalize u1 = v2 at hB ⊢; refine Zbd (by assumption) ?_
       go_wp2_with (go_at_call 14; refine Sm (Zaz 1 _) ?_); go_ret; exact ⟨by rw [HE.out]; rfl, Zac HB0.out hB⟩
     · obtain ⟨i, rfl⟩ : ∃ i : Nat, fx = i := ⟨fx.toNat, by omega⟩; subst hk
       have hi : i < 2 := by omega
       have i0 : (0 : Int) ≤ (i : Int) := by omega
       have i1 : (i : Int) < 2 := by omega
       have hrm := irem2 hi; have ea := (HK.out.cell (cr_su C hi)).1; have HE : Hid (ftE C (fa, 4, (i : Int), fu, fi) = if decide (fu < C.a i 4) then 0 else 1) := Zab (by rw [hE]; simp [hu, i1]); clear hE hx hb3 h2
       go_upto_region 3 with (first
        | ((first | go_at_call_of 38 (Vi 300) | go_at_call_of 38 (Value.int .i64 300)); refine Sm (hi1 _) ?_)
        | ((first | go_at_call_of 38 (Vi 4) | go_at_call_of 38 (Value.int .i64 4)); refine Sm (hi2 _) ?_)
        | ((first | go_at_call_of 38 (Vi 2) | go_at_call_of 38 (Value.int .i64 2)); refine Sm (hi3 _) ?_)
        | (go_at_call 14; refine Sm (Zaz 1 _) ?_))
       refine Cs [30, 31, 32, 33, 34, 35, 36, 37, 38, 39, 40, 41, 42, 43, 44, 5] ?_; refine Cp 0 30 [] ?_; refine Cq (fun _ h => cell_later h c2) 1 31 [0] ?_; refine Cp 2 32 [1] ?_; refine Cp 3 33 [2] ?_; refine Cp 4 34 [3] ?_ (hw := fun y w hF => Zak (congrArg some hF.1)); refine Cq (fun _ h => cell_later h c3) 5 35 [4, 3] ?_ (hw := fun y w hF => Zak (congrArg some hF.2.1)); refine Cp 6 36 [3] ?_ (hw := fun y w hF => Zak (congrArg some hF.1)); refine Cq (fun _ h => cell_later h c2) 7 37 [6, 3] ?_ (hw := fun y w hF => Zak (congrArg some hF.2.1)); refine Cp 8 38 [7, 3] ?_ (hw := fun y w hF => Zak (congrArg some hF.2.1)); refine Cp 9 39 [3] ?_ (hw := fun y w hF => Zak (congrArg some hF.1)); refine Cp 10 40 [9, 8, 3] ?_ (hw := fun y w hF => Zak (congrArg some hF.2.2.1)); refine Cp 11 41 [10, 3] ?_ (hw := fun y w hF => Zak (congrArg some hF.2.1)); refine Cq (fun _ h => cell_later h ea) 12 42 [11, 3] ?_ (hw := fun y w hF => Zak (congrArg some hF.2.1)); refine Cp 13 43 [5, 12, 3] ?_ (hw := fun y w hF => Zak (congrArg some hF.2.2.1)); refine Cp 14 44 [3, 13] ?_; refine Cp 15 5 [14] ?_; refine Ce (fun y u1 hB hf => ?_); have HS1 := Zab hB; clear hB hf; go_simp; have hB := HS1.out; clear HS1; generalize u1 = v2 at hB ⊢; refine Zbd (by assumption) ?_
       by_cases hlt : fu < C.a i 4
       · go_wp2_with (go_at_call 14; refine Sm (Zbo 1 _) ?_); go_ret; exact ⟨by rw [HE.out, if_pos (by simpa using hlt)]; rfl, Zac HB0.out hB⟩
       · go_wp2_with (go_at_call 14; refine Sm (Zaz 1 _) ?_); go_ret; exact ⟨by rw [HE.out, if_neg (by simpa using hlt)]; rfl, Zac HB0.out hB⟩
   · have HE : Hid (ftE C (fa, fk, fx, fu, fi) = if decide (fu < 3) then 0 else 1) := Zab (by rw [hE]; simp [hu, hk]); clear hE hx hb3
     by_cases hlt : fu < 3
     · go_wp2_with (first
        | ((first | go_at_call_of 38 (Vi 300) | go_at_call_of 38 (Value.int .i64 300)); refine Sm (hi1 _) ?_)
        | ((first | go_at_call_of 38 (Vi 4) | go_at_call_of 38 (Value.int .i64 4)); refine Sm (hi2 _) ?_)
        | ((first | go_at_call_of 38 (Vi 2) | go_at_call_of 38 (Value.int .i64 2)); refine Sm (hi3 _) ?_)
        | (go_at_call 14; refine Sm (Zbo 1 _) ?_))
       go_ret; exact ⟨by rw [HE.out, if_pos (by simpa using hlt)]; rfl, HB0.out⟩
     · have hd : decide (fu < 3) = false := by simpa using hlt
       go_wp2_with (first
        | ((first | go_at_call_of 38 (Vi 300) | go_at_call_of 38 (Value.int .i64 300)); refine Sm (hi1 _) ?_)
        | ((first | go_at_call_of 38 (Vi 4) | go_at_call_of 38 (Value.int .i64 4)); refine Sm (hi2 _) ?_)
        | ((first | go_at_call_of 38 (Vi 2) | go_at_call_of 38 (Value.int .i64 2)); refine Sm (hi3 _) ?_)
        | (go_at_call 14; refine Sm (Zaz 1 _) ?_))
       go_ret; exact ⟨by rw [HE.out, if_neg (by simpa using hlt)]; rfl, HB0.out⟩
 · have HE : Hid (ftE C (fa, fk, fx, fu, fi) = 1) := Zab (by rw [hE]; simp [hu]); clear hE hx hb3
   go_wp2_with (first
    | ((first | go_at_call_of 38 (Vi 300) | go_at_call_of 38 (Value.int .i64 300)); refine Sm (hi1 _) ?_)
    | ((first | go_at_call_of 38 (Vi 4) | go_at_call_of 38 (Value.int .i64 4)); refine Sm (hi2 _) ?_)
    | ((first | go_at_call_of 38 (Vi 2) | go_at_call_of 38 (Value.int .i64 2)); refine Sm (hi3 _) ?_)
    | (go_at_call 14; refine Sm (Zaz 1 _) ?_))
   go_ret; exact ⟨by rw [HE.out]; rfl, HB0.out⟩
def stpU (C : CR) (s : Stp) : Nat → Bool
 | 0 => betw s.v 0 262143
 | i + 1 => stpU C s i && (betw (s.k i) (-100) 100 && (betw (s.p i) (-C.a i 3) (C.a i 3) && betw (s.z i) 0 8589934591))
def stpE (C : CR) (s : Stp) : Int := if stpU C s 2 then 0 else 1
theorem stpU_ok {C : CR} {s : Stp} (h : stpU C s 2 = true) : SA C s := by
 simp only [stpU, Bool.and_eq_true] at h; obtain ⟨⟨h0, h1, h2, h3⟩, k1, k2, k3⟩ := h
 refine ⟨fun i hi => ?_, fun i hi => ?_, fun i hi => ?_, Zal h0⟩ <;> rcases (show i = 0 ∨ i = 1 by omega) with rfl | rfl
 · exact Zal h1
 · exact Zal k1
 · exact Zal h2
 · exact Zal k2
 · exact Zal h3
 · exact Zal k3
theorem stpU_mk {C : CR} {s : Stp} (h : SA C s) : stpU C s 2 = true := by
 simp only [stpU, Bool.and_eq_true]; exact ⟨⟨Zay h.v, Zay (h.k 0 (by omega)), Zay (h.p 0 (by omega)), Zay (h.z 0 (by omega))⟩, Zay (h.k 1 (by omega)), Zay (h.p 1 (by omega)), Zay (h.z 1 (by omega))⟩
theorem cr_axi (C : CR) {i : Nat} (hi : i < 2) : ((crL C).drop (i * 15)).take 15 = axL C i := by
 rcases (show i = 0 ∨ i = 1 by omega) with rfl | rfl <;> rfl
theorem stepMay_any (C : CR) (s : Stp) (h3 : ∀ i, i < 2 → 0 ≤ C.a i 3 ∧ C.a i 3 ≤ 1000) (w : World) : Calls prog 30 #[.agg (crL C).toArray, .agg (stpL s).toArray] w fun e w' => e = .returned (Vi (stpE C s)) ∧ Below w.heap.size w w' := by
 have hi4 := Zai s.v 0 262143; have HI1 := Zab (fun i : Nat => Zai (s.k i) (-100) 100); have HI2 := Zab (fun i : Nat => Zai (s.p i) (-C.a i 3) (C.a i 3)); have HI3 := Zab (fun i : Nat => Zai (s.z i) 0 8589934591); have HE : Hid (stpE C s = if stpU C s 2 then 0 else 1) := Zab rfl; have HH3 := Zab h3; clear h3; have HK := Zab ((Blk.new w 29 (crL C)).later (Zaa (w.alloc (.cells (crL C).toArray 29)) (.cells #[Vi (s.k 0), Vi (s.k 1), Vi (s.p 0), Vi (s.p 1), Vi (s.z 0), Vi (s.z 1), Vi s.v, .bool s.g] 78))); have HF : Hid (Blk 78 ((w.alloc (.cells (crL C).toArray 29)).alloc (.cells #[Vi (s.k 0), Vi (s.k 1), Vi (s.p 0), Vi (s.p 1), Vi (s.z 0), Vi (s.z 1), Vi s.v, .bool s.g] 78)) (w.heap.size + 1) (stpL s)) := Zab (by have h := Blk.new (w.alloc (.cells (crL C).toArray 29)) 78 (stpL s); rw [World.size_alloc] at h; exact h); have HB0 := Zab (Zac (Zaa w (.cells (crL C).toArray 29)) (Zaa (w.alloc (.cells (crL C).toArray 29)) (.cells #[Vi (s.k 0), Vi (s.k 1), Vi (s.p 0), Vi (s.p 1), Vi (s.z 0), Vi (s.z 1), Vi s.v, .bool s.g] 78))); have hstp : (stpL s).toArray = #[Vi (s.k 0), Vi (s.k 1), Vi (s.p 0), Vi (s.p 1), Vi (s.z 0), Vi (s.z 1), Vi s.v, .bool s.g] := rfl; rw [hstp]; clear hstp
 go_enter func30, ntmps30
 go_upto_region 1 with fail; generalize (w.alloc (.cells (crL C).toArray 29)).alloc (.cells #[Vi (s.k 0), Vi (s.k 1), Vi (s.p 0), Vi (s.p 1), Vi (s.z 0), Vi (s.z 1), Vi s.v, .bool s.g] 78) = v0 at *; generalize w.heap.size + 1 = QS at HF ⊢; generalize hQK : w.heap.size = QK at HK ⊢; clear hQK; have ev := (HF.out.cell (j := 6) rfl).1
 go_upto_region 3 with (go_at_call 38; refine Sm (hi4 _) ?_); clear ev hi4
 go_loopw [5, 6] (fun fi ix wr => ∃ i : Nat, i ≤ 2 ∧ ix = Vi i ∧ fi = .bool (stpU C s i) ∧ Blk 78 wr QS (stpL s) ∧ Blk 29 wr QK (crL C) ∧ Below w.heap.size w wr) (fun _ ix _ => 2 - (intOf ix).toNat)
 case atStart => exact ⟨0, by omega, rfl, rfl, HF.out, HK.out, HB0.out⟩
 case round =>
  clear HF HK HB0; obtain ⟨i, hi2, rfl, rfl, hf, hkk, hbw⟩ := hrel
  by_cases hi : i < 2
  · have i0 : (0 : Int) ≤ (i : Int) := by omega
    have i1 : (i : Int) < 2 := by omega
    have hi1 := HI1.out i; have hi2' := HI2.out i; have hi3 := HI3.out i; obtain ⟨p0, p1⟩ := HH3.out i hi
    have hwr : IntKind.i64.wrap (-C.a i 3) = -C.a i 3 := by rw [Zbv] <;> omega
    have HSU : Hid (stpU C s (i + 1) = (stpU C s i && (betw (s.k i) (-100) 100 && (betw (s.p i) (-C.a i 3) (C.a i 3) && betw (s.z i) 0 8589934591)))) := Zab rfl; have HRX := Zab (hkk.sub (i * 15) 15); rw [cr_axi C hi] at HRX; have HA := Zaa wr (.cells (axL C i).toArray 26); have HF := Zab (hf.later HA); have HK := Zab (hkk.later HA); have HBW := Zab (Zac hbw HA); have HAX : Hid (Blk 26 (wr.alloc (.cells (axL C i).toArray 26)) wr.heap.size (axL C i)) := Zab (Blk.new wr _ _); clear hf hbw hkk HA; generalize stpU C s i = b0 at *; generalize betw (s.k i) (-100) 100 = b1 at *; generalize betw (s.p i) (-C.a i 3) (C.a i 3) = b2 at *; generalize betw (s.z i) 0 8589934591 = b3 at *
    go_upto_region 6 with (first
     | (refine Lq 26 _ rfl ?_; refine wpList_load_mid rfl 26 (.tmp 17) rfl QK (i * 15) rfl (axL C i) _ HRX.out underlying26 rfl Zaw ?_)
     | (refine Sq 26 _ _ rfl ?_; refine Zbh (c' := (axL C i).toArray) (.tmp 7) (.tmp 18) rfl rfl rfl rfl rfl rfl (Zau _ rfl) ?_))
    clear HRX; generalize wr.alloc (.cells (axL C i).toArray 26) = v1 at *; generalize wr.heap.size = QA at HAX ⊢; have xk := (HF.out.cell (stp_k s hi)).1; have xp := (HF.out.cell (stp_p s hi)).1; have xz := (HF.out.cell (stp_z s hi)).1; have xa := (HAX.out.cell (j := 3) rfl).1
    cases b0
    · clear hi1 hi2' hi3; refine Cs [19, 20, 21, 22, 23, 24, 25, 26, 27, 28, 29, 30, 31, 32, 33, 34, 35, 36, 37, 38, 39, 40, 41, 42, 43, 44, 45] ?_; refine Cp 0 19 [] ?_; refine Cp 1 20 [0] ?_; refine Cz 2 21 [1] ?_ (hw := fun y w hF => Zbb (congrArg some hF.1)); refine Cz 3 22 [1] ?_ (hw := fun y w hF => Zbb (congrArg some hF.1)); refine Cz 4 23 [1] ?_ (hw := fun y w hF => Zbb (congrArg some hF.1)); refine Cz 5 24 [1] ?_ (hw := fun y w hF => Zbb (congrArg some hF.1)); refine Cz 6 25 [1] ?_ (hw := fun y w hF => Zbb (congrArg some hF.1)); refine Cp 7 26 [1, 6] ?_; refine Cp 8 27 [7] ?_; refine Cz 9 28 [8] ?_ (hw := fun y w hF => Zbb (congrArg some hF.1)); refine Cz 10 29 [8] ?_ (hw := fun y w hF => Zbb (congrArg some hF.1)); refine Cz 11 30 [8] ?_ (hw := fun y w hF => Zbb (congrArg some hF.1)); refine Cz 12 31 [8] ?_ (hw := fun y w hF => Zbb (congrArg some hF.1)); refine Cz 13 32 [8] ?_ (hw := fun y w hF => Zbb (congrArg some hF.1)); refine Cz 14 33 [8] ?_ (hw := fun y w hF => Zbb (congrArg some hF.1)); refine Cz 15 34 [8] ?_ (hw := fun y w hF => Zbb (congrArg some hF.1)); refine Cz 16 35 [8] ?_ (hw := fun y w hF => Zbb (congrArg some hF.1)); refine Cz 17 36 [8] ?_ (hw := fun y w hF => Zbb (congrArg some hF.1)); refine Cz 18 37 [8] ?_ (hw := fun y w hF => Zbb (congrArg some hF.1)); refine Cp 19 38 [8, 18] ?_; refine Cp 20 39 [19] ?_; refine Cz 21 40 [20] ?_ (hw := fun y w hF => Zbb (congrArg some hF.1)); refine Cz 22 41 [20] ?_ (hw := fun y w hF => Zbb (congrArg some hF.1)); refine Cz 23 42 [20] ?_ (hw := fun y w hF => Zbb (congrArg some hF.1)); refine Cz 24 43 [20] ?_ (hw := fun y w hF => Zbb (congrArg some hF.1)); refine Cz 25 44 [20] ?_ (hw := fun y w hF => Zbb (congrArg some hF.1)); refine Cp 26 45 [20, 25] ?_; refine Cn 1 28 [27] (fun y u1 hB hf => ?_); have HS1 := Zab hB; clear hB hf; refine Tq 27 HS1.out ?_; simp only [Act.put, Ly]; refine wpAnyH_done (by kernel_rfl) ?_ _; go_simp; have hB := HS1.out; clear HS1; generalize u1 = v2 at hB ⊢; refine Zbd (by assumption) ?_; go_wp2_with fail; go_roundw
      case rel => exact ⟨i + 1, by omega, by go_num, by rw [HSU.out]; rfl, HF.out.later hB, HK.out.later hB, Zac HBW.out hB⟩
      case measure => simp [intOf]; omega
    cases b1
    · clear hi2' hi3; refine Cs [19, 20, 21, 22, 23, 24, 25, 26, 27, 28, 29, 30, 31, 32, 33, 34, 35, 36, 37, 38, 39, 40, 41, 42, 43, 44, 45] ?_; refine Cp 0 19 [] ?_; refine Cp 1 20 [0] ?_; refine Cp 2 21 [1] ?_ (hw := fun y w hF => Zak (congrArg some hF.1)); refine Cp 3 22 [1] ?_ (hw := fun y w hF => Zak (congrArg some hF.1)); refine Cp 4 23 [3, 2, 1] ?_ (hw := fun y w hF => Zak (congrArg some hF.2.2.1)); refine Cq (fun _ h => cell_later h xk) 5 24 [4, 1] ?_ (hw := fun y w hF => Zak (congrArg some hF.2.1)); refine Cc 6 25 [5, 1] (fun y w h _ => Zez (hi1 _)) ?_ (hw := fun y w hF => Zak (congrArg some hF.2.1)); refine Cp 7 26 [1, 6] ?_; refine Cp 8 27 [7] ?_; refine Cz 9 28 [8] ?_ (hw := fun y w hF => Zbb (congrArg some hF.1)); refine Cz 10 29 [8] ?_ (hw := fun y w hF => Zbb (congrArg some hF.1)); refine Cz 11 30 [8] ?_ (hw := fun y w hF => Zbb (congrArg some hF.1)); refine Cz 12 31 [8] ?_ (hw := fun y w hF => Zbb (congrArg some hF.1)); refine Cz 13 32 [8] ?_ (hw := fun y w hF => Zbb (congrArg some hF.1)); refine Cz 14 33 [8] ?_ (hw := fun y w hF => Zbb (congrArg some hF.1)); refine Cz 15 34 [8] ?_ (hw := fun y w hF => Zbb (congrArg some hF.1)); refine Cz 16 35 [8] ?_ (hw := fun y w hF => Zbb (congrArg some hF.1)); refine Cz 17 36 [8] ?_ (hw := fun y w hF => Zbb (congrArg some hF.1)); refine Cz 18 37 [8] ?_ (hw := fun y w hF => Zbb (congrArg some hF.1)); refine Cp 19 38 [8, 18] ?_; refine Cp 20 39 [19] ?_; refine Cz 21 40 [20] ?_ (hw := fun y w hF => Zbb (congrArg some hF.1)); refine Cz 22 41 [20] ?_ (hw := fun y w hF => Zbb (congrArg some hF.1)); refine Cz 23 42 [20] ?_ (hw := fun y w hF => Zbb (congrArg some hF.1)); refine Cz 24 43 [20] ?_ (hw := fun y w hF => Zbb (congrArg some hF.1)); refine Cz 25 44 [20] ?_ (hw := fun y w hF => Zbb (congrArg some hF.1)); refine Cp 26 45 [20, 25] ?_; refine Cn 1 28 [27] (fun y u1 hB hf => ?_); have HS1 := Zab hB; clear hB hf; refine Tq 27 HS1.out ?_; simp only [Act.put, Ly]; refine wpAnyH_done (by kernel_rfl) ?_ _; go_simp; have hB := HS1.out; clear HS1; generalize u1 = v2 at hB ⊢; refine Zbd (by assumption) ?_; go_wp2_with fail; go_roundw
      case rel => exact ⟨i + 1, by omega, by go_num, by rw [HSU.out]; rfl, HF.out.later hB, HK.out.later hB, Zac HBW.out hB⟩
      case measure => simp [intOf]; omega
    cases b2
    · clear hi3; refine Cs [19, 20, 21, 22, 23, 24, 25, 26, 27, 28, 29, 30, 31, 32, 33, 34, 35, 36, 37, 38, 39, 40, 41, 42, 43, 44, 45] ?_; refine Cp 0 19 [] ?_; refine Cp 1 20 [0] ?_; refine Cp 2 21 [1] ?_ (hw := fun y w hF => Zak (congrArg some hF.1)); refine Cp 3 22 [1] ?_ (hw := fun y w hF => Zak (congrArg some hF.1)); refine Cp 4 23 [3, 2, 1] ?_ (hw := fun y w hF => Zak (congrArg some hF.2.2.1)); refine Cq (fun _ h => cell_later h xk) 5 24 [4, 1] ?_ (hw := fun y w hF => Zak (congrArg some hF.2.1)); refine Cc 6 25 [5, 1] (fun y w h _ => Zez (hi1 _)) ?_ (hw := fun y w hF => Zak (congrArg some hF.2.1)); refine Cp 7 26 [1, 6] ?_; refine Cp 8 27 [7] ?_; refine Cp 9 28 [8] ?_ (hw := fun y w hF => Zak (congrArg some hF.1)); refine Cp 10 29 [8] ?_ (hw := fun y w hF => Zak (congrArg some hF.1)); refine Cp 11 30 [10, 9, 8] ?_ (hw := fun y w hF => Zak (congrArg some hF.2.2.1)); refine Cq (fun _ h => cell_later h xp) 12 31 [11, 8] ?_ (hw := fun y w hF => Zak (congrArg some hF.2.1)); refine Cp 13 32 [8] ?_ (hw := fun y w hF => Zak (congrArg some hF.1)); refine Cq (fun _ h => cell_later h xa) 14 33 [13, 8] ?_ (hw := fun y w hF => Zak (congrArg some hF.2.1)); refine Cp 15 34 [14, 8] ?_ (hw := fun y w hF => Zak (congrArg some hF.2.1)); refine Cp 16 35 [8] ?_ (hw := fun y w hF => Zak (congrArg some hF.1)); refine Cq (fun _ h => cell_later h xa) 17 36 [16, 8] ?_ (hw := fun y w hF => Zak (congrArg some hF.2.1)); refine Cc 18 37 [12, 15, 17, 8] (fun y w h _ => Zez (hi2' _)) ?_ (hw := fun y w hF => Zak (congrArg some hF.2.2.2.1)); refine Cp 19 38 [8, 18] ?_; refine Cp 20 39 [19] ?_; refine Cz 21 40 [20] ?_ (hw := fun y w hF => Zbb (congrArg some hF.1)); refine Cz 22 41 [20] ?_ (hw := fun y w hF => Zbb (congrArg some hF.1)); refine Cz 23 42 [20] ?_ (hw := fun y w hF => Zbb (congrArg some hF.1)); refine Cz 24 43 [20] ?_ (hw := fun y w hF => Zbb (congrArg some hF.1)); refine Cz 25 44 [20] ?_ (hw := fun y w hF => Zbb (congrArg some hF.1)); refine Cp 26 45 [20, 25] ?_; refine Cn 1 28 [27] (fun y u1 hB hf => ?_); have HS1 := Zab hB; clear hB hf; refine Tq 27 HS1.out ?_; simp only [Act.put, Ly]; refine wpAnyH_done (by kernel_rfl) ?_ _; go_simp; have hB := HS1.out; clear HS1; generalize u1 = v2 at hB ⊢; refine Zbd (by assumption) ?_; go_wp2_with fail; go_roundw
      case rel => exact ⟨i + 1, by omega, by go_num, by rw [HSU.out]; rfl, HF.out.later hB, HK.out.later hB, Zac HBW.out hB⟩
      case measure => simp [intOf]; omega
    refine Cs [19, 20, 21, 22, 23, 24, 25, 26, 27, 28, 29, 30, 31, 32, 33, 34, 35, 36, 37, 38, 39, 40, 41, 42, 43, 44, 45] ?_; refine Cp 0 19 [] ?_; refine Cp 1 20 [0] ?_; refine Cp 2 21 [1] ?_ (hw := fun y w hF => Zak (congrArg some hF.1)); refine Cp 3 22 [1] ?_ (hw := fun y w hF => Zak (congrArg some hF.1)); refine Cp 4 23 [3, 2, 1] ?_ (hw := fun y w hF => Zak (congrArg some hF.2.2.1)); refine Cq (fun _ h => cell_later h xk) 5 24 [4, 1] ?_ (hw := fun y w hF => Zak (congrArg some hF.2.1)); refine Cc 6 25 [5, 1] (fun y w h _ => Zez (hi1 _)) ?_ (hw := fun y w hF => Zak (congrArg some hF.2.1)); refine Cp 7 26 [1, 6] ?_; refine Cp 8 27 [7] ?_; refine Cp 9 28 [8] ?_ (hw := fun y w hF => Zak (congrArg some hF.1)); refine Cp 10 29 [8] ?_ (hw := fun y w hF => Zak (congrArg some hF.1)); refine Cp 11 30 [10, 9, 8] ?_ (hw := fun y w hF => Zak (congrArg some hF.2.2.1)); refine Cq (fun _ h => cell_later h xp) 12 31 [11, 8] ?_ (hw := fun y w hF => Zak (congrArg some hF.2.1)); refine Cp 13 32 [8] ?_ (hw := fun y w hF => Zak (congrArg some hF.1)); refine Cq (fun _ h => cell_later h xa) 14 33 [13, 8] ?_ (hw := fun y w hF => Zak (congrArg some hF.2.1)); refine Cp 15 34 [14, 8] ?_ (hw := fun y w hF => Zak (congrArg some hF.2.1)); refine Cp 16 35 [8] ?_ (hw := fun y w hF => Zak (congrArg some hF.1)); refine Cq (fun _ h => cell_later h xa) 17 36 [16, 8] ?_ (hw := fun y w hF => Zak (congrArg some hF.2.1)); refine Cc 18 37 [12, 15, 17, 8] (fun y w h _ => Zez (hi2' _)) ?_ (hw := fun y w hF => Zak (congrArg some hF.2.2.2.1)); refine Cp 19 38 [8, 18] ?_; refine Cp 20 39 [19] ?_; refine Cp 21 40 [20] ?_ (hw := fun y w hF => Zak (congrArg some hF.1)); refine Cp 22 41 [20] ?_ (hw := fun y w hF => Zak (congrArg some hF.1)); refine Cp 23 42 [22, 21, 20] ?_ (hw := fun y w hF => Zak (congrArg some hF.2.2.1)); refine Cq (fun _ h => cell_later h xz) 24 43 [23, 20] ?_ (hw := fun y w hF => Zak (congrArg some hF.2.1)); refine Cc 25 44 [24, 20] (fun y w h _ => Zez (hi3 _)) ?_ (hw := fun y w hF => Zak (congrArg some hF.2.1)); refine Cp 26 45 [20, 25] ?_; refine Cn 1 28 [27] (fun y u1 hB hf => ?_); have HS1 := Zab hB; clear hB hf; refine Tq 27 HS1.out ?_; simp only [Act.put, Ly]; refine wpAnyH_done (by kernel_rfl) ?_ _; go_simp; have hB := HS1.out; clear HS1; generalize u1 = v2 at hB ⊢; refine Zbd (by assumption) ?_; go_wp2_with fail; go_roundw
    case rel => exact ⟨i + 1, by omega, by go_num, by rw [HSU.out]; rfl, HF.out.later hB, HK.out.later hB, Zac HBW.out hB⟩
    case measure => simp [intOf]; omega
  · obtain rfl : i = 2 := by omega
    have HBW := Zab hbw; clear hf hbw hkk; generalize stpU C s 2 = b at *
    cases b
    · go_wp2_with (go_at_call 14; refine Sm (Zaz 1 _) ?_); go_ret; exact ⟨by rw [HE.out]; rfl, HBW.out⟩
    · go_wp2_with (go_at_call 14; refine Sm (Zbo 1 _) ?_); go_ret; exact ⟨by rw [HE.out]; rfl, HBW.out⟩
end Go.Proofs.YtnfdfiholcelaaaGreatDoor
