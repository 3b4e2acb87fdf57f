
import Derived.Test.YtnfdfiholcelaaaGreatDoorJa00
import Derived.Test.YtnfdfiholcelaaaGreatDoorJa01
import Derived.Test.YtnfdfiholcelaaaGreatDoorJa03
set_option maxRecDepth 100000
set_option maxHeartbeats 20000000
namespace Go.Proofs.YtnfdfiholcelaaaGreatDoor
open Go.RowKit Plain
theorem info_int : ∃ i, Tryz.prog.info? 3 = some i ∧ i.size = 1 := by
 have h : (Tryz.prog.info? 3).map (·.size) = some 1 := by kernel_rfl
 cases hq : Tryz.prog.info? 3 with
 | none => rw [hq] at h; cases h
 | some i => rw [hq] at h; exact ⟨i, rfl, by simpa using h⟩
theorem eq_who (d : Nat) (a b p q : Int) (w : World) : (Op.equalIn (d + 1 + 1) 241 (.agg #[Vi a, Vi b]) (.agg #[Vi p, Vi q])).run Tryz.prog w = .ok (decide (a = p) && decide (b = q)) w := by
 obtain ⟨i, hi, _⟩ := info_int; rw [run_equalIn_array w _ _ _ who_under hi, who_one, show List.range 2 = [0, 1] from rfl]
 by_cases h1 : a = p
 · by_cases h2 : b = q
   · simp [Op.eqItems, go_sem, h1, h2]
   · have : (b == q) = false := by simpa using h2
     simp [Op.eqItems, go_sem, h1, h2, this]
 · have : (a == p) = false := by simpa using h1
   simp [Op.eqItems, go_sem, h1, this]
def FindS (w u : World) (B : Nat) (a : Option Addr) (l : List Rd) (x y : Int) : Prop :=
 Box4 u B 0 0 0 0 ∧ (u.cell? (Ad (B + 1) 0) = some (Vi x) ∧ u.cell? (Ad (B + 1) 1) = some (Vi y)) ∧ Rds u a l ∧ Below B w u
theorem FindS.later {w u u' : World} {B : Nat} {a : Option Addr} {l : List Rd} {x y : Int} (h : FindS w u B a l x y) (hb : Below u.heap.size u u') : FindS w u' B a l x y :=
 ⟨h.1.later hb, ⟨cell_later hb h.2.1.1, cell_later hb h.2.1.2⟩, h.2.2.1.later hb, h.2.2.2.trans (hb.mono (Nat.le_of_lt h.1.2.2.2.2.2.2.2.2))⟩
theorem find_any (a : Option Addr) (cap : Nat) (l : List Rd) (x y : Int) (hl : l.length ≤ 1000) (w : World) (hr : Rds w a l) :
 Calls Tryz.prog 161 #[.slice a l.length cap, Vi x, Vi y] w fun e w' => e = .returned (fndV x y l) ∧ Below w.heap.size w w' := by
 have hq := eq_who; have HF : Hid (FindS w ((w.alloc (.cells #[Vi 0, Vi 0, Vi 0, Vi 0] 161)).alloc (.cells #[Vi x, Vi y] 241)) w.heap.size a l x y) :=
  Zap ⟨(Box4.new w 0 0 0 0 161).later (Zan _ _), ⟨by simp [go_sem], by simp [go_sem]⟩, hr.later (Zcb (Zan _ _) (Zan _ _)), Zcb (Zan _ _) (Zan _ _)⟩
 clear hr
 go_enter Tryz.func161, Tryz.ntmps161
 go_wp2; generalize (w.alloc (.cells #[Vi 0, Vi 0, Vi 0, Vi 0] 161)).alloc (.cells #[Vi x, Vi y] 241) = w1 at *; obtain ⟨B, hB⟩ : ∃ B, B = w.heap.size := ⟨_, rfl⟩; rw [← hB] at HF; rw [← hB]; have HBB := Zap hB; clear hB
 go_loopw [16] (fun i wr => ∃ k : Nat, k ≤ l.length ∧ i = Vi k ∧ Hid (fndV x y l = fndV x y (l.drop k)) ∧ FindS w wr B a l x y) (fun i _ => l.length - (intOf i).toNat)
 case atStart => exact ⟨0, Nat.zero_le _, rfl, by show fndV x y l = fndV x y (l.drop 0); rw [List.drop_zero], HF.out⟩
 case round =>
  obtain ⟨k, hk, rfl, hf, hS⟩ := hrel; have HS := Zap hS; clear hS
  by_cases hlt : k < l.length
  · obtain ⟨g, rfl, c0, c1, c2, c3⟩ := HS.out.2.2.1.at hlt; have HY := Zap (fun h1 h2 => fndV_yes hlt hf.out h1 h2); have HN := Zap (fun h => fndV_no hlt hf.out h)
    unfold rdV at HY
    generalize (rat l k).1 = r1 at *; generalize (rat l k).2.1 = r2 at *; generalize (rat l k).2.2.1 = r3 at *; generalize (rat l k).2.2.2 = r4 at *; clear hf
    go_upto_region 5 with fail; have HS1 := Zap (HS.out.later (Zan wr (.cells #[Vi r1, Vi r2, Vi r3, Vi r4] 161))); have HC := Zap (Box4.new wr r1 r2 r3 r4 161); generalize wr.alloc (.cells #[Vi r1, Vi r2, Vi r3, Vi r4] 161) = w2 at *; generalize wr.heap.size = V at *; have Z : Hid (w2.cell? (Ad V 0) = some (Vi r1) ∧ w2.cell? (Ad V 1) = some (Vi r2) ∧ w2.cell? (Ad V 2) = some (Vi r3) ∧ w2.cell? (Ad V 3) = some (Vi r4) ∧ w2.cell? (Ad (B + 1) 0) = some (Vi x) ∧ w2.cell? (Ad (B + 1) 1) = some (Vi y)) := Zap ⟨HC.out.1, HC.out.2.1, HC.out.2.2.1, HC.out.2.2.2.1, HS1.out.2.1.1, HS1.out.2.1.2⟩; clear c0 c1 c2 c3
    by_cases h : r1 = x ∧ r2 = y
    · have hq1 : ∀ d w, (Op.equalIn (d + 1 + 1) 241 (.agg #[Vi r1, Vi r2]) (.agg #[Vi x, Vi y])).run Tryz.prog w = .ok true w := fun d w => by rw [hq]; simp [h]
      have HV := Zap (HY.out h.1 h.2); clear HY HN h hq
      go_region_held3 (fun u => (u.cell? (Ad V 0) = some (Vi r1) ∧ u.cell? (Ad V 1) = some (Vi r2) ∧ u.cell? (Ad V 2) = some (Vi r3) ∧ u.cell? (Ad V 3) = some (Vi r4) ∧ u.cell? (Ad (B + 1) 0) = some (Vi x) ∧ u.cell? (Ad (B + 1) 1) = some (Vi y)))
       (first
        | (with_reducible assumption)
        | exact Z.out)
       (first
        | (go_at_call 149; refine Sb (by_any r1 r2 r3 r4 _) fun w3 hb3 => ?_; have HC3 := Zap (HC.out.drew.later hb3); have HS3 := Zap ((HS1.out.later (Below.refl _ _).drew).later hb3); have KS3 : (w3.cell? (Ad V 0) = some (Vi r1) ∧ w3.cell? (Ad V 1) = some (Vi r2) ∧ w3.cell? (Ad V 2) = some (Vi r3) ∧ w3.cell? (Ad V 3) = some (Vi r4) ∧ w3.cell? (Ad (B + 1) 0) = some (Vi x) ∧ w3.cell? (Ad (B + 1) 1) = some (Vi y)) := ⟨HC3.out.1, HC3.out.2.1, HC3.out.2.2.1, HC3.out.2.2.2.1, HS3.out.2.1.1, HS3.out.2.1.2⟩; clear hb3))
      all_goals
       obtain ⟨y0, y1, y2, y3, f0, f1, f2, f3, _⟩ := HS3.out.1; obtain ⟨z0, z1, z2, z3, _⟩ := HC3.out; go_wp2_with fail; refine bodyPost_ret (v := .tuple #[.agg #[Vi r1, Vi r2, Vi r3, Vi r4], .bool true]) (by simp [results, Tryz.results161, go_sem, *]) rfl ⟨by rw [HV.out], ?_⟩; rw [HBB.out] at HS3 ⊢; exact Zel HS3.out.2.2.2 (Nat.le_refl _) _ _ _ _
    · have hq1 : ∀ d w, (Op.equalIn (d + 1 + 1) 241 (.agg #[Vi r1, Vi r2]) (.agg #[Vi x, Vi y])).run Tryz.prog w = .ok false w := fun d w => by rw [hq]; simp; intro h1 h2; exact h ⟨h1, h2⟩
      have HV := Zap (HN.out h); clear HY HN h hq
      go_region_held3 (fun u => (u.cell? (Ad V 0) = some (Vi r1) ∧ u.cell? (Ad V 1) = some (Vi r2) ∧ u.cell? (Ad V 2) = some (Vi r3) ∧ u.cell? (Ad V 3) = some (Vi r4) ∧ u.cell? (Ad (B + 1) 0) = some (Vi x) ∧ u.cell? (Ad (B + 1) 1) = some (Vi y)))
       (first
        | (with_reducible assumption)
        | exact Z.out)
       (first
        | (go_at_call 149; refine Sb (by_any r1 r2 r3 r4 _) fun w3 hb3 => ?_; have HC3 := Zap (HC.out.drew.later hb3); have HS3 := Zap ((HS1.out.later (Below.refl _ _).drew).later hb3); have KS3 : (w3.cell? (Ad V 0) = some (Vi r1) ∧ w3.cell? (Ad V 1) = some (Vi r2) ∧ w3.cell? (Ad V 2) = some (Vi r3) ∧ w3.cell? (Ad V 3) = some (Vi r4) ∧ w3.cell? (Ad (B + 1) 0) = some (Vi x) ∧ w3.cell? (Ad (B + 1) 1) = some (Vi y)) := ⟨HC3.out.1, HC3.out.2.1, HC3.out.2.2.1, HC3.out.2.2.2.1, HS3.out.2.1.1, HS3.out.2.1.2⟩; clear hb3))
      all_goals
       go_wp2_with fail; go_roundw
       (case rel => exact ⟨k + 1, by omega, by go_num, HV, HS3.out⟩)
       (case measure => simp [intOf]; omega)
  · obtain rfl : k = l.length := by omega
    have HV := Zap (fndV_end hf.out); obtain ⟨y0, y1, y2, y3, f0, f1, f2, f3, _⟩ := HS.out.1; clear hf hq; go_wp2; refine bodyPost_ret (v := .tuple #[.agg #[Vi 0, Vi 0, Vi 0, Vi 0], .bool false]) (by simp [results, Tryz.results161, go_sem, *]) rfl ⟨by rw [HV.out], ?_⟩; rw [HBB.out] at HS ⊢; exact Zel HS.out.2.2.2 (Nat.le_refl _) _ _ _ _
theorem fndV_smp (l : List Rd) (x y : Int) : ∃ (r1 r2 r3 r4 : Int) (b : Bool), fndV x y l = .tuple #[.agg #[Vi r1, Vi r2, Vi r3, Vi r4], .bool b] ∧ ((b = true ∧ r3 = 3 ∧ smp l x y = (true, r4)) ∨ (b = true ∧ r3 ≠ 3 ∧ smp l x y = (false, 0)) ∨ (b = false ∧ smp l x y = (false, 0))) := by
 unfold fndV smp
 cases fnd x y l with
 | none => exact ⟨0, 0, 0, 0, false, rfl, .inr (.inr ⟨rfl, rfl⟩)⟩
 | some r =>
  by_cases h : r.2.2.1 = 3
  · exact ⟨r.1, r.2.1, r.2.2.1, r.2.2.2, true, rfl, .inl ⟨rfl, h, by simp [h]⟩⟩
  · exact ⟨r.1, r.2.1, r.2.2.1, r.2.2.2, true, rfl, .inr (.inl ⟨rfl, h, by simp [h]⟩)⟩
theorem Zhs (B : Nat) (a : Option Addr) (cap : Nat) (l : List Rd) (x y : Int) (hl : l.length ≤ 1000) (w : World) (hc : w.cell? (Ad B 62) = some (.slice a l.length cap)) (hr : Rds w a l) :
 Calls Tryz.prog 107 #[.pointer (some (Ad B 0)), Vi x, Vi y] w fun e w' => e = .returned (.agg #[.bool (smp l x y).1, Vi (smp l x y).2]) ∧ Below w.heap.size w w' := by
 have HR := Zab (hr.later (Zaa w (.cells #[.bool false, Vi 0] 131))); have HZ : Hid (Blk 131 (w.alloc (.cells #[.bool false, Vi 0] 131)) w.heap.size [.bool false, Vi 0]) := Zab (Blk.new w _ _); have HB := Zab (Zaa w (.cells #[.bool false, Vi 0] 131)); have hc1 := cell_later (Zaa w (.cells #[.bool false, Vi 0] 131)) hc; clear hc; clear hr; obtain ⟨r1, r2, r3, r4, b, hfv, hs⟩ := fndV_smp l x y; have hs' : Hid _ := Zab hs; clear hs
 go_enter Tryz.func107, Tryz.ntmps107
 go_upto_region 1 with fail; generalize w.alloc (.cells #[.bool false, Vi 0] 131) = w0 at *; have HW : Hid (∀ w1, Below w0.heap.size w0 w1 → Blk 131 (w1.alloc (.cells #[Vi r1, Vi r2, Vi r3, Vi r4] 161)) w.heap.size [.bool false, Vi 0] ∧ Blk 161 (w1.alloc (.cells #[Vi r1, Vi r2, Vi r3, Vi r4] 161)) w1.heap.size [Vi r1, Vi r2, Vi r3, Vi r4] ∧ Below w.heap.size w (w1.alloc (.cells #[Vi r1, Vi r2, Vi r3, Vi r4] 161))) := Zab (fun w1 hb => ⟨(HZ.out.later hb).later (Zaa _ _), Blk.new w1 _ [Vi r1, Vi r2, Vi r3, Vi r4], Zac (Zac HB.out hb) (Zaa _ _)⟩)
 go_upto_region 2 with (first
  | (go_at_call 161; refine Sb (find_any a cap l x y hl _ HR.out) fun w1 hb => ?_; rw [hfv]; have HV := Zab (HW.out w1 hb); clear hb HW))
 generalize w1.alloc (.cells #[Vi r1, Vi r2, Vi r3, Vi r4] 161) = w2 at *; generalize w1.heap.size = E at *; have q0 := (HV.out.1.cell (j := 0) rfl).1; have q1 := (HV.out.1.cell (j := 1) rfl).1; have f0 := (HV.out.1.cell (j := 0) rfl).2; have f1 := (HV.out.1.cell (j := 1) rfl).2; have p2 := (HV.out.2.1.cell (j := 2) rfl).1; have p3 := (HV.out.2.1.cell (j := 3) rfl).1; have h1 := (HV.out.2.2.setCell (p := ⟨w.heap.size, 0, none⟩) (by simp) (.bool true)).setCell (p := ⟨w.heap.size, 1, none⟩) (by simp) (Vi r4); have h0 := (HV.out.2.2.setCell (p := ⟨w.heap.size, 0, none⟩) (by simp) (.bool false)).setCell (p := ⟨w.heap.size, 1, none⟩) (by simp) (Vi 0); have H1 := Zab h1; have H0 := Zab h0; clear h0 h1
 rcases hs'.out with ⟨rfl, hr3, hsm⟩ | ⟨rfl, hr3, hsm⟩ | ⟨rfl, hsm⟩
 · subst hr3; go_wp2; exact bodyPost_ret (v := .agg #[.bool true, Vi r4]) (by simp [results, Tryz.results107, go_sem, q0, q1]) rfl ⟨by first | rfl | rw [hsm], H1.out⟩
 · have hr4 : (r3 != 3) = true := by simpa using hr3
   go_wp2; exact bodyPost_ret (v := .agg #[.bool false, Vi 0]) (by simp [results, Tryz.results107, go_sem, q0, q1]) rfl ⟨by first | rfl | rw [hsm], H0.out⟩
 · go_wp2; exact bodyPost_ret (v := .agg #[.bool false, Vi 0]) (by simp [results, Tryz.results107, go_sem, q0, q1]) rfl ⟨by first | rfl | rw [hsm], H0.out⟩
theorem Zdn (a : Option Addr) (cap : Nat) (l : List Rd) (x y : Int) (hl : l.length ≤ 1000) (w : World)  (hr : Rds w a l) :
 Calls Tryz.prog 52 #[.slice a l.length cap, Vi x, Vi y] w fun e w' => e = .returned (.agg #[.bool (smp l x y).1, Vi (smp l x y).2]) ∧ Below w.heap.size w w' := by
 have HR := Zab (hr.later (Zaa w (.cells #[.bool false, Vi 0] 131))); have HZ : Hid (Blk 131 (w.alloc (.cells #[.bool false, Vi 0] 131)) w.heap.size [.bool false, Vi 0]) := Zab (Blk.new w _ _); have HB := Zab (Zaa w (.cells #[.bool false, Vi 0] 131)); clear hr; obtain ⟨r1, r2, r3, r4, b, hfv, hs⟩ := fndV_smp l x y; have hs' : Hid _ := Zab hs; clear hs
 go_enter Tryz.func52, Tryz.ntmps52
 go_upto_region 1 with fail; generalize w.alloc (.cells #[.bool false, Vi 0] 131) = w0 at *; have HW : Hid (∀ w1, Below w0.heap.size w0 w1 → Blk 131 (w1.alloc (.cells #[Vi r1, Vi r2, Vi r3, Vi r4] 161)) w.heap.size [.bool false, Vi 0] ∧ Blk 161 (w1.alloc (.cells #[Vi r1, Vi r2, Vi r3, Vi r4] 161)) w1.heap.size [Vi r1, Vi r2, Vi r3, Vi r4] ∧ Below w.heap.size w (w1.alloc (.cells #[Vi r1, Vi r2, Vi r3, Vi r4] 161))) := Zab (fun w1 hb => ⟨(HZ.out.later hb).later (Zaa _ _), Blk.new w1 _ [Vi r1, Vi r2, Vi r3, Vi r4], Zac (Zac HB.out hb) (Zaa _ _)⟩)
 go_upto_region 2 with (first
  | (go_at_call 93; refine Sb (found_any a cap l x y hl _ HR.out) fun w1 hb => ?_; rw [hfv]; have HV := Zab (HW.out w1 hb); clear hb HW))
 generalize w1.alloc (.cells #[Vi r1, Vi r2, Vi r3, Vi r4] 161) = w2 at *; generalize w1.heap.size = E at *; have q0 := (HV.out.1.cell (j := 0) rfl).1; have q1 := (HV.out.1.cell (j := 1) rfl).1; have f0 := (HV.out.1.cell (j := 0) rfl).2; have f1 := (HV.out.1.cell (j := 1) rfl).2; have p2 := (HV.out.2.1.cell (j := 2) rfl).1; have p3 := (HV.out.2.1.cell (j := 3) rfl).1; have h1 := (HV.out.2.2.setCell (p := ⟨w.heap.size, 0, none⟩) (by simp) (.bool true)).setCell (p := ⟨w.heap.size, 1, none⟩) (by simp) (Vi r4); have h0 := (HV.out.2.2.setCell (p := ⟨w.heap.size, 0, none⟩) (by simp) (.bool false)).setCell (p := ⟨w.heap.size, 1, none⟩) (by simp) (Vi 0); have H1 := Zab h1; have H0 := Zab h0; clear h0 h1
 rcases hs'.out with ⟨rfl, hr3, hsm⟩ | ⟨rfl, hr3, hsm⟩ | ⟨rfl, hsm⟩
 · subst hr3; go_wp2; exact bodyPost_ret (v := .agg #[.bool true, Vi r4]) (by simp [results, Tryz.results52, go_sem, q0, q1]) rfl ⟨by first | rfl | rw [hsm], H1.out⟩
 · have hr4 : (r3 != 3) = true := by simpa using hr3
   go_wp2; exact bodyPost_ret (v := .agg #[.bool false, Vi 0]) (by simp [results, Tryz.results52, go_sem, q0, q1]) rfl ⟨by first | rfl | rw [hsm], H0.out⟩
 · go_wp2; exact bodyPost_ret (v := .agg #[.bool false, Vi 0]) (by simp [results, Tryz.results52, go_sem, q0, q1]) rfl ⟨by first | rfl | rw [hsm], H0.out⟩
theorem Zdg {u : World} {B V j k : Nat} {x v : Value} (hV : B ≠ V) (h : u.cell? (Ad B j) = some x) : (u.setCell (Ad V k) v).cell? (Ad B j) = some x := (World.cell?_setCell_other _ _ _ _ (fun e => hV (congrArg Addr.block e).symm)).trans h
theorem Zdo {u : World} {a : Option Addr} {l : List Rd} {V j : Nat} {v : Value} (hV : ∀ g, a = some (Ad g 0) → l ≠ [] → g ≠ V) (h : Rds u a l) : Rds (u.setCell (Ad V j) v) a l := by
 rcases h with h | ⟨g, h, hc⟩
 · exact .inl h
 · by_cases hn : l = []
   · exact .inl hn
   · have := hV g h hn; exact .inr ⟨g, h, fun k hk => ⟨Zdg this (hc k hk).1, Zdg this (hc k hk).2.1, Zdg this (hc k hk).2.2.1, Zdg this (hc k hk).2.2.2⟩⟩
theorem Rds.lt {u : World} {a : Option Addr} {l : List Rd} (h : Rds u a l) : ∀ g, a = some (Ad g 0) → l ≠ [] → g < u.heap.size := by
 intro g hg hl
 rcases h with h | ⟨g', h, hc⟩
 · exact absurd h hl
 · subst hg; cases h
   have h0 : 0 < l.length := by cases l with | nil => exact absurd rfl hl | cons _ _ => simp
   exact World.block_lt_of_cell? u _ (hc 0 h0).1
def smL (l : List Rd) (x : Int) : List Value := [.bool (smp l x 0).1, Vi (smp l x 0).2, .bool (smp l x 1).1, Vi (smp l x 1).2, .bool (smp l x 2).1, Vi (smp l x 2).2]
theorem channels_any (B : Nat) (a : Option Addr) (cap : Nat) (l : List Rd) (x : Int) (hl : l.length ≤ 1000) (w : World) (hc : w.cell? (Ad B 62) = some (.slice a l.length cap)) (hr : Rds w a l) :
 Calls Tryz.prog 158 #[.pointer (some (Ad B 0)), Vi x] w fun e w' => e = .returned (.agg (smL l x).toArray) ∧ Below w.heap.size w w' := by
 have HB0 : Hid (Below w.heap.size w ((w.alloc (.cells #[.bool false, Vi 0, .bool false, Vi 0, .bool false, Vi 0] 185)).alloc (.cells #[.bool false, Vi 0, .bool false, Vi 0, .bool false, Vi 0] 185))) := Zab (Zac (Zaa _ _) (Zaa _ _)); have HY0 : Hid (Blk 185 ((w.alloc (.cells #[.bool false, Vi 0, .bool false, Vi 0, .bool false, Vi 0] 185)).alloc (.cells #[.bool false, Vi 0, .bool false, Vi 0, .bool false, Vi 0] 185)) w.heap.size [.bool false, Vi 0, .bool false, Vi 0, .bool false, Vi 0]) := Zab (Blk.later (Blk.new w _ [.bool false, Vi 0, .bool false, Vi 0, .bool false, Vi 0]) (Zaa _ _)); have HI0 : Hid (Blk 185 ((w.alloc (.cells #[.bool false, Vi 0, .bool false, Vi 0, .bool false, Vi 0] 185)).alloc (.cells #[.bool false, Vi 0, .bool false, Vi 0, .bool false, Vi 0] 185)) (w.heap.size + 1) [.bool false, Vi 0, .bool false, Vi 0, .bool false, Vi 0]) := Zab (by have := Blk.new (w.alloc (.cells #[.bool false, Vi 0, .bool false, Vi 0, .bool false, Vi 0] 185)) 185 [.bool false, Vi 0, .bool false, Vi 0, .bool false, Vi 0]; rw [World.size_alloc] at this; exact this); have HR0 := Zab (hr.later HB0.out); have hc0 := cell_later HB0.out hc; have hBl : B < w.heap.size := World.block_lt_of_cell? w _ hc; have HQ : Hid (B ≠ w.heap.size + 1) := Zab (by omega); have HP : Hid (∀ g, a = some (Ad g 0) → l ≠ [] → g ≠ w.heap.size + 1) := Zab (fun g hg hn => by have := hr.lt g hg hn; omega); have HN : Hid (w.heap.size ≠ w.heap.size + 1) := Zab (by omega); have HM : Hid (w.heap.size ≤ w.heap.size + 1) := Zab (by omega); clear hr hc hBl
 go_enter Tryz.func158, Tryz.ntmps158
 go_upto_region 2 with fail; generalize ((w.alloc (.cells #[.bool false, Vi 0, .bool false, Vi 0, .bool false, Vi 0] 185)).alloc (.cells #[.bool false, Vi 0, .bool false, Vi 0, .bool false, Vi 0] 185)) = w0 at *; generalize w.heap.size + 1 = I at *; go_wp2_with fail; refine wp_loop_rounds 4 ?_; rw [rounds_succ]
 go_wp2_with (first
  | (go_at_call 107; refine Sb (Zhs B a cap l x 0 hl _ hc0 HR0.out) fun u0 hb => ?_; have HBu := Zab (Zac HB0.out hb); have HYu := Zab (HY0.out.later hb); have HIu := Zab (HI0.out.later hb); have HRu := Zab (HR0.out.later hb); have hcu := cell_later hb hc0; have q0 := (HIu.out.cell (j := 0) rfl).1; have q1 := (HIu.out.cell (j := 1) rfl).1; have f0 := (HIu.out.cell (j := 0) rfl).2; have f1 := (HIu.out.cell (j := 1) rfl).2; clear hb HR0 HI0 HY0 HB0 hc0))
 have HI1 : Hid (Blk 185 ((u0.setCell (Ad I 0) (.bool (smp l x 0).1)).setCell (Ad I 1) (Vi (smp l x 0).2)) I [.bool (smp l x 0).1, Vi (smp l x 0).2, .bool false, Vi 0, .bool false, Vi 0]) := Zab ((HIu.out.set 0 (.bool (smp l x 0).1)).set 1 (Vi (smp l x 0).2)); have HY1 := Zab ((HYu.out.far (V := I) HN.out 0 (.bool (smp l x 0).1)).far (V := I) HN.out 1 (Vi (smp l x 0).2)); have HB1 := Zab ((HBu.out.setCell (p := ⟨I, 0, none⟩) HM.out (.bool (smp l x 0).1)).setCell (p := ⟨I, 1, none⟩) HM.out (Vi (smp l x 0).2)); have hc1 : ((u0.setCell (Ad I 0) (.bool (smp l x 0).1)).setCell (Ad I 1) (Vi (smp l x 0).2)).cell? (Ad B 62) = some (.slice a l.length cap) := Zdg HQ.out (Zdg HQ.out hcu); have HR1 := Zab (Zdo HP.out (Zdo HP.out HRu.out (j := 0) (v := .bool (smp l x 0).1)) (j := 1) (v := Vi (smp l x 0).2)); clear q0 q1 f0 f1 hcu HIu HYu HBu HRu; generalize (u0.setCell (Ad I 0) (.bool (smp l x 0).1)).setCell (Ad I 1) (Vi (smp l x 0).2) = w1 at *; rw [rounds_succ]
 go_wp2_with (first
  | (go_at_call 107; refine Sb (Zhs B a cap l x 1 hl _ hc1 HR1.out) fun u1 hb => ?_; have HBu := Zab (Zac HB1.out hb); have HYu := Zab (HY1.out.later hb); have HIu := Zab (HI1.out.later hb); have HRu := Zab (HR1.out.later hb); have hcu := cell_later hb hc1; have q0 := (HIu.out.cell (j := 2) rfl).1; have q1 := (HIu.out.cell (j := 3) rfl).1; have f0 := (HIu.out.cell (j := 2) rfl).2; have f1 := (HIu.out.cell (j := 3) rfl).2; clear hb HR1 HI1 HY1 HB1 hc1))
 have HI2 : Hid (Blk 185 ((u1.setCell (Ad I 2) (.bool (smp l x 1).1)).setCell (Ad I 3) (Vi (smp l x 1).2)) I [.bool (smp l x 0).1, Vi (smp l x 0).2, .bool (smp l x 1).1, Vi (smp l x 1).2, .bool false, Vi 0]) := Zab ((HIu.out.set 2 (.bool (smp l x 1).1)).set 3 (Vi (smp l x 1).2)); have HY2 := Zab ((HYu.out.far (V := I) HN.out 2 (.bool (smp l x 1).1)).far (V := I) HN.out 3 (Vi (smp l x 1).2)); have HB2 := Zab ((HBu.out.setCell (p := ⟨I, 2, none⟩) HM.out (.bool (smp l x 1).1)).setCell (p := ⟨I, 3, none⟩) HM.out (Vi (smp l x 1).2)); have hc2 : ((u1.setCell (Ad I 2) (.bool (smp l x 1).1)).setCell (Ad I 3) (Vi (smp l x 1).2)).cell? (Ad B 62) = some (.slice a l.length cap) := Zdg HQ.out (Zdg HQ.out hcu); have HR2 := Zab (Zdo HP.out (Zdo HP.out HRu.out (j := 2) (v := .bool (smp l x 1).1)) (j := 3) (v := Vi (smp l x 1).2)); clear q0 q1 f0 f1 hcu HIu HYu HBu HRu; generalize (u1.setCell (Ad I 2) (.bool (smp l x 1).1)).setCell (Ad I 3) (Vi (smp l x 1).2) = w2 at *; rw [rounds_succ]
 go_wp2_with (first
  | (go_at_call 107; refine Sb (Zhs B a cap l x 2 hl _ hc2 HR2.out) fun u2 hb => ?_; have HBu := Zab (Zac HB2.out hb); have HYu := Zab (HY2.out.later hb); have HIu := Zab (HI2.out.later hb); have HRu := Zab (HR2.out.later hb); have hcu := cell_later hb hc2; have q0 := (HIu.out.cell (j := 4) rfl).1; have q1 := (HIu.out.cell (j := 5) rfl).1; have f0 := (HIu.out.cell (j := 4) rfl).2; have f1 := (HIu.out.cell (j := 5) rfl).2; clear hb HR2 HI2 HY2 HB2 hc2))
 have HI3 : Hid (Blk 185 ((u2.setCell (Ad I 4) (.bool (smp l x 2).1)).setCell (Ad I 5) (Vi (smp l x 2).2)) I [.bool (smp l x 0).1, Vi (smp l x 0).2, .bool (smp l x 1).1, Vi (smp l x 1).2, .bool (smp l x 2).1, Vi (smp l x 2).2]) := Zab ((HIu.out.set 4 (.bool (smp l x 2).1)).set 5 (Vi (smp l x 2).2)); have HY3 := Zab ((HYu.out.far (V := I) HN.out 4 (.bool (smp l x 2).1)).far (V := I) HN.out 5 (Vi (smp l x 2).2)); have HB3 := Zab ((HBu.out.setCell (p := ⟨I, 4, none⟩) HM.out (.bool (smp l x 2).1)).setCell (p := ⟨I, 5, none⟩) HM.out (Vi (smp l x 2).2)); have hc3 : ((u2.setCell (Ad I 4) (.bool (smp l x 2).1)).setCell (Ad I 5) (Vi (smp l x 2).2)).cell? (Ad B 62) = some (.slice a l.length cap) := Zdg HQ.out (Zdg HQ.out hcu); have HR3 := Zab (Zdo HP.out (Zdo HP.out HRu.out (j := 4) (v := .bool (smp l x 2).1)) (j := 5) (v := Vi (smp l x 2).2)); clear q0 q1 f0 f1 hcu HIu HYu HBu HRu; generalize (u2.setCell (Ad I 4) (.bool (smp l x 2).1)).setCell (Ad I 5) (Vi (smp l x 2).2) = w3 at *; rw [rounds_succ]; have q0 := (HI3.out.cell (j := 0) rfl).1; have r0 := (HY3.out.cell (j := 0) rfl).1; have f0 := (HY3.out.cell (j := 0) rfl).2; have q1 := (HI3.out.cell (j := 1) rfl).1; have r1 := (HY3.out.cell (j := 1) rfl).1; have f1 := (HY3.out.cell (j := 1) rfl).2; have q2 := (HI3.out.cell (j := 2) rfl).1; have r2 := (HY3.out.cell (j := 2) rfl).1; have f2 := (HY3.out.cell (j := 2) rfl).2; have q3 := (HI3.out.cell (j := 3) rfl).1; have r3 := (HY3.out.cell (j := 3) rfl).1; have f3 := (HY3.out.cell (j := 3) rfl).2; have q4 := (HI3.out.cell (j := 4) rfl).1; have r4 := (HY3.out.cell (j := 4) rfl).1; have f4 := (HY3.out.cell (j := 4) rfl).2; have q5 := (HI3.out.cell (j := 5) rfl).1; have r5 := (HY3.out.cell (j := 5) rfl).1; have f5 := (HY3.out.cell (j := 5) rfl).2; go_wp2_with fail; exact bodyPost_ret (v := .agg (smL l x).toArray) (by simp [results, Tryz.results158, go_sem, smL, r0, r1, r2, r3, r4, r5]) rfl ⟨rfl, Zae [.bool (smp l x 0).1, Vi (smp l x 0).2, .bool (smp l x 1).1, Vi (smp l x 1).2, .bool (smp l x 2).1, Vi (smp l x 2).2] 0 w3 HB3.out (b := w.heap.size) (Nat.le_refl _)⟩
def B2 (w : World) (B : Nat) (a b : Value) : Prop := w.cell? (Ad B 0) = some a ∧ w.cell? (Ad B 1) = some b
def B3 (w : World) (B : Nat) (a b c : Value) : Prop := w.cell? (Ad B 0) = some a ∧ w.cell? (Ad B 1) = some b ∧ w.cell? (Ad B 2) = some c
def B4 (w : World) (B : Nat) (a b c d : Value) : Prop := w.cell? (Ad B 0) = some a ∧ w.cell? (Ad B 1) = some b ∧ w.cell? (Ad B 2) = some c ∧ w.cell? (Ad B 3) = some d
theorem B2.later {w w' : World} {B : Nat} {a b : Value} (h : B2 w B a b) (hb : Below w.heap.size w w') : B2 w' B a b := ⟨cell_later hb h.1, cell_later hb h.2⟩
theorem B3.later {w w' : World} {B : Nat} {a b c : Value} (h : B3 w B a b c) (hb : Below w.heap.size w w') : B3 w' B a b c := ⟨cell_later hb h.1, cell_later hb h.2.1, cell_later hb h.2.2⟩
theorem B4.later {w w' : World} {B : Nat} {a b c d : Value} (h : B4 w B a b c d) (hb : Below w.heap.size w w') : B4 w' B a b c d := ⟨cell_later hb h.1, cell_later hb h.2.1, cell_later hb h.2.2.1, cell_later hb h.2.2.2⟩
theorem B2.new (w : World) (a b : Value) (t : TypeId) : B2 (w.alloc (.cells #[a, b] t)) w.heap.size a b := by refine ⟨?_, ?_⟩ <;> simp [go_sem]
theorem B3.new (w : World) (a b c : Value) (t : TypeId) : B3 (w.alloc (.cells #[a, b, c] t)) w.heap.size a b c := by refine ⟨?_, ?_, ?_⟩ <;> simp [go_sem]
theorem B4.new (w : World) (a b c d : Value) (t : TypeId) : B4 (w.alloc (.cells #[a, b, c, d] t)) w.heap.size a b c d := by refine ⟨?_, ?_, ?_, ?_⟩ <;> simp [go_sem]
theorem size_alloc (w : World) (o : Obj) : (w.alloc o).heap.size = w.heap.size + 1 := by simp [go_sem]
def RS (w0 w : World) (T R S C i b : Int) (o : Bool) : Prop :=
 B4 w w0.heap.size (Vi T) (Vi R) (Vi S) (Vi C) ∧ B3 w (w0.heap.size + 1) (Vi i) (Vi b) (.bool o) ∧ Below w0.heap.size w0 w
theorem RS.later {w0 w w' : World} {T R S C i b : Int} {o : Bool} (h : RS w0 w T R S C i b o) (hb : Below w.heap.size w w') : RS w0 w' T R S C i b o := ⟨h.1.later hb, h.2.1.later hb, Zac h.2.2 hb⟩
theorem RS.new (w : World) (T R S C i b : Int) (o : Bool) : RS w ((w.alloc (.cells #[Vi T, Vi R, Vi S, Vi C] 113)).alloc (.cells #[Vi i, Vi b, .bool o] 116)) T R S C i b o := by
 refine ⟨(B4.new w _ _ _ _ _).later (Zaa _ _), ?_, Zac (Zaa _ _) (Zaa _ _)⟩; rw [← size_alloc w (.cells #[Vi T, Vi R, Vi S, Vi C] 113)]; exact B3.new _ _ _ _ _
theorem isFrom_any (x lo hi : Int) (w : World) :
 Calls Tryz.prog 76 #[Vi x, Vi lo, Vi hi] w fun e w' => e = .returned (.bool (betw x lo hi)) ∧ Below w.heap.size w w' :=
 (Zba x lo hi w).mono fun e w' h => ⟨h.1, by rw [h.2]; exact Zaa _ _⟩
def svB (T C i b : Int) (o : Bool) : Bool := betw i (-T) T && betw b 0 C && (!o || i == 0) && (o || decide (b < C))
def svE (T R S C i b : Int) (o : Bool) : Int := if arE T R S C = 0 then (if svB T C i b o then 0 else 3) else arE T R S C
theorem Zja {T R S C i b : Int} {o : Bool} (h : svE T R S C i b o = 0) : arB T R S C = true ∧ svB T C i b o = true := by
 unfold svE at h
 split at h
 · split at h
   · exact ⟨Zez (by assumption), by assumption⟩
   · omega
 · exact absurd h (by assumption)
theorem svE_mk {T R S C i b : Int} {o : Bool} (h : arB T R S C = true) (h' : svB T C i b o = true) : svE T R S C i b o = 0 := by
 unfold svE arE; rw [if_pos h, if_pos rfl, if_pos h']
theorem Zbz {T C i b : Int} {o : Bool} (h : svB T C i b o = true) : (-T ≤ i ∧ i ≤ T) ∧ (0 ≤ b ∧ b ≤ C) ∧ (o = true → i = 0) ∧ (o = false → b < C) := by
 simp only [svB, Bool.and_eq_true, Bool.or_eq_true, Bool.not_eq_true', beq_iff_eq, decide_eq_true_eq] at h; obtain ⟨⟨⟨h1, h2⟩, h3⟩, h4⟩ := h; refine ⟨Zat h1, Zat h2, ?_, ?_⟩
 · rintro rfl; simpa using h3
 · rintro rfl; simpa using h4
theorem Zdu (T R S C i b : Int) (o : Bool) (w : World) :
 Calls Tryz.prog 159 #[.agg #[Vi T, Vi R, Vi S, Vi C], .agg #[Vi i, Vi b, .bool o]] w fun e w' => e = .returned (errV (svE T R S C i b o)) ∧ Below w.heap.size w w' := by
 have hr := Ziv T R S C; have HX := Zab (RS.new w T R S C i b o)
 by_cases e1 : arE T R S C = 0
 · rw [e1, Zas] at hr; have f1 := isFrom_any i (-T) T; have f2 := isFrom_any b 0 C
   have hE : svE T R S C i b o = if svB T C i b o then 0 else 3 := by unfold svE; rw [if_pos e1]
   obtain ⟨⟨t0, t1⟩, _, _, c0, c1⟩ := Zbu (Zez e1); have hb2 : betw b 0 C = true → b ≤ C := fun h => (Zat h).2
   unfold svB at hE
   clear e1; generalize betw i (-T) T = x1 at *; generalize betw b 0 C = x2 at *
   cases x1
   · have HE : Hid (svE T R S C i b o = 3) := hE; clear hE hb2
     go_enter Tryz.func159, Tryz.ntmps159
     go_wp2_with (first
      | (go_at_call 180; refine Sb (hr _) fun w1 hb1 => ?_; have HX := Zab (HX.out.later hb1); obtain ⟨⟨r0, r1, r2, r3⟩, ⟨s0, s1, s2⟩, _⟩ := HX.out; clear hb1)
      | ((first | go_at_call_of 76 (Vi i) | go_at_call_of 76 (Value.int .i64 i)); refine Sb (f1 _) fun w2 hb2 => ?_; have HX := Zab (HX.out.later hb2); obtain ⟨⟨r0, r1, r2, r3⟩, ⟨s0, s1, s2⟩, _⟩ := HX.out; clear hb2))
     go_ret; exact ⟨by rw [HE.out]; rfl, HX.out.2.2⟩
   · cases x2
     · have HE : Hid (svE T R S C i b o = 3) := hE; clear hE hb2
       go_enter Tryz.func159, Tryz.ntmps159
       go_wp2_with (first
        | (go_at_call 180; refine Sb (hr _) fun w1 hb1 => ?_; have HX := Zab (HX.out.later hb1); obtain ⟨⟨r0, r1, r2, r3⟩, ⟨s0, s1, s2⟩, _⟩ := HX.out; clear hb1)
        | ((first | go_at_call_of 76 (Vi i) | go_at_call_of 76 (Value.int .i64 i)); refine Sb (f1 _) fun w2 hb2 => ?_; have HX := Zab (HX.out.later hb2); obtain ⟨⟨r0, r1, r2, r3⟩, ⟨s0, s1, s2⟩, _⟩ := HX.out; clear hb2)
        | ((first | go_at_call_of 76 (Vi b) | go_at_call_of 76 (Value.int .i64 b)); refine Sb (f2 _) fun w3 hb3 => ?_; have HX := Zab (HX.out.later hb3); obtain ⟨⟨r0, r1, r2, r3⟩, ⟨s0, s1, s2⟩, _⟩ := HX.out; clear hb3))
       go_ret; exact ⟨by rw [HE.out]; rfl, HX.out.2.2⟩
     · have hbC := hb2 rfl; clear hb2
       cases o
       · by_cases hlt : b < C
         · have HE : Hid (svE T R S C i b false = 0) := by show svE T R S C i b false = 0; rw [hE]; simp [hlt]
           have hq : (b == C) = false := by simp; omega
           clear hE
           go_enter Tryz.func159, Tryz.ntmps159
           go_wp2_with (first
            | (go_at_call 180; refine Sb (hr _) fun w1 hb1 => ?_; have HX := Zab (HX.out.later hb1); obtain ⟨⟨r0, r1, r2, r3⟩, ⟨s0, s1, s2⟩, _⟩ := HX.out; clear hb1)
            | ((first | go_at_call_of 76 (Vi i) | go_at_call_of 76 (Value.int .i64 i)); refine Sb (f1 _) fun w2 hb2 => ?_; have HX := Zab (HX.out.later hb2); obtain ⟨⟨r0, r1, r2, r3⟩, ⟨s0, s1, s2⟩, _⟩ := HX.out; clear hb2)
            | ((first | go_at_call_of 76 (Vi b) | go_at_call_of 76 (Value.int .i64 b)); refine Sb (f2 _) fun w3 hb3 => ?_; have HX := Zab (HX.out.later hb3); obtain ⟨⟨r0, r1, r2, r3⟩, ⟨s0, s1, s2⟩, _⟩ := HX.out; clear hb3))
           go_ret; exact ⟨by rw [HE.out]; rfl, HX.out.2.2⟩
         · have HE : Hid (svE T R S C i b false = 3) := by show svE T R S C i b false = 3; rw [hE]; simp [hlt]
           have hq : (b == C) = true := by simp; omega
           clear hE
           go_enter Tryz.func159, Tryz.ntmps159
           go_wp2_with (first
            | (go_at_call 180; refine Sb (hr _) fun w1 hb1 => ?_; have HX := Zab (HX.out.later hb1); obtain ⟨⟨r0, r1, r2, r3⟩, ⟨s0, s1, s2⟩, _⟩ := HX.out; clear hb1)
            | ((first | go_at_call_of 76 (Vi i) | go_at_call_of 76 (Value.int .i64 i)); refine Sb (f1 _) fun w2 hb2 => ?_; have HX := Zab (HX.out.later hb2); obtain ⟨⟨r0, r1, r2, r3⟩, ⟨s0, s1, s2⟩, _⟩ := HX.out; clear hb2)
            | ((first | go_at_call_of 76 (Vi b) | go_at_call_of 76 (Value.int .i64 b)); refine Sb (f2 _) fun w3 hb3 => ?_; have HX := Zab (HX.out.later hb3); obtain ⟨⟨r0, r1, r2, r3⟩, ⟨s0, s1, s2⟩, _⟩ := HX.out; clear hb3))
           go_ret; exact ⟨by rw [HE.out]; rfl, HX.out.2.2⟩
       · by_cases hi : i = 0
         · have HE : Hid (svE T R S C i b true = 0) := by show svE T R S C i b true = 0; rw [hE]; simp [hi]
           have hq : (i != 0) = false := by simp [hi]
           clear hE hi
           go_enter Tryz.func159, Tryz.ntmps159
           go_wp2_with (first
            | (go_at_call 180; refine Sb (hr _) fun w1 hb1 => ?_; have HX := Zab (HX.out.later hb1); obtain ⟨⟨r0, r1, r2, r3⟩, ⟨s0, s1, s2⟩, _⟩ := HX.out; clear hb1)
            | ((first | go_at_call_of 76 (Vi i) | go_at_call_of 76 (Value.int .i64 i)); refine Sb (f1 _) fun w2 hb2 => ?_; have HX := Zab (HX.out.later hb2); obtain ⟨⟨r0, r1, r2, r3⟩, ⟨s0, s1, s2⟩, _⟩ := HX.out; clear hb2)
            | ((first | go_at_call_of 76 (Vi b) | go_at_call_of 76 (Value.int .i64 b)); refine Sb (f2 _) fun w3 hb3 => ?_; have HX := Zab (HX.out.later hb3); obtain ⟨⟨r0, r1, r2, r3⟩, ⟨s0, s1, s2⟩, _⟩ := HX.out; clear hb3))
           go_ret; exact ⟨by rw [HE.out]; rfl, HX.out.2.2⟩
         · have HE : Hid (svE T R S C i b true = 3) := by show svE T R S C i b true = 3; rw [hE]; simp [hi]
           have hq : (i != 0) = true := by simpa using hi
           clear hE hi
           go_enter Tryz.func159, Tryz.ntmps159
           go_wp2_with (first
            | (go_at_call 180; refine Sb (hr _) fun w1 hb1 => ?_; have HX := Zab (HX.out.later hb1); obtain ⟨⟨r0, r1, r2, r3⟩, ⟨s0, s1, s2⟩, _⟩ := HX.out; clear hb1)
            | ((first | go_at_call_of 76 (Vi i) | go_at_call_of 76 (Value.int .i64 i)); refine Sb (f1 _) fun w2 hb2 => ?_; have HX := Zab (HX.out.later hb2); obtain ⟨⟨r0, r1, r2, r3⟩, ⟨s0, s1, s2⟩, _⟩ := HX.out; clear hb2)
            | ((first | go_at_call_of 76 (Vi b) | go_at_call_of 76 (Value.int .i64 b)); refine Sb (f2 _) fun w3 hb3 => ?_; have HX := Zab (HX.out.later hb3); obtain ⟨⟨r0, r1, r2, r3⟩, ⟨s0, s1, s2⟩, _⟩ := HX.out; clear hb3))
           go_ret; exact ⟨by rw [HE.out]; rfl, HX.out.2.2⟩
 · have HE : Hid (svE T R S C i b o = 1) := by show svE T R S C i b o = 1; unfold svE; rw [if_neg e1, arE_ne e1]
   rw [arE_ne e1, Zbf (by decide)] at hr; clear e1
   go_enter Tryz.func159, Tryz.ntmps159
   go_wp2_with (first
    | (go_at_call 180; refine Sb (hr _) fun w1 hb1 => ?_; have HX := Zab (HX.out.later hb1); obtain ⟨⟨r0, r1, r2, r3⟩, ⟨s0, s1, s2⟩, _⟩ := HX.out; clear hb1))
   go_ret; exact ⟨by rw [HE.out]; rfl, HX.out.2.2⟩
theorem servoMay_any (T R S C i b : Int) (o : Bool) (w : World) :
 Calls Tryz.prog 45 #[.agg #[Vi T, Vi R, Vi S, Vi C], .agg #[Vi i, Vi b, .bool o]] w fun e w' => e = .returned (Vi (svE T R S C i b o)) ∧ Below w.heap.size w w' := by
 have hr := Zig T R S C; have HN := Zab (RS.new w T R S C i b o).2.2
 by_cases e1 : arE T R S C = 0
 · rw [e1] at hr; have f1 := Zaj i (-T) T; have f2 := Zaj b 0 C
   have hE : svE T R S C i b o = if svB T C i b o then 0 else 3 := by unfold svE; rw [if_pos e1]
   obtain ⟨⟨t0, t1⟩, _, _, c0, c1⟩ := Zbu (Zez e1); have hb2 : betw b 0 C = true → b ≤ C := fun h => (Zat h).2
   unfold svB at hE
   clear e1; generalize betw i (-T) T = x1 at *; generalize betw b 0 C = x2 at *
   cases x1
   · have HE : Hid (svE T R S C i b o = 3) := hE; clear hE hb2
     go_enter Tryz.func45, Tryz.ntmps45
     go_wp2_with (first
      | (go_at_call 89; refine Sb (hr _) fun w1 hb1 => ?_)
      | ((first | go_at_call_of 38 (Vi i) | go_at_call_of 38 (Value.int .i64 i)); refine Sm (f1 _) ?_)
      | (go_at_call 14; refine Sm (Zbt 3 _) ?_)
      | (go_at_call 13; refine Sm (Zcw _ _ _ _) ?_))
     go_ret; exact ⟨by rw [HE.out]; rfl, Zac (Zac HN.out hb1) (Zaa _ _)⟩
   · cases x2
     · have HE : Hid (svE T R S C i b o = 3) := hE; clear hE hb2
       go_enter Tryz.func45, Tryz.ntmps45
       go_wp2_with (first
        | (go_at_call 89; refine Sb (hr _) fun w1 hb1 => ?_)
        | ((first | go_at_call_of 38 (Vi i) | go_at_call_of 38 (Value.int .i64 i)); refine Sm (f1 _) ?_)
        | ((first | go_at_call_of 38 (Vi b) | go_at_call_of 38 (Value.int .i64 b)); refine Sm (f2 _) ?_)
        | (go_at_call 14; refine Sm (Zbt 3 _) ?_)
        | (go_at_call 13; refine Sm (Zcw _ _ _ _) ?_))
       go_ret; exact ⟨by rw [HE.out]; rfl, Zac (Zac HN.out hb1) (Zaa _ _)⟩
     · have hbC := hb2 rfl; clear hb2
       cases o
       · by_cases hlt : b < C
         · have HE : Hid (svE T R S C i b false = 0) := by show svE T R S C i b false = 0; rw [hE]; simp [hlt]
           clear hE
           go_enter Tryz.func45, Tryz.ntmps45
           go_wp2_with (first
            | (go_at_call 89; refine Sb (hr _) fun w1 hb1 => ?_)
            | ((first | go_at_call_of 38 (Vi i) | go_at_call_of 38 (Value.int .i64 i)); refine Sm (f1 _) ?_)
            | ((first | go_at_call_of 38 (Vi b) | go_at_call_of 38 (Value.int .i64 b)); refine Sm (f2 _) ?_)
            | (go_at_call 14; refine Sm (Zcc 3 _) ?_)
            | (go_at_call 13; refine Sm (Zcw _ _ _ _) ?_))
           go_ret; exact ⟨by rw [HE.out]; rfl, Zac (Zac HN.out hb1) (Zaa _ _)⟩
         · have HE : Hid (svE T R S C i b false = 3) := by show svE T R S C i b false = 3; rw [hE]; simp [hlt]
           have hd : decide (b < C) = false := by simpa using hlt
           have hle : C ≤ b := by omega
           clear hE hlt
           go_enter Tryz.func45, Tryz.ntmps45
           go_wp2_with (first
            | (go_at_call 89; refine Sb (hr _) fun w1 hb1 => ?_)
            | ((first | go_at_call_of 38 (Vi i) | go_at_call_of 38 (Value.int .i64 i)); refine Sm (f1 _) ?_)
            | ((first | go_at_call_of 38 (Vi b) | go_at_call_of 38 (Value.int .i64 b)); refine Sm (f2 _) ?_)
            | (go_at_call 14; refine Sm (Zbt 3 _) ?_)
            | (go_at_call 13; refine Sm (Zcw _ _ _ _) ?_))
           go_ret; exact ⟨by rw [HE.out]; rfl, Zac (Zac HN.out hb1) (Zaa _ _)⟩
       · by_cases hi : i = 0
         · have HE : Hid (svE T R S C i b true = 0) := by show svE T R S C i b true = 0; rw [hE]; simp [hi]
           have hq : (i == 0) = true := by simp [hi]
           clear hE hi
           go_enter Tryz.func45, Tryz.ntmps45
           go_wp2_with (first
            | (go_at_call 89; refine Sb (hr _) fun w1 hb1 => ?_)
            | ((first | go_at_call_of 38 (Vi i) | go_at_call_of 38 (Value.int .i64 i)); refine Sm (f1 _) ?_)
            | ((first | go_at_call_of 38 (Vi b) | go_at_call_of 38 (Value.int .i64 b)); refine Sm (f2 _) ?_)
            | (go_at_call 14; refine Sm (Zcc 3 _) ?_)
            | (go_at_call 13; refine Sm (Zcw _ _ _ _) ?_))
           go_ret; exact ⟨by rw [HE.out]; rfl, Zac (Zac HN.out hb1) (Zaa _ _)⟩
         · have HE : Hid (svE T R S C i b true = 3) := by show svE T R S C i b true = 3; rw [hE]; simp [hi]
           have hq : (i == 0) = false := by simpa using hi
           clear hE hi
           go_enter Tryz.func45, Tryz.ntmps45
           go_wp2_with (first
            | (go_at_call 89; refine Sb (hr _) fun w1 hb1 => ?_)
            | ((first | go_at_call_of 38 (Vi i) | go_at_call_of 38 (Value.int .i64 i)); refine Sm (f1 _) ?_)
            | ((first | go_at_call_of 38 (Vi b) | go_at_call_of 38 (Value.int .i64 b)); refine Sm (f2 _) ?_)
            | (go_at_call 14; refine Sm (Zbt 3 _) ?_)
            | (go_at_call 13; refine Sm (Zcw _ _ _ _) ?_))
           go_ret; exact ⟨by rw [HE.out]; rfl, Zac (Zac HN.out hb1) (Zaa _ _)⟩
 · have HE : Hid (svE T R S C i b o = 1) := by show svE T R S C i b o = 1; unfold svE; rw [if_neg e1, arE_ne e1]
   rw [arE_ne e1] at hr
   have f1 : ∀ lo hi w, Calls Tryz.prog 38 #[Vi i, Vi lo, Vi hi] w fun e w' => (e = .returned (.bool true) ∨ e = .returned (.bool false)) ∧ w' = w := by
    intro lo hi w; refine (Zaj i lo hi w).mono fun e w' h => ⟨?_, h.2⟩
    rw [h.1]; cases betw i lo hi <;> simp
   have f2 := Zaj b 0 C; have hwh : ∀ (x : Bool) w, Calls Tryz.prog 14 #[.bool x, Vi 3] w fun r w' => ∃ y, r = .returned (Vi y) ∧ w' = w := fun x w => (Zcu x 3 w).mono fun e w' h => ⟨_, h.1, h.2⟩; clear e1; generalize betw b 0 C = x2 at *
   cases x2 <;> cases o <;> rcases Bool.eq_false_or_eq_true (i == 0) with hq | hq <;> by_cases hlt : b < C
   all_goals
    go_enter Tryz.func45, Tryz.ntmps45
    go_wp2_with (first
     | (go_at_call 89; refine Sb (hr _) fun w1 hb1 => ?_)
     | ((first | go_at_call_of 38 (Vi i) | go_at_call_of 38 (Value.int .i64 i)); refine (f1 _ _ _).mono ?_; rintro e w' ⟨he, hq⟩; have hq := hq.symm; subst hq; rcases he with rfl | rfl)
     | ((first | go_at_call_of 38 (Vi b) | go_at_call_of 38 (Value.int .i64 b)); refine Sm (f2 _) ?_)
     | (go_at_call 14; refine (hwh _ _).mono ?_; rintro e w' ⟨y, rfl, hq⟩; have hq := hq.symm; subst hq)
     | (go_at_call 13; refine Sm (Zcw _ _ _ _) ?_))
    all_goals
     go_ret; exact ⟨by rw [HE.out]; rfl, Zac (Zac HN.out hb1) (Zaa _ _)⟩
end Go.Proofs.YtnfdfiholcelaaaGreatDoor
