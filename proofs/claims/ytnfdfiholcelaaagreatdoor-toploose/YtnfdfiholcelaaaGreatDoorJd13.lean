import Derived.Deep.AppendLies
import Derived.OwnWalk
import Derived.Shelf.SlSorted.Search
import Derived.Test.YtnfdfiholcelaaaGreatDoorJd00
import Derived.Test.YtnfdfiholcelaaaGreatDoorJd09
import Derived.Test.YtnfdfiholcelaaaGreatDoorJd12
set_option maxRecDepth 100000
set_option maxHeartbeats 20000000
namespace Go.Proofs.YtnfdfiholcelaaaGreatDoor
open Go.RowKit Plain
theorem infoH3 : (Tryz.prog.info? 128).map (·.size) = some 3 := by kernel_rfl
theorem putL_len : ∀ (vs cs : List Value) (o : Nat), (putL cs o vs).length = cs.length
 | [], _, _ => rfl
 | v :: r, cs, o => by rw [putL, putL_len r, List.length_set]
theorem hS_later {t : TypeId} {w u u' : World} {Y : Nat} (hb : Below u.heap.size u u') (h : Below w.heap.size w u ∧ ∃ cs : List Value, cs.length = 3 ∧ Blk t u Y cs) : Below w.heap.size w u' ∧ ∃ cs : List Value, cs.length = 3 ∧ Blk t u' Y cs :=
 ⟨Zac h.1 hb, h.2.elim fun cs k => ⟨cs, k.1, k.2.later hb⟩⟩
theorem hS_put {t : TypeId} {w u : World} {Y : Nat} (hY : w.heap.size ≤ Y) (vs : List Value) (o : Nat) (h : Below w.heap.size w u ∧ ∃ cs : List Value, cs.length = 3 ∧ Blk t u Y cs) : Below w.heap.size w (u.setCells Y o vs) ∧ ∃ cs : List Value, cs.length = 3 ∧ Blk t (u.setCells Y o vs) Y cs :=
 ⟨Zah vs o u h.1 hY, h.2.elim fun cs k => ⟨_, by rw [putL_len]; exact k.1, Blk.setCells vs o u cs k.2⟩⟩
theorem res_health (tmps : Array Value) (U : World) (Y : Nat) (cs : List Value) (h2 : tmps.getD 4 undef = .pointer (some (Ad Y 0))) (hR : U.rangeAt Y 0 cs) (hn : cs.length = 3) :
 (results Tryz.f109 tmps).run Tryz.prog U = .ok (.agg cs.toArray) U := by
 have h3 : tmps[4]?.getD undef = .pointer (some (Ad Y 0)) := by simpa using h2
 simp [results, Tryz.results109, h3, asAddr, run_loadVar_mid U Y 0 128 cs _ hR Tryz.underlying128 rfl (by rw [infoH3, hn])]
theorem health_ok {K : Nat} {wz w : World} {B : Nat} {S : FS} {C : CR} {a : Option Addr} {cap : Nat} {l : List Rd} {sv : Nat → List Sv} {G : Nat → Nat} (hf : FR K wz w B S C a cap l sv G) (i : Nat) (hi : i < 2) (hl : (sv i).length ≤ 9) :
 Calls Tryz.prog 109 #[.pointer (some (Ad B 0)), Vi i] w fun e w' => e = .returned (.agg #[Vi (Zbz (S.bk i).o 3), Vi (sndU (sv i) (sv i).length), Vi (C.a i 4)]) ∧ Below w.heap.size w w' := by
 have hlf := left_any (S.bk i).b (S.bk i).o (S.bk i).l; have hsv := (hf.blk.cell (Zhz S C _ hi)).1; have hsf := (hf.blk.cell (fr_surf S C _ hi)).1; rw [(hf.servo i hi).1, (hf.servo i hi).2.1] at hsv; have HG := Zab (hf.blk.sub (i * 7) 7); rw [fr_bank S C _ (show i < 3 by omega)] at HG; have hvl := hf.vls hi; rw [(hf.servo i hi).1] at hvl; have hsd := fun u (h : Below w.heap.size w u) => sound_any (sv i) (some (Ad (G i) 0)) (S.sc i) (by omega) u (hvl.later h); obtain ⟨lf, sd, HE⟩ : ∃ lf sd, Hid (Zbz (S.bk i).o 3 = lf ∧ sndU (sv i) (sv i).length = sd) := ⟨_, _, Zab ⟨rfl, rfl⟩⟩; simp only [HE.out.1] at hlf; simp only [HE.out.2] at hsd; rw [HE.out.1, HE.out.2]
 have i0 : (0 : Int) ≤ (i : Int) := by omega
 have i1 : (i : Int) < 2 := by omega
 have i2 : (i : Int) < 3 := by omega
 have HX1 : Hid (Below w.heap.size w (w.alloc (.cells #[Vi 0, Vi 0, Vi 0] 128)) ∧ ∃ cs : List Value, cs.length = 3 ∧ Blk 128 (w.alloc (.cells #[Vi 0, Vi 0, Vi 0] 128)) w.heap.size cs) := Zab ⟨Zaa _ _, [Vi 0, Vi 0, Vi 0], rfl, Blk.new w _ [Vi 0, Vi 0, Vi 0]⟩; have HY : Hid (w.heap.size ≤ w.heap.size) := Zab (Nat.le_refl _); clear hf hvl HE hi hl
 go_enter Tryz.func109, Tryz.ntmps109
 go_upto_region 1 with fail; generalize w.alloc (.cells #[Vi 0, Vi 0, Vi 0] 128) = v at *; have HX0 : Hid (Below w.heap.size w v.drew ∧ ∃ cs : List Value, cs.length = 3 ∧ Blk 128 v.drew w.heap.size cs) := Zab (And.intro HX1.out.1.drew (HX1.out.2.elim fun cs h => ⟨cs, h.1, h.2.later (Below.refl _ _).drew⟩)); clear HX1; refine wp_region_held_drew (S := fun u => (Below w.heap.size w u ∧ ∃ cs : List Value, cs.length = 3 ∧ Blk 128 u w.heap.size cs)) (by kernel_rfl) (HX0.out) (fun _ => ?_); have HS0 : Hid ((Below w.heap.size w v.drew ∧ ∃ cs : List Value, cs.length = 3 ∧ Blk 128 v.drew w.heap.size cs)) := Zab (HX0.out); refine Tq 0 HS0.out ?_; simp only [Act.put, Ly]; refine Tq 1 HS0.out ?_; simp only [Act.put, Ly]; refine Tq 2 HS0.out ?_; simp only [Act.put, Ly]; refine Tq 3 HS0.out ?_; simp only [Act.put, Ly]; refine Tq 4 HS0.out ?_; simp only [Act.put, Ly]; refine Tq 5 HS0.out ?_; simp only [Act.put, Ly]; refine Tk 6 rfl (yieldsIf_load_mid (by rfl) 33 (.tmp 10) rfl B (i * 7) rfl [Vi ((S.bk i).b 0), Vi ((S.bk i).b 1), Vi ((S.bk i).b 2), .bool ((S.bk i).o 0), .bool ((S.bk i).o 1), .bool ((S.bk i).o 2), Vi (S.bk i).l] _ (fun w hSw => Zae HG.out hSw.1) Tryz.underlying33 rfl infoB7) HS0.out ?_; simp only [Act.put, Ly]; refine Tq 8 HS0.out ?_; simp only [Act.put, Ly]; refine Tq 9 HS0.out ?_; simp only [Act.put, Ly]; refine Tq 10 HS0.out ?_; simp only [Act.put, Ly]; refine Tq 11 HS0.out ?_; simp only [Act.put, Ly]; refine Tq 12 HS0.out ?_; simp only [Act.put, Ly]; refine Tq 13 HS0.out ?_; simp only [Act.put, Ly]; refine Th 14 rfl (by intro w hSw; (try dsimp only at hSw); have y := cell_later hSw.1 hsv; clear hSw; go_simp; (try with_reducible rfl)) HS0.out ?_; simp only [Act.put, Ly]; refine Tq 16 HS0.out ?_; simp only [Act.put, Ly]; refine Tq 17 HS0.out ?_; simp only [Act.put, Ly]; refine Tq 18 HS0.out ?_; simp only [Act.put, Ly]; refine Tq 19 HS0.out ?_; simp only [Act.put, Ly]; refine Tq 20 HS0.out ?_; simp only [Act.put, Ly]; refine Tq 21 HS0.out ?_; simp only [Act.put, Ly]; refine Tq 22 HS0.out ?_; simp only [Act.put, Ly]; refine Th 23 rfl (by intro w hSw; (try dsimp only at hSw); have y := cell_later hSw.1 hsf; clear hSw; go_simp; (try with_reducible rfl)) HS0.out ?_; simp only [Act.put, Ly]; refine Ra 7 (fun K hK => ?_); go_simp; refine Sb (hlf _) fun u1 hb => ?_; have HS1 := Zab (hS_later hb HS0.out); clear hb; go_wp2_with fail; refine hK.out _ _ HS1.out (fun _ => ?_); clear hK K; (try simp only [Act.put])
 refine Ra 15 (fun K hK => ?_); go_simp; refine Sb (hsd _ HS1.out.1) fun u2 hb => ?_; have HS2 := Zab (hS_later hb HS1.out); clear hb; go_wp2_with fail; refine hK.out _ _ HS2.out (fun _ => ?_); clear hK K; (try simp only [Act.put]); clear HS1; refine Tq 24 HS2.out ?_; simp only [Act.put, Ly]; refine Ra 25 (fun K hK => ?_); rw [if_pos (by rfl)]; refine Zan 128 (.tmp 4) (.tmp 29) rfl w.heap.size (0) #[Vi lf, Vi sd, Vi (C.a i 4)] rfl rfl (by obtain ⟨cs, h1, h2⟩ := HS2.out.2; exact h2.there (by rw [h1]; exact Nat.le_refl _)) infoH3 (Zat _ rfl) rfl ?_; have HS3 := Zab (hS_put HY.out [Vi lf, Vi sd, Vi (C.a i 4)] 0 HS2.out); have HRR := Zab (World.rangeAt_setCells_same _ w.heap.size 0 [Vi lf, Vi sd, Vi (C.a i 4)] (by obtain ⟨cs, h1, h2⟩ := HS2.out.2; exact h2.there (by rw [h1]; exact Nat.le_refl _))); have HBB := Zab (Zah [Vi lf, Vi sd, Vi (C.a i 4)] 0 _ HS2.out.1 HY.out); refine hK.out _ _ HS3.out (fun _ => ?_); clear hK K; clear HS2; refine wpAnyH_done (by kernel_rfl) ?_ _; go_simp; refine Zbh (by assumption) ?_; go_wp2_with fail; exact bodyPost_ret (v := .agg #[Vi lf, Vi sd, Vi (C.a i 4)]) (res_health _ _ w.heap.size [Vi lf, Vi sd, Vi (C.a i 4)] rfl HRR.out rfl) rfl ⟨rfl, HBB.out⟩
theorem infoK5 : (Tryz.prog.info? 110).map (·.size) = some 5 := by kernel_rfl
theorem Zgk {t : TypeId} {w u u' : World} {Y : Nat} (hb : Below u.heap.size u u') (h : Below w.heap.size w u ∧ ∃ cs : List Value, cs.length = 5 ∧ Blk t u Y cs) : Below w.heap.size w u' ∧ ∃ cs : List Value, cs.length = 5 ∧ Blk t u' Y cs :=
 ⟨Zac h.1 hb, h.2.elim fun cs k => ⟨cs, k.1, k.2.later hb⟩⟩
theorem hA_put {t : TypeId} {w u : World} {Y : Nat} (hY : w.heap.size ≤ Y) (vs : List Value) (o : Nat) (h : Below w.heap.size w u ∧ ∃ cs : List Value, cs.length = 5 ∧ Blk t u Y cs) : Below w.heap.size w (u.setCells Y o vs) ∧ ∃ cs : List Value, cs.length = 5 ∧ Blk t (u.setCells Y o vs) Y cs :=
 ⟨Zah vs o u h.1 hY, h.2.elim fun cs k => ⟨_, by rw [putL_len]; exact k.1, Blk.setCells vs o u cs k.2⟩⟩
theorem field_most (x0 x1 x2 x3 x4 x5 : Value) (w : World) : (Instr.field 99 (.agg #[x0, x1, x2, x3, x4, x5]) 4).run Tryz.prog w = .ok x4 w := by kernel_rfl
theorem field_is (x0 x1 : Value) (w : World) : (Instr.field 131 (.agg #[x0, x1]) 1).run Tryz.prog w = .ok x1 w := by kernel_rfl
theorem res_ask (tmps : Array Value) (U : World) (Y : Nat) (cs : List Value) (h2 : tmps.getD 4 undef = .pointer (some (Ad Y 0))) (hR : U.rangeAt Y 0 cs) (hn : cs.length = 5) :
 (results Tryz.f166 tmps).run Tryz.prog U = .ok (.agg cs.toArray) U := by
 have h3 : tmps[4]?.getD undef = .pointer (some (Ad Y 0)) := by simpa using h2
 simp [results, Tryz.results166, h3, asAddr, run_loadVar_mid U Y 0 110 cs _ hR Tryz.underlying110 rfl (by rw [infoK5, hn])]
theorem ask_ok {K : Nat} {wz w : World} {B : Nat} {S : FS} {C : CR} {a : Option Addr} {cap : Nat} {l : List Rd} {sv : Nat → List Sv} {G : Nat → Nat} (hf : FR K wz w B S C a cap l sv G) (i : Nat) (hi : i < 2) (hl : (sv i).length ≤ 9) (hs : ∀ k, k < (sv i).length → -2147483647 ≤ (svAt (sv i) k).1 ∧ (svAt (sv i) k).1 ≤ 2147483647)
 (h4 : 2 ≤ C.a i 4 ∧ C.a i 4 ≤ 4) (h5 : 1 ≤ C.a i 5 ∧ C.a i 5 ≤ 1000) (h3 : 0 ≤ C.a i 3 ∧ C.a i 3 ≤ 1000) (h7 : 0 ≤ C.a i 7 ∧ C.a i 7 ≤ 1000) (h6 : 1 ≤ C.a i 6 ∧ C.a i 6 ≤ 1000) :
 Calls Tryz.prog 166 #[.pointer (some (Ad B 0)), Vi i] w fun e w' => e = .returned (.agg #[Vi (Zar (smp l (32 + (i : Int)) 3).2 (-100) 100), Vi (S.bk i).l, Vi (S.bk 2).l, Vi S.n, Vi (Zar (smU (sv i) (sv i).length) (-((C.a i 4 - 1) * C.a i 5)) ((C.a i 4 - 1) * C.a i 5))]) ∧ Below w.heap.size w w' := by
 have hgr := Zco (C.a i 0) (C.a i 1) (C.a i 2) (C.a i 3) (C.a i 4) (C.a i 5) (C.a i 6) (C.a i 7) (C.a i 8) (C.a i 9) (C.a i 10) (C.a i 11) (C.a i 14) (C.p i) (C.q i) (C.al i).length (C.zl i).length (C.cn i) (C.cm i) h4 h5 h3 h7 h6; have hmo : 1 ≤ ((C.a i 4 - 1) * C.a i 5) ∧ ((C.a i 4 - 1) * C.a i 5) ≤ 3000 := ⟨by have := Int.mul_le_mul (show 1 ≤ C.a i 4 - 1 by omega) h5.1 (by omega) (by omega); omega, by have := Int.mul_le_mul (show C.a i 4 - 1 ≤ 3 by omega) h5.2 (by omega) (by omega); omega⟩; have hsv := (hf.blk.cell (Zhz S C _ hi)).1; have hla := (hf.blk.cell (fr_last S C _ (show i < 3 by omega))).1; have hsp : w.cell? (Ad B 20) = some (Vi (S.bk 2).l) := (hf.blk.cell (fr_last S C _ (show 2 < 3 by omega))).1; have hlw := (hf.blk.cell (fr_law S C _)).1; rw [(hf.servo i hi).1, (hf.servo i hi).2.1] at hsv; have hvl := hf.vls hi; rw [(hf.servo i hi).1] at hvl; have hsm := fun u (h : Below w.heap.size w u) => shareSum_any (sv i) (some (Ad (G i) 0)) (S.sc i) hl hs u (hvl.later h); have hsy := fun u (h : Below w.heap.size w u) => Zgd B a cap l (32 + (i : Int)) 3 hf.many u (cell_later h hf.said) (hf.rds.later h); generalize ((C.a i 4 - 1) * C.a i 5) = mo at *; have hfm := field_most; have hfi := field_is; have hc1 := Zav (smp l (32 + (i : Int)) 3).2 (-100) 100; have hc2 := Zav (smU (sv i) (sv i).length) (-mo) mo; obtain ⟨kk, pv, HE⟩ : ∃ kk pv, Hid ((Zar (smp l (32 + (i : Int)) 3).2 (-100) 100) = kk ∧ Zar (smU (sv i) (sv i).length) (-mo) mo = pv) := ⟨_, _, Zab ⟨rfl, rfl⟩⟩; simp only [HE.out.1] at hc1; simp only [HE.out.2] at hc2; rw [HE.out.1, HE.out.2]; generalize smU (sv i) (sv i).length = sm at *; generalize (smp l (32 + (i : Int)) 3).2 = sz at *; generalize (smp l (32 + (i : Int)) 3).1 = st at *; have HAX := Zab ((hf.later (Zaa w (.cells #[Vi 0, Vi 0, Vi 0, Vi 0, Vi 0] 110))).blk.sub (30 + i * 15) 15); rw [fr_axis S C _ hi] at HAX
 have i0 : (0 : Int) ≤ (i : Int) := by omega
 have i1 : (i : Int) < 2 := by omega
 have i2 : (i : Int) < 3 := by omega
 have m0 := hmo.1; have m1 := hmo.2; have wA1 : IntKind.i64.wrap (32 + (i : Int)) = 32 + (i : Int) := Zdh (by omega) (by omega); have wB1 : IntKind.i64.wrap (-mo) = -mo := Zdh (by omega) (by omega); have HX1 : Hid (Below w.heap.size w (w.alloc (.cells #[Vi 0, Vi 0, Vi 0, Vi 0, Vi 0] 110)) ∧ ∃ cs : List Value, cs.length = 5 ∧ Blk 110 (w.alloc (.cells #[Vi 0, Vi 0, Vi 0, Vi 0, Vi 0] 110)) w.heap.size cs) := Zab ⟨Zaa _ _, [Vi 0, Vi 0, Vi 0, Vi 0, Vi 0], rfl, Blk.new w _ [Vi 0, Vi 0, Vi 0, Vi 0, Vi 0]⟩; have HY : Hid (w.heap.size ≤ w.heap.size) := Zab (Nat.le_refl _); clear hf hvl HE hi hl hs h4 h5 h3 h7 h6 hmo
 go_enter Tryz.func166, Tryz.ntmps166
 go_upto_region 1 with fail; generalize w.alloc (.cells #[Vi 0, Vi 0, Vi 0, Vi 0, Vi 0] 110) = v0 at *
 go_upto_region 2 with (first
  | (refine Zft _ rfl ?_; refine wpList_load_mid rfl 26 (.tmp 11) rfl B (30 + i * 15) rfl (axL C i) _ HAX.out Tryz.underlying26 rfl Zbg ?_)
  | (go_at_call 170; refine Sb (hgr _) fun v hb => ?_; have HX2 := Zab (Zgk hb HX1.out); clear hb HX1))
 clear HAX hgr; have HX0 : Hid (Below w.heap.size w v.drew ∧ ∃ cs : List Value, cs.length = 5 ∧ Blk 110 v.drew w.heap.size cs) := Zab (Zgk (Below.refl _ _).drew HX2.out); clear HX2; refine wp_region_held_drew (S := fun u => (Below w.heap.size w u ∧ ∃ cs : List Value, cs.length = 5 ∧ Blk 110 u w.heap.size cs)) (by kernel_rfl) (HX0.out) (fun _ => ?_); have HS0 : Hid ((Below w.heap.size w v.drew ∧ ∃ cs : List Value, cs.length = 5 ∧ Blk 110 v.drew w.heap.size cs)) := Zab (HX0.out); refine Tq 0 HS0.out ?_; simp only [Act.put, Ly]; refine Tq 1 HS0.out ?_; simp only [Act.put, Ly]; refine Tq 2 HS0.out ?_; simp only [Act.put, Ly]; refine Tq 6 HS0.out ?_; simp only [Act.put, Ly]; refine Tq 7 HS0.out ?_; simp only [Act.put, Ly]; refine Tq 8 HS0.out ?_; simp only [Act.put, Ly]; refine Tq 9 HS0.out ?_; simp only [Act.put, Ly]; refine Tq 10 HS0.out ?_; simp only [Act.put, Ly]; refine Tq 11 HS0.out ?_; simp only [Act.put, Ly]; refine Tq 12 HS0.out ?_; simp only [Act.put, Ly]; refine Th 13 rfl (by intro w hSw; (try dsimp only at hSw); have y := cell_later hSw.1 hla; clear hSw; go_simp; (try with_reducible rfl)) HS0.out ?_; simp only [Act.put, Ly]; refine Tq 14 HS0.out ?_; simp only [Act.put, Ly]; refine Tq 15 HS0.out ?_; simp only [Act.put, Ly]; refine Tq 16 HS0.out ?_; simp only [Act.put, Ly]; refine Tq 17 HS0.out ?_; simp only [Act.put, Ly]; refine Tq 18 HS0.out ?_; simp only [Act.put, Ly]; refine Tq 19 HS0.out ?_; simp only [Act.put, Ly]; refine Th 20 rfl (by intro w hSw; (try dsimp only at hSw); have y := cell_later hSw.1 hsp; clear hSw; go_simp; (try with_reducible rfl)) HS0.out ?_; simp only [Act.put, Ly]; refine Tq 21 HS0.out ?_; simp only [Act.put, Ly]; refine Tq 22 HS0.out ?_; simp only [Act.put, Ly]; refine Tq 23 HS0.out ?_; simp only [Act.put, Ly]; refine Tq 24 HS0.out ?_; simp only [Act.put, Ly]; refine Th 25 rfl (by intro w hSw; (try dsimp only at hSw); have y := cell_later hSw.1 hlw; clear hSw; go_simp; (try with_reducible rfl)) HS0.out ?_; simp only [Act.put, Ly]; refine Tq 26 HS0.out ?_; simp only [Act.put, Ly]; refine Tq 27 HS0.out ?_; simp only [Act.put, Ly]; refine Tq 28 HS0.out ?_; simp only [Act.put, Ly]; refine Tq 29 HS0.out ?_; simp only [Act.put, Ly]; refine Tq 30 HS0.out ?_; simp only [Act.put, Ly]; refine Tq 31 HS0.out ?_; simp only [Act.put, Ly]; refine Th 32 rfl (by intro w hSw; (try dsimp only at hSw); have y := cell_later hSw.1 hsv; clear hSw; go_simp; (try with_reducible rfl)) HS0.out ?_; simp only [Act.put, Ly]
 refine Tq 34 HS0.out ?_; simp only [Act.put, Ly]; refine Tq 35 HS0.out ?_; simp only [Act.put, Ly]; refine Tq 36 HS0.out ?_; simp only [Act.put, Ly]; refine Ra 3 (fun K hK => ?_); go_simp; refine Sb (hsy _ HS0.out.1) fun u1 hb => ?_; have HS1 := Zab (Zgk hb HS0.out); clear hb; go_wp2_with fail; refine hK.out _ _ HS1.out (fun _ => ?_); clear hK K; (try simp only [Act.put]); refine Tq 4 HS1.out ?_; simp only [Act.put, Ly]; refine Ra 5 (fun K hK => ?_); go_simp; refine Sb (hc1 _) fun u2 hq => ?_
 have hb : Below u1.heap.size u1 u2 := by rw [hq]; exact Below.refl _ _
 clear hq; have HS2 := Zab (Zgk hb HS1.out); clear hb; go_wp2_with fail; refine hK.out _ _ HS2.out (fun _ => ?_); clear hK K; (try simp only [Act.put]); clear HS1; refine Ra 33 (fun K hK => ?_); go_simp; refine Sb (hsm _ HS2.out.1) fun u3 hb => ?_; have HS3 := Zab (Zgk hb HS2.out); clear hb; go_wp2_with fail; refine hK.out _ _ HS3.out (fun _ => ?_); clear hK K; (try simp only [Act.put]); clear HS2; refine Ra 37 (fun K hK => ?_); go_simp; refine Sb (hc2 _) fun u4 hq => ?_
 have hb : Below u3.heap.size u3 u4 := by rw [hq]; exact Below.refl _ _
 clear hq; have HS4 := Zab (Zgk hb HS3.out); clear hb; go_wp2_with fail; refine hK.out _ _ HS4.out (fun _ => ?_); clear hK K; (try simp only [Act.put]); clear HS3; refine Tq 38 HS4.out ?_; simp only [Act.put, Ly]; refine Ra 39 (fun K hK => ?_); rw [if_pos (by rfl)]; refine Zan 110 (.tmp 4) (.tmp 53) rfl w.heap.size (0) #[Vi kk, Vi (S.bk i).l, Vi (S.bk 2).l, Vi S.n, Vi pv] rfl rfl (by obtain ⟨cs, h1, h2⟩ := HS4.out.2; exact h2.there (by rw [h1]; exact Nat.le_refl _)) infoK5 (Zat _ rfl) rfl ?_; have HS5 := Zab (hA_put HY.out [Vi kk, Vi (S.bk i).l, Vi (S.bk 2).l, Vi S.n, Vi pv] 0 HS4.out); have HRR := Zab (World.rangeAt_setCells_same _ w.heap.size 0 [Vi kk, Vi (S.bk i).l, Vi (S.bk 2).l, Vi S.n, Vi pv] (by obtain ⟨cs, h1, h2⟩ := HS4.out.2; exact h2.there (by rw [h1]; exact Nat.le_refl _))); have HBB := Zab (Zah [Vi kk, Vi (S.bk i).l, Vi (S.bk 2).l, Vi S.n, Vi pv] 0 _ HS4.out.1 HY.out); refine hK.out _ _ HS5.out (fun _ => ?_); clear hK K; clear HS4; refine wpAnyH_done (by kernel_rfl) ?_ _; go_simp; refine Zbh (by assumption) ?_; go_wp2_with fail; exact bodyPost_ret (v := .agg #[Vi kk, Vi (S.bk i).l, Vi (S.bk 2).l, Vi S.n, Vi pv]) (res_ask _ _ w.heap.size [Vi kk, Vi (S.bk i).l, Vi (S.bk 2).l, Vi S.n, Vi pv] rfl HRR.out rfl) rfl ⟨rfl, HBB.out⟩
abbrev He := Int × Int × Int
def heAt (l : List He) (k : Nat) : He := l.getD k (0, 0, 0)
def HLs (w : World) (a : Option Addr) (l : List He) : Prop := l = [] ∨ ∃ b off, a = some (Ad b off) ∧ ∀ k, k < l.length → w.cell? (Ad b (off + k * 3)) = some (Vi (heAt l k).1) ∧ w.cell? (Ad b (off + k * 3 + 1)) = some (Vi (heAt l k).2.1) ∧ w.cell? (Ad b (off + k * 3 + 2)) = some (Vi (heAt l k).2.2)
theorem HLs.later {w w' : World} {a : Option Addr} {l : List He} (h : HLs w a l) (hb : Below w.heap.size w w') : HLs w' a l := by
 rcases h with h | ⟨b, off, h, hc⟩
 · exact .inl h
 · exact .inr ⟨b, off, h, fun k hk => ⟨cell_later hb (hc k hk).1, cell_later hb (hc k hk).2.1, cell_later hb (hc k hk).2.2⟩⟩
theorem HLs.at {w : World} {a : Option Addr} {l : List He} (h : HLs w a l) {k : Nat} (hk : k < l.length) : ∃ b off, a = some (Ad b off) ∧ w.cell? (Ad b (off + k * 3)) = some (Vi (heAt l k).1) ∧ w.cell? (Ad b (off + k * 3 + 1)) = some (Vi (heAt l k).2.1) ∧ w.cell? (Ad b (off + k * 3 + 2)) = some (Vi (heAt l k).2.2) := by
 rcases h with h | ⟨b, off, h, hc⟩
 · subst h; simp at hk
 · exact ⟨b, off, h, hc k hk⟩
def weU (l : List He) : Nat → Int
 | 0 => 0
 | k + 1 => Zao [weU l k, heE (heAt l k).1 (heAt l k).2.1 (heAt l k).2.2]
def wlU (l : List He) : Nat → Int
 | 0 => 0
 | k + 1 => mxL (wlU l k) (lawI (heAt l k).1 (heAt l k).2.1 (heAt l k).2.2)
theorem weU_step (l : List He) (k : Nat) : weU l (k + 1) = if weU l k = 0 then heE (heAt l k).1 (heAt l k).2.1 (heAt l k).2.2 else weU l k := by
 simp only [weU, Zao]
 split
 · split
   · rename_i h; rw [h]
   · rfl
 · rfl
theorem weU_stay {l : List He} {k : Nat} (h : weU l k ≠ 0) : ∀ m, k ≤ m → weU l m = weU l k := by
 intro m hm
 induction m with
 | zero =>
  have : k = 0 := by omega
  subst this; rfl
 | succ m ih =>
  by_cases e : k = m + 1
  · subst e; rfl
  · have i := ih (by omega); rw [weU_step, i, if_neg h]
def waI (l : List He) : Int := if weU l l.length = 0 then wlU l l.length else 0
theorem wanted_any (l : List He) (a : Option Addr) (cap : Nat) (hl : l.length ≤ 9223372036854775807) (w : World) (hv : HLs w a l) :
 Calls Tryz.prog 110 #[.slice a l.length cap] w fun e w' => e = .returned (.tuple #[Vi (waI l), errV (weU l l.length)]) ∧ Below w.heap.size w w' := by
 have HV := Zab hv; clear hv
 go_enter Tryz.func110, Tryz.ntmps110
 go_wp2
 go_loopw [4, 10] (fun s i wr => ∃ k : Nat, k ≤ l.length ∧ i = Vi k ∧ s = Vi (wlU l k) ∧ Hid (weU l k = 0) ∧ Below w.heap.size w wr) (fun _ i _ => l.length - (intOf i).toNat)
 case atStart => exact ⟨0, Nat.zero_le _, rfl, rfl, rfl, Below.refl _ _⟩
 case round =>
  obtain ⟨k, hk, rfl, rfl, hE, hb⟩ := hrel
  by_cases hlt : k < l.length
  · obtain ⟨bl, ol, rfl, d0, d1, d2⟩ := (HV.out.later hb).at hlt; have HS := Zab (weU_step l k); have HL := Zab (show wlU l (k + 1) = mxL (wlU l k) (lawI (heAt l k).1 (heAt l k).2.1 (heAt l k).2.2) from rfl)
    have j0 : (0 : Int) ≤ (k : Int) := by omega
    have j1 : (k : Int) < (l.length : Int) := by omega
    have HB := Zab hb; clear hb
    by_cases hz : heE (heAt l k).1 (heAt l k).2.1 (heAt l k).2.2 = 0
    · have hc := lawCheck_any (heAt l k).1 (heAt l k).2.1 (heAt l k).2.2; have hq := asked_any (heAt l k).1 (heAt l k).2.1 (heAt l k).2.2 (heE_zero hz); have hm := worse_any (wlU l k) (lawI (heAt l k).1 (heAt l k).2.1 (heAt l k).2.2); rw [hz, Zaq] at hc; have HZ := Zab (show weU l (k + 1) = 0 by rw [HS.out, if_pos hE.out, hz]); clear hz HS; generalize mxL (wlU l k) (lawI (heAt l k).1 (heAt l k).2.1 (heAt l k).2.2) = m at *; generalize lawI (heAt l k).1 (heAt l k).2.1 (heAt l k).2.2 = q at *; generalize wlU l k = s at *; generalize (heAt l k).1 = x0 at *; generalize (heAt l k).2.1 = x1 at *; generalize (heAt l k).2.2 = x2 at *
      go_wp2_with (first
       | (go_at_call 162; refine Sb (hc _) fun w1 hb1 => ?_; have c0 := cell_later hb1 (a := ⟨wr.heap.size, 0, none⟩) (v := Vi x0) (by simp [go_sem]); have c1 := cell_later hb1 (a := ⟨wr.heap.size, 1, none⟩) (v := Vi x1) (by simp [go_sem]); have c2 := cell_later hb1 (a := ⟨wr.heap.size, 2, none⟩) (v := Vi x2) (by simp [go_sem]))
       | (go_at_call 164; refine Sb (hq _) fun w2 hb2 => ?_)
       | (go_at_call 163; refine Sb (hm _) fun w' hw => ?_; have hw := hw.symm; subst hw))
      go_roundw
      case rel => exact ⟨k + 1, by omega, by go_num, by rw [HL.out], HZ, Zac HB.out (Zac (Zaa _ _) (Zac hb1 hb2))⟩
      case measure => simp [intOf]; omega
    · have hc := lawCheck_any (heAt l k).1 (heAt l k).2.1 (heAt l k).2.2; rw [Zbe hz] at hc
      have hs : weU l (k + 1) = heE (heAt l k).1 (heAt l k).2.1 (heAt l k).2.2 := by rw [HS.out, if_pos hE.out]
      have hf : weU l l.length = heE (heAt l k).1 (heAt l k).2.1 (heAt l k).2.2 := by rw [weU_stay (k := k + 1) (by rw [hs]; exact hz) _ (by omega), hs]
      have HZ := Zab (show waI l = 0 ∧ errV (weU l l.length) = .iface 44 (Vi (heE (heAt l k).1 (heAt l k).2.1 (heAt l k).2.2)) by
       refine ⟨?_, ?_⟩
       · unfold waI; rw [if_neg (by rw [hf]; exact hz)]
       · rw [hf, Zbe hz])
      clear hz HS hs hf; generalize heE (heAt l k).1 (heAt l k).2.1 (heAt l k).2.2 = q at *; generalize wlU l k = s at *; generalize (heAt l k).1 = x0 at *; generalize (heAt l k).2.1 = x1 at *; generalize (heAt l k).2.2 = x2 at *
      go_wp2_with (first
       | (go_at_call 162; refine Sb (hc _) fun w1 hb1 => ?_))
      go_ret2; exact ⟨by rw [HZ.out.1, HZ.out.2]; rfl, Zac HB.out (Zac (Zaa _ _) hb1)⟩
  · have e : k = l.length := by omega
    subst e
    have HZ := Zab (show waI l = wlU l l.length ∧ errV (weU l l.length) = .nilIface by
     unfold waI; rw [if_pos hE.out, hE.out]; exact ⟨rfl, rfl⟩)
    generalize wlU l l.length = s at *; go_wp2; go_ret2; exact ⟨by rw [HZ.out.1, HZ.out.2]; rfl, hb⟩
theorem infoTaker : (Tryz.prog.info? 345).map (fun i => (i.zero, i.size, i.bytes)) = some (some .nilIface, 1, 16) := by kernel_rfl
theorem Zby {w w' : World} {B : Nat} {e : TypeId} {size : Nat} {v : Value} {n : Nat} {xs : List Value} (h : w.ownsRow B e size v n xs) (hb : Below w.heap.size w w') : w'.ownsRow B e size v n xs := by
 refine ⟨h.1, ?_⟩
 rcases h.2 with h | ⟨g, cap, cur, h1, h2, h3, h4⟩
 · exact .inl h
 · refine .inr ⟨g, cap, cur, h1, h2, ?_, h4⟩; rw [hb.block g ?_]
   · exact h3
   · rcases Nat.lt_or_ge g w.heap.size with h | h
     · exact h
     · rw [Array.getElem?_eq_none h] at h3; cases h3
theorem new_cell1 (w1 : World) (s1 : Obj) (X : Value) (t : TypeId) : ∀ j u, [X][j]? = some u → ((w1.alloc s1).alloc (.cells #[X] t)).cell? ((⟨w1.heap.size + 1, 0, none⟩ : Addr).add j) = some u := by
 intro j u hu
 cases j with
 | zero => simp at hu; subst hu; simp [go_sem, Addr.add]
 | succ j => simp at hu
def tvU (T R : Int) (l : List Sv) : Nat → List Value
 | 0 => []
 | k + 1 => tvU T R l k ++ [tv T R (svAt l k)]
theorem tvU_len (T R : Int) (l : List Sv) : ∀ k, (tvU T R l k).length = k
 | 0 => rfl
 | k + 1 => by simp [tvU, tvU_len T R l k]
theorem tvU_get (T R : Int) (l : List Sv) : ∀ n k, k < n → (tvU T R l n)[k]? = some (tv T R (svAt l k))
 | 0, k, h => by omega
 | n + 1, k, h => by
  rw [tvU]
  by_cases e : k = n
  · subst e; rw [List.getElem?_append_right (by rw [tvU_len]; omega), tvU_len]; simp
  · rw [List.getElem?_append_left (by rw [tvU_len]; omega)]; exact tvU_get T R l n k (by omega)
theorem wls_of_owns {w : World} {B : Nat} {a : Option Addr} {cap : Nat} {T R : Int} {l : List Sv} (h : w.ownsRow B 345 1 (.slice a l.length cap) l.length (tvU T R l l.length)) : WLs w a T R l := by
 by_cases h0 : l.length = 0
 · exact .inl (List.length_eq_zero_iff.mp h0)
 · right
   obtain ⟨g, c, hv, hb, hg⟩ := h.form (by omega); simp only [Value.slice.injEq] at hv; obtain ⟨rfl, _, rfl⟩ := hv; refine ⟨g, 0, rfl, fun k hk => ?_⟩; rw [Nat.zero_add, h.cellAt k (by omega)]; exact tvU_get T R l _ k hk
theorem takers_any (T R S C : Int) (l : List Sv) (a : Option Addr) (ca n0 : Nat) (hn : n0 ≤ l.length) (hr : arB T R S C = true) (hbef : ∀ j, j < n0 → svB T C (svAt l j).1 (svAt l j).2.1 (svAt l j).2.2 = true) (hx : n0 < l.length → svE T R S C (svAt l n0).1 (svAt l n0).2.1 (svAt l n0).2.2 ≠ 0) (hl : l.length ≤ 9) (w : World) (hv : VLs w a l) :
 Calls Tryz.prog 220 #[.agg #[Vi T, Vi R, Vi S, Vi C], .slice a l.length ca] w fun e w' => ((n0 = l.length ∧ ∃ x cap, e = .returned (.tuple #[.slice x l.length cap, .nilIface]) ∧ WLs w' x T R l) ∨ (n0 < l.length ∧ e = .returned (.tuple #[.slice none 0 0, .iface 44 (Vi (svE T R S C (svAt l n0).1 (svAt l n0).2.1 (svAt l n0).2.2))]))) ∧ Below w.heap.size w w' := by
 obtain ⟨i0, hi, hz0, hz1, hz2⟩ := info_parts infoTaker; have HR := Zab (RB.new w T R S C); have HA := Zab hr; have HV := Zab (hv.later (Zaa w (.cells #[Vi T, Vi R, Vi S, Vi C] 113))); have HBF := Zab hbef; have HXN := Zab hx; have hmt := fun (lo hi : Value) (w : World) => Zhf lo hi w; clear hv hbef hx hr
 go_enter Tryz.func220, Tryz.ntmps220
 go_wp2; generalize w.alloc (.cells #[Vi T, Vi R, Vi S, Vi C] 113) = w2 at *
 go_loopw [6, 13] (fun v ix wr => ∃ (k : Nat) (ao : Option Addr) (cv : Nat), k ≤ n0 ∧ ix = Vi k ∧ v = .slice ao k cv ∧ wr.ownsRow w2.heap.size 345 1 v k (tvU T R l k) ∧ Below w2.heap.size w2 wr) (fun _ ix _ => l.length - (intOf ix).toNat)
 case atStart => exact ⟨0, none, 0, by omega, rfl, rfl, World.ownsRow_nil _ _ _ _, Below.refl _ _⟩
 case round =>
  obtain ⟨k, ao, cv, hk, rfl, rfl, hown, hnx⟩ := hrel; have hsize := hnx.size
  by_cases hlt : k < l.length
  · obtain ⟨bl, ol, rfl, d0, d1, d2⟩ := (HV.out.later hnx).at hlt; obtain ⟨q0, q1, q2, q3⟩ := (B4.later HR.out.1 hnx).later (Zaa wr (.cells #[Vi (svAt l k).1, Vi (svAt l k).2.1, .bool (svAt l k).2.2] 116))
    have j0 : (0 : Int) ≤ (k : Int) := by omega
    have j1 : (k : Int) < (l.length : Int) := by omega
    have HN := Zab hnx; clear hnx
    by_cases hkn : k < n0
    · have hsv := HBF.out k hkn; have hre := reach_ok T R S C (svAt l k).1 (svAt l k).2.1 (svAt l k).2.2 (svE_mk HA.out hsv); have HS := Zab (show tvU T R l (k + 1) = tvU T R l k ++ [tv T R (svAt l k)] from rfl); have HTV := Zab (show tv T R (svAt l k) = if (svAt l k).2.2 then .iface 342 (.agg #[]) else .iface 343 (.agg #[Vi (loR T R (svAt l k).1 (svAt l k).2.2), Vi (hiR T R (svAt l k).1 (svAt l k).2.2)]) from rfl); clear hsv; generalize tvU T R l k = q at *; generalize tv T R (svAt l k) = X at *; generalize loR T R (svAt l k).1 (svAt l k).2.2 = lo at *; generalize hiR T R (svAt l k).1 (svAt l k).2.2 = hi' at *; generalize (svAt l k).1 = i at *; generalize (svAt l k).2.1 = b at *; generalize (svAt l k).2.2 = o at *
      cases o
      · go_wp2_with (first
         | (go_at_call 245; refine Sb (hre _) fun w1 hb1 => ?_; have HOW := Zab (Zby (hown.alloc _) hb1); have HN1 := Zab (Zac (Zac HN.out (Zaa _ _)) hb1); have LS := HN1.out.size; obtain ⟨z0, z1, z2⟩ := ((B3.new wr (Vi i) (Vi b) (.bool false) 116).later hb1).later (Zaa w1 (.cells #[Vi lo, Vi hi'] 105)); clear hb1)
         | (at_builtin; refine wpList_append_lies _ rfl _ _ 313 rfl w2.heap.size 345 i0 .nilIface 1 16 Tryz.underlying313 hi hz0 hz1 hz2 rfl (by decide) _ _ _ rfl ((HOW.out.alloc _).alloc _) ⟨w1.heap.size + 1, 0, none⟩ 1 1 [.iface 343 (.agg #[.int .i64 lo, .int .i64 hi'])] rfl rfl (new_cell1 w1 _ _ _) (fun x hx => by simp at hx; subst hx; rfl) (by omega) (by unfold maxLen; omega) (by omega) (by simp; omega) _ rfl ?_; intro g cap w3 hown' hgrow hat hlt3))
        go_roundw
        case rel =>
         refine ⟨k + 1, some (Ad g 0), cap, by omega, by go_num, rfl, ?_, ?_⟩
         · rw [HS.out, HTV.out]; exact hown'
         · exact ((HN1.out.alloc LS _).alloc (by simp; omega) _).grown hgrow (by simp; omega) (fun q hq => (HOW.out.lt q hq).1)
        case measure => simp [intOf]; omega
      · go_wp2_with (first
         | (go_at_call 245; refine Sb (hre _) fun w1 hb1 => ?_; have HOW := Zab (Zby (hown.alloc _) hb1); have HN1 := Zab (Zac (Zac HN.out (Zaa _ _)) hb1); have LS := HN1.out.size; obtain ⟨z0, z1, z2⟩ := ((B3.new wr (Vi i) (Vi b) (.bool true) 116).later hb1).later (Zaa w1 (.cells #[Vi lo, Vi hi'] 105)); clear hb1)
         | (at_builtin; refine wpList_append_lies _ rfl _ _ 313 rfl w2.heap.size 345 i0 .nilIface 1 16 Tryz.underlying313 hi hz0 hz1 hz2 rfl (by decide) _ _ _ rfl ((HOW.out.alloc _).alloc _) ⟨w1.heap.size + 1, 0, none⟩ 1 1 [.iface 342 (.agg #[])] rfl rfl (new_cell1 w1 _ _ _) (fun x hx => by simp at hx; subst hx; rfl) (by omega) (by unfold maxLen; omega) (by omega) (by simp; omega) _ rfl ?_; intro g cap w3 hown' hgrow hat hlt3))
        go_roundw
        case rel =>
         refine ⟨k + 1, some (Ad g 0), cap, by omega, by go_num, rfl, ?_, ?_⟩
         · rw [HS.out, HTV.out]; exact hown'
         · exact ((HN1.out.alloc LS _).alloc (by simp; omega) _).grown hgrow (by simp; omega) (fun q hq => (HOW.out.lt q hq).1)
        case measure => simp [intOf]; omega
    · have e : k = n0 := by omega
      subst e; have hre := reach_err T R S C (svAt l k).1 (svAt l k).2.1 (svAt l k).2.2 (HXN.out hlt); clear hown; obtain ⟨x, HXE⟩ : ∃ x, Hid (svE T R S C (svAt l k).1 (svAt l k).2.1 (svAt l k).2.2 = x) := ⟨_, rfl⟩; rw [HXE.out] at hre
      go_wp2_with (go_at_call 245; refine Sb (hre _) fun w1 hb1 => ?_; have HN1 := Zab (Zac (Zac HN.out (Zaa _ _)) hb1); clear hb1); go_ret2; exact ⟨.inr ⟨hlt, by rw [HXE.out]; rfl⟩, Zac HR.out.2 (Zac HN1.out (Zaa _ _))⟩
  · have e : k = l.length := by omega
    have e2 : n0 = l.length := by omega
    subst e; have HW := Zab (wls_of_owns hown); have HN := Zab hnx; clear hown hnx; go_wp2; go_ret2; exact ⟨.inl ⟨e2, _, _, rfl, HW.out⟩, Zac HR.out.2 HN.out⟩
theorem infoHe : (Tryz.prog.info? 128).map (fun i => (i.zero, i.size, i.bytes)) = some (some (.agg #[Vi 0, Vi 0, Vi 0]), 3, 24) := by kernel_rfl
theorem h3new (w1 : World) (X Y Z : Value) (t : TypeId) : ∀ j u, [X, Y, Z][j]? = some u → (w1.alloc (.cells #[X, Y, Z] t)).cell? ((⟨w1.heap.size, 0, none⟩ : Addr).add j) = some u := by
 intro j u hu
 match j with
 | 0 => simp at hu; subst hu; simp [go_sem, Addr.add]
 | 1 => simp at hu; subst hu; simp [go_sem, Addr.add]
 | 2 => simp at hu; subst hu; simp [go_sem, Addr.add]
 | j + 3 => simp at hu
theorem hls_two {w : World} {B g cap : Nat} {e : TypeId} {x0 y0 z0 x1 y1 z1 : Int} (h : w.ownsRow B e 3 (.slice (some (Ad g 0)) 2 cap) 2 [Vi x0, Vi y0, Vi z0, Vi x1, Vi y1, Vi z1]) : HLs w (some (Ad g 0)) [(x0, y0, z0), (x1, y1, z1)] := by
 refine .inr ⟨g, 0, rfl, fun k hk => ?_⟩; have hk : k < 2 := hk
 rcases (show k = 0 ∨ k = 1 by omega) with rfl | rfl
 · exact ⟨h.cellAt 0 (by omega), h.cellAt 1 (by omega), h.cellAt 2 (by omega)⟩
 · exact ⟨h.cellAt 3 (by omega), h.cellAt 4 (by omega), h.cellAt 5 (by omega)⟩
def heM (C : CR) (S : FS) (sv : Nat → List Sv) (i : Nat) : He := (Zbz (S.bk i).o 3, sndU (sv i) (sv i).length, C.a i 4)
def lwM (C : CR) (S : FS) (l : List Rd) (sv : Nat → List Sv) : Int := neI S.n (waI [heM C S sv 0, heM C S sv 1]) (decide ((smp l 40 3).2 = 1))
theorem weU_two {x y : He} (h0 : heE x.1 x.2.1 x.2.2 = 0) (h1 : heE y.1 y.2.1 y.2.2 = 0) : weU [x, y] 2 = 0 := by
 have a : weU [x, y] 1 = 0 := by rw [weU_step]; simpa [weU, heAt] using h0
 rw [weU_step, if_pos a]; exact h1
theorem lawI_bd (c s n : Int) : 0 ≤ lawI c s n ∧ lawI c s n ≤ 3 := by
 unfold lawI; split <;> (try split) <;> (try split) <;> (try split) <;> omega
theorem waI_two {x y : He} (h0 : heE x.1 x.2.1 x.2.2 = 0) (h1 : heE y.1 y.2.1 y.2.2 = 0) : waI [x, y] = mxL (mxL 0 (lawI x.1 x.2.1 x.2.2)) (lawI y.1 y.2.1 y.2.2) := by
 unfold waI
 rw [if_pos (by exact weU_two h0 h1)]
 rfl
theorem waI_bd {x y : He} (h0 : heE x.1 x.2.1 x.2.2 = 0) (h1 : heE y.1 y.2.1 y.2.2 = 0) : betw (waI [x, y]) 0 3 = true := by
 rw [waI_two h0 h1]; have a := lawI_bd x.1 x.2.1 x.2.2; have b := lawI_bd y.1 y.2.1 y.2.2
 unfold mxL
 simp only [betw, Bool.and_eq_true, decide_eq_true_eq]
 split <;> (try split) <;> omega
theorem field_is1 (x0 x1 : Value) (w : World) : (Instr.field 131 (.agg #[x0, x1]) 1).run Tryz.prog w = .ok x1 w := by kernel_rfl
theorem chooseLaw_ok {K : Nat} {wz w : World} {B : Nat} {S : FS} {C : CR} {a : Option Addr} {cap : Nat} {l : List Rd} {sv : Nat → List Sv} {G : Nat → Nat} (hf : FR K wz w B S C a cap l sv G) (hl : ∀ i, i < 2 → (sv i).length ≤ 9)
 (h0 : heE (heM C S sv 0).1 (heM C S sv 0).2.1 (heM C S sv 0).2.2 = 0) (h1 : heE (heM C S sv 1).1 (heM C S sv 1).2.1 (heM C S sv 1).2.2 = 0) (hn : betw S.n 0 3 = true) :
 Calls Tryz.prog 60 #[.pointer (some (Ad B 0))] w fun e w' => e = .returned .nilIface ∧ FR K wz w' B ({ S with n := lwM C S l sv } : FS) C a cap l sv G := by
 obtain ⟨i0, hi, hz0, hz1, hz2⟩ := info_parts infoHe; have hh := fun u (h : Below w.heap.size w u) i hi => health_ok (hf.later h) i hi (hl i hi); have hh0 := fun u h => hh u h 0 (by omega); have hh1 := fun u h => hh u h 1 (by omega); have hsy := fun u (h : Below w.heap.size w u) => Zgd B a cap l 40 3 hf.many u (cell_later h hf.said) (hf.rds.later h); have hwt := wanted_any [heM C S sv 0, heM C S sv 1]; simp only [weU_two h0 h1, show [heM C S sv 0, heM C S sv 1].length = 2 from rfl, Zaq] at hwt; have hb := waI_bd h0 h1; have hnx := next_any S.n (waI [heM C S sv 0, heM C S sv 1]) (decide ((smp l 40 3).2 = 1))
 have hne : neE S.n (waI [heM C S sv 0, heM C S sv 1]) = 0 := by unfold neE; rw [hn, hb]; rfl
 simp only [hne, Zaq] at hnx; have HF := Zab hf; have hlw := (hf.blk.cell (fr_law S C _)).1; have HL : Hid (neI S.n (waI [heM C S sv 0, heM C S sv 1]) (decide ((smp l 40 3).2 = 1)) = lwM C S l sv) := Zab rfl; rw [HL.out] at hnx; generalize lwM C S l sv = nl at *; generalize waI [heM C S sv 0, heM C S sv 1] = wl at *; have HB0 := Zab (Below.refl w.heap.size w); simp only [heM] at hwt; generalize Zbz (S.bk 0).o 3 = p0 at *; generalize Zbz (S.bk 1).o 3 = p1 at *; generalize sndU (sv 0) (sv 0).length = q0 at *; generalize sndU (sv 1) (sv 1).length = q1 at *; have hfi := field_is1; clear hf h0 h1 hn hl hh hb hne HL
 go_enter Tryz.func60, Tryz.ntmps60
 go_upto_region 3 with fail; refine wp_loop_rounds 3 ?_; rw [rounds_succ]
 go_wp2_with (first
  | (go_at_call 109; refine Sb (hh0 _ HB0.out) fun u0 hb => ?_; have HB0 := Zab (Zac HB0.out hb); clear hb)
  | (at_builtin; refine wpList_append_lies _ rfl _ _ 208 rfl w.heap.size 128 i0 (.agg #[.int .i64 0, .int .i64 0, .int .i64 0]) 3 24 Tryz.underlying208 hi hz0 hz1 hz2 rfl (by decide) _ _ _ rfl (World.ownsRow_nil _ _ _ _) ⟨u0.heap.size, 0, none⟩ 1 1 [.int .i64 p0, .int .i64 q0, .int .i64 (C.a 0 4)] rfl rfl (h3new u0 _ _ _ _) (fun x hx => by simp at hx; rcases hx with rfl | rfl | rfl <;> rfl) (by omega) (by unfold maxLen; omega) (by omega) (Zac HB0.out (Zaa _ _)).size _ rfl ?_; intro g0 c0 v0 hown hgrow hat hlt; have HO0 := Zab hown; have HV0 := Zab ((Zac HB0.out (Zaa _ _)).grown hgrow (Zac HB0.out (Zaa _ _)).size (fun q hq => by cases hq)); clear hown hgrow hat hlt HB0))
 rw [rounds_succ]
 go_wp2_with (first
  | (go_at_call 109; refine Sb (hh1 _ HV0.out) fun u1 hb => ?_; have HB1 := Zab (Zac HV0.out hb); have HO0 := Zab (Zby HO0.out hb); clear hb HV0)
  | (at_builtin; refine wpList_append_lies _ rfl _ _ 208 rfl w.heap.size 128 i0 (.agg #[.int .i64 0, .int .i64 0, .int .i64 0]) 3 24 Tryz.underlying208 hi hz0 hz1 hz2 rfl (by decide) _ _ _ rfl (HO0.out.alloc _) ⟨u1.heap.size, 0, none⟩ 1 1 [.int .i64 p1, .int .i64 q1, .int .i64 (C.a 1 4)] rfl rfl (h3new u1 _ _ _ _) (fun x hx => by simp at hx; rcases hx with rfl | rfl | rfl <;> rfl) (by omega) (by unfold maxLen; omega) (by omega) (Zac HB1.out (Zaa _ _)).size _ rfl ?_; intro g1 c1 v1 hown hgrow hat hlt; have HO1 := Zab hown; have HV1 := Zab ((Zac HB1.out (Zaa _ _)).grown hgrow (Zac HB1.out (Zaa _ _)).size (fun q hq => (HO0.out.lt q hq).1)); clear hown hgrow hat hlt HB1))
 rw [rounds_succ]; have HLS := Zab (hls_two HO1.out)
 go_wp2_with (first
  | (go_at_call 110; refine Sb (hwt _ _ (by omega) _ HLS.out) fun u2 hb => ?_; have HV2 := Zab (Zac HV1.out hb); clear hb HV1 HLS)
  | (go_at_call 107; refine Sb (hsy _ HV2.out) fun u3 hb => ?_; have HV3 := Zab (Zac HV2.out hb); clear hb HV2; have hl3 := cell_later HV3.out hlw)
  | (go_at_call 111; refine Sb (hnx _) fun u4 hb => ?_; have HV4 := Zab (Zac HV3.out hb); clear hb HV3; have HF4 := Zab (HF.out.later HV4.out); have hl4 := (HF4.out.blk.cell (fr_law S C _)).1; have hf4 := (HF4.out.blk.cell (fr_law S C _)).2))
 go_ret; exact ⟨rfl, HF4.out.put _ [Vi nl] 29 (fr_putLaw S C _ nl) ⟨rfl, rfl⟩⟩
end Go.Proofs.YtnfdfiholcelaaaGreatDoor
namespace Go.Proofs.YtnfdfiholcelaaaGreatDoor
open Go.Shelf Go.RowKit Go.Sort Plain
def searchL_ren : Go.Shelf.Ren := ⟨fun | 16 => 246 | n => n, fun | 3 => 3 | 4 => 4 | 35 => 266 | 38 => 229 | n => n, fun n => n⟩
theorem searchL : Go.Proofs.SlLaysO.n16 Tryz.prog searchL_ren := {
 mixed := by kernel_rfl
 f16 := Tryz.func246.trans (congrArg some (by kernel_rfl))
 t3 := Tryz.underlying3
 a3 := Tryz.isAgg3
 z3 := Tryz.sizeOf3
 v3 := Tryz.zeroValue3
 t4 := Tryz.underlying4
 a4 := Tryz.isAgg4
 z4 := Tryz.sizeOf4
 v4 := Tryz.zeroValue4
 t35 := Tryz.underlying266
 a35 := Tryz.isAgg266
 z35 := Tryz.sizeOf266
 v35 := Tryz.zeroValue266
 t38 := Tryz.underlying229
 a38 := Tryz.isAgg229
 z38 := Tryz.sizeOf229
 v38 := Tryz.zeroValue229
}
theorem search_any (g : Nat) (cb : Array Value) (n : Nat) (p : Nat → Bool) (w : World) (eg : ∀ args w, (callFunc g args).run Tryz.prog w = .ok (.enter g args) w) (hsz : n < 4611686018427387904)
 (hf : ∀ (m : Nat) (os : Array Obj) (i : Nat), i < n → Calls Tryz.prog g (#[Vi i] ++ cb) (grow (w.drewN m) os) fun e w' => e = .returned (.bool (p i)) ∧ ∃ q os', w' = grow ((grow (w.drewN m) os).drewN q) os')
 (hmono : ∀ a b, a ≤ b → b < n → p a = true → p b = true) :
 Calls Tryz.prog 246 #[Vi n, .func (.func g) #[] cb] w fun e w' => e = .returned (Vi ((List.range n).countP (fun i => !p i) : Nat)) ∧ ∃ q os, w' = grow (w.drewN q) os :=
 Any.sort_Search searchL g cb n p w eg hsz hf hmono
end Go.Proofs.YtnfdfiholcelaaaGreatDoor
