import Derived.Maps.AppendAt
import Derived.Shelf.SlIter.Collect
import Derived.Test.YtnfdfiholcelaaaGreatDoorJe00
import Derived.Test.YtnfdfiholcelaaaGreatDoorJe15
import Derived.Test.YtnfdfiholcelaaaGreatDoorJe21
set_option maxRecDepth 100000
set_option maxHeartbeats 20000000
namespace Go.Proofs.YtnfdfiholcelaaaGreatDoor
open Go.RowKit Plain Tryz
def clE (n : Int) : Int := if betw n 0 3 then 0 else 3
theorem checkLaw_any (n : Int) (w : World) : Calls prog 119 #[Vi n] w fun e w' => e = .returned (errV (clE n)) ∧ Below w.heap.size w w' := by
 have h := Zfi n
 unfold clE
 generalize betw n 0 3 = b at *
 cases b
 · rw [if_neg (by simp), Zbc (by decide)]
   go_enter func119, ntmps119
   go_wp2_with (go_at_call 165; refine Sb (h _) fun w1 hb => ?_); go_ret; exact ⟨rfl, hb⟩
 · rw [if_pos rfl, Zaq]
   go_enter func119, ntmps119
   go_wp2_with (go_at_call 165; refine Sb (h _) fun w1 hb => ?_); go_ret; exact ⟨rfl, hb⟩
def seU (C : CR) (i : Nat) (L : List Sv) : Nat → Int
 | 0 => 0
 | k + 1 => if seU C i L k = 0 then svE (C.a i 5) (C.a i 6) (C.a i 7) (C.a i 10) (svAt L k).1 (svAt L k).2.1 (svAt L k).2.2 else seU C i L k
theorem seU_stay {C : CR} {i : Nat} {L : List Sv} {k : Nat} (h : seU C i L k ≠ 0) : ∀ m, k ≤ m → seU C i L m = seU C i L k := by
 intro m hm
 induction m with
 | zero =>
  have : k = 0 := by omega
  subst this; rfl
 | succ m ih =>
  by_cases e : k = m + 1
  · subst e; rfl
  · have i := ih (by omega); rw [seU, i, if_neg h]
def csE (C : CR) (i : Nat) (L : List Sv) : Int := if (L.length : Int) = C.a i 4 then seU C i L L.length else 3
theorem checkServos_any (C : CR) (i : Nat) (L : List Sv) (a : Option Addr) (cap : Nat) (hl : L.length ≤ 9) (w : World) (hv : VLs w a L) :
 Calls prog 123 #[.agg #[Vi (C.a i 0), Vi (C.a i 1), Vi (C.a i 2), Vi (C.a i 3), Vi (C.a i 4), Vi (C.a i 5), Vi (C.a i 6), Vi (C.a i 7), Vi (C.a i 8), Vi (C.a i 9), Vi (C.a i 10), Vi (C.a i 11), .slice (C.p i) (C.al i).length (C.cn i), .slice (C.q i) (C.zl i).length (C.cm i), Vi (C.a i 14)], .slice a L.length cap] w fun e w' => e = .returned (errV (csE C i L)) ∧ Below w.heap.size w w' := by
 have HV := Zab hv; have har := Zdf (C.a i 0) (C.a i 1) (C.a i 2) (C.a i 3) (C.a i 4) (C.a i 5) (C.a i 6) (C.a i 7) (C.a i 8) (C.a i 9) (C.a i 10) (C.a i 11) (C.a i 14) (C.p i) (C.q i) (C.al i).length (C.zl i).length (C.cn i) (C.cm i); clear hv
 by_cases hn : (L.length : Int) = C.a i 4
 · have HE : Hid (csE C i L = seU C i L L.length) := Zab (by unfold csE; rw [if_pos hn]); rw [HE.out]; have HA0 : Hid (Blk 26 (w.alloc (.cells #[Vi (C.a i 0), Vi (C.a i 1), Vi (C.a i 2), Vi (C.a i 3), Vi (C.a i 4), Vi (C.a i 5), Vi (C.a i 6), Vi (C.a i 7), Vi (C.a i 8), Vi (C.a i 9), Vi (C.a i 10), Vi (C.a i 11), .slice (C.p i) (C.al i).length (C.cn i), .slice (C.q i) (C.zl i).length (C.cm i), Vi (C.a i 14)] 26)) w.heap.size [Vi (C.a i 0), Vi (C.a i 1), Vi (C.a i 2), Vi (C.a i 3), Vi (C.a i 4), Vi (C.a i 5), Vi (C.a i 6), Vi (C.a i 7), Vi (C.a i 8), Vi (C.a i 9), Vi (C.a i 10), Vi (C.a i 11), .slice (C.p i) (C.al i).length (C.cn i), .slice (C.q i) (C.zl i).length (C.cm i), Vi (C.a i 14)]) := Zab (Blk.new w _ _)
   go_enter func123, ntmps123
   go_upto_region 4 with fail; have HB0 := Zab (Zaa w (.cells #[Vi (C.a i 0), Vi (C.a i 1), Vi (C.a i 2), Vi (C.a i 3), Vi (C.a i 4), Vi (C.a i 5), Vi (C.a i 6), Vi (C.a i 7), Vi (C.a i 8), Vi (C.a i 9), Vi (C.a i 10), Vi (C.a i 11), .slice (C.p i) (C.al i).length (C.cn i), .slice (C.q i) (C.zl i).length (C.cm i), Vi (C.a i 14)] 26)); generalize w.alloc (.cells #[Vi (C.a i 0), Vi (C.a i 1), Vi (C.a i 2), Vi (C.a i 3), Vi (C.a i 4), Vi (C.a i 5), Vi (C.a i 6), Vi (C.a i 7), Vi (C.a i 8), Vi (C.a i 9), Vi (C.a i 10), Vi (C.a i 11), .slice (C.p i) (C.al i).length (C.cn i), .slice (C.q i) (C.zl i).length (C.cm i), Vi (C.a i 14)] 26) = w1 at *; generalize w.heap.size = QA at HA0 ⊢
   go_loopw [16] (fun ix wr => ∃ k : Nat, k ≤ L.length ∧ ix = Vi k ∧ Hid (seU C i L k = 0) ∧ Blk 26 wr QA [Vi (C.a i 0), Vi (C.a i 1), Vi (C.a i 2), Vi (C.a i 3), Vi (C.a i 4), Vi (C.a i 5), Vi (C.a i 6), Vi (C.a i 7), Vi (C.a i 8), Vi (C.a i 9), Vi (C.a i 10), Vi (C.a i 11), .slice (C.p i) (C.al i).length (C.cn i), .slice (C.q i) (C.zl i).length (C.cm i), Vi (C.a i 14)] ∧ Below w.heap.size w wr) (fun ix _ => L.length - (intOf ix).toNat)
   case atStart => exact ⟨0, Nat.zero_le _, rfl, Zab rfl, HA0.out, HB0.out⟩
   case round =>
    obtain ⟨k, hk, rfl, hE, hax, hbw⟩ := hrel; clear HA0 HB0
    by_cases hlt : k < L.length
    · obtain ⟨b, off, rfl, c0, c1, c2⟩ := (HV.out.later hbw).at hlt; have hck := Zct (C.a i 5) (C.a i 6) (C.a i 7) (C.a i 10) (svAt L k).1 (svAt L k).2.1 (svAt L k).2.2; have HS : Hid (seU C i L (k + 1) = svE (C.a i 5) (C.a i 6) (C.a i 7) (C.a i 10) (svAt L k).1 (svAt L k).2.1 (svAt L k).2.2) := Zab (by rw [seU, if_pos hE.out]); generalize svE (C.a i 5) (C.a i 6) (C.a i 7) (C.a i 10) (svAt L k).1 (svAt L k).2.1 (svAt L k).2.2 = se at *; generalize (svAt L k).1 = si at *; generalize (svAt L k).2.1 = sb at *; generalize (svAt L k).2.2 = so at *
      have k0 : (0 : Int) ≤ (k : Int) := by omega
      have k1 : (k : Int) < (L.length : Int) := by omega
      have HB1 := Zab (Zac hbw (Zaa wr (.cells #[Vi si, Vi sb, .bool so] 116))); have HAX := Zab (hax.later (Zaa wr (.cells #[Vi si, Vi sb, .bool so] 116))); have HQS : Hid (Blk 116 (wr.alloc (.cells #[Vi si, Vi sb, .bool so] 116)) wr.heap.size [Vi si, Vi sb, .bool so]) := Zab (Blk.new wr _ _); clear hax hbw hE
      go_upto_region 6 with fail; clear c0 c1 c2; generalize wr.alloc (.cells #[Vi si, Vi sb, .bool so] 116) = w2 at *; generalize wr.heap.size = QS at HQS ⊢; have HAXr := Zab HAX.out.range; have HSVr := Zab HQS.out.range; clear HQS
      by_cases he : se = 0
      · subst he; simp only [Zaq] at hck; refine Cs [20, 21, 22, 23, 7] ?_; refine Cl (x := .tmp 2) 0 20 [] (fun y w _ u hSw => ⟨Zae HAXr.out hSw, rfl⟩) underlying26 Zaw ?_; refine Cc 1 21 [0] (fun y w h _ => har _) ?_; refine Cl (x := .tmp 6) 2 22 [] (fun y w _ u hSw => ⟨Zae HSVr.out hSw, rfl⟩) underlying116 infoS3 ?_; refine Cc 3 23 [1, 2] (fun y w h _ => hck _) ?_; refine Cp 4 7 [3] ?_; refine Ce (fun y u1 hB hf => ?_); have HS1 := Zab hB; clear hB hf; go_simp; have hB := HS1.out; clear HS1; generalize u1 = v6 at hB   ⊢; refine Zbd (by assumption) ?_; clear HAXr HSVr; have HB6 := Zab (Zac HB1.out hB); have HAX := Zab (HAX.out.later hB); clear hB HB1; go_wp2_with fail; go_roundw
        case rel => exact ⟨k + 1, by omega, by go_num, HS, HAX.out, HB6.out⟩
        case measure => simp [intOf]; omega
      · simp only [Zbc he] at hck; refine Cs [20, 21, 22, 23, 7] ?_; refine Cl (x := .tmp 2) 0 20 [] (fun y w _ u hSw => ⟨Zae HAXr.out hSw, rfl⟩) underlying26 Zaw ?_; refine Cc 1 21 [0] (fun y w h _ => har _) ?_; refine Cl (x := .tmp 6) 2 22 [] (fun y w _ u hSw => ⟨Zae HSVr.out hSw, rfl⟩) underlying116 infoS3 ?_; refine Cc 3 23 [1, 2] (fun y w h _ => hck _) ?_; refine Cp 4 7 [3] ?_; refine Ce (fun y u2 hB hf => ?_); have HS2 := Zab hB; clear hB hf; go_simp; have hB := HS2.out; clear HS2; generalize u2 = v6 at hB   ⊢; refine Zbd (by assumption) ?_; clear HAXr HSVr; have HB6 := Zab (Zac HB1.out hB); clear hB HB1; go_wp2_with fail; go_ret; refine ⟨?_, HB6.out⟩; rw [seU_stay (by rw [HS.out]; exact he) _ hlt, HS.out, Zbc he]
        rfl
    · obtain rfl : k = L.length := by omega
      go_wp2_with fail; go_ret; exact ⟨by rw [hE.out]; rfl, hbw⟩
 · have HE : Hid (csE C i L = 3) := Zab (by unfold csE; rw [if_neg hn]); rw [HE.out, Zbc (by decide)]
   have hne : (decide ((L.length : Int) = C.a i 4)) = false := by simpa using hn
   go_enter func123, ntmps123
   go_wp2_with fail; go_ret; exact ⟨rfl, Zaa _ _⟩
def chE (C : CR) (i : Nat) (h : Int × Int × Int) : Int := hoE (C.a i 0) (C.a i 1) (C.a i 11) (C.a i 14) (moI C i) (C.al i) (C.zl i) h.1 h.2.1 h.2.2 0 0 0
structure AxC (u : World) (C : CR) (i : Nat) : Prop where
 h4 : 2 ≤ C.a i 4 ∧ C.a i 4 ≤ 4
 h5 : 1 ≤ C.a i 5 ∧ C.a i 5 ≤ 1000
 h3 : 0 ≤ C.a i 3 ∧ C.a i 3 ≤ 1000
 h7 : 0 ≤ C.a i 7 ∧ C.a i 7 ≤ 1000
 h6 : 1 ≤ C.a i 6 ∧ C.a i 6 ≤ 1000
 m0 : (C.al i).length ≤ 9223372036854775807
 m1 : (C.zl i).length ≤ 9223372036854775807
 mc : (C.al i).length ≤ C.cn i
 la : Lst u (C.p i) (C.al i)
 lz : Lst u (C.q i) (C.zl i)
theorem AxC.later {u u' : World} {C : CR} {i : Nat} (h : AxC u C i) (hb : Below u.heap.size u u') : AxC u' C i := ⟨h.h4, h.h5, h.h3, h.h7, h.h6, h.m0, h.m1, h.mc, h.la.later hb, h.lz.later hb⟩
theorem want_some {C : CR} {i : Nat} {w : World} (h : AxC w C i) (hd : Int × Int × Int) : ∃ x x0 x1 x2 : Int, ∀ u, Below w.heap.size w u → Calls prog 167 #[.agg #[Vi (C.a i 0), Vi (C.a i 1), Vi (C.a i 11), Vi (C.a i 14), Vi (moI C i), .slice (C.p i) (C.al i).length (C.cn i), .slice (C.q i) (C.zl i).length (C.cm i)], .agg #[Vi hd.1, Vi hd.2.1, Vi hd.2.2], .agg #[Vi 0, Vi 0, Vi 0, Vi 0, Vi 0]] u fun e w' => e = .returned (.tuple #[Vi x, .agg #[Vi x0, Vi x1, Vi x2], errV (chE C i hd)]) ∧ Below u.heap.size u w' := by
 by_cases he : chE C i hd = 0
 · simp only [he, Zaq]; exact ⟨_, _, _, _, fun u hb => want_ok (C.a i 0) (C.a i 1) (C.a i 11) (C.a i 14) (moI C i) (C.p i) (C.q i) (C.cn i) (C.cm i) (C.al i) (C.zl i) hd.1 hd.2.1 hd.2.2 0 0 0 0 0 h.m0 h.m1 h.mc he u (h.la.later hb) (h.lz.later hb)⟩
 · simp only [Zbc he]; exact ⟨0, 0, 0, 0, fun u hb => want_err (C.a i 0) (C.a i 1) (C.a i 11) (C.a i 14) (moI C i) (C.p i) (C.q i) (C.cn i) (C.cm i) (C.al i) (C.zl i) hd.1 hd.2.1 hd.2.2 0 0 0 0 0 h.m0 h.m1 h.mc he u (h.la.later hb) (h.lz.later hb)⟩
theorem checkHold_any (C : CR) (i : Nat) (hd : Int × Int × Int) (w : World) (h : AxC w C i) :
 Calls prog 125 #[.agg #[Vi (C.a i 0), Vi (C.a i 1), Vi (C.a i 2), Vi (C.a i 3), Vi (C.a i 4), Vi (C.a i 5), Vi (C.a i 6), Vi (C.a i 7), Vi (C.a i 8), Vi (C.a i 9), Vi (C.a i 10), Vi (C.a i 11), .slice (C.p i) (C.al i).length (C.cn i), .slice (C.q i) (C.zl i).length (C.cm i), Vi (C.a i 14)], .agg #[Vi hd.1, Vi hd.2.1, Vi hd.2.2]] w fun e w' => e = .returned (errV (chE C i hd)) ∧ Below w.heap.size w w' := by
 obtain ⟨x, x0, x1, x2, hwn⟩ := want_some h hd; have hhr0 := Zdr (C.a i 0) (C.a i 1) (C.a i 2) (C.a i 3) (C.a i 4) (C.a i 5) (C.a i 6) (C.a i 7) (C.a i 8) (C.a i 9) (C.a i 10) (C.a i 11) (C.a i 14) (C.p i) (C.q i) (C.al i).length (C.zl i).length (C.cn i) (C.cm i) h.h4 h.h5 h.h3 h.h7 h.h6; have hhr : ∀ u, Calls prog 168 #[.agg #[Vi (C.a i 0), Vi (C.a i 1), Vi (C.a i 2), Vi (C.a i 3), Vi (C.a i 4), Vi (C.a i 5), Vi (C.a i 6), Vi (C.a i 7), Vi (C.a i 8), Vi (C.a i 9), Vi (C.a i 10), Vi (C.a i 11), .slice (C.p i) (C.al i).length (C.cn i), .slice (C.q i) (C.zl i).length (C.cm i), Vi (C.a i 14)]] u fun e w' => e = .returned (.agg #[Vi (C.a i 0), Vi (C.a i 1), Vi (C.a i 11), Vi (C.a i 14), Vi (moI C i), .slice (C.p i) (C.al i).length (C.cn i), .slice (C.q i) (C.zl i).length (C.cm i)]) ∧ Below u.heap.size u w' := hhr0; clear hhr0 h; generalize chE C i hd = ce at *; generalize moI C i = mo at *; obtain ⟨h0, h1, h2⟩ := hd
 dsimp only at *
 have HA0 := Zab ((Blk.new w 26 [Vi (C.a i 0), Vi (C.a i 1), Vi (C.a i 2), Vi (C.a i 3), Vi (C.a i 4), Vi (C.a i 5), Vi (C.a i 6), Vi (C.a i 7), Vi (C.a i 8), Vi (C.a i 9), Vi (C.a i 10), Vi (C.a i 11), .slice (C.p i) (C.al i).length (C.cn i), .slice (C.q i) (C.zl i).length (C.cm i), Vi (C.a i 14)]).later (Zaa _ (.cells #[Vi h0, Vi h1, Vi h2] 38)))
 have HH0 : Hid (Blk 38 ((w.alloc (.cells #[Vi (C.a i 0), Vi (C.a i 1), Vi (C.a i 2), Vi (C.a i 3), Vi (C.a i 4), Vi (C.a i 5), Vi (C.a i 6), Vi (C.a i 7), Vi (C.a i 8), Vi (C.a i 9), Vi (C.a i 10), Vi (C.a i 11), .slice (C.p i) (C.al i).length (C.cn i), .slice (C.q i) (C.zl i).length (C.cm i), Vi (C.a i 14)] 26)).alloc (.cells #[Vi h0, Vi h1, Vi h2] 38)) (w.heap.size + 1) [Vi h0, Vi h1, Vi h2]) := Zab (by
  have := Blk.new (w.alloc (.cells #[Vi (C.a i 0), Vi (C.a i 1), Vi (C.a i 2), Vi (C.a i 3), Vi (C.a i 4), Vi (C.a i 5), Vi (C.a i 6), Vi (C.a i 7), Vi (C.a i 8), Vi (C.a i 9), Vi (C.a i 10), Vi (C.a i 11), .slice (C.p i) (C.al i).length (C.cn i), .slice (C.q i) (C.zl i).length (C.cm i), Vi (C.a i 14)] 26)) 38 [Vi h0, Vi h1, Vi h2]; rw [World.size_alloc] at this; exact this)
 have HBW := Zab (Zac (Zaa w (.cells #[Vi (C.a i 0), Vi (C.a i 1), Vi (C.a i 2), Vi (C.a i 3), Vi (C.a i 4), Vi (C.a i 5), Vi (C.a i 6), Vi (C.a i 7), Vi (C.a i 8), Vi (C.a i 9), Vi (C.a i 10), Vi (C.a i 11), .slice (C.p i) (C.al i).length (C.cn i), .slice (C.q i) (C.zl i).length (C.cm i), Vi (C.a i 14)] 26)) (Zaa _ (.cells #[Vi h0, Vi h1, Vi h2] 38)))
 go_enter func125, ntmps125
 go_upto_region 1 with fail; have HAXr : Hid (((w.alloc (.cells #[Vi (C.a i 0), Vi (C.a i 1), Vi (C.a i 2), Vi (C.a i 3), Vi (C.a i 4), Vi (C.a i 5), Vi (C.a i 6), Vi (C.a i 7), Vi (C.a i 8), Vi (C.a i 9), Vi (C.a i 10), Vi (C.a i 11), .slice (C.p i) (C.al i).length (C.cn i), .slice (C.q i) (C.zl i).length (C.cm i), Vi (C.a i 14)] 26)).alloc (.cells #[Vi h0, Vi h1, Vi h2] 38)).rangeAt w.heap.size 0 [Vi (C.a i 0), Vi (C.a i 1), Vi (C.a i 2), Vi (C.a i 3), Vi (C.a i 4), Vi (C.a i 5), Vi (C.a i 6), Vi (C.a i 7), Vi (C.a i 8), Vi (C.a i 9), Vi (C.a i 10), Vi (C.a i 11), .slice (C.p i) (C.al i).length (C.cn i), .slice (C.q i) (C.zl i).length (C.cm i), Vi (C.a i 14)]) := Zab HA0.out.range; have HHDr := Zab HH0.out.range; clear HA0 HH0; have HBW : Hid (Below w.heap.size w ((w.alloc (.cells #[Vi (C.a i 0), Vi (C.a i 1), Vi (C.a i 2), Vi (C.a i 3), Vi (C.a i 4), Vi (C.a i 5), Vi (C.a i 6), Vi (C.a i 7), Vi (C.a i 8), Vi (C.a i 9), Vi (C.a i 10), Vi (C.a i 11), .slice (C.p i) (C.al i).length (C.cn i), .slice (C.q i) (C.zl i).length (C.cm i), Vi (C.a i 14)] 26)).alloc (.cells #[Vi h0, Vi h1, Vi h2] 38))) := HBW; generalize (w.alloc (.cells #[Vi (C.a i 0), Vi (C.a i 1), Vi (C.a i 2), Vi (C.a i 3), Vi (C.a i 4), Vi (C.a i 5), Vi (C.a i 6), Vi (C.a i 7), Vi (C.a i 8), Vi (C.a i 9), Vi (C.a i 10), Vi (C.a i 11), .slice (C.p i) (C.al i).length (C.cn i), .slice (C.q i) (C.zl i).length (C.cm i), Vi (C.a i 14)] 26)).alloc (.cells #[Vi h0, Vi h1, Vi h2] 38) = w2 at *; refine Cs [9, 10, 11, 12, 13, 8, 14, 15, 16, 6, 5] ?_; refine Cl (x := .tmp 2) 0 9 [] (fun y w _ u hSw => ⟨Zae HAXr.out hSw, rfl⟩) underlying26 Zaw ?_; refine Cc 1 10 [0] (fun y w h _ => hhr _) ?_; refine Cl (x := .tmp 3) 2 11 [] (fun y w _ u hSw => ⟨Zae HHDr.out hSw, rfl⟩) underlying38 Zen ?_; refine Cp 3 12 [] ?_; refine Cc 4 13 [1, 2, 3] (fun y w h _ => hwn _ (Zac HBW.out h)) ?_; refine Cp 5 8 [4] ?_; refine Cp 6 14 [5] ?_; refine Cp 7 15 [5] ?_; refine Cp 8 16 [5] ?_; refine Ca 9 6 ?_; refine Cp 10 5 [6] ?_; refine Cn 2 13 [11, 12] (fun y u1 hB hf => ?_); obtain ⟨XA, e, hA⟩ := hf.2.1; have HAA1 : Hid (NB _ _ _ XA [Vi 0, Vi 0, Vi 0]) := Zab hA; (try simp only [e]); clear e hA; have HS1 := Zab hB; clear hB hf; refine Ra 11 (fun K hK => ?_); rw [if_pos (by rfl)]; refine Zao 38 (.tmp 6) (.tmp 15) rfl XA 0 #[Vi x0, Vi x1, Vi x2] rfl rfl (HAA1.out.1.there (Nat.le_of_ble_eq_true rfl)) Zen (Zau _ rfl) rfl ?_
 have HS2 := Zab (Zah [Vi x0, Vi x1, Vi x2] 0 u1 HS1.out (NB.le HAA1.out)); have HAA2 : Hid (NB 38 w2.heap.size (u1.setCells XA 0 [Vi x0, Vi x1, Vi x2]) XA [Vi x0, Vi x1, Vi x2]) := Zab ⟨Blk.setCells [Vi x0, Vi x1, Vi x2] 0 u1 [Vi 0, Vi 0, Vi 0] HAA1.out.1, NB.le HAA1.out⟩; generalize hU : World.setCells _ XA 0 _ = u2 at *; clear hU; refine hK.out _ _ HS2.out (fun _ => ?_); clear hK K; clear HS1 HAA1; refine Tq 12 HS2.out ?_; simp only [Act.put, Ly]; refine wpAnyH_done (by kernel_rfl) ?_ _; go_simp; have hA := HAA2.out; clear HAA2; have hB := HS2.out; clear HS2; generalize u2 = v1 at hB hA  ⊢; refine Zbd (by assumption) ?_; have HB1 := Zab (Zac HBW.out hB); clear hA hB HAXr HHDr; go_wp2_with fail; go_ret; exact ⟨rfl, HB1.out⟩
section
variable {zz : World} {Ba Bs Bi Bb : Nat} {S : FS} {C : CR} {i : Nat} {L : List Sv}
theorem sc1_any (h : Blk 41 zz Bs (stL S)) : Calls prog 118 #[.pointer (some (Ad Bs 0))] zz fun e w' => e = .returned (errV (clE S.n)) ∧ Below zz.heap.size zz w' := by
 have c := (h.cell (show (stL S)[29]? = some (Vi S.n) from rfl)).1; have hc := checkLaw_any S.n; clear h; generalize clE S.n = ce at *
 go_enter func118, ntmps118
 go_wp2_with (go_at_call 119; refine Sb (hc _) fun w1 hb => ?_); go_ret; exact ⟨rfl, hb⟩
theorem infoB7' : (prog.info? 33).map (·.size) = some 7 := by kernel_rfl
theorem sc2_any (k : Bk) (h : Blk 33 zz Bb (bkL k)) : Calls prog 120 #[.pointer (some (Ad Bb 0))] zz fun e w' => e = .returned (errV (Zdb k.b k.l)) ∧ Below zz.heap.size zz w' := by
 have HR := Zab h.range; have hc := Zhv k.b k.o k.l; clear h; generalize Zdb k.b k.l = ce at *
 go_enter func120, ntmps120
 go_wp2_with (first
  | (refine Lq 33 _ rfl ?_; refine wpList_load_mid rfl 33 (.tmp 0) rfl Bb 0 rfl (bkL k) _ HR.out underlying33 rfl infoB7' ?_)
  | (go_at_call 121; refine Sb (hc _) fun w1 hb => ?_))
 go_ret; exact ⟨rfl, hb⟩
theorem sc3_any (hi : i < 2) (ha : Blk 26 zz Ba [Vi (C.a i 0), Vi (C.a i 1), Vi (C.a i 2), Vi (C.a i 3), Vi (C.a i 4), Vi (C.a i 5), Vi (C.a i 6), Vi (C.a i 7), Vi (C.a i 8), Vi (C.a i 9), Vi (C.a i 10), Vi (C.a i 11), .slice (C.p i) (C.al i).length (C.cn i), .slice (C.q i) (C.zl i).length (C.cm i), Vi (C.a i 14)]) (hs : Blk 41 zz Bs (stL S)) (hx : Blk 3 zz Bi [Vi (i : Int)]) (hn : S.sn i = L.length) (hl : L.length ≤ 9) (hv : VLs zz (S.sp i) L) :
 Calls prog 122 #[.pointer (some (Ad Ba 0)), .pointer (some (Ad Bs 0)), .pointer (some (Ad Bi 0))] zz fun e w' => e = .returned (errV (csE C i L)) ∧ Below zz.heap.size zz w' := by
 have hix := (hx.cell (j := 0) rfl).1; have hsv := (hs.cell (st_servo S hi)).1; rw [hn] at hsv; have HAXr := Zab ha.range; have hcs := fun v (h : Below zz.heap.size zz v) => checkServos_any C i L (S.sp i) (S.sc i) hl v (hv.later h)
 have i0 : (0 : Int) ≤ (i : Int) := by omega
 have i1 : (i : Int) < 2 := by omega
 clear ha hs hx hv; generalize csE C i L = ce at *
 go_enter func122, ntmps122
 go_upto_region 1 with fail; refine Cs [4, 5, 6, 7, 8, 9, 3] ?_; refine Cl (x := .tmp 0) 0 4 [] (fun y w _ u hSw => ⟨Zae HAXr.out hSw, rfl⟩) underlying26 Zaw ?_; refine Cq (fun _ h => cell_later h hix) 1 5 [] ?_; refine Cp 2 6 [] ?_; refine Cp 3 7 [2, 1] ?_; refine Cq (fun _ h => cell_later h hsv) 4 8 [3] ?_; refine Cc 5 9 [0, 4] (fun y w h _ => hcs _ h) ?_; refine Cp 6 3 [5] ?_; refine Ce (fun y u1 hB hf => ?_); have HS1 := Zab hB; clear hB hf; go_simp; have hB := HS1.out; clear HS1; generalize u1 = v1 at hB   ⊢; refine Zbd (by assumption) ?_; go_wp2_with fail; go_ret; exact ⟨rfl, hB⟩
theorem sc4_any (hi : i < 2) (ha : Blk 26 zz Ba [Vi (C.a i 0), Vi (C.a i 1), Vi (C.a i 2), Vi (C.a i 3), Vi (C.a i 4), Vi (C.a i 5), Vi (C.a i 6), Vi (C.a i 7), Vi (C.a i 8), Vi (C.a i 9), Vi (C.a i 10), Vi (C.a i 11), .slice (C.p i) (C.al i).length (C.cn i), .slice (C.q i) (C.zl i).length (C.cm i), Vi (C.a i 14)]) (hs : Blk 41 zz Bs (stL S)) (hx : Blk 3 zz Bi [Vi (i : Int)]) (hc : AxC zz C i) :
 Calls prog 124 #[.pointer (some (Ad Ba 0)), .pointer (some (Ad Bs 0)), .pointer (some (Ad Bi 0))] zz fun e w' => e = .returned (errV (chE C i (S.hd i))) ∧ Below zz.heap.size zz w' := by
 have hix := (hx.cell (j := 0) rfl).1; have HHDr := Zab (hs.sub (23 + i * 3) 3); rw [st_hold S hi] at HHDr; have HAXr := Zab ha.range; have hch := fun v (h : Below zz.heap.size zz v) => checkHold_any C i (S.hd i) v (hc.later h)
 have i0 : (0 : Int) ≤ (i : Int) := by omega
 have i1 : (i : Int) < 2 := by omega
 clear ha hs hx hc; generalize chE C i (S.hd i) = ce at *
 unfold hdL at HHDr
 generalize (S.hd i).1 = h0 at *; generalize (S.hd i).2.1 = h1 at *; generalize (S.hd i).2.2 = h2 at *
 go_enter func124, ntmps124
 go_upto_region 1 with fail; refine Cs [4, 5, 6, 7, 8, 9, 3] ?_; refine Cl (x := .tmp 0) 0 4 [] (fun y w _ u hSw => ⟨Zae HAXr.out hSw, rfl⟩) underlying26 Zaw ?_; refine Cq (fun _ h => cell_later h hix) 1 5 [] ?_; refine Cp 2 6 [] ?_; refine Cp 3 7 [2, 1] ?_; refine Cl (x := .tmp 7) 4 8 [3] (fun y w hF u hSw => ⟨Zae HHDr.out hSw, hF.1⟩) underlying38 Zen ?_; refine Cc 5 9 [0, 4] (fun y w h _ => hch _ h) ?_; refine Cp 6 3 [5] ?_; refine Ce (fun y u1 hB hf => ?_); have HS1 := Zab hB; clear hB hf; go_simp; have hB := HS1.out; clear HS1; generalize u1 = v1 at hB   ⊢; refine Zbd (by assumption) ?_; go_wp2_with fail; go_ret; exact ⟨rfl, hB⟩
end
theorem grE_noise {L H N P M R : Int} (h : grE L H N P M R = 0) : 0 ≤ N ∧ N ≤ 1000 := by
 have : grB L H N P M R = true := by
  unfold grE at h
  split at h
  · assumption
  · omega
 have g := grB_true this; exact ⟨g.n0, g.n1⟩
def eAx (a0 a1 a2 a3 a4 a5 a6 a7 a8 a9 a10 a11 a14 : Int) (al zl : List Int) : Nat → Int
 | 0 => rgE a4 a3
 | 1 => Zcc a8 a9
 | 2 => arE a5 a6 a7 a10
 | 3 => grE a0 a1 a2 (a3 + a7) ((a4 - 1) * a5) ((a4 - 1) * a6)
 | 4 => ruE a0 a1 a11 a14 ((a4 - 1) * a5) al zl
 | _ => fmE a8 a2 a0 a1
def eCr (a0 a1 a2 a3 a4 a5 a6 a7 a8 a9 a10 a11 a14 : Int) (al zl : List Int) (b0 b1 b2 b3 b4 b5 b6 b7 b8 b9 b10 b11 b14 : Int) (bl yl : List Int) (c0 c1 : Int) (k : Nat) : Int := if k < 6 then eAx a0 a1 a2 a3 a4 a5 a6 a7 a8 a9 a10 a11 a14 al zl k else if k < 12 then eAx b0 b1 b2 b3 b4 b5 b6 b7 b8 b9 b10 b11 b14 bl yl (k - 6) else Zcc c0 c1
def gCr (k : Nat) : Nat := if k < 12 then [176, 178, 179, 181, 183, 185].getD (k % 6) 0 else 116
def cbCr (B0 B1 B : Nat) (k : Nat) : Array Value := if k < 6 then #[.pointer (some (Ad B0 0))] else if k < 12 then #[.pointer (some (Ad B1 0))] else #[.pointer (some (Ad B 0))]
def AxH (u : World) (B : Nat) (a0 a1 a2 a3 a4 a5 a6 a7 a8 a9 a10 a11 a14 : Int) (p q : Option Addr) (n m cn cm : Nat) : Prop := u.heap[B]? = some (.cells #[Vi a0, Vi a1, Vi a2, Vi a3, Vi a4, Vi a5, Vi a6, Vi a7, Vi a8, Vi a9, Vi a10, Vi a11, .slice p n cn, .slice q m cm, Vi a14] 26 (0, 0))
section
variable {u u' : World} {B : Nat} {a0 a1 a2 a3 a4 a5 a6 a7 a8 a9 a10 a11 a14 : Int} {p q : Option Addr} {n m cn cm : Nat}
theorem AxH.axb (h : AxH u B a0 a1 a2 a3 a4 a5 a6 a7 a8 a9 a10 a11 a14 p q n m cn cm) : AxB u B a0 a1 a2 a3 a4 a5 a6 a7 a8 a9 a10 a11 a14 p q n m cn cm := by
 unfold AxH at h
 refine ⟨?_, ?_, ?_, ?_, ?_, ?_, ?_, ?_, ?_, ?_, ?_, ?_, ?_, ?_, ?_⟩ <;> simp [World.cell?, h]
theorem AxH.lt (h : AxH u B a0 a1 a2 a3 a4 a5 a6 a7 a8 a9 a10 a11 a14 p q n m cn cm) : B < u.heap.size := (Array.getElem?_eq_some_iff.1 h).1
theorem AxH.later (h : AxH u B a0 a1 a2 a3 a4 a5 a6 a7 a8 a9 a10 a11 a14 p q n m cn cm) (hb : Below u.heap.size u u') : AxH u' B a0 a1 a2 a3 a4 a5 a6 a7 a8 a9 a10 a11 a14 p q n m cn cm := (hb.block B h.lt).trans h
theorem AxH.grown {base k : Nat} {v : Value} {xs : List Value} (h : AxH u B a0 a1 a2 a3 a4 a5 a6 a7 a8 a9 a10 a11 a14 p q n m cn cm) (ho : u.ownsRow base 142 1 v k xs) (hg : u.grownBy u' v.ownBlock) : AxH u' B a0 a1 a2 a3 a4 a5 a6 a7 a8 a9 a10 a11 a14 p q n m cn cm := by
 refine (hg.block B h.lt ?_).trans h
 rcases ownsRow_ne_a ho h (fun cur e => absurd (Obj.cells.inj e).2.1 (by decide)) with e | e
 · rw [e]; simp
 · exact fun e' => e e'.symm
end
def CrH (u : World) (B : Nat) (cs : List Value) : Prop := u.heap[B]? = some (.cells cs.toArray 29 (0, 0))
theorem CrH.lt {u : World} {B : Nat} {cs : List Value} (h : CrH u B cs) : B < u.heap.size := (Array.getElem?_eq_some_iff.1 h).1
theorem CrH.later {u u' : World} {B : Nat} {cs : List Value} (h : CrH u B cs) (hb : Below u.heap.size u u') : CrH u' B cs := (hb.block B h.lt).trans h
theorem CrH.range {u : World} {B : Nat} {cs : List Value} (h : CrH u B cs) : u.rangeAt B 0 cs := fun j v hv => by
 unfold CrH at h
 simp only [World.cell?, h, Nat.zero_add]; simp only [Option.isSome_none, Bool.false_eq_true, if_false]
 simpa using hv
theorem CrH.grown {u u' : World} {B base k : Nat} {v : Value} {xs cs : List Value} (h : CrH u B cs) (ho : u.ownsRow base 142 1 v k xs) (hg : u.grownBy u' v.ownBlock) : CrH u' B cs := by
 refine (hg.block B h.lt ?_).trans h
 rcases ownsRow_ne_a ho h (fun cur e => absurd (Obj.cells.inj e).2.1 (by decide)) with e | e
 · rw [e]; simp
 · exact fun e' => e e'.symm
theorem func_one (l : List Value) (h : ∀ v ∈ l, ∃ g cb, v = .func (.func g) #[] cb) : ∀ v ∈ l, v.oneCell' = true := fun v hv => by obtain ⟨g, cb, rfl⟩ := h v hv; rfl
theorem Zhw (a0 a1 a2 a3 a4 a5 a6 a7 a8 a9 a10 a11 a14 : Int) (p q : Option Addr) (n m cn cm : Nat) (w : World) : Calls prog 115 #[.agg #[Vi a0, Vi a1, Vi a2, Vi a3, Vi a4, Vi a5, Vi a6, Vi a7, Vi a8, Vi a9, Vi a10, Vi a11, .slice p n cn, .slice q m cm, Vi a14]] w fun e w' => ∃ B0 G, e = .returned (.slice (some (Ad G 0)) 6 6) ∧ AxH w' B0 a0 a1 a2 a3 a4 a5 a6 a7 a8 a9 a10 a11 a14 p q n m cn cm ∧ (∀ j v, ([.func (.func 176) #[] #[.pointer (some (Ad B0 0))], .func (.func 178) #[] #[.pointer (some (Ad B0 0))], .func (.func 179) #[] #[.pointer (some (Ad B0 0))], .func (.func 181) #[] #[.pointer (some (Ad B0 0))], .func (.func 183) #[] #[.pointer (some (Ad B0 0))], .func (.func 185) #[] #[.pointer (some (Ad B0 0))]] : List Value)[j]? = some v → w'.cell? ((⟨G, 0, none⟩ : Addr).add j) = some v) ∧ Below w.heap.size w w' := by
 refine (axisChecks_any a0 a1 a2 a3 a4 a5 a6 a7 a8 a9 a10 a11 a14 p q n m cn cm w).mono ?_; rintro e w' ⟨rfl, rfl⟩; refine ⟨w.heap.size, w.heap.size + 1, rfl, ?_, ?_, Zac (Zaa _ _) (Zaa _ _)⟩
 · exact (Below.heap_alloc _ _ _ (by simp)).trans (World.alloc_heap_new w _)
 · intro j v hj; rw [Addr.add_lit]; have hh := World.alloc_heap_new (w.alloc (.cells #[Vi a0, Vi a1, Vi a2, Vi a3, Vi a4, Vi a5, Vi a6, Vi a7, Vi a8, Vi a9, Vi a10, Vi a11, .slice p n cn, .slice q m cm, Vi a14] 26)) (.cells #[.func (.func 176) #[] #[.pointer (some (Ad w.heap.size 0))], .func (.func 178) #[] #[.pointer (some (Ad w.heap.size 0))], .func (.func 179) #[] #[.pointer (some (Ad w.heap.size 0))], .func (.func 181) #[] #[.pointer (some (Ad w.heap.size 0))], .func (.func 183) #[] #[.pointer (some (Ad w.heap.size 0))], .func (.func 185) #[] #[.pointer (some (Ad w.heap.size 0))]] 142); rw [World.size_alloc] at hh; simp only [World.cell?, hh, Nat.zero_add]; simp only [Option.isSome_none, Bool.false_eq_true, if_false]
   simpa using hj
theorem nilf_own (Bs : Nat) (w : World) : w.ownsRow Bs 142 1 (.slice none 0 0) 0 [] := ⟨rfl, .inl ⟨rfl, rfl⟩⟩
theorem infoF : (prog.info? 142).map (fun i => (i.zero, i.size, i.bytes)) = some (some Value.nilFunc, 1, 8) := by kernel_rfl
theorem idx_a (y0 y1 y2 y3 y4 y5 y6 y7 y8 y9 y10 y11 y12 y13 y14 y15 y16 y17 y18 y19 y20 y21 y22 y23 y24 y25 y26 y27 y28 y29 : Value) (w : World) : (Instr.index 27 (.agg #[y0, y1, y2, y3, y4, y5, y6, y7, y8, y9, y10, y11, y12, y13, y14, y15, y16, y17, y18, y19, y20, y21, y22, y23, y24, y25, y26, y27, y28, y29]) (Vi 0)).run prog w = .ok (.agg #[y0, y1, y2, y3, y4, y5, y6, y7, y8, y9, y10, y11, y12, y13, y14]) w := by kernel_rfl
theorem idx_b (y0 y1 y2 y3 y4 y5 y6 y7 y8 y9 y10 y11 y12 y13 y14 y15 y16 y17 y18 y19 y20 y21 y22 y23 y24 y25 y26 y27 y28 y29 : Value) (w : World) : (Instr.index 27 (.agg #[y0, y1, y2, y3, y4, y5, y6, y7, y8, y9, y10, y11, y12, y13, y14, y15, y16, y17, y18, y19, y20, y21, y22, y23, y24, y25, y26, y27, y28, y29]) (Vi 1)).run prog w = .ok (.agg #[y15, y16, y17, y18, y19, y20, y21, y22, y23, y24, y25, y26, y27, y28, y29]) w := by kernel_rfl
theorem Zhi {u : World} {B n : Nat} {cs : List Value} (h : u.rangeAt B 0 cs) (k : Nat) : u.rangeAt B k ((cs.drop k).take n) := fun j v hv => by
 rw [List.getElem?_take] at hv
 split at hv
 · have := h (k + j) v (by simpa using hv)
   simpa using this
 · cases hv
theorem closures_say (a0 a1 a2 a3 a4 a5 a6 a7 a8 a9 a10 a11 a14 : Int) (p q : Option Addr) (al zl : List Int) (cn cm : Nat) (b0 b1 b2 b3 b4 b5 b6 b7 b8 b9 b10 b11 b14 : Int) (r s : Option Addr) (bl yl : List Int) (dn dm : Nat) (c0 c1 : Int) (B0 B1 B : Nat) (w x : World) (hbw : Below w.heap.size w x) (hA : AxH x B0 a0 a1 a2 a3 a4 a5 a6 a7 a8 a9 a10 a11 a14 p q al.length zl.length cn cm) (hB : AxH x B1 b0 b1 b2 b3 b4 b5 b6 b7 b8 b9 b10 b11 b14 r s bl.length yl.length dn dm) (hC : CrH x B [Vi a0, Vi a1, Vi a2, Vi a3, Vi a4, Vi a5, Vi a6, Vi a7, Vi a8, Vi a9, Vi a10, Vi a11, .slice p al.length cn, .slice q zl.length cm, Vi a14, Vi b0, Vi b1, Vi b2, Vi b3, Vi b4, Vi b5, Vi b6, Vi b7, Vi b8, Vi b9, Vi b10, Vi b11, .slice r bl.length dn, .slice s yl.length dm, Vi b14, Vi c0, Vi c1])
 (hla : al.length ≤ 9223372036854775807 ∧ zl.length ≤ 9223372036854775807 ∧ al.length ≤ cn ∧ Lst w p al ∧ Lst w q zl) (hlb : bl.length ≤ 9223372036854775807 ∧ yl.length ≤ 9223372036854775807 ∧ bl.length ≤ dn ∧ Lst w r bl ∧ Lst w s yl) :
 ∀ k, k < 13 → (∀ j, j < k → eCr a0 a1 a2 a3 a4 a5 a6 a7 a8 a9 a10 a11 a14 al zl b0 b1 b2 b3 b4 b5 b6 b7 b8 b9 b10 b11 b14 bl yl c0 c1 j = 0) → ∀ u, Below x.heap.size x u → Calls prog (gCr k) (cbCr B0 B1 B k) u fun r u' => r = .returned (errV (eCr a0 a1 a2 a3 a4 a5 a6 a7 a8 a9 a10 a11 a14 al zl b0 b1 b2 b3 b4 b5 b6 b7 b8 b9 b10 b11 b14 bl yl c0 c1 k)) ∧ Below u.heap.size u u' := by
 have HBW := Zab hbw; have HLA := Zab hla; have HLB := Zab hlb; have HXa : Hid (∀ u, Below x.heap.size x u → AxB u B0 a0 a1 a2 a3 a4 a5 a6 a7 a8 a9 a10 a11 a14 p q al.length zl.length cn cm) := Zab (fun u hu => (hA.later hu).axb); have HXb : Hid (∀ u, Below x.heap.size x u → AxB u B1 b0 b1 b2 b3 b4 b5 b6 b7 b8 b9 b10 b11 b14 r s bl.length yl.length dn dm) := Zab (fun u hu => (hB.later hu).axb); intro k hk hz u hu
 rcases (show k = 0 ∨ k = 1 ∨ k = 2 ∨ k = 3 ∨ k = 4 ∨ k = 5 ∨ k = 6 ∨ k = 7 ∨ k = 8 ∨ k = 9 ∨ k = 10 ∨ k = 11 ∨ k = 12 by omega) with rfl | rfl | rfl | rfl | rfl | rfl | rfl | rfl | rfl | rfl | rfl | rfl | rfl
 · exact clo1_any a0 a1 a2 a3 a4 a5 a6 a7 a8 a9 a10 a11 a14 p q al.length zl.length cn cm _ u (HXa.out u hu)
 · exact clo2_any a0 a1 a2 a3 a4 a5 a6 a7 a8 a9 a10 a11 a14 p q al.length zl.length cn cm _ u (HXa.out u hu)
 · exact clo3_any a0 a1 a2 a3 a4 a5 a6 a7 a8 a9 a10 a11 a14 p q al.length zl.length cn cm _ u (HXa.out u hu)
 · have hz := hz; have z0 := Zdd (hz 0 (by omega)); have z2 := Zas (Zeu (hz 2 (by omega))); exact clo4_any a0 a1 a2 a3 a4 a5 a6 a7 a8 a9 a10 a11 a14 p q al.length zl.length cn cm z0.1 z2.1 z0.2 ⟨z2.2.2.1.1, by omega⟩ ⟨z2.2.1.1, by omega⟩ _ u (HXa.out u hu)
 · have hz := hz; have z0 := Zdd (hz 0 (by omega)); have z2 := Zas (Zeu (hz 2 (by omega))); exact clo5_any a0 a1 a2 a3 a4 a5 a6 a7 a8 a9 a10 a11 a14 p q al zl cn cm z0.1 z2.1 z0.2 ⟨z2.2.2.1.1, by omega⟩ ⟨z2.2.1.1, by omega⟩ HLA.out.1 HLA.out.2.1 HLA.out.2.2.1 _ u (HXa.out u hu) (HLA.out.2.2.2.1.later (HBW.out.trans (hu.mono HBW.out.size))) (HLA.out.2.2.2.2.later (HBW.out.trans (hu.mono HBW.out.size)))
 · have hz := hz; have z3 := grE_noise (hz 3 (by omega)); exact clo6_any a0 a1 a2 a3 a4 a5 a6 a7 a8 a9 a10 a11 a14 p q al.length zl.length cn cm z3 _ u (HXa.out u hu)
 · exact clo1_any b0 b1 b2 b3 b4 b5 b6 b7 b8 b9 b10 b11 b14 r s bl.length yl.length dn dm _ u (HXb.out u hu)
 · exact clo2_any b0 b1 b2 b3 b4 b5 b6 b7 b8 b9 b10 b11 b14 r s bl.length yl.length dn dm _ u (HXb.out u hu)
 · exact clo3_any b0 b1 b2 b3 b4 b5 b6 b7 b8 b9 b10 b11 b14 r s bl.length yl.length dn dm _ u (HXb.out u hu)
 · have hz := hz; have z0 := Zdd (hz 6 (by omega)); have z2 := Zas (Zeu (hz 8 (by omega))); exact clo4_any b0 b1 b2 b3 b4 b5 b6 b7 b8 b9 b10 b11 b14 r s bl.length yl.length dn dm z0.1 z2.1 z0.2 ⟨z2.2.2.1.1, by omega⟩ ⟨z2.2.1.1, by omega⟩ _ u (HXb.out u hu)
 · have hz := hz; have z0 := Zdd (hz 6 (by omega)); have z2 := Zas (Zeu (hz 8 (by omega))); exact clo5_any b0 b1 b2 b3 b4 b5 b6 b7 b8 b9 b10 b11 b14 r s bl yl dn dm z0.1 z2.1 z0.2 ⟨z2.2.2.1.1, by omega⟩ ⟨z2.2.1.1, by omega⟩ HLB.out.1 HLB.out.2.1 HLB.out.2.2.1 _ u (HXb.out u hu) (HLB.out.2.2.2.1.later (HBW.out.trans (hu.mono HBW.out.size))) (HLB.out.2.2.2.2.later (HBW.out.trans (hu.mono HBW.out.size)))
 · have hz := hz; have z3 := grE_noise (hz 9 (by omega)); exact clo6_any b0 b1 b2 b3 b4 b5 b6 b7 b8 b9 b10 b11 b14 r s bl.length yl.length dn dm z3 _ u (HXb.out u hu)
 · exact check1_any (Vi a0) (Vi a1) (Vi a2) (Vi a3) (Vi a4) (Vi a5) (Vi a6) (Vi a7) (Vi a8) (Vi a9) (Vi a10) (Vi a11) (.slice p al.length cn) (.slice q zl.length cm) (Vi a14) (Vi b0) (Vi b1) (Vi b2) (Vi b3) (Vi b4) (Vi b5) (Vi b6) (Vi b7) (Vi b8) (Vi b9) (Vi b10) (Vi b11) (.slice r bl.length dn) (.slice s yl.length dm) (Vi b14) c0 c1 B u (rangeAt_later hC.range hu)
theorem Zcv {u u' : World} {base e size n : Nat} {v : Value} {xs : List Value} (h : u.ownsRow base e size v n xs) (hb : Below u.heap.size u u') : u'.ownsRow base e size v n xs := by
 obtain ⟨hl, h | ⟨g, cap, cur, hv, hg, hh, hr⟩⟩ := h
 · exact ⟨hl, .inl h⟩
 · exact ⟨hl, .inr ⟨g, cap, cur, hv, hg, (hb.block g (Array.getElem?_eq_some_iff.1 hh).1).trans hh, hr⟩⟩
theorem own_lt {u : World} {base e size n : Nat} {v : Value} {xs : List Value} (h : u.ownsRow base e size v n xs) : ∀ k, v.ownBlock = some k → base ≤ k := by
 obtain ⟨hl, ⟨rfl, _⟩ | ⟨g, cap, cur, rfl, hg, _⟩⟩ := h
 · intro k e; cases e
 · intro k e; cases e; exact hg
theorem lst13 (B0 B1 B k : Nat) (hk : k < 13) : (([.func (.func 176) #[] #[.pointer (some (Ad B0 0))], .func (.func 178) #[] #[.pointer (some (Ad B0 0))], .func (.func 179) #[] #[.pointer (some (Ad B0 0))], .func (.func 181) #[] #[.pointer (some (Ad B0 0))], .func (.func 183) #[] #[.pointer (some (Ad B0 0))], .func (.func 185) #[] #[.pointer (some (Ad B0 0))]] ++ [.func (.func 176) #[] #[.pointer (some (Ad B1 0))], .func (.func 178) #[] #[.pointer (some (Ad B1 0))], .func (.func 179) #[] #[.pointer (some (Ad B1 0))], .func (.func 181) #[] #[.pointer (some (Ad B1 0))], .func (.func 183) #[] #[.pointer (some (Ad B1 0))], .func (.func 185) #[] #[.pointer (some (Ad B1 0))]] ++ [.func (.func 116) #[] #[.pointer (some (Ad B 0))]]) : List Value)[k]? = some (.func (.func (gCr k)) #[] (cbCr B0 B1 B k)) := by
 rcases (show k = 0 ∨ k = 1 ∨ k = 2 ∨ k = 3 ∨ k = 4 ∨ k = 5 ∨ k = 6 ∨ k = 7 ∨ k = 8 ∨ k = 9 ∨ k = 10 ∨ k = 11 ∨ k = 12 by omega) with rfl | rfl | rfl | rfl | rfl | rfl | rfl | rfl | rfl | rfl | rfl | rfl | rfl <;> rfl
theorem hent13 (k : Nat) (hk : k < 13) (args : Array Value) (w : World) : (callFunc (gCr k) args).run prog w = .ok (.enter (gCr k) args) w := by
 rcases (show k = 0 ∨ k = 1 ∨ k = 2 ∨ k = 3 ∨ k = 4 ∨ k = 5 ∨ k = 6 ∨ k = 7 ∨ k = 8 ∨ k = 9 ∨ k = 10 ∨ k = 11 ∨ k = 12 by omega) with rfl | rfl | rfl | rfl | rfl | rfl | rfl | rfl | rfl | rfl | rfl | rfl | rfl <;> kernel_rfl
theorem own13 {u : World} {base : Nat} {v : Value} {B0 B1 B : Nat} (h : u.ownsRow base 142 1 v 13 ([.func (.func 176) #[] #[.pointer (some (Ad B0 0))], .func (.func 178) #[] #[.pointer (some (Ad B0 0))], .func (.func 179) #[] #[.pointer (some (Ad B0 0))], .func (.func 181) #[] #[.pointer (some (Ad B0 0))], .func (.func 183) #[] #[.pointer (some (Ad B0 0))], .func (.func 185) #[] #[.pointer (some (Ad B0 0))]] ++ [.func (.func 176) #[] #[.pointer (some (Ad B1 0))], .func (.func 178) #[] #[.pointer (some (Ad B1 0))], .func (.func 179) #[] #[.pointer (some (Ad B1 0))], .func (.func 181) #[] #[.pointer (some (Ad B1 0))], .func (.func 183) #[] #[.pointer (some (Ad B1 0))], .func (.func 185) #[] #[.pointer (some (Ad B1 0))]] ++ [.func (.func 116) #[] #[.pointer (some (Ad B 0))]])) : ∃ g cap, v = .slice (some (Ad g 0)) 13 cap ∧ Clos u (some (Ad g 0)) 13 gCr (cbCr B0 B1 B) := by
 obtain ⟨hl, ⟨_, h⟩ | ⟨g, cap, cur, rfl, hg, hh, h1, h2, h3, h4⟩⟩ := h
 · cases h
 · refine ⟨g, cap, rfl, .inr ⟨g, 0, rfl, fun k hk => ?_⟩⟩; have := lst13 B0 B1 B k hk; rw [← h4, List.getElem?_take] at this; simp only [World.cell?, hh, Nat.zero_add]; simp only [Option.isSome_none, Bool.false_eq_true, if_false]; rw [if_pos (by omega)] at this
   simpa using this
theorem infoF' : ∃ i, prog.info? 142 = some i ∧ i.zero = some Value.nilFunc ∧ i.size = 1 ∧ i.bytes = 8 := by
 have h := infoF
 cases hh : prog.info? 142 with
 | none => rw [hh] at h; cases h
 | some i =>
  rw [hh] at h; simp only [Option.map_some, Option.some.injEq, Prod.mk.injEq] at h; exact ⟨i, rfl, h.1, h.2.1, h.2.2⟩
theorem Zgj (a0 a1 a2 a3 a4 a5 a6 a7 a8 a9 a10 a11 a14 : Int) (p q : Option Addr) (al zl : List Int) (cn cm : Nat) (b0 b1 b2 b3 b4 b5 b6 b7 b8 b9 b10 b11 b14 : Int) (r s : Option Addr) (bl yl : List Int) (dn dm : Nat) (c0 c1 : Int) (w : World) (hg : GV w)
 (hla : al.length ≤ 9223372036854775807 ∧ zl.length ≤ 9223372036854775807 ∧ al.length ≤ cn ∧ Lst w p al ∧ Lst w q zl) (hlb : bl.length ≤ 9223372036854775807 ∧ yl.length ≤ 9223372036854775807 ∧ bl.length ≤ dn ∧ Lst w r bl ∧ Lst w s yl) :
 Calls prog 64 #[.agg #[Vi a0, Vi a1, Vi a2, Vi a3, Vi a4, Vi a5, Vi a6, Vi a7, Vi a8, Vi a9, Vi a10, Vi a11, .slice p al.length cn, .slice q zl.length cm, Vi a14, Vi b0, Vi b1, Vi b2, Vi b3, Vi b4, Vi b5, Vi b6, Vi b7, Vi b8, Vi b9, Vi b10, Vi b11, .slice r bl.length dn, .slice s yl.length dm, Vi b14, Vi c0, Vi c1]] w fun e w' => e = .returned (errV (fstN (eCr a0 a1 a2 a3 a4 a5 a6 a7 a8 a9 a10 a11 a14 al zl b0 b1 b2 b3 b4 b5 b6 b7 b8 b9 b10 b11 b14 bl yl c0 c1) 13)) ∧ Below w.heap.size w w' := by
 have HG := Zab hg; have HLA := Zab hla; have HLB := Zab hlb; have HC0 : Hid (CrH (w.alloc (.cells #[Vi a0, Vi a1, Vi a2, Vi a3, Vi a4, Vi a5, Vi a6, Vi a7, Vi a8, Vi a9, Vi a10, Vi a11, .slice p al.length cn, .slice q zl.length cm, Vi a14, Vi b0, Vi b1, Vi b2, Vi b3, Vi b4, Vi b5, Vi b6, Vi b7, Vi b8, Vi b9, Vi b10, Vi b11, .slice r bl.length dn, .slice s yl.length dm, Vi b14, Vi c0, Vi c1] 29)) w.heap.size [Vi a0, Vi a1, Vi a2, Vi a3, Vi a4, Vi a5, Vi a6, Vi a7, Vi a8, Vi a9, Vi a10, Vi a11, .slice p al.length cn, .slice q zl.length cm, Vi a14, Vi b0, Vi b1, Vi b2, Vi b3, Vi b4, Vi b5, Vi b6, Vi b7, Vi b8, Vi b9, Vi b10, Vi b11, .slice r bl.length dn, .slice s yl.length dm, Vi b14, Vi c0, Vi c1]) := Zab (World.alloc_heap_new w _); have HR : Hid ((w.alloc (.cells #[Vi a0, Vi a1, Vi a2, Vi a3, Vi a4, Vi a5, Vi a6, Vi a7, Vi a8, Vi a9, Vi a10, Vi a11, .slice p al.length cn, .slice q zl.length cm, Vi a14, Vi b0, Vi b1, Vi b2, Vi b3, Vi b4, Vi b5, Vi b6, Vi b7, Vi b8, Vi b9, Vi b10, Vi b11, .slice r bl.length dn, .slice s yl.length dm, Vi b14, Vi c0, Vi c1] 29)).rangeAt w.heap.size 0 [Vi a0, Vi a1, Vi a2, Vi a3, Vi a4, Vi a5, Vi a6, Vi a7, Vi a8, Vi a9, Vi a10, Vi a11, .slice p al.length cn, .slice q zl.length cm, Vi a14, Vi b0, Vi b1, Vi b2, Vi b3, Vi b4, Vi b5, Vi b6, Vi b7, Vi b8, Vi b9, Vi b10, Vi b11, .slice r bl.length dn, .slice s yl.length dm, Vi b14]) := Zab (Zhi (n := 30) HC0.out.range 0); have HB0 : Hid (Below w.heap.size w (w.alloc (.cells #[Vi a0, Vi a1, Vi a2, Vi a3, Vi a4, Vi a5, Vi a6, Vi a7, Vi a8, Vi a9, Vi a10, Vi a11, .slice p al.length cn, .slice q zl.length cm, Vi a14, Vi b0, Vi b1, Vi b2, Vi b3, Vi b4, Vi b5, Vi b6, Vi b7, Vi b8, Vi b9, Vi b10, Vi b11, .slice r bl.length dn, .slice s yl.length dm, Vi b14, Vi c0, Vi c1] 29))) := Zab (Zaa _ _); have hia := idx_a (Vi a0) (Vi a1) (Vi a2) (Vi a3) (Vi a4) (Vi a5) (Vi a6) (Vi a7) (Vi a8) (Vi a9) (Vi a10) (Vi a11) (.slice p al.length cn) (.slice q zl.length cm) (Vi a14) (Vi b0) (Vi b1) (Vi b2) (Vi b3) (Vi b4) (Vi b5) (Vi b6) (Vi b7) (Vi b8) (Vi b9) (Vi b10) (Vi b11) (.slice r bl.length dn) (.slice s yl.length dm) (Vi b14); have hib := idx_b (Vi a0) (Vi a1) (Vi a2) (Vi a3) (Vi a4) (Vi a5) (Vi a6) (Vi a7) (Vi a8) (Vi a9) (Vi a10) (Vi a11) (.slice p al.length cn) (.slice q zl.length cm) (Vi a14) (Vi b0) (Vi b1) (Vi b2) (Vi b3) (Vi b4) (Vi b5) (Vi b6) (Vi b7) (Vi b8) (Vi b9) (Vi b10) (Vi b11) (.slice r bl.length dn) (.slice s yl.length dm) (Vi b14)
 have HCS := Zab (closures_say a0 a1 a2 a3 a4 a5 a6 a7 a8 a9 a10 a11 a14 p q al zl cn cm b0 b1 b2 b3 b4 b5 b6 b7 b8 b9 b10 b11 b14 r s bl yl dn dm c0 c1); obtain ⟨i0, hi, hz0, hz1, hz2⟩ := infoF'; clear hg hla hlb
 go_enter func64, ntmps64
 go_wp2_with (first
  | (refine Lq 27 _ rfl ?_; refine wpList_load_mid rfl 27 (.tmp 6) rfl w.heap.size 0 rfl [Vi a0, Vi a1, Vi a2, Vi a3, Vi a4, Vi a5, Vi a6, Vi a7, Vi a8, Vi a9, Vi a10, Vi a11, .slice p al.length cn, .slice q zl.length cm, Vi a14, Vi b0, Vi b1, Vi b2, Vi b3, Vi b4, Vi b5, Vi b6, Vi b7, Vi b8, Vi b9, Vi b10, Vi b11, .slice r bl.length dn, .slice s yl.length dm, Vi b14] _ HR.out underlying27 rfl Zgq ?_))
 refine wp_loop_rounds 3 ?_; rw [rounds_succ]
 go_wp2_with (first
  | (go_at_call 115; refine (Zhw a0 a1 a2 a3 a4 a5 a6 a7 a8 a9 a10 a11 a14 p q al.length zl.length cn cm _).mono ?_; rintro e w1 ⟨B0, G0, rfl, hA, hL0, hb1⟩; have HA1 := Zab hA; have HL0 := Zab hL0; have HB1 := Zab (Zac (Zac HB0.out (Zaa _ _)) hb1); have HC1 := Zab ((HC0.out.later (Zaa _ _)).later hb1); clear hA hL0 hb1)
  | (at_builtin; refine wpList_append_own _ rfl _ _ 149 rfl w.heap.size 142 i0 Value.nilFunc 1 8 underlying149 hi hz0 hz1 hz2 rfl (by decide) _ _ _ rfl (nilf_own _ _) ⟨G0, 0, none⟩ 6 6 [.func (.func 176) #[] #[.pointer (some (Ad B0 0))], .func (.func 178) #[] #[.pointer (some (Ad B0 0))], .func (.func 179) #[] #[.pointer (some (Ad B0 0))], .func (.func 181) #[] #[.pointer (some (Ad B0 0))], .func (.func 183) #[] #[.pointer (some (Ad B0 0))], .func (.func 185) #[] #[.pointer (some (Ad B0 0))]] rfl rfl HL0.out (func_one _ (by simp)) (by unfold maxLen; omega) (by omega) HB1.out.size ?_; intro v1 w2 ho1 hg1 hn1; have HO1 := Zab ho1; have HA2 := Zab (HA1.out.grown (nilf_own w.heap.size w1) hg1); have HC2 := Zab (HC1.out.grown (nilf_own w.heap.size w1) hg1); have HB2 := Zab (HB1.out.grown hg1 HB1.out.size (own_lt (nilf_own w.heap.size w1))); clear ho1 hg1 hn1))
 rw [rounds_succ]
 go_wp2_with (first
  | (go_at_call 115; refine (Zhw b0 b1 b2 b3 b4 b5 b6 b7 b8 b9 b10 b11 b14 r s bl.length yl.length dn dm _).mono ?_; rintro e w3 ⟨B1, G1, rfl, hA, hL0, hb3⟩; have HD3 := Zab hA; have HL1 := Zab hL0; have HB3 := Zab (Zac (Zac HB2.out (Zaa _ _)) hb3); have HC3 := Zab ((HC2.out.later (Zaa _ _)).later hb3); have HA3 := Zab ((HA2.out.later (Zaa _ _)).later hb3); have HO3 := Zab (Zcv (Zcv HO1.out (Zaa _ _)) hb3); clear hA hL0 hb3)
  | (at_builtin; refine wpList_append_own _ rfl _ _ 149 rfl w.heap.size 142 i0 Value.nilFunc 1 8 underlying149 hi hz0 hz1 hz2 rfl (by decide) _ _ _ rfl (HO3.out) ⟨G1, 0, none⟩ 6 6 [.func (.func 176) #[] #[.pointer (some (Ad B1 0))], .func (.func 178) #[] #[.pointer (some (Ad B1 0))], .func (.func 179) #[] #[.pointer (some (Ad B1 0))], .func (.func 181) #[] #[.pointer (some (Ad B1 0))], .func (.func 183) #[] #[.pointer (some (Ad B1 0))], .func (.func 185) #[] #[.pointer (some (Ad B1 0))]] rfl rfl HL1.out (func_one _ (by simp)) (by unfold maxLen; omega) (by omega) HB3.out.size ?_; intro v2 w4 ho4 hg4 hn4; have HO4 := Zab ho4; have HA4 := Zab (HA3.out.grown HO3.out hg4); have HD4 := Zab (HD3.out.grown HO3.out hg4); have HC4 := Zab (HC3.out.grown HO3.out hg4); have HB4 := Zab (HB3.out.grown hg4 HB3.out.size (own_lt HO3.out)); clear ho4 hg4 hn4))
 rw [rounds_succ]
 go_wp2_with (first
  | (at_builtin; refine wpList_append_own _ rfl _ _ 149 rfl w.heap.size 142 i0 Value.nilFunc 1 8 underlying149 hi hz0 hz1 hz2 rfl (by decide) _ _ _ rfl (Zcv HO4.out (Zaa _ _)) ⟨w4.heap.size, 0, none⟩ 1 1 [.func (.func 116) #[] #[.pointer (some (Ad w.heap.size 0))]] rfl rfl (cell_one_new _ _ _) (func_one _ (by simp)) (by unfold maxLen; omega) (by omega) (Zac HB4.out (Zaa _ _)).size ?_; intro v3 w6 ho6 hg6 hn6; have HA6 := Zab ((HA4.out.later (Zaa _ _)).grown (Zcv HO4.out (Zaa _ _)) hg6); have HD6 := Zab ((HD4.out.later (Zaa _ _)).grown (Zcv HO4.out (Zaa _ _)) hg6); have HC6 := Zab ((HC4.out.later (Zaa _ _)).grown (Zcv HO4.out (Zaa _ _)) hg6); have HB6 := Zab ((Zac HB4.out (Zaa _ _)).grown hg6 (Zac HB4.out (Zaa _ _)).size (own_lt HO4.out)); obtain ⟨g9, cap9, rfl, hcl9⟩ := own13 ho6; have HCL := Zab hcl9; clear ho6 hg6 hn6 hcl9)
  | (go_at_call 57; refine Sb (Zgi (some (Ad g9 0)) 13 cap9 gCr (cbCr B0 B1 w.heap.size) (eCr a0 a1 a2 a3 a4 a5 a6 a7 a8 a9 a10 a11 a14 al zl b0 b1 b2 b3 b4 b5 b6 b7 b8 b9 b10 b11 b14 bl yl c0 c1) (by decide) w6 HCL.out (HG.out.later HB6.out) hent13 (HCS.out B0 B1 w.heap.size w w6 HB6.out HA6.out HD6.out HC6.out HLA.out HLB.out)) fun w7 hb7 => ?_))
 go_ret; exact ⟨rfl, Zac HB6.out hb7⟩
end Go.Proofs.YtnfdfiholcelaaaGreatDoor
