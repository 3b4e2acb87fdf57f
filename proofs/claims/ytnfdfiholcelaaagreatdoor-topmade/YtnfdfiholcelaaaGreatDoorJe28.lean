
import Derived.Test.YtnfdfiholcelaaaGreatDoorJe00
import Derived.Test.YtnfdfiholcelaaaGreatDoorJe05
import Derived.Test.YtnfdfiholcelaaaGreatDoorJe07
import Derived.Test.YtnfdfiholcelaaaGreatDoorJe27
set_option maxRecDepth 100000
set_option maxHeartbeats 20000000
namespace Go.Proofs.YtnfdfiholcelaaaGreatDoor
open Go.RowKit Plain Tryz
def mvX (p : Nat → Int) : Nat → Int
 | 0 => 0
 | k + 1 => mvX p k + p k
def mvA (at' : Nat → Nat → Int) (i : Nat) (p : Nat → Int) (k : Nat) : Nat → Nat → Int := upd at' i (fun j => if j < k then p j else at' i j)
theorem fl_setX (C : CR) (pf : Option Addr) (nf cf : Nat) (S : FS) (now : Int) (x : Nat → Int) (at' : Nat → Nat → Int) {i : Nat} (hi : i < 2) (v : Int) : (flL C pf nf cf S now x at').set (64 + i) (Vi v) = flL C pf nf cf S now (upd x i v) at' := by
 rcases (show i = 0 ∨ i = 1 by omega) with rfl | rfl <;> rfl
theorem fl_setA (C : CR) (pf : Option Addr) (nf cf : Nat) (S : FS) (now : Int) (x : Nat → Int) (at' : Nat → Nat → Int) {i k : Nat} (hi : i < 2) (hk : k < 4) (v : Int) : (flL C pf nf cf S now x at').set (66 + i * 4 + k) (Vi v) = flL C pf nf cf S now x (upd at' i (upd (at' i) k v)) := by
 rcases (show i = 0 ∨ i = 1 by omega) with rfl | rfl <;> rcases (show k = 0 ∨ k = 1 ∨ k = 2 ∨ k = 3 by omega) with rfl | rfl | rfl | rfl <;> rfl
theorem fl_su (C : CR) (pf : Option Addr) (nf cf : Nat) (S : FS) (now : Int) (x : Nat → Int) (at' : Nat → Nat → Int) {i : Nat} (hi : i < 2) : (flL C pf nf cf S now x at')[i * 15 + 4]? = some (Vi (C.a i 4)) := by
 rcases (show i = 0 ∨ i = 1 by omega) with rfl | rfl <;> rfl
theorem mvA_step (at' : Nat → Nat → Int) (i : Nat) (p : Nat → Int) (k : Nat) : upd (mvA at' i p k) i (upd (mvA at' i p k i) k (p k)) = mvA at' i p (k + 1) := by
 funext j r
 unfold mvA upd
 by_cases h : j = i
 · simp only [h, if_true]
   by_cases h1 : r = k
   · subst h1; simp
   · by_cases h2 : r < k
     · rw [if_neg h1, if_pos h2, if_pos (by omega)]
     · rw [if_neg h1, if_neg h2, if_neg (by omega)]
 · simp only [h, if_false]
theorem mvA_zero (at' : Nat → Nat → Int) (i : Nat) (p : Nat → Int) : mvA at' i p 0 = at' := by
 funext j r
 unfold mvA upd
 by_cases h : j = i
 · subst h; simp
 · simp [h]
theorem updx_same (x : Nat → Int) (i : Nat) : upd x i (x i + 0) = x := by
 funext j; unfold upd; by_cases h : j = i
 · subst h; simp
 · simp [h]
theorem mvX_bd {p : Nat → Int} (h : ∀ k, -300000 ≤ p k ∧ p k ≤ 300000) : ∀ k : Nat, -300000 * (k : Int) ≤ mvX p k ∧ mvX p k ≤ 300000 * (k : Int)
 | 0 => by simp [mvX]
 | k + 1 => by
  have a := mvX_bd h k; have b := h k; rw [mvX]; omega
def Oth (w0 u : World) (B : Nat) : Prop := w0.heap.size ≤ u.heap.size ∧ u.os = w0.os ∧ u.tape = w0.tape ∧ u.output = w0.output ∧ ∀ b, b < w0.heap.size → b ≠ B → u.heap[b]? = w0.heap[b]?
theorem Oth.refl (w : World) (B : Nat) : Oth w w B := ⟨Nat.le_refl _, rfl, rfl, rfl, fun _ _ _ => rfl⟩
theorem Oth.later {w0 u u' : World} {B : Nat} (h : Oth w0 u B) (hb : Below u.heap.size u u') : Oth w0 u' B := ⟨Nat.le_trans h.1 hb.size, hb.os.trans h.2.1, hb.tape.trans h.2.2.1, hb.output.trans h.2.2.2.1, fun b h1 h2 => (hb.block b (Nat.lt_of_lt_of_le h1 h.1)).trans (h.2.2.2.2 b h1 h2)⟩
theorem Oth.set {w0 u : World} {B j : Nat} {v : Value} (h : Oth w0 u B) : Oth w0 (u.setCell (Ad B j) v) B :=
 have hb := (Below.refl 0 u).setCell (p := ⟨B, j, none⟩) (Nat.zero_le _) v
 ⟨Nat.le_trans h.1 hb.size, hb.os.trans h.2.1, hb.tape.trans h.2.2.1, hb.output.trans h.2.2.2.1, fun b h1 h2 => (heap_setCell_other u ⟨B, j, none⟩ b v h2).trans (h.2.2.2.2 b h1 h2)⟩
theorem Oth.cell {w0 u : World} {B b j : Nat} {v : Value} (h : Oth w0 u B) (hb : b ≠ B) (hc : w0.cell? (Ad b j) = some v) : u.cell? (Ad b j) = some v := by
 have hl := World.block_lt_of_cell? w0 _ hc; have := h.2.2.2.2 b hl hb
 unfold World.cell? at hc ⊢
 simp only [this]; exact hc
theorem Oth.rds {w0 u : World} {B : Nat} {a : Option Addr} {l : List Rd} (h : Oth w0 u B) (hn : ∀ g, a = some (Ad g 0) → g ≠ B) (hr : Rds w0 a l) : Rds u a l := by
 rcases hr with hr | ⟨g, e, hc⟩
 · exact .inl hr
 · exact .inr ⟨g, e, fun k hk => ⟨h.cell (hn g e) (hc k hk).1, h.cell (hn g e) (hc k hk).2.1, h.cell (hn g e) (hc k hk).2.2.1, h.cell (hn g e) (hc k hk).2.2.2⟩⟩
theorem Oth.fts {w0 u : World} {B : Nat} {a : Option Addr} {l : List Ft} (h : Oth w0 u B) (hn : l ≠ [] → ∀ g o, a = some (Ad g o) → g ≠ B) (hr : Fts w0 a l) : Fts u a l := by
 rcases hr with hr | ⟨g, o, e, hc⟩
 · exact .inl hr
 · exact .inr ⟨g, o, e, fun k hk j v hj => h.cell (hn (fun z => by rw [z] at hk; simp at hk) g o e) (hc k hk j v hj)⟩
theorem move_any (B : Nat) (C : CR) (pf : Option Addr) (cf : Nat) (l : List Ft) (S : FS) (now : Int) (x : Nat → Int) (at' : Nat → Nat → Int) (i : Nat) (hi : i < 2) (ta : Option Addr) (tc : Nat) (rs : List Rd) (push : Int) (p : Nat → Int) (hp : p = fun k : Nat => plR (C.a i 5) (fnd (64 + 4 * (i : Int) + (k : Int)) 3 rs) (ail l now i k true)) (hrl : rs.length ≤ 1000) (w : World) (hb : Blk 173 w B (flL C pf l.length cf S now x at')) (hf : Fts w pf l) (hl : l.length ≤ 1000) (hT : 1 ≤ C.a i 5 ∧ C.a i 5 ≤ 1000) (h4 : 2 ≤ C.a i 4 ∧ C.a i 4 ≤ 4) (hr : Rds w ta rs)
 (hnr : ∀ g, ta = some (Ad g 0) → g ≠ B) (hnf : l ≠ [] → ∀ g o, pf = some (Ad g o) → g ≠ B) (hpb : ∀ k, -300000 ≤ p k ∧ p k ≤ 300000) (hx : -10000000 ≤ x i ∧ x i ≤ 10000000) (hpu : -1000 ≤ push ∧ push ≤ 1000) :
 Calls prog 130 #[.pointer (some (Ad B 0)), Vi i, .slice ta rs.length tc, Vi push] w fun e w' => e = .returned (.tuple #[]) ∧ Blk 173 w' B (flL C pf l.length cf S now (upd x i (x i + mvX p (C.a i 4).toNat + push)) (mvA at' i p (C.a i 4).toNat)) ∧ Oth w w' B := by
 obtain ⟨m, hm⟩ : ∃ m : Nat, C.a i 4 = (m : Int) := ⟨(C.a i 4).toNat, by omega⟩
 have hm2 : 2 ≤ m ∧ m ≤ 4 := by omega
 rw [show (C.a i 4).toNat = m by omega]; have HM := Zab (mvX_bd hpb); have HPB := Zab hpb; have HPE := Zab hp; clear hp; have HF := Zab (fun u (h : Oth w u B) => h.fts hnf hf); have HR := Zab (fun u (h : Oth w u B) => h.rds hnr hr); obtain ⟨x0, x1⟩ := hx; obtain ⟨p0, p1⟩ := hpu; have x4 := (hb.cell (fl_su C pf l.length cf S now x at' hi)).1; rw [hm] at x4
 have i0 : (0 : Int) ≤ (i : Int) := by omega
 have i1 : (i : Int) < 2 := by omega
 have HB := Zab hb; clear hf hr hnr hnf hpb hb
 go_enter func130, ntmps130
 go_upto_region 1 with fail; clear x4
 go_loopw [17] (fun ix wr => ∃ k : Nat, k ≤ m ∧ ix = Vi k ∧ Blk 173 wr B (flL C pf l.length cf S now (upd x i (x i + mvX p k)) (mvA at' i p k)) ∧ Oth w wr B) (fun ix _ => m - (intOf ix).toNat)
 case atStart => exact ⟨0, Nat.zero_le _, rfl, by rw [mvA_zero, mvX, updx_same]; exact HB.out, Oth.refl _ _⟩
 case round =>
  clear HB; obtain ⟨k, hk, rfl, hb, ho⟩ := hrel; have hmk := HM.out k; have hmp := HPB.out k
  by_cases hlt : k < m
  · have k0 : (0 : Int) ≤ (k : Int) := by omega
    have k1 : (k : Int) < (m : Int) := by omega
    have k4 : (k : Int) < 4 := by omega
    have hpl := fun u (h : Below wr.heap.size wr u) => place_any B C pf cf l S now (upd x i (x i + mvX p k)) (mvA at' i p k) i k hi (by omega) ta tc rs hrl u (hb.later h) ((HF.out wr ho).later h) hl hT ((HR.out wr ho).later h); rw [show plR (C.a i 5) (fnd (64 + 4 * (i : Int) + (k : Int)) 3 rs) (ail l now i k true) = p k by rw [HPE.out]] at hpl; have xk := hb.cell (fl_at C pf l.length cf S now (upd x i (x i + mvX p k)) (mvA at' i p k) hi (show k < 4 by omega)); have HBQ := Zab hb; have HO := Zab ho; clear hb ho
    go_upto_region 3 with fail; refine Ct [20, 21, 22, 23, 24, 25, 26, 27, 28, 29, 30, 31] ?_; refine Cp 0 20 [] ?_; refine Cp 1 21 [] ?_; refine Cp 2 22 [] ?_; refine Cp 3 23 [] ?_; refine Cp 4 24 [] ?_; refine Cp 5 25 [] ?_; refine Cp 6 26 [] ?_; refine Cc 7 27 [3, 4, 5, 6] (fun y w h _ => hpl _ h) ?_; refine Cp 8 28 [0] ?_; refine Cp 9 29 [8] ?_; refine Cp 10 30 [9, 1] ?_; refine Cp 11 31 [10, 2] ?_; refine Cn 1 13 [12] (fun y u hB _ => ?_); refine Ra 12 (fun K hK => ?_); have e := cell_later hB xk.1; have e1 := Zbj hB xk.1 xk.2; go_simp; refine hK.out _ _ trivial (fun _ => ?_); clear hK K; refine wpAnyH_done (by kernel_rfl) ?_ _; have HBN := Zab ((HBQ.out.later hB).set (66 + i * 4 + k) (Vi (p k))); rw [fl_setA _ _ _ _ _ _ _ _ hi (show k < 4 by omega), mvA_step] at HBN; have HON := Zab ((HO.out.later hB).set (j := 66 + i * 4 + k) (v := Vi (p k))); clear HBQ HO hB hpl xk; generalize u.setCell (Ad B (66 + i * 4 + k)) (Vi (p k)) = v3 at *; go_simp; refine Zbd (by assumption) ?_
    go_upto_region 4 with fail; have ex := (HBN.out.cell (fl_x C pf l.length cf S now (upd x i (x i + mvX p k)) (mvA at' i p (k + 1)) hi)).1; have fx := (HBN.out.cell (fl_x C pf l.length cf S now (upd x i (x i + mvX p k)) (mvA at' i p (k + 1)) hi)).2; have ea := (HBN.out.cell (fl_at C pf l.length cf S now (upd x i (x i + mvX p k)) (mvA at' i p (k + 1)) hi (show k < 4 by omega))).1; rw [Zbu] at ex; rw [show mvA at' i p (k + 1) i k = p k by unfold mvA upd; simp] at ea; have HMK : Hid (x i + mvX p (k + 1) = x i + mvX p k + p k) := Zab (by rw [mvX]; omega); have hwr := Wr (x i + mvX p k + p k); generalize mvX p k = mk at *; generalize p k = pk at *; generalize hxx : x i = xx at *; have HXX := Zab hxx; clear hxx; refine Ct [32, 33, 34, 35, 36, 37, 38, 39, 40, 41, 42, 43, 44, 45, 46, 47, 48, 49] ?_; refine Cp 0 32 [] ?_; refine Cp 1 33 [] ?_; refine Cp 2 34 [0] ?_; refine Cp 3 35 [2] ?_; refine Cp 4 36 [3, 1] ?_; refine Cy (fun _ h => cell_later h ex) 5 37 [4] ?_; refine Cp 6 38 [] ?_; refine Cp 7 39 [] ?_; refine Cp 8 40 [] ?_; refine Cp 9 41 [6] ?_; refine Cp 10 42 [9] ?_; refine Cp 11 43 [10, 7] ?_; refine Cp 12 44 [11, 8] ?_; refine Cy (fun _ h => cell_later h ea) 13 45 [12] ?_; refine Cp 14 46 [5, 13] ?_; refine Cp 15 47 [0] ?_; refine Cp 16 48 [15] ?_; refine Cp 17 49 [16, 1] ?_; refine Cn 1 19 [18] (fun y u hB _ => ?_); refine Ra 18 (fun K hK => ?_); have e := cell_later hB ex; have e1 := Zbj hB ex fx; go_simp; refine hK.out _ _ trivial (fun _ => ?_); clear hK K; refine wpAnyH_done (by kernel_rfl) ?_ _; have HBM := Zab ((HBN.out.later hB).set (64 + i) (Vi (xx + mk + pk))); rw [fl_setX _ _ _ _ _ _ _ _ hi, upd_upd] at HBM; have HOM := Zab ((HON.out.later hB).set (j := 64 + i) (v := Vi (xx + mk + pk))); clear HBN HON hB ex fx ea; generalize u.setCell (Ad B (64 + i)) (Vi (xx + mk + pk)) = v4 at *; go_simp; refine Zbd (by assumption) ?_; go_wp2_with fail; go_roundw
    case rel => exact ⟨k + 1, by omega, by go_num, by rw [HXX.out, HMK.out]; exact HBM.out, HOM.out⟩
    case measure => simp [intOf]; omega
  · obtain rfl : k = m := by omega
    have ex := (hb.cell (fl_x C pf l.length cf S now (upd x i (x i + mvX p k)) (mvA at' i p k) hi)).1; have fx := (hb.cell (fl_x C pf l.length cf S now (upd x i (x i + mvX p k)) (mvA at' i p k) hi)).2; rw [Zbu] at ex; have hwr := Wr (x i + mvX p k + push); have HBQ := Zab hb; have HO := Zab ho; clear hb ho; generalize HQM : x i + mvX p k = mk at *
    go_upto_region 6 with fail; refine Ct [51, 52, 53, 54, 55, 56, 57, 58, 59, 60, 61] ?_; refine Cp 0 51 [] ?_; refine Cp 1 52 [] ?_; refine Cp 2 53 [0] ?_; refine Cp 3 54 [2] ?_; refine Cp 4 55 [3, 1] ?_; refine Cy (fun _ h => cell_later h ex) 5 56 [4] ?_; refine Cp 6 57 [] ?_; refine Cp 7 58 [5, 6] ?_; refine Cp 8 59 [0] ?_; refine Cp 9 60 [8] ?_; refine Cp 10 61 [9, 1] ?_; refine Cn 1 12 [11] (fun y u hB _ => ?_); refine Ra 11 (fun K hK => ?_); have e := cell_later hB ex; have e1 := Zbj hB ex fx; go_simp; refine hK.out _ _ trivial (fun _ => ?_); clear hK K; refine wpAnyH_done (by kernel_rfl) ?_ _; have HBM := Zab ((HBQ.out.later hB).set (64 + i) (Vi (mk + push))); rw [fl_setX _ _ _ _ _ _ _ _ hi, upd_upd] at HBM; have HOM := Zab ((HO.out.later hB).set (j := 64 + i) (v := Vi (mk + push))); clear HBQ HO hB ex fx; generalize u.setCell (Ad B (64 + i)) (Vi (mk + push)) = v4 at *; subst HQM; exact bodyPost_end (v := .tuple #[]) (by simp [results, results130, go_sem]) rfl ⟨rfl, HBM.out, HOM.out⟩
theorem infoI2 : (prog.info? 76).map (·.size) = some 2 := by kernel_rfl
theorem infoI8 : (prog.info? 93).map (·.size) = some 8 := by kernel_rfl
theorem infoRp : (prog.info? 95).map (·.size) = some 15 := by kernel_rfl
section
variable (C : CR) (pf : Option Addr) (nf cf : Nat) (S : FS) (now : Int) (x : Nat → Int) (at' : Nat → Nat → Int)
theorem fl_x2 : ((flL C pf nf cf S now x at').drop 64).take 2 = [Vi (x 0), Vi (x 1)] := rfl
theorem fl_a8 : ((flL C pf nf cf S now x at').drop 66).take 8 = [Vi (at' 0 0), Vi (at' 0 1), Vi (at' 0 2), Vi (at' 0 3), Vi (at' 1 0), Vi (at' 1 1), Vi (at' 1 2), Vi (at' 1 3)] := rfl
theorem fl_bk {i : Nat} (hi : i < 3) : ((flL C pf nf cf S now x at').drop (33 + i * 7)).take 7 = bkL (S.bk i) := by
 rcases (show i = 0 ∨ i = 1 ∨ i = 2 by omega) with rfl | rfl | rfl <;> rfl
theorem fl_sv {i : Nat} (hi : i < 2) : (flL C pf nf cf S now x at')[33 + 21 + i]? = some (.slice (S.sp i) (S.sn i) (S.sc i)) := by
 rcases (show i = 0 ∨ i = 1 by omega) with rfl | rfl <;> rfl
end
theorem rp_l (r : Rp) {i : Nat} (hi : i < 2) : (rpL r)[2 + i]? = some (Vi (r.l i)) := by
 rcases (show i = 0 ∨ i = 1 by omega) with rfl | rfl <;> rfl
theorem rp_s (r : Rp) {i : Nat} (hi : i < 2) : (rpL r)[4 + i]? = some (Vi (r.s i)) := by
 rcases (show i = 0 ∨ i = 1 by omega) with rfl | rfl <;> rfl
theorem rp_setL (r : Rp) {i : Nat} (hi : i < 2) (v : Int) : (rpL r).set (2 + i) (Vi v) = rpL { r with l := upd r.l i v } := by
 rcases (show i = 0 ∨ i = 1 by omega) with rfl | rfl <;> rfl
theorem rp_setS (r : Rp) {i : Nat} (hi : i < 2) (v : Int) : (rpL r).set (4 + i) (Vi v) = rpL { r with s := upd r.s i v } := by
 rcases (show i = 0 ∨ i = 1 by omega) with rfl | rfl <;> rfl
def fz (f : Nat → Int) (i : Nat) : Nat → Int := fun j => if j < i then f j else 0
theorem fz_step (f : Nat → Int) (i : Nat) : upd (fz f i) i (f i) = fz f (i + 1) := by
 funext j; unfold upd fz
 by_cases h : j = i
 · subst h; simp
 · by_cases h2 : j < i
   · rw [if_neg h, if_pos h2, if_pos (by omega)]
   · rw [if_neg h, if_neg h2, if_neg (by omega)]
theorem res_report (tmps : Array Value) (U : World) (Y : Nat) (cs : List Value) (h2 : tmps.getD 2 undef = .pointer (some (Ad Y 0))) (hR : U.rangeAt Y 0 cs) (hn : cs.length = 15) :
 (results Tryz.f82 tmps).run prog U = .ok (.agg cs.toArray) U := by
 have h3 : tmps[2]?.getD undef = .pointer (some (Ad Y 0)) := by simpa using h2
 simp [results, results82, h3, asAddr, run_loadVar_mid U Y 0 95 cs _ hR underlying95 rfl (by rw [infoRp, hn])]
theorem report_any (B : Nat) (C : CR) (pf : Option Addr) (nf cf : Nat) (S : FS) (now : Int) (x : Nat → Int) (at' : Nat → Nat → Int) (sv : Nat → List Sv) (w : World) (hb : Blk 173 w B (flL C pf nf cf S now x at')) (hv : SvL w S sv) :
 Calls prog 82 #[.pointer (some (Ad B 0))] w fun e w' => e = .returned (.agg (rpL (rpF ⟨S, sv, x, at'⟩)).toArray) ∧ Below w.heap.size w w' := by
 have HB := Zab (fun u (h : Below w.heap.size w u) => hb.later h); have HV := Zab (fun i (hi : i < 2) u (h : Below w.heap.size w u) => (hv i hi).2.2.later h); have HVN := Zab (fun i (hi : i < 2) => (hv i hi).1); have HV9 := Zab (fun i (hi : i < 2) => (hv i hi).2.1); have HZ := Zab (Blk.new w 95 [Vi 0, Vi 0, Vi 0, Vi 0, Vi 0, Vi 0, Vi 0, Vi 0, Vi 0, Vi 0, Vi 0, Vi 0, Vi 0, Vi 0, Vi 0]); have HB0 := Zab (Zaa w (.cells #[Vi 0, Vi 0, Vi 0, Vi 0, Vi 0, Vi 0, Vi 0, Vi 0, Vi 0, Vi 0, Vi 0, Vi 0, Vi 0, Vi 0, Vi 0] 95)); clear hb hv
 go_enter func82, ntmps82
 go_upto_region 1 with fail; generalize w.alloc (.cells #[Vi 0, Vi 0, Vi 0, Vi 0, Vi 0, Vi 0, Vi 0, Vi 0, Vi 0, Vi 0, Vi 0, Vi 0, Vi 0, Vi 0, Vi 0] 95) = v0 at *; have HX2 := Zab ((HB.out v0 HB0.out).sub 64 2); rw [fl_x2] at HX2; have HX8 := Zab ((HB.out v0 HB0.out).sub 66 8); rw [fl_a8] at HX8; have xn := ((HB.out v0 HB0.out).cell (j := 62) rfl).1; refine Cs [5, 6, 7, 8, 9, 10, 11, 12, 13, 14, 15, 16, 17, 18, 3] ?_; refine Cp 0 5 [] ?_; refine Cp 1 6 [0] ?_; refine Cp 2 7 [1] ?_; refine Cl (x := .tmp 7) 3 8 [2] (fun y w hF u hSw => ⟨Zae HX2.out hSw, hF.1⟩) underlying76 infoI2 ?_; refine Cp 4 9 [] ?_; refine Cp 5 10 [4] ?_; refine Cp 6 11 [5] ?_; refine Cp 7 12 [6] ?_; refine Cq (fun _ h => cell_later h xn) 8 13 [7] ?_; refine Cp 9 14 [] ?_; refine Cp 10 15 [9] ?_; refine Cp 11 16 [10] ?_; refine Cl (x := .tmp 16) 12 17 [11] (fun y w hF u hSw => ⟨Zae HX8.out hSw, hF.1⟩) underlying93 infoI8 ?_; refine Cp 13 18 [3, 8, 12] ?_; refine Ca 14 3 ?_; refine Cn 1 16 [15] (fun y u1 hB hf => ?_); obtain ⟨XA, e, hA⟩ := hf.1; have HAA1 : Hid (NB _ _ _ XA [Vi 0, Vi 0, Vi 0, Vi 0, Vi 0, Vi 0, Vi 0, Vi 0, Vi 0, Vi 0, Vi 0, Vi 0, Vi 0, Vi 0, Vi 0]) := Zab hA; (try simp only [e]); clear e hA; have HS1 := Zab hB; clear hB hf; refine Ra 15 (fun K hK => ?_); rw [if_pos (by rfl)]; refine Zao 95 (.tmp 3) (.tmp 18) rfl XA 0 #[Vi (x 0), Vi (x 1), Vi 0, Vi 0, Vi 0, Vi 0, Vi S.n, Vi (at' 0 0), Vi (at' 0 1), Vi (at' 0 2), Vi (at' 0 3), Vi (at' 1 0), Vi (at' 1 1), Vi (at' 1 2), Vi (at' 1 3)] rfl rfl (HAA1.out.1.there (Nat.le_of_ble_eq_true rfl)) infoRp (Zau _ rfl) rfl ?_; have HS2 := Zab (Zah [Vi (x 0), Vi (x 1), Vi 0, Vi 0, Vi 0, Vi 0, Vi S.n, Vi (at' 0 0), Vi (at' 0 1), Vi (at' 0 2), Vi (at' 0 3), Vi (at' 1 0), Vi (at' 1 1), Vi (at' 1 2), Vi (at' 1 3)] 0 u1 HS1.out (NB.le HAA1.out))
 have HAA2 : Hid (NB 95 v0.heap.size (u1.setCells XA 0 [Vi (x 0), Vi (x 1), Vi 0, Vi 0, Vi 0, Vi 0, Vi S.n, Vi (at' 0 0), Vi (at' 0 1), Vi (at' 0 2), Vi (at' 0 3), Vi (at' 1 0), Vi (at' 1 1), Vi (at' 1 2), Vi (at' 1 3)]) XA [Vi (x 0), Vi (x 1), Vi 0, Vi 0, Vi 0, Vi 0, Vi S.n, Vi (at' 0 0), Vi (at' 0 1), Vi (at' 0 2), Vi (at' 0 3), Vi (at' 1 0), Vi (at' 1 1), Vi (at' 1 2), Vi (at' 1 3)]) := Zab ⟨Blk.setCells [Vi (x 0), Vi (x 1), Vi 0, Vi 0, Vi 0, Vi 0, Vi S.n, Vi (at' 0 0), Vi (at' 0 1), Vi (at' 0 2), Vi (at' 0 3), Vi (at' 1 0), Vi (at' 1 1), Vi (at' 1 2), Vi (at' 1 3)] 0 u1 [Vi 0, Vi 0, Vi 0, Vi 0, Vi 0, Vi 0, Vi 0, Vi 0, Vi 0, Vi 0, Vi 0, Vi 0, Vi 0, Vi 0, Vi 0] HAA1.out.1, NB.le HAA1.out⟩; generalize hU : World.setCells _ XA 0 _ = u2 at *; clear hU; refine hK.out _ _ HS2.out (fun _ => ?_); clear hK K; clear HS1 HAA1; refine wpAnyH_done (by kernel_rfl) ?_ _; go_simp; have hA := HAA2.out; clear HAA2; have hB := HS2.out; clear HS2; generalize u2 = v1 at hB hA ⊢; refine Zbd (by assumption) ?_; have HR : Hid (Blk 95 v1 XA (rpL ⟨x, fz (fun i => Zcd (S.bk i).o 3) 0, fz (fun i => sndU (sv i) (sv i).length) 0, S.n, at'⟩)) := Zab hA.1; have HXZ : Hid (w.heap.size ≠ XA ∧ w.heap.size ≤ XA) := Zab (by have := NB.le hA; have := HZ.out.lt; omega); have HZ := Zab (HZ.out.later hB); have HBW := Zab (Zac HB0.out hB); clear hA hB HX2 HX8 xn HB0
 go_upto_region 3 with fail
 go_loopw [19] (fun ix wr => ∃ i : Nat, i ≤ 2 ∧ ix = Vi i ∧ Blk 95 wr XA (rpL ⟨x, fz (fun i => Zcd (S.bk i).o 3) i, fz (fun i => sndU (sv i) (sv i).length) i, S.n, at'⟩) ∧ Blk 95 wr w.heap.size [Vi 0, Vi 0, Vi 0, Vi 0, Vi 0, Vi 0, Vi 0, Vi 0, Vi 0, Vi 0, Vi 0, Vi 0, Vi 0, Vi 0, Vi 0] ∧ Below w.heap.size w wr) (fun ix _ => 2 - (intOf ix).toNat)
 case atStart => exact ⟨0, by omega, rfl, HR.out, HZ.out, HBW.out⟩
 case round =>
  clear HR HZ HBW; obtain ⟨i, hi2, rfl, hr, hz, hbw⟩ := hrel
  by_cases hi : i < 2
  · have i0 : (0 : Int) ≤ (i : Int) := by omega
    have i1 : (i : Int) < 2 := by omega
    have HBK := Zab ((HB.out wr hbw).sub (33 + i * 7) 7); rw [fl_bk C pf nf cf S now x at' (show i < 3 by omega)] at HBK; have hlf := left_any (S.bk i).b (S.bk i).o (S.bk i).l; have e1 := hr.cell (rp_l _ hi); have HR := Zab hr; have HZ := Zab hz; have HBW := Zab hbw; have HSL : Hid (upd (fz (fun i => Zcd (S.bk i).o 3) i) i (Zcd (S.bk i).o 3) = fz (fun i => Zcd (S.bk i).o 3) (i + 1)) := Zab (fz_step (fun i => Zcd (S.bk i).o 3) i); have HSS : Hid (upd (fz (fun i => sndU (sv i) (sv i).length) i) i (sndU (sv i) (sv i).length) = fz (fun i => sndU (sv i) (sv i).length) (i + 1)) := Zab (fz_step (fun i => sndU (sv i) (sv i).length) i); clear hr hz hbw
    go_upto_region 6 with (first
     | (refine Lq 33 _ rfl ?_; refine wpList_load_mid rfl 33 (.tmp 28) rfl B (33 + i * 7) rfl (bkL (S.bk i)) _ HBK.out underlying33 rfl infoB7 ?_)
     | (go_at_call 131; refine Sb (hlf _) fun v hb => ?_; replace HR := Zab (HR.out.later hb); replace HZ := Zab (HZ.out.later hb); replace HBW := Zab (Zac HBW.out hb); have e2 := cell_later hb e1.1; have e3 := Zbj hb e1.1 e1.2; clear hb))
    replace HR := Zab (HR.out.set (2 + i) (Vi (Zcd (S.bk i).o 3))); rw [rp_setL _ hi] at HR
    dsimp only at HR
    rw [HSL.out] at HR; replace HZ := Zab (HZ.out.far HXZ.out.1 (2 + i) (Vi (Zcd (S.bk i).o 3))); replace HBW := Zab (HBW.out.setCell (p := ⟨XA, 2 + i, none⟩) HXZ.out.2 (Vi (Zcd (S.bk i).o 3))); clear HBK hlf e1 e2 e3; generalize v.setCell (Ad XA (2 + i)) (Vi (Zcd (S.bk i).o 3)) = v5 at *; have es := ((HB.out v5 HBW.out).cell (fl_sv C pf nf cf S now x at' hi)).1; rw [HVN.out i hi] at es; have hsn := fun u (h : Below w.heap.size w u) => sound_any (sv i) (S.sp i) (S.sc i) (by have := HV9.out i hi; omega) u (HV.out i hi u h); have e1 := HR.out.cell (rp_s _ hi)
    go_wp2_with (go_at_call 132; refine Sb (hsn _ HBW.out) fun v hb => ?_; replace HR := Zab (HR.out.later hb); replace HZ := Zab (HZ.out.later hb); replace HBW := Zab (Zac HBW.out hb); have e2 := cell_later hb e1.1; have e3 := Zbj hb e1.1 e1.2; clear hb); replace HR := Zab (HR.out.set (4 + i) (Vi (sndU (sv i) (sv i).length))); rw [rp_setS _ hi] at HR
    dsimp only at HR
    rw [HSS.out] at HR; replace HZ := Zab (HZ.out.far HXZ.out.1 (4 + i) (Vi (sndU (sv i) (sv i).length))); replace HBW := Zab (HBW.out.setCell (p := ⟨XA, 4 + i, none⟩) HXZ.out.2 (Vi (sndU (sv i) (sv i).length))); go_roundw
    case rel => exact ⟨i + 1, by omega, by go_num, HR.out, HZ.out, HBW.out⟩
    case measure => simp [intOf]; omega
  · obtain rfl : i = 2 := by omega
    have HR := Zab hr; have HZ := Zab hz; have HBW := Zab hbw; have HE : Hid (rpL (rpF ⟨S, sv, x, at'⟩) = rpL ⟨x, fz (fun i => Zcd (S.bk i).o 3) 2, fz (fun i => sndU (sv i) (sv i).length) 2, S.n, at'⟩) := Zab rfl; generalize HCS : rpL ⟨x, fz (fun i => Zcd (S.bk i).o 3) 2, fz (fun i => sndU (sv i) (sv i).length) 2, S.n, at'⟩ = cs at *; have HCL : Hid (cs.length = 15 ∧ cs.toArray.all (·.oneCell') = true) := Zab (by rw [← HCS]; exact ⟨rfl, Zau _ rfl⟩); clear hr hz hbw HCS
    go_wp2_with (first
     | (refine Lq 95 _ rfl ?_; refine wpList_load_mid rfl 95 (.tmp 3) rfl XA 0 rfl cs _ HR.out.range underlying95 rfl (by rw [infoRp, HCL.out.1]) ?_)
     | (refine Sq 95 _ _ rfl ?_; refine wpList_store_mid rfl 95 (.tmp 2) (.tmp 45) rfl w.heap.size 0 cs.toArray rfl rfl (HZ.out.there (by simp [HCL.out.1])) (by rw [infoRp]; simp [HCL.out.1]) HCL.out.2 ?_))
    have HTH := Zab (HZ.out.there (o := 0) (n := cs.length) (by simp [HCL.out.1])); exact bodyPost_ret (v := .agg cs.toArray) (res_report _ _ w.heap.size cs rfl (World.rangeAt_setCells_same _ _ _ _ HTH.out) HCL.out.1) rfl ⟨by rw [HE.out], Zah cs 0 wr HBW.out (Nat.le_refl _)⟩
theorem ones_top (v : Int) (h0 : 0 ≤ v) (h1 : v < 2147483648) : ones (v + 2147483648) 32 = ones v 32 + 1 := by
 have e1 := Zfu (v + 2147483648) 31 1; have e2 := Zfu v 31 1; have m1 := Zeh (v + 2147483648) 31 31 (Nat.le_refl _); have m2 := Zeh v 31 31 (Nat.le_refl _); simp only [Nat.reduceAdd, Int.reducePow] at e1 e2 m1 m2; rw [show (v + 2147483648) % 2147483648 = v by omega] at m1; rw [e1, e2, ← m1]; simp only [ones, Int.pow_zero, Int.ediv_one]
 omega
theorem body_bd {a b c d : Int} (hm : mayR a b c d = true) : 0 ≤ bodyI a b c d ∧ bodyI a b c d < 2147483648 := by
 obtain ⟨⟨a0, a1⟩, ⟨b0, b1⟩, ⟨c0, c1⟩, d0, d1⟩ := mayR_true hm; obtain ⟨r0, r1⟩ := Zfs a a0 (by omega)
 unfold bodyI
 omega
theorem pack_bd {a b c d : Int} (hm : mayR a b c d = true) : 0 ≤ Zfe a b c d ∧ Zfe a b c d < 4294967296 := by
 have := body_bd hm
 unfold Zfe
 split <;> omega
theorem pack_odd {a b c d : Int} (hm : mayR a b c d = true) : ones (Zfe a b c d) 32 % 2 = 1 := by
 have hb := body_bd hm
 unfold Zfe
 split
 · assumption
 · rw [ones_top _ hb.1 hb.2]; omega
theorem pack_read {a b c d : Int} (hm : mayR a b c d = true) : readV (Zfe a b c d) = .agg #[Vi a, Vi b, Vi c, Vi d] := by
 obtain ⟨⟨a0, a1⟩, ⟨b0, b1⟩, ⟨c0, c1⟩, d0, d1⟩ := mayR_true hm; obtain ⟨r0, r1⟩ := Zfs a a0 (by omega)
 have e : ∃ t, (t = 0 ∨ t = 1) ∧ Zfe a b c d = Lib.rev8 a + b * 256 + d % 524288 * 1024 + c * 536870912 + t * 2147483648 := by
  unfold Zfe bodyI
  split
  · exact ⟨0, .inl rfl, by omega⟩
  · exact ⟨1, .inr rfl, by omega⟩
 obtain ⟨t, ht, e⟩ := e; rw [e]
 have l : labI (Lib.rev8 a + b * 256 + d % 524288 * 1024 + c * 536870912 + t * 2147483648) = a := by
  unfold labI
  rw [show (Lib.rev8 a + b * 256 + d % 524288 * 1024 + c * 536870912 + t * 2147483648) % 256 = Lib.rev8 a by omega, rev_rev a a0 (by omega)]
 have s : srcI (Lib.rev8 a + b * 256 + d % 524288 * 1024 + c * 536870912 + t * 2147483648) = b := by unfold srcI; omega
 have u : staI (Lib.rev8 a + b * 256 + d % 524288 * 1024 + c * 536870912 + t * 2147483648) = c := by unfold staI; omega
 have v : datI (Lib.rev8 a + b * 256 + d % 524288 * 1024 + c * 536870912 + t * 2147483648) = d := by
  unfold datI
  rw [show (Lib.rev8 a + b * 256 + d % 524288 * 1024 + c * 536870912 + t * 2147483648) / 1024 % 524288 = d % 524288 by omega]
  split <;> omega
 unfold readV
 rw [l, s, u, v]
theorem near_awake (w : World) : Calls prog 138 #[Vi 98304, Vi 256] w fun e w' => e = .returned (Vi 384) ∧ ∃ k, w' = w.drewN k := by
 go_enter func138, ntmps138
 go_wp2; go_quiet (fail); go_wp2; go_ret; exact ⟨rfl, _, rfl⟩
theorem mul_awake (w : World) : Calls prog 85 #[Vi 768, Vi 128] w fun e w' => e = .returned (Vi 384) ∧ Below w.heap.size w w' := by
 have f1 := Zhq 768; have f2 := Zhq 128; have f3 := Zhq 384; rw [show ofI 768 = 768 by decide] at f1; rw [show ofI 128 = 128 by decide] at f2; rw [show ofI 384 = 384 by decide] at f3
 go_enter func85, ntmps85
 go_wp2_with (first
  | ((first | go_at_call_of 137 (Vi 768) | go_at_call_of 137 (Value.int .i64 768)); refine (f1 _).mono ?_; rintro e w1 ⟨rfl, rfl⟩)
  | ((first | go_at_call_of 137 (Vi 128) | go_at_call_of 137 (Value.int .i64 128)); refine (f2 _).mono ?_; rintro e w1 ⟨rfl, rfl⟩)
  | ((first | go_at_call_of 137 (Vi 384) | go_at_call_of 137 (Value.int .i64 384)); refine (f3 _).mono ?_; rintro e w1 ⟨rfl, rfl⟩)
  | (go_at_call 138; refine (near_awake _).mono ?_; rintro e w1 ⟨rfl, k, rfl⟩))
 go_ret; exact ⟨rfl, below_drewN (Below.refl _ _) _⟩
theorem awake_any (w : World) : Calls prog 35 #[] w fun e w' => e = .returned (.bool true) ∧ Below w.heap.size w w' := by
 have hp := pack_yes 1 0 3 (-1) (by decide); rw [show Zfe 1 0 3 (-1) = 4294966400 by decide +kernel] at hp
 go_enter func35, ntmps35
 go_wp2_with (first
  | (go_at_call 84; refine Sb (hp _) fun w1 hb1 => ?_)
  | (go_at_call 85; refine Sb (mul_awake _) fun w2 hb2 => ?_))
 go_ret; exact ⟨rfl, Zac hb1 hb2⟩
end Go.Proofs.YtnfdfiholcelaaaGreatDoor
namespace Go.Proofs.YtnfdfiholcelaaaGreatDoor.Plain
set_option linter.unusedVariables false
theorem fnd_none {a b : Int} : ∀ {l : List Rd}, (∀ r ∈ l, ¬ (r.1 = a ∧ r.2.1 = b)) → fnd a b l = none
 | [], _ => rfl
 | r :: t, h => by
  unfold fnd
  rw [if_neg (h r (by simp))]; exact fnd_none fun z hz => h z (by simp [hz])
theorem fnd_ins (r : Rd) (a b : Int) : ∀ {l : List Rd}, l.Pairwise (fun x y => rlt x y = true) → fnd a b (ins r l) = if r.1 = a ∧ r.2.1 = b then some r else fnd a b l
 | [], _ => by simp [ins, fnd]
 | y :: t, h => by
  obtain ⟨h1, h2⟩ := List.pairwise_cons.1 h
  unfold ins
  split
  · rename_i hy
    rw [fnd, fnd_ins r a b h2]; rw [Zfb] at hy
    by_cases hr : r.1 = a ∧ r.2.1 = b
    · rw [if_pos hr, if_pos hr, if_neg (by omega)]
    · rw [if_neg hr, if_neg hr, fnd]
  · split
    · rename_i hq
      rw [req_iff] at hq
      by_cases hr : r.1 = a ∧ r.2.1 = b
      · rw [fnd, if_pos hr, if_pos hr]
      · rw [fnd, fnd, if_neg hr, if_neg hr, if_neg (by omega)]
    · rw [fnd]
def lst (a b : Int) (l : List Rd) : Option Rd := fnd a b l.reverse
theorem fnd_append (a b : Int) : ∀ (l m : List Rd), fnd a b (l ++ m) = (fnd a b l).or (fnd a b m)
 | [], m => by simp [fnd]
 | r :: t, m => by
  rw [List.cons_append, fnd, fnd]
  split
  · rfl
  · exact fnd_append a b t m
theorem Zfv (a b : Int) (l m : List Rd) : lst a b (l ++ m) = (lst a b m).or (lst a b l) := by
 unfold lst; rw [List.reverse_append, fnd_append]
theorem lst_snoc (a b : Int) (l : List Rd) (r : Rd) : lst a b (l ++ [r]) = if r.1 = a ∧ r.2.1 = b then some r else lst a b l := by
 rw [Zfv]; simp only [lst, List.reverse_cons, List.reverse_nil, List.nil_append, fnd]
 split <;> rfl
theorem lst_one (a b : Int) (r : Rd) : lst a b [r] = if r.1 = a ∧ r.2.1 = b then some r else none := rfl
theorem lst_none {a b : Int} {l : List Rd} (h : ∀ r ∈ l, ¬ (r.1 = a ∧ r.2.1 = b)) : lst a b l = none := fnd_none fun r hr => h r (List.mem_reverse.1 hr)
theorem fnd_gat (f : Int → Option Rd) (g : Rd → Int) (a b : Int) : ∀ rs : List Rd, (∀ r ∈ rs, f (g r) = some r) → fnd a b (gat f (rs.map g)) = lst a b rs :=
 snoc_ind (fun _ => rfl) fun l r ih h => by
  rw [List.map_append, List.map_cons, List.map_nil, Zfz, h r (by simp), lst_snoc, fnd_ins r a b (gat_sorted f _), ih fun z hz => h z (by simp [hz])]
end Go.Proofs.YtnfdfiholcelaaaGreatDoor.Plain
namespace Go.Proofs.YtnfdfiholcelaaaGreatDoor
open Go.RowKit Plain Tryz
theorem rdOf_pk {r : Rd} (h : Zcw r = true) : rdOf (pk1 r) = some r := by
 obtain ⟨a, b, c, d⟩ := r; have h1 := pack_odd (show mayR a b c d = true from h); have h2 := pack_read (show mayR a b c d = true from h)
 unfold readV at h2
 simp only [Value.agg.injEq, Array.mk.injEq, List.cons.injEq, Value.int.injEq, true_and, and_true] at h2; obtain ⟨e1, e2, e3, e4⟩ := h2
 show rdOf (Zfe a b c d) = _
 unfold rdOf
 rw [if_pos h1, e1, e2, e3, e4]
theorem pkU_take (l : List Rd) : ∀ k, k ≤ l.length → pkU l k = (l.take k).map pk1
 | 0, _ => by simp [pkU]
 | k + 1, h => by
  rw [pkU, pkU_take l k (by omega), List.take_succ_eq_append_getElem (by omega), List.map_append]
  unfold rat
  rw [List.getD_eq_getElem?_getD, List.getElem?_eq_getElem (by omega)]
  rfl
theorem fpkU_map (l : List Rd) : pkU l l.length = l.map pk1 := by rw [pkU_take l _ (Nat.le_refl _), List.take_length]
theorem rat_mem {l : List Rd} {k : Nat} (hk : k < l.length) : rat l k ∈ l := by
 unfold rat
 rw [List.getD_eq_getElem?_getD, List.getElem?_eq_getElem hk]; exact List.getElem_mem hk
theorem wds_of {w : World} {a : Option Addr} {l : List Rd} (hm : ∀ r ∈ l, Zcw r = true) (h : U32s w a (l.map pk1)) : Wds w a (l.map pk1) := by
 refine ⟨?_, fun x hx => ?_⟩
 · rcases h with h | ⟨g, h, hc⟩
   · exact .inl h
   · exact .inr ⟨g, 0, h, fun k hk => by rw [Nat.zero_add]; exact hc k hk⟩
 · obtain ⟨r, hr, rfl⟩ := List.mem_map.1 hx; exact pack_bd (hm r hr)
theorem may_mk {a b c d : Int} (ha : 0 ≤ a ∧ a < 256) (hb : 0 ≤ b ∧ b < 4) (hc : 0 ≤ c ∧ c < 4) (hd : -262144 ≤ d ∧ d < 262144) : Zcw (a, b, c, d) = true := by
 unfold Zcw mayR
 simp only [Bool.and_eq_true, decide_eq_true_eq]; exact ⟨⟨⟨ha, hb⟩, hc⟩, hd⟩
theorem cW_bd (x : Int) : -262144 ≤ cW x ∧ cW x < 262144 := by have := Zbr (v := x) (show (-262144 : Int) ≤ 262143 by omega); unfold cW; omega
theorem cD_bd (x : Int) : -262144 ≤ cD x ∧ cD x < 262144 := by have := Zbr (v := x) (show (-262143 : Int) ≤ 262143 by omega); unfold cD; omega
theorem chR_may {l : List Ft} {now ax k lab x : Int} (hl : 0 ≤ lab ∧ lab < 256) (hk : 0 ≤ k ∧ k < 4) : ∀ r ∈ chR l now ax k lab x, Zcw r = true := by
 intro r hr
 unfold chR sdL at hr
 split at hr
 · obtain rfl := List.mem_singleton.1 hr; exact may_mk hl hk (by omega) (cW_bd x)
 · split at hr
   · cases hr
   · obtain rfl := List.mem_singleton.1 hr
     unfold spo
     dsimp only
     split
     · exact may_mk hl hk (by omega) (cD_bd _)
     · split
       · exact may_mk hl hk (by omega) (cW_bd _)
       · split
         · exact may_mk hl hk (by omega) (cW_bd _)
         · exact may_mk hl hk (by omega) (cW_bd _)
theorem chU_may {l : List Ft} {now : Int} {i : Nat} {N x z : Int} (hi : i < 2) : ∀ k, k ≤ 3 → ∀ r ∈ chU l now i N x z k, Zcw r = true
 | 0, _, r, hr => by cases hr
 | k + 1, hk, r, hr => by
  rw [chU] at hr
  rcases List.mem_append.1 hr with hr | hr
  · exact chU_may hi k (by omega) r hr
  · exact chR_may (by omega) (by omega) r hr
theorem suU_may {i : Nat} {at' : Nat → Int} (hi : i < 2) (ha : ∀ k, k < 4 → -1000 ≤ at' k ∧ at' k ≤ 1000) : ∀ k, k ≤ 4 → ∀ r ∈ suU i at' k, Zcw r = true
 | 0, _, r, hr => by cases hr
 | k + 1, hk, r, hr => by
  rw [suU] at hr
  rcases List.mem_append.1 hr with hr | hr
  · exact suU_may hi ha k (by omega) r hr
  · obtain rfl := List.mem_singleton.1 hr; have := ha k (by omega); exact may_mk (by omega) (by omega) (by omega) (by omega)
theorem spR_may {l : List Ft} {now v : Int} : ∀ k, k ≤ 3 → ∀ r ∈ spR l now v k, Zcw r = true
 | 0, _, r, hr => by cases hr
 | k + 1, hk, r, hr => by
  rw [spR] at hr
  rcases List.mem_append.1 hr with hr | hr
  · exact spR_may k (by omega) r hr
  · exact chR_may (by omega) (by omega) r hr
theorem saR_may {C : CR} {l : List Ft} {now : Int} {x : Nat → Int} {at' : Nat → Nat → Int} {s : Stp} (h4 : ∀ i, i < 2 → C.a i 4 ≤ 4) (ha : ∀ i, i < 2 → ∀ k, k < 4 → -1000 ≤ at' i k ∧ at' i k ≤ 1000) (hk : ∀ i, i < 2 → -100 ≤ s.k i ∧ s.k i ≤ 100) : ∀ r ∈ saR C l now x at' s, Zcw r = true := by
 have hax : ∀ i, i ≤ 2 → ∀ r ∈ axU C l now x at' s i, Zcw r = true := by
  intro i
  induction i with
  | zero => intro _ r hr; cases hr
  | succ i ih =>
   intro hi r hr; rw [axU] at hr; have h5 := h4 i (by omega)
   rcases List.mem_append.1 hr with hr | hr
   · exact ih (by omega) r hr
   · unfold axR at hr
     rcases List.mem_append.1 hr with hr | hr
     · rcases List.mem_append.1 hr with hr | hr
       · exact chU_may (by omega) 3 (by omega) r hr
       · exact suU_may (by omega) (ha i (by omega)) _ (by omega) r hr
     · obtain rfl := List.mem_singleton.1 hr; have := hk i (by omega); exact may_mk (by omega) (by omega) (by omega) (by omega)
 intro r hr
 unfold saR at hr
 rcases List.mem_append.1 hr with hr | hr
 · rcases List.mem_append.1 hr with hr | hr
   · exact hax 2 (by omega) r hr
   · exact spR_may 3 (by omega) r hr
 · split at hr
   · obtain rfl := List.mem_singleton.1 hr
     rfl
   · cases hr
theorem rdU_lst (i j : Nat) (L : List Sv) (k : Nat) (hj : j < 2) (hi : i < 2) (hk : k < 4) : ∀ n, n ≤ 4 → lst (64 + 4 * (i : Int) + k) 3 (rdU j L n) = if j = i ∧ k < n then some (rd1 i L k) else none
 | 0, _ => by rw [if_neg (by omega)]; rfl
 | n + 1, hn => by
  rw [rdU, lst_snoc, rdU_lst i j L k hj hi hk n (by omega), show (rd1 j L n).1 = 64 + 4 * (j : Int) + n from rfl, show (rd1 j L n).2.1 = 3 from rfl]
  by_cases h : j = i ∧ k = n
  · obtain ⟨rfl, rfl⟩ := h; rw [if_pos ⟨rfl, rfl⟩, if_pos ⟨rfl, by omega⟩]
  · rw [if_neg (fun e => h (by omega))]
    by_cases h2 : j = i ∧ k < n
    · rw [if_pos h2, if_pos ⟨h2.1, by omega⟩]
    · rw [if_neg h2, if_neg (fun e => by omega)]
theorem rdA_lst (v : Nat → List Sv) (n : Int) {i k : Nat} (hi : i < 2) (hl : ∀ i, i < 2 → (v i).length ≤ 4) (hk : k < (v i).length) : lst (64 + 4 * (i : Int) + k) 3 (rdA v n) = some (rd1 i (v i) k) := by
 have h0 := hl 0 (by omega); have h1 := hl 1 (by omega); have hi4 := hl i hi
 unfold rdA
 rw [lst_snoc, if_neg (by dsimp only; omega)]
 show lst _ _ (rdX v 1 ++ rdU 1 (v 1) (v 1).length) = _
 rw [Zfv, rdU_lst i 1 (v 1) k (by omega) hi (by omega) _ h1]
 have e : rdX v 1 = rdU 0 (v 0) (v 0).length := by simp [rdX]
 rw [e, rdU_lst i 0 (v 0) k (by omega) hi (by omega) _ h0]
 rcases (show i = 0 ∨ i = 1 by omega) with rfl | rfl
 · rw [if_neg (by omega), if_pos ⟨rfl, hk⟩]; rfl
 · rw [if_pos ⟨rfl, hk⟩]; rfl
theorem plR_plc (C : CR) (l : List Ft) (now : Int) (i k : Nat) (L : List Sv) : plR (C.a i 5) (some (rd1 i L k)) (ail l now i k true) = plc C l now i k (svAt L k) := by
 unfold plR plc rd1
 dsimp only
 cases h : (svAt L k).2.2
 · simp
   rfl
 · simp
theorem fS3_eq {C : CR} {S S' : FS} {l : List Rd} {sv : Nat → List Sv} (h : S'.bk = S.bk ∧ S'.hd = S.hd ∧ S'.n = S.n) : vS3 C S' l sv = vS3 C S l sv ∧ (sS3 C S' l sv).bk = (sS3 C S l sv).bk ∧ (sS3 C S' l sv).hd = (sS3 C S l sv).hd ∧ (sS3 C S' l sv).n = (sS3 C S l sv).n := by
 obtain ⟨b, p, n, c, d, m⟩ := S; obtain ⟨b', p', n', c', d', m'⟩ := S'; obtain ⟨h1, h2, h3⟩ := h
 dsimp only at h1 h2 h3
 subst h1 h2 h3; exact ⟨rfl, rfl, rfl, rfl⟩
theorem step_f (C : CR) (S : FS) (sv : Nat → List Sv) (l : List Rd) (hm : ∀ r ∈ l, Zcw r = true) (aw : Option Addr) (cw : Nat) (w : World) (hg : GV w) (hl : CrL w C) (hv : SvL w S sv) (hw : U32s w aw (l.map pk1)) (h64 : l.length ≤ 64) (h0 : stE C S sv = 0) :
 Calls prog 16 #[.agg (crL C).toArray, .agg (stL S).toArray, .slice aw l.length cw] w fun e w' => (∃ T g c, e = .returned (.tuple #[.agg (stL T).toArray, .slice (some (Ad g 0)) (rdA (vS3 C S (gat rdOf (l.map pk1)) sv) (sS3 C S (gat rdOf (l.map pk1)) sv).n).length c, .nilIface]) ∧ (T.bk = (sS3 C S (gat rdOf (l.map pk1)) sv).bk ∧ T.hd = (sS3 C S (gat rdOf (l.map pk1)) sv).hd ∧ T.n = (sS3 C S (gat rdOf (l.map pk1)) sv).n) ∧ SvL w' T (vS3 C S (gat rdOf (l.map pk1)) sv) ∧ U32s w' (some (Ad g 0)) ((rdA (vS3 C S (gat rdOf (l.map pk1)) sv) (sS3 C S (gat rdOf (l.map pk1)) sv).n).map pk1) ∧ ∀ i, i < 2 → ∃ G, T.sp i = some (Ad G 0) ∧ w.heap.size ≤ G) ∧ Below w.heap.size w w' := by
 have h := fccStep_all C S sv (l.map pk1) aw cw w hg hl hv (wds_of hm hw) (by rw [List.length_map]; exact h64) h0 (fun K wz S' hS hL => stOK_of (ws := l.map pk1) h0 K wz hS hL); rw [List.length_map] at h; refine h.mono ?_; rintro e w' ⟨S', g, c, he, hS, h3, h4, h5, h6⟩; obtain ⟨e1, e2, e3, e4⟩ := fS3_eq (C := C) (l := gat rdOf (l.map pk1)) (sv := sv) hS; rw [e1, e4] at he; rw [e1] at h3; rw [e1, e4, fpkU_map] at h4; exact ⟨⟨_, g, c, he, ⟨e2, e3, e4⟩, h3, h4, h6⟩, h5⟩
theorem told_fnd {v : Nat → List Sv} {n : Int} {i k : Nat} (hm : ∀ r ∈ rdA v n, Zcw r = true) (hi : i < 2) (hl : ∀ i, i < 2 → (v i).length ≤ 4) (hk : k < (v i).length) : fnd (64 + 4 * (i : Int) + k) 3 (gat rdOf ((rdA v n).map pk1)) = some (rd1 i (v i) k) := by
 rw [fnd_gat _ _ _ _ _ (fun r hr => rdOf_pk (hm r hr))]; exact rdA_lst v n hi hl hk
theorem mvX_plU {C : CR} {l : List Ft} {now : Int} {i : Nat} {L : List Sv} {p : Nat → Int} : ∀ m : Nat, (∀ k, k < m → p k = plc C l now i k (svAt L k)) → mvX p m = plU C l now i L m
 | 0, _ => rfl
 | m + 1, h => by rw [mvX, plU, mvX_plU m (fun k hk => h k (by omega)), h m (by omega)]
theorem mvA_if {at' : Nat → Nat → Int} {i : Nat} {p q : Nat → Int} {m : Nat} (h : ∀ k, k < m → p k = q k) (j k : Nat) : mvA at' i p m j k = if j = i ∧ k < m then q k else at' j k := by
 unfold mvA upd
 by_cases hj : j = i
 · subst hj
   by_cases hk : k < m
   · rw [if_pos rfl, if_pos hk, if_pos ⟨rfl, hk⟩, h k hk]
   · rw [if_pos rfl, if_neg hk, if_neg (fun e => hk e.2)]
 · rw [if_neg hj, if_neg (fun e => hj e.1)]
end Go.Proofs.YtnfdfiholcelaaaGreatDoor
