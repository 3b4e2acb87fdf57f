/-
  The walk of the law VoteRuns: for every rule and frames it returns true.
-/
import Derived.Test.YtmainmldndidhaaVoteL
import Derived.Deep.DeepMust
namespace Go.Proofs.Ytmainmldndidhaa
open Go.RowKit Plain

theorem keepR {w u u' : World} {Q fb off k len : Nat} {b : Nat → Int} {o : Nat → Bool} {l m c : Int} {A : Nat → Option Addr} {L : Nat → List (Bool × Int)} {C : Nat → Nat} (hb : Below u.heap.size u u')
    (h : (u.cell? ⟨Q, 0, none⟩ = some (.int .i64 (b 0)) ∧ u.cell? ⟨Q, 1, none⟩ = some (.int .i64 (b 1)) ∧ u.cell? ⟨Q, 2, none⟩ = some (.int .i64 (b 2)) ∧ u.cell? ⟨Q, 3, none⟩ = some (.bool (o 0)) ∧ u.cell? ⟨Q, 4, none⟩ = some (.bool (o 1)) ∧ u.cell? ⟨Q, 5, none⟩ = some (.bool (o 2)) ∧ u.cell? ⟨Q, 6, none⟩ = some (.int .i64 l)) ∧ (u.cell? ⟨w.heap.size, 0, none⟩ = some (.int .i64 m) ∧ u.cell? ⟨w.heap.size, 1, none⟩ = some (.int .i64 c)) ∧ u.cell? ⟨fb, off + k, none⟩ = some (.slice (A k) (L k).length (C k)) ∧ VR w u Q b o l m c (some ⟨fb, off, none⟩) A L C len) :
    (u'.cell? ⟨Q, 0, none⟩ = some (.int .i64 (b 0)) ∧ u'.cell? ⟨Q, 1, none⟩ = some (.int .i64 (b 1)) ∧ u'.cell? ⟨Q, 2, none⟩ = some (.int .i64 (b 2)) ∧ u'.cell? ⟨Q, 3, none⟩ = some (.bool (o 0)) ∧ u'.cell? ⟨Q, 4, none⟩ = some (.bool (o 1)) ∧ u'.cell? ⟨Q, 5, none⟩ = some (.bool (o 2)) ∧ u'.cell? ⟨Q, 6, none⟩ = some (.int .i64 l)) ∧ (u'.cell? ⟨w.heap.size, 0, none⟩ = some (.int .i64 m) ∧ u'.cell? ⟨w.heap.size, 1, none⟩ = some (.int .i64 c)) ∧ u'.cell? ⟨fb, off + k, none⟩ = some (.slice (A k) (L k).length (C k)) ∧ VR w u' Q b o l m c (some ⟨fb, off, none⟩) A L C len := ⟨BankAt.later h.1 hb, RuleAt.later h.2.1 hb, cell_later hb h.2.2.1, h.2.2.2.later hb⟩
theorem VR.sl {w0 w : World} {Q : Nat} {b o l m c a A L C len} (h : VR w0 w Q b o l m c a A L C len) {k : Nat} (hk : k < len) : (L k).length ≤ 9223372036854775807 ∧ SLst w (A k) (L k) := by
  rcases h.2.2.1 with h | ⟨_, _, _, hc⟩
  · omega
  · exact (hc k hk).2

def NB2 (K : Nat) (w : World) (N : Nat) : Prop := BankAt w N zI zB 0 ∧ Frz w N 7 ∧ K ≤ N
def NV2 (K : Nat) (w : World) (N : Nat) : Prop := RuleAt w N 0 0 ∧ Frz w N 2 ∧ K ≤ N
theorem NB2.later {K : Nat} {w w' : World} {N : Nat} (h : NB2 K w N) (hb : Below w.heap.size w w') : NB2 K w' N := ⟨h.1.later hb, h.2.1.later hb, h.2.2⟩
theorem NV2.later {K : Nat} {w w' : World} {N : Nat} (h : NV2 K w N) (hb : Below w.heap.size w w') : NV2 K w' N := ⟨h.1.later hb, h.2.1.later hb, h.2.2⟩
theorem nb_new {K : Nat} {X : World} (hK : K ≤ X.heap.size) : NB2 K (X.alloc (.cells #[.int .i64 0, .int .i64 0, .int .i64 0, .bool false, .bool false, .bool false, .int .i64 0] 46)) X.heap.size :=
  ⟨⟨by simp [go_sem, zI], by simp [go_sem, zI], by simp [go_sem, zI], by simp [go_sem, zB], by simp [go_sem, zB], by simp [go_sem, zB], by simp [go_sem]⟩, Frz.new, hK⟩
theorem nv_new {K : Nat} {X : World} (hK : K ≤ X.heap.size) : NV2 K (X.alloc (.cells #[.int .i64 0, .int .i64 0] 50)) X.heap.size := ⟨⟨by simp [go_sem], by simp [go_sem]⟩, Frz.new, hK⟩
theorem nb_a {K : Nat} {X w' : World} (hb : Below (X.alloc (.cells #[.int .i64 0, .int .i64 0, .int .i64 0, .bool false, .bool false, .bool false, .int .i64 0] 46)).heap.size (X.alloc (.cells #[.int .i64 0, .int .i64 0, .int .i64 0, .bool false, .bool false, .bool false, .int .i64 0] 46)) w') (hK : K ≤ X.heap.size) : NB2 K w' X.heap.size := (nb_new hK).later hb
theorem nv_a {K : Nat} {X w' : World} (hb : Below (X.alloc (.cells #[.int .i64 0, .int .i64 0] 50)).heap.size (X.alloc (.cells #[.int .i64 0, .int .i64 0] 50)) w') (hK : K ≤ X.heap.size) : NV2 K w' X.heap.size := (nv_new hK).later hb
theorem nb_b {K : Nat} {X w' : World} (hb : Below ((X.alloc (.cells #[.int .i64 0, .int .i64 0, .int .i64 0, .bool false, .bool false, .bool false, .int .i64 0] 46)).alloc (.cells #[.int .i64 0, .int .i64 0] 50)).heap.size ((X.alloc (.cells #[.int .i64 0, .int .i64 0, .int .i64 0, .bool false, .bool false, .bool false, .int .i64 0] 46)).alloc (.cells #[.int .i64 0, .int .i64 0] 50)) w') (hK : K ≤ X.heap.size) : NB2 K w' X.heap.size ∧ NV2 K w' (X.heap.size + 1) := by
  refine ⟨((nb_new hK).later (vbelow_alloc _ _)).later hb, ?_⟩
  have e : (X.alloc (.cells #[.int .i64 0, .int .i64 0, .int .i64 0, .bool false, .bool false, .bool false, .int .i64 0] 46)).heap.size = X.heap.size + 1 := by simp [go_sem]
  rw [← e]; exact (nv_new (by rw [e]; omega)).later hb
theorem nb_c {K : Nat} {X w' : World} (hb : Below ((X.alloc (.cells #[.int .i64 0, .int .i64 0] 50)).alloc (.cells #[.int .i64 0, .int .i64 0, .int .i64 0, .bool false, .bool false, .bool false, .int .i64 0] 46)).heap.size ((X.alloc (.cells #[.int .i64 0, .int .i64 0] 50)).alloc (.cells #[.int .i64 0, .int .i64 0, .int .i64 0, .bool false, .bool false, .bool false, .int .i64 0] 46)) w') (hK : K ≤ X.heap.size) : NB2 K w' (X.heap.size + 1) ∧ NV2 K w' X.heap.size := by
  refine ⟨?_, ((nv_new hK).later (vbelow_alloc _ _)).later hb⟩
  have e : (X.alloc (.cells #[.int .i64 0, .int .i64 0] 50)).heap.size = X.heap.size + 1 := by simp [go_sem]
  rw [← e]; exact (nb_new (by rw [e]; omega)).later hb

theorem bw_alloc {w0 W : World} {o : Obj} (h : Below w0.heap.size w0 W) : Below w0.heap.size w0 (W.alloc o) := vbelow_up h (vbelow_alloc _ _)
theorem bw_drew {w0 W : World} (h : Below w0.heap.size w0 W) : Below w0.heap.size w0 W.drew := h.drew
theorem bw_set {w0 W : World} {N j : Nat} {v : Value} (h : Below w0.heap.size w0 W) (hN : w0.heap.size ≤ N) : Below w0.heap.size w0 (W.setCell ⟨N, j, none⟩ v) := h.setCell hN v
theorem vbcell {W w1 : World} (hb : Below W.heap.size W w1) : (∀ b o, b < W.heap.size → w1.cell? ⟨b, o, none⟩ = W.cell? ⟨b, o, none⟩) ∧ (∀ b o, b < W.heap.size → w1.frozen? ⟨b, o, none⟩ = W.frozen? ⟨b, o, none⟩) :=
  ⟨fun b o h => hb.cell (p := ⟨b, o, none⟩) h, fun b o h => hb.frozen (p := ⟨b, o, none⟩) h⟩
theorem VR.lt {w0 w : World} {Q : Nat} {b o l m c a A L C len} (h : VR w0 w Q b o l m c a A L C len) : Q < w.heap.size := h.1.2.2
theorem VR.put {w0 w : World} {Q : Nat} {b o l m c a A L C len} (h : VR w0 w Q b o l m c a A L C len) (hf : FLst w0 a A L C len) (yb : Nat → Int) (yo : Nat → Bool) (z : Int) : VR w0 (((((((w.setCell ⟨Q, 0, none⟩ (.int .i64 (yb 0))).setCell ⟨Q, 1, none⟩ (.int .i64 (yb 1))).setCell ⟨Q, 2, none⟩ (.int .i64 (yb 2))).setCell ⟨Q, 3, none⟩ (.bool (yo 0))).setCell ⟨Q, 4, none⟩ (.bool (yo 1))).setCell ⟨Q, 5, none⟩ (.bool (yo 2))).setCell ⟨Q, 6, none⟩ (.int .i64 z)) Q yb yo z m c a A L C len := by
  obtain ⟨⟨h1, h2⟩, h3, h4, h5, h6⟩ := h
  have hb : Below w0.heap.size w0 (((((((w.setCell ⟨Q, 0, none⟩ (.int .i64 (yb 0))).setCell ⟨Q, 1, none⟩ (.int .i64 (yb 1))).setCell ⟨Q, 2, none⟩ (.int .i64 (yb 2))).setCell ⟨Q, 3, none⟩ (.bool (yo 0))).setCell ⟨Q, 4, none⟩ (.bool (yo 1))).setCell ⟨Q, 5, none⟩ (.bool (yo 2))).setCell ⟨Q, 6, none⟩ (.int .i64 z)) := ((((((h5.setCell (by simp; omega) _).setCell (by simp; omega) _).setCell (by simp; omega) _).setCell (by simp; omega) _).setCell (by simp; omega) _).setCell (by simp; omega) _).setCell (by simp; omega) _
  exact ⟨⟨((((((h1.setBad0 (yb 0)).setBad1 (yb 1)).setBad2 (yb 2)).setOut0 (yo 0)).setOut1 (yo 1)).setOut2 (yo 2)).setLast z, h2.set.set.set.set.set.set.set⟩, ((((((h3.set (by omega)).set (by omega)).set (by omega)).set (by omega)).set (by omega)).set (by omega)).set (by omega), hf.later hb, hb, h6⟩
def thr (x y z : Int) (k : Nat) : Int := if k = 0 then x else if k = 1 then y else z
def thrB (x y z : Bool) (k : Nat) : Bool := if k = 0 then x else if k = 1 then y else z

theorem bank_new (X : World) : BankAt (X.alloc (.cells #[.int .i64 0, .int .i64 0, .int .i64 0, .bool false, .bool false, .bool false, .int .i64 0] 46)) X.heap.size zI zB 0 := ⟨by simp [go_sem, zI], by simp [go_sem, zI], by simp [go_sem, zI], by simp [go_sem, zB], by simp [go_sem, zB], by simp [go_sem, zB], by simp [go_sem]⟩
theorem bank_drew {w : World} {B : Nat} {b o l} (h : BankAt w B b o l) : BankAt w.drew B b o l := h.later (Below.refl _ _).drew
theorem BankAt.put7 {w : World} {B : Nat} {b o l} (h : BankAt w B b o l) (y0 y1 y2 : Int) (x0 x1 x2 : Bool) (z : Int) : BankAt (((((((w.setCell ⟨B, 0, none⟩ (.int .i64 y0)).setCell ⟨B, 1, none⟩ (.int .i64 y1)).setCell ⟨B, 2, none⟩ (.int .i64 y2)).setCell ⟨B, 3, none⟩ (.bool x0)).setCell ⟨B, 4, none⟩ (.bool x1)).setCell ⟨B, 5, none⟩ (.bool x2)).setCell ⟨B, 6, none⟩ (.int .i64 z)) B (thr y0 y1 y2) (thrB x0 x1 x2) z :=
  ((((((h.setBad0 y0).setBad1 y1).setBad2 y2).setOut0 x0).setOut1 x1).setOut2 x2).setLast z
set_option maxRecDepth 100000 in
set_option maxHeartbeats 4000000 in
theorem voteRuns_walk (m c : Int) (a : Option Addr) (A : Nat → Option Addr) (L : Nat → List (Bool × Int)) (C : Nat → Nat) (len cap : Nat) (w : World) (hm : len ≤ 9223372036854775807) (hf : FLst w a A L C len) :
    Calls Try.prog 4 #[.agg #[.int .i64 m, .int .i64 c], .slice a len cap] w fun e w' => e = .returned (.bool true) ∧ Below w.heap.size w w' := by
  have hru := ruleMay_any m c
  have HF := hide hf
  clear hf
  by_cases h60 : 60 < len
  · have h60' : (60 : Int) < (len : Int) := by omega
    go_enter Try.func4, Try.ntmps4
    go_wp2
    go_ret
    exact ⟨rfl, vbelow_alloc _ _⟩
  · have h60' : ¬ (60 : Int) < (len : Int) := by omega
    by_cases hr : ruleE m c = 0
    · rw [hr] at hru
      go_enter Try.func4, Try.ntmps4
      go_wp2_with (go_at_call 16; refine (hru _).mono ?_; rintro e w1 ⟨rfl, hb1⟩; have HV := hide (show VR w (w1.alloc (.cells #[.int .i64 0, .int .i64 0, .int .i64 0, .bool false, .bool false, .bool false, .int .i64 0] 46)) w1.heap.size zI zB 0 m c a A L C len from ⟨⟨(nbk_new (K := w.heap.size) (by have := hb1.size; simp at this; omega)).1, Frz.new⟩, (RuleAt.later ⟨by simp [go_sem], by simp [go_sem]⟩ hb1).later (vbelow_alloc _ _), ((HF.out.later (vbelow_alloc _ _)).later hb1).later (vbelow_alloc _ _), vbelow_up (vbelow_up (vbelow_alloc _ _) hb1) (vbelow_alloc _ _), by have := hb1.size; simp at this; omega⟩); clear hb1)
      generalize (w1.alloc (.cells #[.int .i64 0, .int .i64 0, .int .i64 0, .bool false, .bool false, .bool false, .int .i64 0] 46)) = w2 at *
      generalize w1.heap.size = Q at *
      go_loopw [6] (fun i u => ∃ (k : Nat) (b : Nat → Int) (o : Nat → Bool) (l : Int), k ≤ len ∧ i = .int .i64 k ∧ VR w u Q b o l m c a A L C len) (fun i _ => len - (intOf i).toNat)
      case atStart => exact ⟨0, zI, zB, 0, by omega, rfl, HV.out⟩
      case round =>
        clear HV
        obtain ⟨k, b, o, l, hk, rfl, hV⟩ := hrel
        by_cases hlt : k < len
        · rcases hV.2.2.1 with h | ⟨fb, off, rfl, hc⟩
          · omega
          · have fc := (hc k hlt).1
            have i0 : (0 : Int) ≤ (k : Int) := by omega
            have i1 : (k : Int) < (len : Int) := by omega
            have S0 : (wr.cell? ⟨Q, 0, none⟩ = some (.int .i64 (b 0)) ∧ wr.cell? ⟨Q, 1, none⟩ = some (.int .i64 (b 1)) ∧ wr.cell? ⟨Q, 2, none⟩ = some (.int .i64 (b 2)) ∧ wr.cell? ⟨Q, 3, none⟩ = some (.bool (o 0)) ∧ wr.cell? ⟨Q, 4, none⟩ = some (.bool (o 1)) ∧ wr.cell? ⟨Q, 5, none⟩ = some (.bool (o 2)) ∧ wr.cell? ⟨Q, 6, none⟩ = some (.int .i64 l)) ∧ (wr.cell? ⟨w.heap.size, 0, none⟩ = some (.int .i64 m) ∧ wr.cell? ⟨w.heap.size, 1, none⟩ = some (.int .i64 c)) ∧ wr.cell? ⟨fb, off + k, none⟩ = some (.slice (A k) (L k).length (C k)) ∧ VR w wr Q b o l m c (some ⟨fb, off, none⟩) A L C len := ⟨hV.1.1, hV.2.1, fc, hV⟩
            have Z := hide S0
            clear hc fc hV
            have hvs : ∀ u, ((u.cell? ⟨Q, 0, none⟩ = some (.int .i64 (b 0)) ∧ u.cell? ⟨Q, 1, none⟩ = some (.int .i64 (b 1)) ∧ u.cell? ⟨Q, 2, none⟩ = some (.int .i64 (b 2)) ∧ u.cell? ⟨Q, 3, none⟩ = some (.bool (o 0)) ∧ u.cell? ⟨Q, 4, none⟩ = some (.bool (o 1)) ∧ u.cell? ⟨Q, 5, none⟩ = some (.bool (o 2)) ∧ u.cell? ⟨Q, 6, none⟩ = some (.int .i64 l)) ∧ (u.cell? ⟨w.heap.size, 0, none⟩ = some (.int .i64 m) ∧ u.cell? ⟨w.heap.size, 1, none⟩ = some (.int .i64 c)) ∧ u.cell? ⟨fb, off + k, none⟩ = some (.slice (A k) (L k).length (C k)) ∧ VR w u Q b o l m c (some ⟨fb, off, none⟩) A L C len) → Calls Try.prog 17 #[.agg #[.int .i64 (b 0), .int .i64 (b 1), .int .i64 (b 2), .bool (o 0), .bool (o 1), .bool (o 2), .int .i64 l], .agg #[.int .i64 m, .int .i64 c], .slice (A k) (L k).length (C k)] u fun e w' => e = .returned (.bool true) ∧ Below u.heap.size u w' := fun u h => voteSays_walk b o l m c (A k) (C k) (L k) u (h.2.2.2.sl hlt).1 (h.2.2.2.sl hlt).2
            go_upto_region 7 with fail
            go_cut [32] (fun v u => v = .bool false ∧ VR w u Q b o l m c (some ⟨fb, off, none⟩) A L C len)
            case first =>
              go_region_held3 (fun u => (u.cell? ⟨Q, 0, none⟩ = some (.int .i64 (b 0)) ∧ u.cell? ⟨Q, 1, none⟩ = some (.int .i64 (b 1)) ∧ u.cell? ⟨Q, 2, none⟩ = some (.int .i64 (b 2)) ∧ u.cell? ⟨Q, 3, none⟩ = some (.bool (o 0)) ∧ u.cell? ⟨Q, 4, none⟩ = some (.bool (o 1)) ∧ u.cell? ⟨Q, 5, none⟩ = some (.bool (o 2)) ∧ u.cell? ⟨Q, 6, none⟩ = some (.int .i64 l)) ∧ (u.cell? ⟨w.heap.size, 0, none⟩ = some (.int .i64 m) ∧ u.cell? ⟨w.heap.size, 1, none⟩ = some (.int .i64 c)) ∧ u.cell? ⟨fb, off + k, none⟩ = some (.slice (A k) (L k).length (C k)) ∧ VR w u Q b o l m c (some ⟨fb, off, none⟩) A L C len)
                (first
                  | (with_reducible assumption)
                  | (with_reducible apply keepR; with_reducible assumption; with_reducible assumption)
                  | (refine keepR ?_ Z.out; exact (Below.refl _ _).drew))
                (first
                  | (go_at_call 17; refine (hvs _ ?_).mono ?_; (with_reducible assumption); rintro e w' ⟨rfl, hb⟩))
              all_goals
                rename_i hH
                go_wp2_with fail
                go_meet
                (case rel => exact ⟨rfl, hH.2.2.2⟩)
            case rest =>
              obtain ⟨rfl, hV⟩ := hcut
              rename World => wb
              clear Z S0
              rcases hV.2.2.1 with h | ⟨fb', off', hfo, hc⟩
              · omega
              · simp only [Option.some.injEq, Addr.mk.injEq] at hfo
                obtain ⟨rfl, rfl, _⟩ := hfo
                have S0 : (wb.cell? ⟨Q, 0, none⟩ = some (.int .i64 (b 0)) ∧ wb.cell? ⟨Q, 1, none⟩ = some (.int .i64 (b 1)) ∧ wb.cell? ⟨Q, 2, none⟩ = some (.int .i64 (b 2)) ∧ wb.cell? ⟨Q, 3, none⟩ = some (.bool (o 0)) ∧ wb.cell? ⟨Q, 4, none⟩ = some (.bool (o 1)) ∧ wb.cell? ⟨Q, 5, none⟩ = some (.bool (o 2)) ∧ wb.cell? ⟨Q, 6, none⟩ = some (.int .i64 l)) ∧ (wb.cell? ⟨w.heap.size, 0, none⟩ = some (.int .i64 m) ∧ wb.cell? ⟨w.heap.size, 1, none⟩ = some (.int .i64 c)) ∧ wb.cell? ⟨fb, off + k, none⟩ = some (.slice (A k) (L k).length (C k)) ∧ VR w wb Q b o l m c (some ⟨fb, off, none⟩) A L C len := ⟨hV.1.1, hV.2.1, (hc k hlt).1, hV⟩
                have Z := hide S0
                have hsm : ∀ u, ((u.cell? ⟨Q, 0, none⟩ = some (.int .i64 (b 0)) ∧ u.cell? ⟨Q, 1, none⟩ = some (.int .i64 (b 1)) ∧ u.cell? ⟨Q, 2, none⟩ = some (.int .i64 (b 2)) ∧ u.cell? ⟨Q, 3, none⟩ = some (.bool (o 0)) ∧ u.cell? ⟨Q, 4, none⟩ = some (.bool (o 1)) ∧ u.cell? ⟨Q, 5, none⟩ = some (.bool (o 2)) ∧ u.cell? ⟨Q, 6, none⟩ = some (.int .i64 l)) ∧ (u.cell? ⟨w.heap.size, 0, none⟩ = some (.int .i64 m) ∧ u.cell? ⟨w.heap.size, 1, none⟩ = some (.int .i64 c)) ∧ u.cell? ⟨fb, off + k, none⟩ = some (.slice (A k) (L k).length (C k)) ∧ VR w u Q b o l m c (some ⟨fb, off, none⟩) A L C len) → Calls Try.prog 19 #[.slice (A k) (L k).length (C k)] u fun e w' => e = .returned (.agg #[.bool (tF (L k) 0), .int .i64 (sF (L k) 0), .bool (tF (L k) 1), .int .i64 (sF (L k) 1), .bool (tF (L k) 2), .int .i64 (sF (L k) 2)]) ∧ Below u.heap.size u w' := fun u h => samples_any (A k) (C k) (L k) u (h.2.2.2.sl hlt).1 (h.2.2.2.sl hlt).2
                clear hc hV hvs
                obtain ⟨yb, yo, z, p0, p1, E, hE, hsp⟩ : ∃ (yb : Nat → Int) (yo : Nat → Bool) (z p0 p1 : Int) (E : Value), (E = .nilIface ∨ ∃ x, E = .iface 23 (.int .i64 x)) ∧ ∀ u, Calls Try.prog 18 #[.agg #[.int .i64 (b 0), .int .i64 (b 1), .int .i64 (b 2), .bool (o 0), .bool (o 1), .bool (o 2), .int .i64 l], .agg #[.int .i64 m, .int .i64 c], .agg #[.bool (tF (L k) 0), .int .i64 (sF (L k) 0), .bool (tF (L k) 1), .int .i64 (sF (L k) 1), .bool (tF (L k) 2), .int .i64 (sF (L k) 2)]] u fun e w' => e = .returned (.tuple #[.agg #[.int .i64 (yb 0), .int .i64 (yb 1), .int .i64 (yb 2), .bool (yo 0), .bool (yo 1), .bool (yo 2), .int .i64 z], .agg #[.int .i64 p0, .int .i64 p1], E]) ∧ Below u.heap.size u w' := by
                  by_cases he : stepE b l m c (tF (L k)) (sF (L k)) = 0
                  · exact ⟨_, _, _, _, _, _, .inl rfl, step_ok b o l m c (tF (L k)) (sF (L k)) he⟩
                  · exact ⟨zI, zB, 0, 0, 0, _, .inr ⟨_, rfl⟩, step_err b o l m c (tF (L k)) (sF (L k)) he⟩
                have HE := hide hE
                clear hE
                generalize tF (L k) 0 = c0 at *
                generalize tF (L k) 1 = c1 at *
                generalize tF (L k) 2 = c2 at *
                generalize sF (L k) 0 = e0 at *
                generalize sF (L k) 1 = e1 at *
                generalize sF (L k) 2 = e2 at *
                generalize yb 0 = y0 at *
                generalize yb 1 = y1 at *
                generalize yb 2 = y2 at *
                generalize yo 0 = x0 at *
                generalize yo 1 = x1 at *
                generalize yo 2 = x2 at *
                go_upto_region 9 with fail
                have LQ := hide (VR.lt Z.out.2.2.2)
                go_cut [7, 9] (fun p e u => ∃ N, p = .pointer (some ⟨N, 0, none⟩) ∧ e = E ∧ VR w u Q b o l m c (some ⟨fb, off, none⟩) A L C len ∧ BankAt u N (thr y0 y1 y2) (thrB x0 x1 x2) z ∧ Q < N)
                case first =>
                  go_region_held3 (fun u => (u.cell? ⟨Q, 0, none⟩ = some (.int .i64 (b 0)) ∧ u.cell? ⟨Q, 1, none⟩ = some (.int .i64 (b 1)) ∧ u.cell? ⟨Q, 2, none⟩ = some (.int .i64 (b 2)) ∧ u.cell? ⟨Q, 3, none⟩ = some (.bool (o 0)) ∧ u.cell? ⟨Q, 4, none⟩ = some (.bool (o 1)) ∧ u.cell? ⟨Q, 5, none⟩ = some (.bool (o 2)) ∧ u.cell? ⟨Q, 6, none⟩ = some (.int .i64 l)) ∧ (u.cell? ⟨w.heap.size, 0, none⟩ = some (.int .i64 m) ∧ u.cell? ⟨w.heap.size, 1, none⟩ = some (.int .i64 c)) ∧ u.cell? ⟨fb, off + k, none⟩ = some (.slice (A k) (L k).length (C k)) ∧ VR w u Q b o l m c (some ⟨fb, off, none⟩) A L C len)
                    (first
                      | (with_reducible assumption)
                      | (with_reducible apply keepR; with_reducible assumption; with_reducible assumption)
                      | (refine keepR ?_ Z.out; (repeat' (first | with_reducible exact BW.out | with_reducible exact Below.refl _ _ | with_reducible apply bw_alloc | with_reducible apply bw_drew | with_reducible apply bw_set | omega))))
                    (first
                      | (go_at_call 19; go_must (refine (hsm _ (by with_reducible assumption)).mono ?_; rintro e w1 ⟨rfl, hb⟩; (have bw : Below wb.heap.size wb w1 := ?_; rotate_left; (refine vbelow_up ?_ hb; (repeat' (first | with_reducible exact BW.out | with_reducible exact Below.refl _ _ | with_reducible apply bw_alloc | with_reducible apply bw_drew | with_reducible apply bw_set | omega)))); have BW := hide bw; clear bw; obtain ⟨hcw1, hfw1⟩ := vbcell hb; have hb1 := hb; have zw1 := hb.size; (try simp at zw1); (have le_wb_w1 : wb.heap.size ≤ w1.heap.size := ?_; rotate_left; omega); (have le1_wb_w1 : wb.heap.size ≤ w1.heap.size + 1 := ?_; rotate_left; omega); (first | (have lt_wb_w1 : wb.heap.size < w1.heap.size := ?_; rotate_left; omega; have ne_wb_w1 := Nat.ne_of_lt lt_wb_w1; have en_wb_w1 := Nat.ne_of_gt lt_wb_w1) | skip); (first | (have lu_wb_w1 : wb.heap.size + 1 < w1.heap.size := ?_; rotate_left; omega; have nu_wb_w1 := Nat.ne_of_lt lu_wb_w1; have un_wb_w1 := Nat.ne_of_gt lu_wb_w1) | skip)))
                      | (go_at_call 18; go_must (refine (hsp _).mono ?_; rintro e w2 ⟨rfl, hb⟩; (have bw : Below wb.heap.size wb w2 := ?_; rotate_left; (refine vbelow_up ?_ hb; (repeat' (first | with_reducible exact BW.out | with_reducible exact Below.refl _ _ | with_reducible apply bw_alloc | with_reducible apply bw_drew | with_reducible apply bw_set | omega)))); have BW := hide bw; clear bw; obtain ⟨hcw2, hfw2⟩ := vbcell hb; have hb2 := hb; have zw2 := hb.size; (try simp at zw2); (have le_wb_w2 : wb.heap.size ≤ w2.heap.size := ?_; rotate_left; omega); (have le1_wb_w2 : wb.heap.size ≤ w2.heap.size + 1 := ?_; rotate_left; omega); (first | (have lt_wb_w2 : wb.heap.size < w2.heap.size := ?_; rotate_left; omega; have ne_wb_w2 := Nat.ne_of_lt lt_wb_w2; have en_wb_w2 := Nat.ne_of_gt lt_wb_w2) | skip); (first | (have lu_wb_w2 : wb.heap.size + 1 < w2.heap.size := ?_; rotate_left; omega; have nu_wb_w2 := Nat.ne_of_lt lu_wb_w2; have un_wb_w2 := Nat.ne_of_gt lu_wb_w2) | skip); (have le_w1_w2 : w1.heap.size ≤ w2.heap.size := ?_; rotate_left; omega); (have le1_w1_w2 : w1.heap.size ≤ w2.heap.size + 1 := ?_; rotate_left; omega); (first | (have lt_w1_w2 : w1.heap.size < w2.heap.size := ?_; rotate_left; omega; have ne_w1_w2 := Nat.ne_of_lt lt_w1_w2; have en_w1_w2 := Nat.ne_of_gt lt_w1_w2) | skip); (first | (have lu_w1_w2 : w1.heap.size + 1 < w2.heap.size := ?_; rotate_left; omega; have nu_w1_w2 := Nat.ne_of_lt lu_w1_w2; have un_w1_w2 := Nat.ne_of_gt lu_w1_w2) | skip))))
                  all_goals
                    rename_i hH
                    have HV9 := hide hH.2.2.2
                    clear hH
                    have hQ := LQ.out
                    go_wp2_with fail
                    go_meet
                    (case rel =>
                      refine ⟨_, rfl, rfl, HV9.out, ?_, by omega⟩
                      first
                        | ((with_reducible refine BankAt.set (BankAt.set (BankAt.put7 (b := zI) (o := zB) (l := 0) ?_ y0 y1 y2 x0 x1 x2 z) ?_) ?_); rotate_left; omega; omega; ((with_reducible refine BankAt.later ?_ hb2); (repeat (first | with_reducible exact bank_new _ | with_reducible refine BankAt.later ?_ (vbelow_alloc _ _) | with_reducible refine BankAt.later ?_ hb1 | with_reducible refine bank_drew ?_)); done))
                        | (refine ⟨?_, ?_, ?_, ?_, ?_, ?_, ?_⟩ <;> simp [go_sem, thr, thrB, World.cell?_alloc_past, *]))
                case rest =>
                  obtain ⟨N, rfl, rfl, hV, hB, hQN⟩ := hcut
                  rename World => wd
                  clear Z S0 LQ hsp hsm
                  have HV := hide hV
                  obtain ⟨n0, n1, n2, n3, n4, n5, n6⟩ := hB
                  obtain ⟨a0, a1, a2, a3, a4, a5, a6⟩ := hV.1.1
                  have f0 := hV.1.2.1 0 (by omega)
                  have f1 := hV.1.2.1 1 (by omega)
                  have f2 := hV.1.2.1 2 (by omega)
                  have f3 := hV.1.2.1 3 (by omega)
                  have f4 := hV.1.2.1 4 (by omega)
                  have f5 := hV.1.2.1 5 (by omega)
                  have f6 := hV.1.2.1 6 (by omega)
                  clear hV
                  rcases HE.out with rfl | ⟨x, rfl⟩
                  · rw [show thr y0 y1 y2 0 = y0 from rfl] at n0
                    rw [show thr y0 y1 y2 1 = y1 from rfl] at n1
                    rw [show thr y0 y1 y2 2 = y2 from rfl] at n2
                    rw [show thrB x0 x1 x2 0 = x0 from rfl] at n3
                    rw [show thrB x0 x1 x2 1 = x1 from rfl] at n4
                    rw [show thrB x0 x1 x2 2 = x2 from rfl] at n5
                    go_wp2
                    go_roundw
                    case rel => exact ⟨k + 1, thr y0 y1 y2, thrB x0 x1 x2, z, by omega, by go_num, HV.out.put HF.out (thr y0 y1 y2) (thrB x0 x1 x2) z⟩
                    case measure => simp [intOf]; omega
                  · go_wp2
                    go_roundw
                    case rel => exact ⟨k + 1, b, o, l, by omega, by go_num, HV.out⟩
                    case measure => simp [intOf]; omega
        · have e : k = len := by omega
          subst e
          go_wp2
          go_ret
          exact ⟨rfl, hV.2.2.2.1⟩
    · have hr1 := ruleE_ne hr
      rw [hr1] at hru
      go_enter Try.func4, Try.ntmps4
      go_wp2_with (go_at_call 16; refine (hru _).mono ?_; rintro e w1 ⟨rfl, hb1⟩)
      go_ret
      exact ⟨rfl, vbelow_up (vbelow_alloc _ _) hb1⟩

end Go.Proofs.Ytmainmldndidhaa
