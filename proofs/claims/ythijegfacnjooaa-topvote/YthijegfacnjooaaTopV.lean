/-
  The walk of the law TopVote: for every rule, noise, liar and what is spoken it returns true.
-/
import Derived.Test.YthijegfacnjooaaTopVP
import Derived.Test.YthijegfacnjooaaAwake
namespace Go.Proofs.Ythijegfacnjooaa
open Go.RowKit Plain

/-- What is spoken lies at an address. -/
def PLs (w : World) (a : Option Addr) (Tr : Nat → Int) (By : Nat → Nat → Int) (Ly : Nat → Bool) (Lz : Nat → Int) (len : Nat) : Prop :=
  len = 0 ∨ ∃ b off, a = some ⟨b, off, none⟩ ∧ ∀ k, k < len → w.cell? ⟨b, off + k * 6, none⟩ = some (.int .i64 (Tr k)) ∧ (∀ j, j < 3 → w.cell? ⟨b, off + k * 6 + 1 + j, none⟩ = some (.int .i64 (By k j))) ∧ w.cell? ⟨b, off + k * 6 + 4, none⟩ = some (.bool (Ly k)) ∧ w.cell? ⟨b, off + k * 6 + 5, none⟩ = some (.int .i64 (Lz k))
theorem PLs.later {w w' : World} {a : Option Addr} {Tr By Ly Lz len} (h : PLs w a Tr By Ly Lz len) (hb : Below w.heap.size w w') : PLs w' a Tr By Ly Lz len := by
  rcases h with h | ⟨b, off, h, hc⟩
  · exact .inl h
  · exact .inr ⟨b, off, h, fun k hk => ⟨cell_later hb (hc k hk).1, fun j hj => cell_later hb ((hc k hk).2.1 j hj), cell_later hb (hc k hk).2.2.1, cell_later hb (hc k hk).2.2.2⟩⟩
theorem PLs.at {w : World} {a : Option Addr} {Tr By Ly Lz len} (h : PLs w a Tr By Ly Lz len) {k : Nat} (hk : k < len) : ∃ b off, a = some ⟨b, off, none⟩ ∧ w.cell? ⟨b, off + k * 6, none⟩ = some (.int .i64 (Tr k)) ∧ (∀ j, j < 3 → w.cell? ⟨b, off + k * 6 + 1 + j, none⟩ = some (.int .i64 (By k j))) ∧ w.cell? ⟨b, off + k * 6 + 4, none⟩ = some (.bool (Ly k)) ∧ w.cell? ⟨b, off + k * 6 + 5, none⟩ = some (.int .i64 (Lz k)) := by
  rcases h with h | ⟨b, off, h, hc⟩
  · omega
  · exact ⟨b, off, h, hc k hk⟩
/-- The bank and the rule lie in their boxes. -/
def TV (w0 w : World) (P : Nat) (b : Nat → Int) (o : Nat → Bool) (l m c : Int) : Prop := (BankAt w P b o l ∧ Frz w P 7) ∧ RuleAt w w0.heap.size m c ∧ Below w0.heap.size w0 w ∧ w0.heap.size < P
theorem TV.later {w0 w w' : World} {P : Nat} {b o l m c} (h : TV w0 w P b o l m c) (hb : Below w.heap.size w w') : TV w0 w' P b o l m c := ⟨⟨h.1.1.later hb, h.1.2.later hb⟩, h.2.1.later hb, vbelow_up h.2.2.1 hb, h.2.2.2⟩
theorem TV.set {w0 w : World} {P C q : Nat} {b o l m c v} (h : TV w0 w P b o l m c) (hC : P < C) : TV w0 (w.setCell ⟨C, q, none⟩ v) P b o l m c :=
  ⟨⟨h.1.1.set (by omega), h.1.2.set⟩, h.2.1.set (by have := h.2.2.2; omega), h.2.2.1.setCell (by simp; have := h.2.2.2; omega) _, h.2.2.2⟩
theorem TV.lt {w0 w : World} {P : Nat} {b o l m c} (h : TV w0 w P b o l m c) : P < w.heap.size := h.1.2.2
theorem TV.put {w0 w : World} {P : Nat} {b o l m c} (h : TV w0 w P b o l m c) (yb : Nat → Int) (yo : Nat → Bool) (z : Int) : TV w0 (((((((w.setCell ⟨P, 0, none⟩ (.int .i64 (yb 0))).setCell ⟨P, 1, none⟩ (.int .i64 (yb 1))).setCell ⟨P, 2, none⟩ (.int .i64 (yb 2))).setCell ⟨P, 3, none⟩ (.bool (yo 0))).setCell ⟨P, 4, none⟩ (.bool (yo 1))).setCell ⟨P, 5, none⟩ (.bool (yo 2))).setCell ⟨P, 6, none⟩ (.int .i64 z)) P yb yo z m c := by
  obtain ⟨⟨h1, h2⟩, h3, h4, h5⟩ := h
  refine ⟨⟨?_, h2.set.set.set.set.set.set.set⟩, ((((((h3.set (by omega)).set (by omega)).set (by omega)).set (by omega)).set (by omega)).set (by omega)).set (by omega), ((((((h4.setCell (by simp; omega) _).setCell (by simp; omega) _).setCell (by simp; omega) _).setCell (by simp; omega) _).setCell (by simp; omega) _).setCell (by simp; omega) _).setCell (by simp; omega) _, h5⟩
  exact ((((((h1.setBad0 (yb 0)).setBad1 (yb 1)).setBad2 (yb 2)).setOut0 (yo 0)).setOut1 (yo 1)).setOut2 (yo 2)).setLast z
theorem lie_past {w : World} {P J j : Nat} {v : Value} (hJ : P ≠ J) (h : w.cell? ⟨J, j, none⟩ = some v) (yb : Nat → Int) (yo : Nat → Bool) (z : Int) : (((((((w.setCell ⟨P, 0, none⟩ (.int .i64 (yb 0))).setCell ⟨P, 1, none⟩ (.int .i64 (yb 1))).setCell ⟨P, 2, none⟩ (.int .i64 (yb 2))).setCell ⟨P, 3, none⟩ (.bool (yo 0))).setCell ⟨P, 4, none⟩ (.bool (yo 1))).setCell ⟨P, 5, none⟩ (.bool (yo 2))).setCell ⟨P, 6, none⟩ (.int .i64 z)).cell? ⟨J, j, none⟩ = some v :=
  cell_other (cell_other (cell_other (cell_other (cell_other (cell_other (cell_other h (ne_blk hJ)) (ne_blk hJ)) (ne_blk hJ)) (ne_blk hJ)) (ne_blk hJ)) (ne_blk hJ)) (ne_blk hJ)
/-- The less of two. -/
def tvmin (x y : Int) : Int := min x y
theorem tvrun_min (ts : Array TypeId) (t : TypeId) (p q : Int) (w : World) : (Builtin.min_ ts t #[.int .i64 p, .int .i64 q]).run Try.prog w = .ok (.int .i64 (tvmin p q)) w := by
  unfold tvmin; by_cases h : q < p
  · rw [Int.min_eq_right (by omega)]; simp [Builtin.min_, Builtin.min2, h]
  · rw [Int.min_eq_left (by omega)]; simp [Builtin.min_, Builtin.min2, h]
/-- What a channel says. -/
def tfI (q : Nat) (ly : Bool) (j : Nat) : Bool := if j = q then ly else true
def sfI (q : Nat) (n tr lz : Int) (by' : Nat → Int) (j : Nat) : Int := if j = q then lz else tr + clipI (by' j) (-n) n
/-- All that a frame works on. -/
def TJ (w0 w : World) (P J I : Nat) (b : Nat → Int) (o : Nat → Bool) (l m c : Int) (ly : Bool) (lz : Int) (t : Nat → Bool) (s : Nat → Int) : Prop :=
  SampAt w I t s ∧ Frz w I 6 ∧ (w.cell? ⟨J, 0, none⟩ = some (.bool ly) ∧ w.cell? ⟨J, 1, none⟩ = some (.int .i64 lz)) ∧ TV w0 w P b o l m c ∧ P < J ∧ J < I
theorem TJ.put {w0 w : World} {P J I : Nat} {b o l m c ly lz t s} (h : TJ w0 w P J I b o l m c ly lz t s) (k : Nat) (hk : k < 3) (p : Bool) (q : Int) : TJ w0 ((w.setCell ⟨I, k * 2, none⟩ (.bool p)).setCell ⟨I, k * 2 + 1, none⟩ (.int .i64 q)) P J I b o l m c ly lz (updB t k p) (updI s k q) := by
  obtain ⟨h1, h2, h3, h4, h5, h6⟩ := h
  exact ⟨h1.put k hk p q, h2.set.set, ⟨cell_other (cell_other h3.1 (ne_blk (by omega))) (ne_blk (by omega)), cell_other (cell_other h3.2 (ne_blk (by omega))) (ne_blk (by omega))⟩, (h4.set (by omega)).set (by omega), h5, h6⟩
theorem clipI_in {x lo hi : Int} (h : lo ≤ hi) : lo ≤ clipI x lo hi ∧ clipI x lo hi ≤ hi := by
  unfold clipI; split
  · omega
  · split
    · omega
    · split <;> omega
theorem tin_of {q : Nat} {n tr lz : Int} {ly : Bool} {by' : Nat → Int} (h1 : -1000000 ≤ lz ∧ lz ≤ 1000000) (h2 : -900000 ≤ tr ∧ tr ≤ 900000) (h3 : 0 ≤ n ∧ n ≤ 1000) : TIn q n tr ly lz (tfI q ly) (sfI q n tr lz by') := by
  refine ⟨fun k hk hkq => ?_, fun _ => ⟨if_pos rfl, if_pos rfl⟩, h1, h2, h3⟩
  have a := clipI_in (x := by' k) (show -n ≤ n by omega)
  unfold tfI sfI; rw [if_neg hkq, if_neg hkq]; exact ⟨rfl, by omega, by omega⟩
theorem upd_twiceB (t : Nat → Bool) (k : Nat) (p q : Bool) : updB (updB t k p) k q = updB t k q := by funext j; simp only [updB]; split <;> rfl
theorem upd_twiceI (t : Nat → Int) (k : Nat) (p q : Int) : updI (updI t k p) k q = updI t k q := by funext j; simp only [updI]; split <;> rfl
theorem mix3 {f g : Nat → Int} : ∀ j, j < 3 → mixI 3 f g j = f j := fun _ hj => if_pos hj
theorem mix3B {f g : Nat → Bool} : ∀ j, j < 3 → mixB 3 f g j = f j := fun _ hj => if_pos hj
theorem SampAt.same {w : World} {B : Nat} {t t' : Nat → Bool} {s s' : Nat → Int} (h : SampAt w B t s) (ht : ∀ j, j < 3 → t j = t' j) (hs : ∀ j, j < 3 → s j = s' j) : SampAt w B t' s' := by
  unfold SampAt at *
  rw [← ht 0 (by omega), ← ht 1 (by omega), ← ht 2 (by omega), ← hs 0 (by omega), ← hs 1 (by omega), ← hs 2 (by omega)]; exact h

set_option maxRecDepth 100000 in
set_option maxHeartbeats 4000000 in
theorem topVote_walk (m c noise liar : Int) (a : Option Addr) (ca : Nat) (Tr : Nat → Int) (By : Nat → Nat → Int) (Ly : Nat → Bool) (Lz : Nat → Int) (len : Nat) (w : World) (hm : len ≤ 9223372036854775807) (hl : PLs w a Tr By Ly Lz len) :
    Calls Try.prog 3 #[.agg #[.int .i64 m, .int .i64 c], .int .i64 noise, .int .i64 liar, .slice a len ca] w fun e w' => e = .returned (.bool true) ∧ Below w.heap.size w w' := by
  have hru := ruleMay_any m c
  have HX := hide (⟨⟨by simp [go_sem], by simp [go_sem]⟩, vbelow_alloc _ _⟩ : RuleAt (w.alloc (.cells #[.int .i64 m, .int .i64 c] 23)) w.heap.size m c ∧ Below w.heap.size w (w.alloc (.cells #[.int .i64 m, .int .i64 c] 23)))
  have HL := hide hl
  clear hl
  by_cases hr : ruleE m c = 0
  · rw [hr] at hru
    have HR := hide hr
    have hrb : ruleB m c = true := by
      unfold ruleE at hr; split at hr
      · assumption
      · omega
    obtain ⟨⟨m0, m1⟩, c0, c1⟩ := ruleB_true hrb
    clear hr hrb
    have hbt := between_any noise 0 (m / 2)
    generalize hz : (decide (0 ≤ noise) && decide (noise ≤ m / 2)) = z at *
    cases z
    · clear hz
      go_enter Try.func3, Try.ntmps3
      go_wp2_with (first
        | (go_at_call 10; refine (awake_any _).mono ?_; rintro e w1 ⟨rfl, hb1⟩; have HX := hide (⟨HX.out.1.later hb1, vbelow_up HX.out.2 hb1⟩ : RuleAt w1 w.heap.size m c ∧ Below w.heap.size w w1); obtain ⟨⟨q0, q1⟩, _⟩ := HX.out; clear hb1)
        | (go_at_call 11; refine (hru _).mono ?_; rintro e w2 ⟨rfl, hb2⟩; have HX := hide (⟨HX.out.1.later hb2, vbelow_up HX.out.2 hb2⟩ : RuleAt w2 w.heap.size m c ∧ Below w.heap.size w w2); obtain ⟨⟨q0, q1⟩, _⟩ := HX.out; clear hb2)
        | (go_at_call 12; refine (hbt _).mono ?_; rintro e w' ⟨rfl, hq⟩; have hq := hq.symm; subst hq))
      go_ret
      exact ⟨rfl, HX.out.2⟩
    · have hz' : 0 ≤ noise ∧ noise ≤ m / 2 := by simp at hz; exact hz
      clear hz
      by_cases h100 : (100 : Int) < (len : Int)
      · clear hz'
        go_enter Try.func3, Try.ntmps3
        go_wp2_with (first
          | (go_at_call 10; refine (awake_any _).mono ?_; rintro e w1 ⟨rfl, hb1⟩; have HX := hide (⟨HX.out.1.later hb1, vbelow_up HX.out.2 hb1⟩ : RuleAt w1 w.heap.size m c ∧ Below w.heap.size w w1); obtain ⟨⟨q0, q1⟩, _⟩ := HX.out; clear hb1)
          | (go_at_call 11; refine (hru _).mono ?_; rintro e w2 ⟨rfl, hb2⟩; have HX := hide (⟨HX.out.1.later hb2, vbelow_up HX.out.2 hb2⟩ : RuleAt w2 w.heap.size m c ∧ Below w.heap.size w w2); obtain ⟨⟨q0, q1⟩, _⟩ := HX.out; clear hb2)
          | (go_at_call 12; refine (hbt _).mono ?_; rintro e w' ⟨rfl, hq⟩; have hq := hq.symm; subst hq))
        go_ret
        exact ⟨rfl, HX.out.2⟩
      · have hpk := pick_any liar 4 (by omega) (by omega)
        have hp0 : 0 ≤ liar % 4 ∧ liar % 4 < 4 := ⟨Int.emod_nonneg _ (by omega), Int.emod_lt_of_pos _ (by omega)⟩
        obtain ⟨q, hq⟩ : ∃ q : Nat, liar % 4 = (q : Int) := ⟨(liar % 4).toNat, by omega⟩
        rw [hq] at hpk hp0
        clear hq
        have q4 : (q : Int) < 4 := hp0.2
        have hmn := fun ts t p q w => tvrun_min ts t p q w
        obtain ⟨n, HNE⟩ : ∃ n, Hid (tvmin noise 1000 = n) := ⟨_, rfl⟩
        have n0 : 0 ≤ n ∧ n ≤ 1000 ∧ 2 * n ≤ m := by have := HNE.out; unfold tvmin at this; omega
        obtain ⟨n0, n1, n2⟩ := n0
        have l100 : (len : Int) ≤ 100 := by omega
        clear h100 hz' hp0
        go_enter Try.func3, Try.ntmps3
        go_wp2_with (first
          | (go_at_call 10; refine (awake_any _).mono ?_; rintro e w1 ⟨rfl, hb1⟩; have HX := hide (⟨HX.out.1.later hb1, vbelow_up HX.out.2 hb1⟩ : RuleAt w1 w.heap.size m c ∧ Below w.heap.size w w1); obtain ⟨⟨q0, q1⟩, _⟩ := HX.out; clear hb1)
          | (go_at_call 11; refine (hru _).mono ?_; rintro e w2 ⟨rfl, hb2⟩; have HX := hide (⟨HX.out.1.later hb2, vbelow_up HX.out.2 hb2⟩ : RuleAt w2 w.heap.size m c ∧ Below w.heap.size w w2); obtain ⟨⟨q0, q1⟩, _⟩ := HX.out; clear hb2)
          | (go_at_call 12; refine (hbt _).mono ?_; rintro e w' ⟨rfl, hq⟩; have hq := hq.symm; subst hq)
          | (go_at_call 13; refine (hpk _).mono ?_; rintro e w' ⟨rfl, hq⟩; have hq := hq.symm; subst hq))
        rw [HNE.out]
        have HT := hide (⟨⟨⟨by simp [go_sem, zI], by simp [go_sem, zI], by simp [go_sem, zI], by simp [go_sem, zB], by simp [go_sem, zB], by simp [go_sem, zB], by simp [go_sem]⟩, Frz.new⟩, HX.out.1.later (vbelow_alloc _ _), vbelow_up HX.out.2 (vbelow_alloc _ _), World.block_lt_of_cell? w2 ⟨w.heap.size, 0, none⟩ HX.out.1.1⟩ : TV w (w2.alloc (.cells #[.int .i64 0, .int .i64 0, .int .i64 0, .bool false, .bool false, .bool false, .int .i64 0] 33)) w2.heap.size zI zB 0 m c)
        generalize (w2.alloc (.cells #[.int .i64 0, .int .i64 0, .int .i64 0, .bool false, .bool false, .bool false, .int .i64 0] 33)) = w3 at *
        generalize w2.heap.size = P at *
        clear HX q0 q1 hru hbt hpk hmn HNE
        go_loopw [10, 11] (fun f ix wr => ∃ (k : Nat) (far : Int) (b : Nat → Int) (o : Nat → Bool) (l : Int), k ≤ len ∧ ix = .int .i64 k ∧ f = .int .i64 far ∧ far ≤ k ∧ TInv q c far b o l ∧ TV w wr P b o l m c) (fun _ ix _ => len - (intOf ix).toNat)
        case atStart => exact ⟨0, 0, zI, zB, 0, Nat.zero_le _, rfl, rfl, by omega, TInv.new q c0, HT.out⟩
        case round =>
          clear HT
          obtain ⟨k, far, b, o, l, hk, rfl, rfl, hfk, hI, hT⟩ := hrel
          by_cases hlt : k < len
          · obtain ⟨bl, ol, rfl, p0, p1, p2, p3⟩ := (HL.out.later hT.2.2.1).at hlt
            have hf0 := hI.far0
            have HI := hide hI
            have HT := hide hT
            have j0 : (0 : Int) ≤ (k : Int) := by omega
            have j1 : (k : Int) < (len : Int) := by omega
            have hc1 := refClip_any (Tr k) (-900000) 900000 (by omega)
            have hc2 := refClip_any (Lz k) (-1000000) 1000000 (by omega)
            have b1 := clipI_in (x := Tr k) (show (-900000 : Int) ≤ 900000 by omega)
            have b2 := clipI_in (x := Lz k) (show (-1000000 : Int) ≤ 1000000 by omega)
            generalize clipI (Tr k) (-900000) 900000 = tr at *
            generalize clipI (Lz k) (-1000000) 1000000 = lz at *
            obtain ⟨by', HBY⟩ : ∃ by', Hid (By k = by') := ⟨_, rfl⟩
            generalize Tr k = tr0 at *
            generalize Lz k = lz0 at *
            generalize Ly k = ly at *
            clear hI hT p1
            go_upto_region 12 with (first
              | (go_at_call_of 14 (Value.int .i64 tr0); refine (hc1 _).mono ?_; rintro e w' ⟨rfl, hq⟩; have hq := hq.symm; subst hq)
              | (go_at_call_of 14 (Value.int .i64 lz0); refine (hc2 _).mono ?_; rintro e w' ⟨rfl, hq⟩; have hq := hq.symm; subst hq))
            have HJ := hide (⟨⟨by simp [go_sem], by simp [go_sem]⟩, HT.out.later (vbelow_alloc _ _), HT.out.lt⟩ : ((wr.alloc (.cells #[.bool ly, .int .i64 lz] 36)).cell? ⟨wr.heap.size, 0, none⟩ = some (.bool ly) ∧ (wr.alloc (.cells #[.bool ly, .int .i64 lz] 36)).cell? ⟨wr.heap.size, 1, none⟩ = some (.int .i64 lz)) ∧ TV w (wr.alloc (.cells #[.bool ly, .int .i64 lz] 36)) P b o l m c ∧ P < wr.heap.size)
            generalize wr.alloc (.cells #[.bool ly, .int .i64 lz] 36) = wj at *
            generalize wr.heap.size = J at *
            clear HT p0 p2 p3 hc1 hc2
            have HS := hide (⟨⟨by simp [go_sem, zB], by simp [go_sem, zI], by simp [go_sem, zB], by simp [go_sem, zI], by simp [go_sem, zB], by simp [go_sem, zI]⟩, Frz.new, ⟨cell_later (vbelow_alloc _ _) HJ.out.1.1, cell_later (vbelow_alloc _ _) HJ.out.1.2⟩, HJ.out.2.1.later (vbelow_alloc _ _), HJ.out.2.2, World.block_lt_of_cell? wj ⟨J, 0, none⟩ HJ.out.1.1⟩ : TJ w (wj.alloc (.cells #[.bool false, .int .i64 0, .bool false, .int .i64 0, .bool false, .int .i64 0] 39)) P J wj.heap.size b o l m c ly lz zB zI)
            go_wp2
            generalize wj.alloc (.cells #[.bool false, .int .i64 0, .bool false, .int .i64 0, .bool false, .int .i64 0] 39) = wk at *
            generalize wj.heap.size = I at *
            clear HJ
            have HBN := hide (fun j => clipI_in (x := by' j) (show -n ≤ n by omega))
            go_loopw [15] (fun ix u => ∃ kk : Nat, kk ≤ 3 ∧ ix = .int .i64 kk ∧ TJ w u P J I b o l m c ly lz (mixB kk (tfI q ly) zB) (mixI kk (sfI q n tr lz by') zI)) (fun ix _ => 3 - (intOf ix).toNat)
            case atStart => exact ⟨0, by omega, rfl, by rw [mixB_zero, mixI_zero]; exact HS.out⟩
            case round =>
              clear HS
              obtain ⟨kk, hk3, rfl, hJ⟩ := hrel
              rename World => wu
              by_cases hl3 : kk < 3
              · obtain ⟨h1, h2, ⟨h3, h4⟩, h5, h6, h7⟩ := hJ
                have HT := hide (show TJ w wu P J I b o l m c ly lz (mixB kk (tfI q ly) zB) (mixI kk (sfI q n tr lz by') zI) from ⟨h1, h2, ⟨h3, h4⟩, h5, h6, h7⟩)
                obtain ⟨bl', ol', hbo, _, pp, _⟩ := (HL.out.later h5.2.2.1).at hlt
                simp only [Option.some.injEq, Addr.mk.injEq] at hbo
                obtain ⟨rfl, rfl, _⟩ := hbo
                have pj := pp kk hl3
                clear pp
                rw [HBY.out] at pj
                have d0 := h1.there kk hl3
                have d1 := h1.is kk hl3
                have e0 := h2.1 (kk * 2) (by omega)
                have e1 := h2.1 (kk * 2 + 1) (by omega)
                have i0 : (0 : Int) ≤ (kk : Int) := by omega
                have i1 : (kk : Int) < 3 := by omega
                have hc3 := refClip_any (by' kk) (-n) n (by omega)
                have b3 := HBN.out kk
                have HSF := hide (show tfI q ly kk = (if kk = q then ly else true) ∧ sfI q n tr lz by' kk = (if kk = q then lz else tr + clipI (by' kk) (-n) n) from ⟨rfl, rfl⟩)
                generalize clipI (by' kk) (-n) n = cb at *
                generalize by' kk = bb at *
                have hIJ : I ≠ J := by omega
                have hJI : J ≠ I := by omega
                clear h1 h2 h5 h6 h7
                by_cases hkq : kk = q
                · have hkq' : ((kk : Int) == (q : Int)) = true := by simp; omega
                  rw [if_pos hkq, if_pos hkq] at HSF
                  clear hkq
                  go_wp2_with (go_at_call 14; refine (hc3 _).mono ?_; rintro e w' ⟨rfl, hq⟩; have hq := hq.symm; subst hq)
                  go_roundw
                  case rel =>
                    refine ⟨kk + 1, by omega, by go_num, ?_⟩
                    rw [mixB_step, mixI_step, HSF.out.1, HSF.out.2, ← upd_twiceB _ kk true ly, ← upd_twiceI _ kk (tr + cb) lz]
                    exact (HT.out.put kk hl3 true (tr + cb)).put kk hl3 ly lz
                  case measure => simp [intOf]; omega
                · have hkq' : ((kk : Int) == (q : Int)) = false := by simp; omega
                  rw [if_neg hkq, if_neg hkq] at HSF
                  clear hkq
                  go_wp2_with (go_at_call 14; refine (hc3 _).mono ?_; rintro e w' ⟨rfl, hq⟩; have hq := hq.symm; subst hq)
                  go_roundw
                  case rel =>
                    refine ⟨kk + 1, by omega, by go_num, ?_⟩
                    rw [mixB_step, mixI_step, HSF.out.1, HSF.out.2]
                    exact HT.out.put kk hl3 true (tr + cb)
                  case measure => simp [intOf]; omega
              · have e3 : kk = 3 := by omega
                subst e3
                have hin := tin_of (q := q) (n := n) (tr := tr) (lz := lz) (ly := ly) (by' := by') b2 b1 ⟨n0, n1⟩
                have hse := stepE_in HR.out HI.out hin
                have hst := step_ok b o l m c (tfI q ly) (sfI q n tr lz by') hse
                have HTS := hide (tinv_step HR.out n2 HI.out hin)
                have HSA := hide (hJ.1.same mix3B mix3)
                obtain ⟨s0, s1, s2, s3, s4, s5⟩ := HSA.out
                obtain ⟨_, _, ⟨h3, h4⟩, h5, h6, h7⟩ := hJ
                have HT := hide h5
                have HLI := hide (And.intro h3 h4)
                have HPJ := hide h6
                obtain ⟨a0, a1, a2, a3, a4, a5, a6⟩ := h5.1.1
                obtain ⟨r0, r1⟩ := h5.2.1
                obtain ⟨yb, HYB⟩ : ∃ yb, Hid (nbI (tfI q ly) o (sfI q n tr lz by') b (votI (tfI q ly) o (sfI q n tr lz by') l) m = yb) := ⟨_, rfl⟩
                obtain ⟨yo, HYO⟩ : ∃ yo, Hid (noB (tfI q ly) o (sfI q n tr lz by') b (votI (tfI q ly) o (sfI q n tr lz by') l) m c = yo) := ⟨_, rfl⟩
                rw [HYB.out, HYO.out] at hst
                rw [HYB.out, HYO.out] at HTS
                generalize votI (tfI q ly) o (sfI q n tr lz by') l = v at *
                generalize manyU (tfI q ly) o 3 = mu at *
                generalize tfI q ly 0 = t0 at *
                generalize tfI q ly 1 = t1 at *
                generalize tfI q ly 2 = t2 at *
                generalize sfI q n tr lz by' 0 = z0 at *
                generalize sfI q n tr lz by' 1 = z1 at *
                generalize sfI q n tr lz by' 2 = z2 at *
                clear hin hse HSA HYB HYO h5 h6 h7
                have bv := HTS.out.1
                go_upto_region 20 with (go_at_call 15; refine (hst _).mono ?_; rintro e w4 ⟨rfl, hb4⟩; have HT := hide (HT.out.later hb4); have HLI := hide (And.intro (cell_later hb4 HLI.out.1) (cell_later hb4 HLI.out.2)); clear hb4 s0 s1 s2 s3 s4 s5 a0 a1 a2 a3 a4 a5 a6 r0 r1 h3 h4)
                have HN := hide (⟨BankAt.later ⟨by simp [go_sem], by simp [go_sem], by simp [go_sem], by simp [go_sem], by simp [go_sem], by simp [go_sem], by simp [go_sem]⟩ (vbelow_alloc _ _), by simp [go_sem], (HT.out.later (vbelow_alloc _ _)).later (vbelow_alloc _ _), ⟨cell_later (vbelow_alloc _ _) (cell_later (vbelow_alloc _ _) HLI.out.1), cell_later (vbelow_alloc _ _) (cell_later (vbelow_alloc _ _) HLI.out.2)⟩, HT.out.lt⟩ : BankAt ((w4.alloc (.cells #[.int .i64 (yb 0), .int .i64 (yb 1), .int .i64 (yb 2), .bool (yo 0), .bool (yo 1), .bool (yo 2), .int .i64 v] 33)).alloc (.cells #[.int .i64 v, .int .i64 mu] 41)) w4.heap.size yb yo v ∧ ((w4.alloc (.cells #[.int .i64 (yb 0), .int .i64 (yb 1), .int .i64 (yb 2), .bool (yo 0), .bool (yo 1), .bool (yo 2), .int .i64 v] 33)).alloc (.cells #[.int .i64 v, .int .i64 mu] 41)).cell? ⟨w4.heap.size + 1, 0, none⟩ = some (.int .i64 v) ∧ TV w ((w4.alloc (.cells #[.int .i64 (yb 0), .int .i64 (yb 1), .int .i64 (yb 2), .bool (yo 0), .bool (yo 1), .bool (yo 2), .int .i64 v] 33)).alloc (.cells #[.int .i64 v, .int .i64 mu] 41)) P b o l m c ∧ (((w4.alloc (.cells #[.int .i64 (yb 0), .int .i64 (yb 1), .int .i64 (yb 2), .bool (yo 0), .bool (yo 1), .bool (yo 2), .int .i64 v] 33)).alloc (.cells #[.int .i64 v, .int .i64 mu] 41)).cell? ⟨J, 0, none⟩ = some (.bool ly) ∧ ((w4.alloc (.cells #[.int .i64 (yb 0), .int .i64 (yb 1), .int .i64 (yb 2), .bool (yo 0), .bool (yo 1), .bool (yo 2), .int .i64 v] 33)).alloc (.cells #[.int .i64 v, .int .i64 mu] 41)).cell? ⟨J, 1, none⟩ = some (.int .i64 lz)) ∧ P < w4.heap.size)
                generalize (w4.alloc (.cells #[.int .i64 (yb 0), .int .i64 (yb 1), .int .i64 (yb 2), .bool (yo 0), .bool (yo 1), .bool (yo 2), .int .i64 v] 33)).alloc (.cells #[.int .i64 v, .int .i64 mu] 41) = w5 at *
                generalize w4.heap.size = N at *
                clear HT HLI hst
                have hb1 := between_any v (tr - n) (tr + n)
                rw [decide_eq_true bv.1, decide_eq_true bv.2] at hb1
                obtain ⟨bv0, bv1⟩ := bv
                obtain ⟨⟨n0', n1', n2', n3', n4', n5', n6'⟩, nv, htv, _, hPN⟩ := HN.out
                have f0 := htv.1.2.1 0 (by omega)
                have f1 := htv.1.2.1 1 (by omega)
                have f2 := htv.1.2.1 2 (by omega)
                have f3 := htv.1.2.1 3 (by omega)
                have f4 := htv.1.2.1 4 (by omega)
                have f5 := htv.1.2.1 5 (by omega)
                have f6 := htv.1.2.1 6 (by omega)
                obtain ⟨a0, a1, a2, a3, a4, a5, a6⟩ := htv.1.1
                clear htv hPN
                go_upto_region 23 with (go_at_call 12; refine (hb1 _).mono ?_; rintro e w' ⟨rfl, hq⟩; have hq := hq.symm; subst hq)
                have HT := hide (HN.out.2.2.1.put yb yo v)
                have HJP : Hid (P ≠ J) := Nat.ne_of_lt HPJ.out
                have HLI := hide (And.intro (lie_past HJP.out HN.out.2.2.2.1.1 yb yo v) (lie_past HJP.out HN.out.2.2.2.1.2 yb yo v))
                generalize (((((((w5.setCell ⟨P, 0, none⟩ (.int .i64 (yb 0))).setCell ⟨P, 1, none⟩ (.int .i64 (yb 1))).setCell ⟨P, 2, none⟩ (.int .i64 (yb 2))).setCell ⟨P, 3, none⟩ (.bool (yo 0))).setCell ⟨P, 4, none⟩ (.bool (yo 1))).setCell ⟨P, 5, none⟩ (.bool (yo 2))).setCell ⟨P, 6, none⟩ (.int .i64 v)) = w6 at *
                clear HN a0 a1 a2 a3 a4 a5 a6 f0 f1 f2 f3 f4 f5 f6 n0' n1' n2' n3' n4' n5' n6' nv hb1
                obtain ⟨g0, g1⟩ := HLI.out
                obtain ⟨r0, r1⟩ := HT.out.2.1
                have HBO := hide (fun kk hk3 => HT.out.1.1.out kk hk3)
                have hnr : nearB m n tr ly lz = (ly && (decide (tr - m - n ≤ lz) && decide (lz ≤ tr + m + n))) := rfl
                have hb2 := between_any lz (tr - m - n) (tr + m + n)
                have HFI := hide (show farI m n tr far ly lz = if nearB m n tr ly lz then 0 else far + 1 from rfl)
                generalize (decide (tr - m - n ≤ lz) && decide (lz ≤ tr + m + n)) = x at *
                have HFA := hide HTS.out.2
                obtain ⟨fa, HFE⟩ : ∃ fa, Hid (farI m n tr far ly lz = fa) := ⟨_, rfl⟩
                rw [HFE.out] at HFI HFA
                clear HTS HFE
                rcases (show ly = false ∨ (ly = true ∧ x = true) ∨ (ly = true ∧ x = false) by cases ly <;> cases x <;> simp) with rfl | ⟨rfl, rfl⟩ | ⟨rfl, rfl⟩
                · have efa : fa = _ := HFI.out
                  rw [hnr] at efa
                  clear hnr HFI
                  simp at efa
                  subst efa
                  have hfb : 0 ≤ (far + 1) ∧ (far + 1) ≤ (k : Int) + 1 := by omega
                  go_wp2_with (go_at_call 12; refine (hb2 _).mono ?_; rintro e w' ⟨rfl, hq⟩; have hq := hq.symm; subst hq)
                  clear hb2
                  go_loop [19] (fun ix => ∃ kk : Nat, kk ≤ 3 ∧ ix = .int .i64 kk) (fun ix => 3 - (intOf ix).toNat)
                  case atStart => exact ⟨0, by omega, rfl⟩
                  case round =>
                    obtain ⟨kk, hk3, rfl⟩ := hrel
                    by_cases hl3 : kk < 3
                    · have ob := HBO.out kk hl3
                      have i0 : (0 : Int) ≤ (kk : Int) := by omega
                      have i1 : (kk : Int) < 3 := by omega
                      by_cases hkq : kk = q
                      · have e1 : ((kk : Int) != (q : Int)) = false := by simp; omega
                        have e2 : ((kk : Int) == (q : Int)) = true := by simp; omega
                        by_cases hfc : c ≤ (far + 1)
                        · have hy : yo kk = true := by
                            rcases HFA.out.liar (by omega) with h | ⟨h, h'⟩
                            · rw [hkq]; exact h
                            · omega
                          rw [hy] at ob
                          clear hkq hy
                          go_wp2
                          go_round
                          case rel => exact ⟨kk + 1, by omega, by go_num⟩
                          case measure => simp [intOf]; omega
                        · clear hkq
                          go_wp2
                          go_round
                          case rel => exact ⟨kk + 1, by omega, by go_num⟩
                          case measure => simp [intOf]; omega
                      · have e1 : ((kk : Int) != (q : Int)) = true := by simp; omega
                        have e2 : ((kk : Int) == (q : Int)) = false := by simp; omega
                        rw [(HFA.out.good kk hl3 hkq).1] at ob
                        clear hkq
                        go_wp2
                        go_round
                        case rel => exact ⟨kk + 1, by omega, by go_num⟩
                        case measure => simp [intOf]; omega
                    · go_wp2
                      go_roundw
                      case rel => exact ⟨k + 1, (far + 1), yb, yo, v, by omega, by go_num, rfl, by omega, HFA.out, HT.out⟩
                      case measure => simp [intOf]; omega
                · have efa : fa = _ := HFI.out
                  rw [hnr] at efa
                  clear hnr HFI
                  simp at efa
                  subst efa
                  have hfb : 0 ≤ (0 : Int) ∧ (0 : Int) ≤ (k : Int) + 1 := by omega
                  go_wp2_with (go_at_call 12; refine (hb2 _).mono ?_; rintro e w' ⟨rfl, hq⟩; have hq := hq.symm; subst hq)
                  clear hb2
                  go_loop [19] (fun ix => ∃ kk : Nat, kk ≤ 3 ∧ ix = .int .i64 kk) (fun ix => 3 - (intOf ix).toNat)
                  case atStart => exact ⟨0, by omega, rfl⟩
                  case round =>
                    obtain ⟨kk, hk3, rfl⟩ := hrel
                    by_cases hl3 : kk < 3
                    · have ob := HBO.out kk hl3
                      have i0 : (0 : Int) ≤ (kk : Int) := by omega
                      have i1 : (kk : Int) < 3 := by omega
                      by_cases hkq : kk = q
                      · have e1 : ((kk : Int) != (q : Int)) = false := by simp; omega
                        have e2 : ((kk : Int) == (q : Int)) = true := by simp; omega
                        by_cases hfc : c ≤ (0 : Int)
                        · exfalso; omega
                        · clear hkq
                          go_wp2
                          go_round
                          case rel => exact ⟨kk + 1, by omega, by go_num⟩
                          case measure => simp [intOf]; omega
                      · have e1 : ((kk : Int) != (q : Int)) = true := by simp; omega
                        have e2 : ((kk : Int) == (q : Int)) = false := by simp; omega
                        rw [(HFA.out.good kk hl3 hkq).1] at ob
                        clear hkq
                        go_wp2
                        go_round
                        case rel => exact ⟨kk + 1, by omega, by go_num⟩
                        case measure => simp [intOf]; omega
                    · go_wp2
                      go_roundw
                      case rel => exact ⟨k + 1, (0 : Int), yb, yo, v, by omega, by go_num, rfl, by omega, HFA.out, HT.out⟩
                      case measure => simp [intOf]; omega
                · have efa : fa = _ := HFI.out
                  rw [hnr] at efa
                  clear hnr HFI
                  simp at efa
                  subst efa
                  have hfb : 0 ≤ (far + 1) ∧ (far + 1) ≤ (k : Int) + 1 := by omega
                  go_wp2_with (go_at_call 12; refine (hb2 _).mono ?_; rintro e w' ⟨rfl, hq⟩; have hq := hq.symm; subst hq)
                  clear hb2
                  go_loop [19] (fun ix => ∃ kk : Nat, kk ≤ 3 ∧ ix = .int .i64 kk) (fun ix => 3 - (intOf ix).toNat)
                  case atStart => exact ⟨0, by omega, rfl⟩
                  case round =>
                    obtain ⟨kk, hk3, rfl⟩ := hrel
                    by_cases hl3 : kk < 3
                    · have ob := HBO.out kk hl3
                      have i0 : (0 : Int) ≤ (kk : Int) := by omega
                      have i1 : (kk : Int) < 3 := by omega
                      by_cases hkq : kk = q
                      · have e1 : ((kk : Int) != (q : Int)) = false := by simp; omega
                        have e2 : ((kk : Int) == (q : Int)) = true := by simp; omega
                        by_cases hfc : c ≤ (far + 1)
                        · have hy : yo kk = true := by
                            rcases HFA.out.liar (by omega) with h | ⟨h, h'⟩
                            · rw [hkq]; exact h
                            · omega
                          rw [hy] at ob
                          clear hkq hy
                          go_wp2
                          go_round
                          case rel => exact ⟨kk + 1, by omega, by go_num⟩
                          case measure => simp [intOf]; omega
                        · clear hkq
                          go_wp2
                          go_round
                          case rel => exact ⟨kk + 1, by omega, by go_num⟩
                          case measure => simp [intOf]; omega
                      · have e1 : ((kk : Int) != (q : Int)) = true := by simp; omega
                        have e2 : ((kk : Int) == (q : Int)) = false := by simp; omega
                        rw [(HFA.out.good kk hl3 hkq).1] at ob
                        clear hkq
                        go_wp2
                        go_round
                        case rel => exact ⟨kk + 1, by omega, by go_num⟩
                        case measure => simp [intOf]; omega
                    · go_wp2
                      go_roundw
                      case rel => exact ⟨k + 1, (far + 1), yb, yo, v, by omega, by go_num, rfl, by omega, HFA.out, HT.out⟩
                      case measure => simp [intOf]; omega
          · go_wp2
            go_ret
            exact ⟨rfl, hT.2.2.1⟩
  · rw [ruleE_ne hr] at hru
    clear hr
    go_enter Try.func3, Try.ntmps3
    go_wp2_with (first
      | (go_at_call 10; refine (awake_any _).mono ?_; rintro e w1 ⟨rfl, hb1⟩; have HX := hide (⟨HX.out.1.later hb1, vbelow_up HX.out.2 hb1⟩ : RuleAt w1 w.heap.size m c ∧ Below w.heap.size w w1); obtain ⟨⟨q0, q1⟩, _⟩ := HX.out; clear hb1)
      | (go_at_call 11; refine (hru _).mono ?_; rintro e w2 ⟨rfl, hb2⟩; have HX := hide (⟨HX.out.1.later hb2, vbelow_up HX.out.2 hb2⟩ : RuleAt w2 w.heap.size m c ∧ Below w.heap.size w w2); obtain ⟨⟨q0, q1⟩, _⟩ := HX.out; clear hb2))
    go_ret
    exact ⟨rfl, HX.out.2⟩


end Go.Proofs.Ythijegfacnjooaa
