/-
  Contracts of the dice of package fulmarref: the next number of raw ones, and the most of a few. They turn the dice's own count, and nothing else.
-/
import Derived.Test.YthijegfacnjooaaServoA
namespace Go.Proofs.Ythijegfacnjooaa
open Go.RowKit Plain

/-- All that lay there lies as it lay, block O aside. -/
structure DK (O : Nat) (w w' : World) : Prop where
  os : w'.os = w.os
  tape : w'.tape = w.tape
  output : w'.output = w.output
  size : w.heap.size ≤ w'.heap.size
  block : ∀ k, k < w.heap.size → k ≠ O → w'.heap[k]? = w.heap[k]?
theorem DK.refl (O : Nat) (w : World) : DK O w w := ⟨rfl, rfl, rfl, Nat.le_refl _, fun _ _ _ => rfl⟩
theorem DK.trans {O : Nat} {a b c : World} (h : DK O a b) (k : DK O b c) : DK O a c := ⟨k.os.trans h.os, k.tape.trans h.tape, k.output.trans h.output, Nat.le_trans h.size k.size, fun i hi ho => (k.block i (Nat.lt_of_lt_of_le hi h.size) ho).trans (h.block i hi ho)⟩
theorem DK.cell {O : Nat} {w w' : World} (h : DK O w w') {p : Addr} {v : Value} (ho : p.block ≠ O) (hv : w.cell? p = some v) : w'.cell? p = some v :=
  (World.cell?_of_block (w := w) (h.block p.block (World.block_lt_of_cell? w p hv) ho)).trans hv
theorem DK.of_below {O : Nat} {w w' : World} (h : Below w.heap.size w w') : DK O w w' := ⟨h.os, h.tape, h.output, h.size, fun k hs _ => h.block k hs⟩
theorem DK.set {O j : Nat} {a w : World} (h : DK O a w) (v : Value) : DK O a (w.setCell ⟨O, j, none⟩ v) := ⟨h.os, h.tape, h.output, by simpa using h.size, fun k hk ho => (Below.heap_setCell w ⟨O, j, none⟩ v k ho).trans (h.block k hk ho)⟩

theorem DK.below {O K : Nat} {w0 w w' : World} (h : Below K w0 w) (d : DK O w w') (hO : K ≤ O) (hK : K ≤ w.heap.size) : Below K w0 w' :=
  ⟨d.os.trans h.os, d.tape.trans h.tape, d.output.trans h.output, Nat.le_trans h.size d.size, fun k hk => (d.block k (by omega) (by omega)).trans (h.block k hk)⟩
theorem DK.drewN {O : Nat} {a w : World} (h : DK O a w) (n : Nat) : DK O a (w.drewN n) := h.trans (DK.of_below (below_drewN (Below.refl _ _) n))

/-- The dice lie in block O: raw numbers l, n of them taken. -/
def Dc (w : World) (O : Nat) (a : Option Addr) (l : List Int) (cap n : Nat) : Prop :=
  (w.cell? ⟨O, 0, none⟩ = some (.slice a l.length cap) ∧ w.cell? ⟨O, 1, none⟩ = some (.int .i64 (n : Int))) ∧ w.frozen? ⟨O, 1, none⟩ = false ∧ ILs w a l ∧ (∀ b off, a = some ⟨b, off, none⟩ → l ≠ [] → b ≠ O)
theorem Dc.later {w w' : World} {O : Nat} {a : Option Addr} {l : List Int} {cap n : Nat} (h : Dc w O a l cap n) (hb : Below w.heap.size w w') : Dc w' O a l cap n :=
  ⟨⟨cell_later hb h.1.1, cell_later hb h.1.2⟩, (hb.frozen (p := ⟨O, 1, none⟩) (World.block_lt_of_cell? w ⟨O, 1, none⟩ h.1.2)).trans h.2.1, h.2.2.1.later hb, h.2.2.2⟩
theorem ILs.dset {w : World} {a : Option Addr} {l : List Int} {O j : Nat} {v : Value} (h : ILs w a l) (hne : ∀ b off, a = some ⟨b, off, none⟩ → l ≠ [] → b ≠ O) : ILs (w.setCell ⟨O, j, none⟩ v) a l := by
  rcases h with h | ⟨b, off, h, hc⟩
  · exact .inl h
  · by_cases hl : l = []
    · exact .inl hl
    · exact .inr ⟨b, off, h, fun k hk => scell_other (hc k hk) (sne_blk (Ne.symm (hne b off h hl)))⟩
theorem Dc.next {w : World} {O : Nat} {a : Option Addr} {l : List Int} {cap n : Nat} (h : Dc w O a l cap n) : Dc (w.setCell ⟨O, 1, none⟩ (.int .i64 ((n : Int) + 1))) O a l cap (n + 1) := by
  refine ⟨⟨scell_other h.1.1 (sne_off (by decide)), ?_⟩, by simpa [go_sem] using h.2.1, h.2.2.1.dset h.2.2.2, h.2.2.2⟩
  rw [show (((n + 1 : Nat) : Int)) = (n : Int) + 1 by omega]; exact scell_same h.1.2
theorem Dc.lt {w : World} {O : Nat} {a : Option Addr} {l : List Int} {cap n : Nat} (h : Dc w O a l cap n) : O < w.heap.size := World.block_lt_of_cell? w ⟨O, 1, none⟩ h.1.2

theorem dpick_any (n d : Int) (d0 : 0 < d) (d1 : d ≤ 8000000000000) (w : World) :
    Calls Try.prog 13 #[.int .i64 n, .int .i64 d] w fun e w' => (∃ x, e = .returned (.int .i64 x) ∧ 0 ≤ x ∧ x < d) ∧ w' = w :=
  (pick_any n d d0 d1 w).mono fun e w' h => ⟨⟨_, h.1, Int.emod_nonneg _ (by omega), Int.emod_lt_of_pos _ d0⟩, h.2⟩

set_option maxRecDepth 100000 in
set_option maxHeartbeats 1000000 in
theorem diceN_any (O : Nat) (a : Option Addr) (l : List Int) (cap n : Nat) (m : Int) (m0 : 0 < m) (m1 : m ≤ 8000000000000) (hn : n ≤ 1000000) (hl : l.length ≤ 100) (w : World) (hd : Dc w O a l cap n) :
    Calls Try.prog 29 #[.pointer (some ⟨O, 0, none⟩), .int .i64 m] w fun e w' => (∃ x, e = .returned (.int .i64 x) ∧ 0 ≤ x ∧ x < m) ∧ Dc w' O a l cap (n + 1) ∧ DK O w w' ∧ w'.heap.size = w.heap.size := by
  have HD := ahide hd
  have hpk := fun x => dpick_any x m m0 m1
  obtain ⟨⟨c0, c1⟩, cf, hil, _⟩ := hd
  by_cases h0 : 0 < l.length
  · have hlt : n % l.length < l.length := Nat.mod_lt _ h0
    obtain ⟨bl, ol, rfl, ci⟩ := hil.at hlt
    obtain ⟨j, hj⟩ : ∃ j, n % l.length = j := ⟨_, rfl⟩
    rw [hj] at hlt ci
    have e1 : ((n : Int)).tmod (l.length : Int) = (j : Int) := by rw [← hj]; rfl
    have e2 : ((n : Int)) % (l.length : Int) = (j : Int) := by rw [← hj]; rfl
    obtain ⟨q, hqn⟩ : ∃ q, n / l.length = q := ⟨_, rfl⟩
    have hq : ((n : Int)).tdiv (l.length : Int) = (q : Int) := by rw [← hqn]; rfl
    have hq' : ((n : Int)) / (l.length : Int) = (q : Int) := by rw [← hqn]; rfl
    have qb : (q : Int) ≤ 1000000 := by
      have : n / l.length ≤ n := Nat.div_le_self _ _
      omega
    generalize l.getD j 0 = x at *
    have tb := tmod_bd x 1000000007 1000000007 (by omega) (by omega) (by omega)
    have hlb : (0 : Int) < (l.length : Int) := by omega
    have j0 : (0 : Int) ≤ (j : Int) := by omega
    have j1 : (j : Int) < (l.length : Int) := by omega
    have z1 : ((l.length : Int) == 0) = false := beq_eq_false_iff_ne.2 (by omega)
    have n0 : (n : Int) ≤ 1000000 := by omega
    have v1 : IntKind.i64.wrap (7919 * (q : Int)) = 7919 * (q : Int) := swrap_id (by omega) (by omega)
    have v2 : IntKind.i64.wrap (x.tmod 1000000007 + 7919 * (q : Int)) = x.tmod 1000000007 + 7919 * (q : Int) := swrap_id (by omega) (by omega)
    clear hil hj hqn
    go_enter Try.func29, Try.ntmps29
    go_upto_region 3 with fail
    go_quiet (fail)
    go_wp2_with (go_at_call 13; refine (hpk _ _).mono ?_; rintro e w' ⟨⟨y, rfl, y0, y1⟩, hq⟩; have hq := hq.symm; subst hq)
    go_ret
    exact ⟨⟨_, rfl, y0, y1⟩, (HD.out.later (below_drewN (Below.refl _ _) _)).next, ((DK.refl _ _).drewN _).set _, by simp [go_sem]⟩
  · have e : l.length = 0 := by omega
    have hz : (l.length : Int) = 0 := by omega
    have n0 : (n : Int) ≤ 1000000 := by omega
    have hz' : ¬ (0 : Int) < (l.length : Int) := by omega
    clear hil e hz
    go_enter Try.func29, Try.ntmps29
    go_wp2_with (go_at_call 13; refine (hpk _ _).mono ?_; rintro e w' ⟨⟨x, rfl, x0, x1⟩, hq⟩; have hq := hq.symm; subst hq)
    go_ret
    exact ⟨⟨_, rfl, x0, x1⟩, HD.out.next, (DK.refl _ _).set _, by simp [go_sem]⟩

/-- One of a few, each from lo to hi. -/
theorem diceMost_any (O B : Nat) (a : Option Addr) (l : List Int) (cap n c2 : Nat) (vs : List Int) (lo hi : Int) (hn : n ≤ 1000000) (hl : l.length ≤ 100) (hv : 0 < vs.length) (hv' : vs.length ≤ 100) (hb : ∀ k, k < vs.length → lo ≤ vs.getD k 0 ∧ vs.getD k 0 ≤ hi) (hBO : B ≠ O) (w : World) (hd : Dc w O a l cap n) (hc : ∀ k, k < vs.length → w.cell? ⟨B, k, none⟩ = some (.int .i64 (vs.getD k 0))) :
    Calls Try.prog 28 #[.pointer (some ⟨O, 0, none⟩), .slice (some ⟨B, 0, none⟩) vs.length c2] w fun e w' => (∃ x, e = .returned (.int .i64 x) ∧ lo ≤ x ∧ x ≤ hi) ∧ Dc w' O a l cap (n + 1) ∧ DK O w w' ∧ w'.heap.size = w.heap.size := by
  have hN := diceN_any O a l cap n (vs.length : Int) (by omega) (by omega) hn hl w hd
  have HC := ahide hc
  have HB := ahide hb
  clear hc hb hd
  go_enter Try.func28, Try.ntmps28
  go_wp2_with (go_at_call 29; refine hN.mono ?_; rintro e w1 ⟨⟨x, rfl, x0, x1⟩, hD1, hK1, hs1⟩; obtain ⟨k, hk⟩ : ∃ k : Nat, x = (k : Int) := ⟨x.toNat, by omega⟩; subst hk; have ck := hK1.cell (p := ⟨B, k, none⟩) hBO (HC.out k (by omega)); have HD := ahide hD1; have HK := ahide hK1; have HS := ahide hs1; clear hD1 hK1 hs1)
  go_ret
  have hbk := HB.out k (by omega)
  exact ⟨⟨_, rfl, hbk.1, hbk.2⟩, HD.out, HK.out, HS.out⟩

end Go.Proofs.Ythijegfacnjooaa
