import Derived.Deep.RegionHeld3
import Derived.Sort.OwnSorted
import Derived.Lib.BitFns
import Derived.Laws.BitsAllLaws
import Derived.Laws.Bits128
import Derived.Deep.CutRange
import Derived.BigQuiet
import Derived.Deep.QuietTactic
import Derived.BigRegion
import Derived.Test.YtnfdfiholcelaaaGreatDoorJd00
import Derived.Test.YtnfdfiholcelaaaGreatDoorJd01
set_option maxRecDepth 100000
set_option maxHeartbeats 20000000
namespace Go.Proofs.YtnfdfiholcelaaaGreatDoor
open Go.RowKit Go.Sort Go.Shelf Plain
theorem compare_any (x y : Int) (w : World) : Calls Tryz.prog 206 #[Vi x, Vi y] w fun e w' => e = .returned (Vi (cmpI x y)) ∧ w' = w := by
 unfold cmpI
 by_cases h1 : x < y
 · rw [if_pos h1]
   go_enter Tryz.func206, Tryz.ntmps206
   go_wp2_with (go_at_call 238; refine (nan_any _ _).mono ?_; rintro e w' ⟨rfl, rfl⟩); go_ret; exact ⟨rfl, rfl⟩
 · rw [if_neg h1]
   by_cases h2 : y < x
   · rw [if_pos h2]
     go_enter Tryz.func206, Tryz.ntmps206
     go_wp2_with (go_at_call 238; refine (nan_any _ _).mono ?_; rintro e w' ⟨rfl, rfl⟩); go_ret; exact ⟨rfl, rfl⟩
   · rw [if_neg h2]
     go_enter Tryz.func206, Tryz.ntmps206
     go_wp2_with (go_at_call 238; refine (nan_any _ _).mono ?_; rintro e w' ⟨rfl, rfl⟩); go_ret; exact ⟨rfl, rfl⟩
theorem or_two (b : Nat) (x y : Int) (w : World) (c0 : w.cell? (Ad b 0) = some (Vi x)) (c1 : w.cell? (Ad b 1) = some (Vi y)) :
 Calls Tryz.prog 205 #[.slice (some (Ad b 0)) 2 2] w fun e w' => e = .returned (Vi (if x = 0 then y else x)) ∧ w' = w := by
 by_cases hx : x = 0
 · rw [if_pos hx]; subst hx
   by_cases hy : y = 0
   · subst hy
     go_enter Tryz.func205, Tryz.ntmps205
     go_wp2; refine wp_loop_rounds 3 ?_; rw [rounds_succ]; go_wp2; rw [rounds_succ]; go_wp2; rw [rounds_succ]; go_wp2; go_ret; exact ⟨rfl, rfl⟩
   · have hy' : (y != 0) = true := by simpa using hy
     go_enter Tryz.func205, Tryz.ntmps205
     go_wp2; refine wp_loop_rounds 3 ?_; rw [rounds_succ]; go_wp2; rw [rounds_succ]; go_wp2; go_ret; exact ⟨rfl, rfl⟩
 · rw [if_neg hx]
   have hx' : (x != 0) = true := by simpa using hx
   go_enter Tryz.func205, Tryz.ntmps205
   go_wp2; refine wp_loop_rounds 3 ?_; rw [rounds_succ]; go_wp2; go_ret; exact ⟨rfl, rfl⟩
theorem Zbw {p : Prop} (h : p) : Hid p := h
theorem keepWC {w u u' : World} {x1 x2 y1 y2 : Int} (hb : Gro u u') (h : (u.cell? (Ad w.heap.size 0) = some (Vi x1) ∧ u.cell? (Ad w.heap.size 1) = some (Vi x2) ∧ u.cell? (Ad (w.heap.size + 1) 0) = some (Vi y1) ∧ u.cell? (Ad (w.heap.size + 1) 1) = some (Vi y2)) ∧ Gro w u) : (u'.cell? (Ad w.heap.size 0) = some (Vi x1) ∧ u'.cell? (Ad w.heap.size 1) = some (Vi x2) ∧ u'.cell? (Ad (w.heap.size + 1) 0) = some (Vi y1) ∧ u'.cell? (Ad (w.heap.size + 1) 1) = some (Vi y2)) ∧ Gro w u' :=
 ⟨⟨cell_later hb.below h.1.1, cell_later hb.below h.1.2.1, cell_later hb.below h.1.2.2.1, cell_later hb.below h.1.2.2.2⟩, h.2.trans hb⟩
theorem wcompare_any (x1 x2 x3 x4 y1 y2 y3 y4 : Int) (w : World) :
 Calls Tryz.prog 152 #[.agg #[Vi x1, Vi x2, Vi x3, Vi x4], .agg #[Vi y1, Vi y2, Vi y3, Vi y4]] w fun e w' => e = .returned (Vi (if cmpI x1 y1 = 0 then cmpI x2 y2 else cmpI x1 y1)) ∧ Gro w w' := by
 have k1 := fun u => (compare_any x1 y1 u).mono (fun e w' h => (⟨h.1, by rw [h.2]; exact Gro.refl _⟩ : e = _ ∧ Gro u w')); have k2 := fun u => (compare_any x2 y2 u).mono (fun e w' h => (⟨h.1, by rw [h.2]; exact Gro.refl _⟩ : e = _ ∧ Gro u w')); generalize cmpI x1 y1 = c1 at *; generalize cmpI x2 y2 = c2 at *; have ko := fun b u h0 h1 => (or_two b c1 c2 u h0 h1).mono (fun e w' h => (⟨h.1, by rw [h.2]; exact Gro.refl _⟩ : e = _ ∧ Gro u w')); generalize (if c1 = 0 then c2 else c1) = z at *
 go_enter Tryz.func152, Tryz.ntmps152
 go_upto_region 1 with fail; have Z : Hid ((((w.alloc (.cells #[Vi x1, Vi x2, Vi x3, Vi x4] 161)).alloc (.cells #[Vi y1, Vi y2, Vi y3, Vi y4] 161)).cell? (Ad w.heap.size 0) = some (Vi x1) ∧ ((w.alloc (.cells #[Vi x1, Vi x2, Vi x3, Vi x4] 161)).alloc (.cells #[Vi y1, Vi y2, Vi y3, Vi y4] 161)).cell? (Ad w.heap.size 1) = some (Vi x2) ∧ ((w.alloc (.cells #[Vi x1, Vi x2, Vi x3, Vi x4] 161)).alloc (.cells #[Vi y1, Vi y2, Vi y3, Vi y4] 161)).cell? (Ad (w.heap.size + 1) 0) = some (Vi y1) ∧ ((w.alloc (.cells #[Vi x1, Vi x2, Vi x3, Vi x4] 161)).alloc (.cells #[Vi y1, Vi y2, Vi y3, Vi y4] 161)).cell? (Ad (w.heap.size + 1) 1) = some (Vi y2)) ∧ Gro w ((w.alloc (.cells #[Vi x1, Vi x2, Vi x3, Vi x4] 161)).alloc (.cells #[Vi y1, Vi y2, Vi y3, Vi y4] 161))) := Zbw ⟨⟨by simp [go_sem], by simp [go_sem], by simp [go_sem], by simp [go_sem]⟩, ((Gro.refl w).alloc _).alloc _⟩; generalize (w.alloc (.cells #[Vi x1, Vi x2, Vi x3, Vi x4] 161)).alloc (.cells #[Vi y1, Vi y2, Vi y3, Vi y4] 161) = w1 at *; obtain ⟨⟨q0, q1, q2, q3⟩, _⟩ := Z.out
 go_region_held3 (fun u => (u.cell? (Ad w.heap.size 0) = some (Vi x1) ∧ u.cell? (Ad w.heap.size 1) = some (Vi x2) ∧ u.cell? (Ad (w.heap.size + 1) 0) = some (Vi y1) ∧ u.cell? (Ad (w.heap.size + 1) 1) = some (Vi y2)) ∧ Gro w u)
  (first
   | (with_reducible assumption)
   | (with_reducible apply keepWC; with_reducible assumption; with_reducible assumption)
   | (refine keepWC ?_ Z.out; exact (Gro.refl _).drew)
   | (with_reducible refine keepWC ((Gro.refl _).alloc _) ?_; with_reducible assumption))
  (first
   | ((first | go_at_call_of 206 (Vi x1) | go_at_call_of 206 (Value.int .i64 x1)); refine Sb (k1 _) fun w' hb => ?_)
   | ((first | go_at_call_of 206 (Vi x2) | go_at_call_of 206 (Value.int .i64 x2)); refine Sb (k2 _) fun w' hb => ?_)
   | (go_at_call 205; refine Sb (ko _ _ (by simp [go_sem]) (by simp [go_sem])) fun w' hb => ?_))
 all_goals
  rename_i hH
  have HB := Zbw hH.2; clear hH; go_wp2_with fail; go_ret; exact ⟨rfl, HB.out⟩
theorem encL_get : ∀ (l : List Rd) (t : Nat), t < l.length * 4 → (encL l)[t]? = (encR (rat l (t / 4)))[t % 4]?
 | [], t, h => by simp at h
 | r :: s, t, h => by
  show (encR r ++ encL s)[t]? = _
  by_cases ht : t < 4
  · rw [List.getElem?_append_left (by rw [Zie]; exact ht), Nat.div_eq_of_lt ht, Nat.mod_eq_of_lt ht]
    rfl
  · rw [List.getElem?_append_right (by rw [Zie]; omega), Zie, encL_get s (t - 4) (by simp at h; omega)]
    have e1 : t / 4 = (t - 4) / 4 + 1 := by omega
    have e2 : t % 4 = (t - 4) % 4 := by omega
    rw [e1, e2]
    rfl
theorem getD_bang (l : List Rd) (k : Nat) (h : k < l.length) : l.toArray[k]! = rat l k := by
 rw [rat_eq h]
 simp [h]
theorem encR_some (r : Rd) (k : Nat) (h : k < 4) : (encR r)[k]? = some (encR r)[k]! := by
 rw [getElem!_pos _ k (by rw [Zie]; exact h)]; exact List.getElem?_eq_getElem _
theorem flat_encL (l : List Rd) : (flatK encR 4 l.toArray).toList = encL l := by
 apply List.ext_getElem?; intro t
 by_cases ht : t < l.length * 4
 · rw [encL_get l t ht, encR_some _ _ (Nat.mod_lt _ (by decide)), ← getD_bang l (t / 4) (by omega)]
   simp [flatK, ht]
 · rw [List.getElem?_eq_none (by simp; omega), List.getElem?_eq_none (by rw [Zcf]; omega)]
theorem holdsK_of_block {w : World} {g : Nat} {cur : Array Value} {e : TypeId} {l : List Rd} (hb : w.heap[g]? = some (.cells cur e (0, 0))) (ht : cur.toList.take (l.length * 4) = encL l) : HoldsK encR 4 w g 0 l.toArray := by
 intro j hj
 have hj' : j < l.length * 4 := by simpa using hj
 refine ⟨?_, by simp [World.frozen?, hb]⟩
 have h1 : (cur.toList.take (l.length * 4))[j]? = (encL l)[j]? := by rw [ht]
 rw [List.getElem?_take_of_lt hj', ← flat_encL, Array.getElem?_toList, Array.getElem?_toList] at h1; simp only [World.cell?, hb, Nat.zero_add]; simp only [Option.isSome_none, Bool.false_eq_true, if_false]; rw [h1, getElem!_pos _ j hj]; exact Array.getElem?_eq_getElem _
theorem heap_sortK {w : World} {g n : Nat} {os : Array Obj} {cur : Array Value} {e : TypeId} {fr : Nat × Nat} (d : Array Value) (hb : w.heap[g]? = some (.cells cur e fr)) :
 (grow (putRow id (Sort.ahead w n) g 0 d) os).heap[g]? = some (.cells (putCells id 0 d cur) e fr) := by
 have hg : g < w.heap.size := (Array.getElem?_eq_some_iff.1 hb).1; rw [heap_grow_old _ _ (by simpa using hg)]
 simp [putRow, mapBlock, Sort.ahead, Array.getElem?_modify, hb, onCells]
theorem grownBy_sortK {w : World} {g n : Nat} {os : Array Obj} (d : Array Value) : w.grownBy (grow (putRow id (Sort.ahead w n) g 0 d) os) (some g) := by
 refine ⟨rfl, rfl, rfl, by simp, fun k hk hne => ?_⟩; rw [heap_grow_old _ _ (by simpa using hk)]; have : g ≠ k := fun e => hne (by rw [e])
 simp [putRow, mapBlock, Sort.ahead, Array.getElem?_modify, this]
theorem take_putK (cur : Array Value) (ts : List Value) (h : ts.length ≤ cur.size) : (putCells id 0 ts.toArray cur).toList.take ts.length = ts := by
 apply List.ext_getElem?; intro j
 by_cases hj : j < ts.length
 · rw [List.getElem?_take_of_lt hj, Array.getElem?_toList]
   simp [putCells, hj, show j < cur.size by omega]
 · rw [List.getElem?_take_eq_none (by omega), List.getElem?_eq_none (by omega)]
theorem sortWorld_is (w : World) (g n : Nat) (l : List Rd) (os : Array Obj) : sortWorldK encR 4 w g 0 n l.toArray os = grow (putRow id (Sort.ahead w n) g 0 (encL l).toArray) os := by
 have : flatK encR 4 l.toArray = (encL l).toArray := by rw [← flat_encL]
 unfold sortWorldK putRowK
 rw [this]
theorem collect_any (gf : Nat) (lb : Array Value) (eg : ∀ args w, (callFunc gf args).run Tryz.prog w = .ok (.enter gf args) w) (S : List Rd → Prop) (N : Nat) (hN : N ≤ 1000) (w : World) (hseq : SeqGives Fence.wide 7 Tryz.prog gf lb rdV S N w) :
 Calls Tryz.prog 202 #[.func (.func gf) #[] lb] w fun e w' => ∃ (v : Value) (ss : List Rd), e = .returned v ∧ S ss ∧ OwnL w.heap.size v ss w' ∧ Below w.heap.size w w' := by
 have ha := appendSeq_any gf lb eg S N hN w hseq
 go_enter Tryz.func202, Tryz.ntmps202
 go_wp2_with (go_at_call 235; refine ha.mono ?_; rintro e w' ⟨v, ss, rfl, hS, ho, hb⟩); go_ret; exact ⟨v, ss, rfl, hS, ho, hb⟩
theorem cmp_lays (blk off n : Nat) (w : World) : CmpLays Tryz.prog 152 #[] encR 4 rcf blk off n w := fun _ _ _ _ x y =>
 (wcompare_any x.1 x.2.1 x.2.2.1 x.2.2.2 y.1 y.2.1 y.2.2.1 y.2.2.2 _).mono fun _ _ h => ⟨h.1, h.2⟩
theorem enters_cmp : ∀ args w, (callFunc 152 args).run Tryz.prog w = .ok (.enter 152 args) w := enters_of Tryz.func152 (by kernel_rfl) rfl
theorem sortedFunc_any (gf : Nat) (lb : Array Value) (eg : ∀ args w, (callFunc gf args).run Tryz.prog w = .ok (.enter gf args) w) (l : List Rd) (hso : l.Pairwise (fun x y => rlt x y = true)) (hN : l.length ≤ 1000) (w : World) (hseq : SeqGives Fence.wide 7 Tryz.prog gf lb rdV (fun ss => ss.Perm l) l.length w) :
 Calls Tryz.prog 150 #[.func (.func gf) #[] lb, .func (.func 152) #[] #[]] w fun e w' => ∃ v, e = .returned v ∧ OwnL w.heap.size v l w' ∧ Below w.heap.size w w' := by
 have hc := collect_any gf lb eg _ _ hN w hseq
 go_enter Tryz.func150, Tryz.ntmps150
 go_upto_region 2 with (go_at_call 202; refine hc.mono ?_; rintro e W ⟨v, ss, rfl, hS, ⟨hrow, hnil⟩, hb⟩); have hlen := hS.length_eq
 rcases hrow.2 with ⟨rfl, hz⟩ | ⟨g, cap, cur, rfl, hbase, hgb, r1, r2, r3, r4⟩
 · have hss : ss = [] := List.eq_nil_of_length_eq_zero hz; subst hss; obtain rfl : l = [] := List.eq_nil_of_length_eq_zero (by simpa using hlen.symm); clear hlen hz
   go_wp2_with (go_at_call 203; refine (sortF_none none 0 _ W).mono ?_; rintro e w' ⟨rfl, rfl⟩); go_ret; exact ⟨.slice none 0 0, rfl, ⟨hrow, by simp⟩, hb⟩
 · have hH : HoldsK encR 4 W g 0 ss.toArray := holdsK_of_block hgb r4; have hgl : g < W.heap.size := (Array.getElem?_eq_some_iff.1 hgb).1; have cS := sortF_any 152 #[] g 0 cap ss.toArray W enters_cmp (cmp_lays g 0 _ W) hH hgl (by simp; omega); rw [List.size_toArray] at cS; have HL : Hid (ss.length = l.length) := hlen; have HNL := Zbw hnil; clear hlen hnil
   go_wp2_with (go_at_call 203; refine cS.mono ?_; rintro e w' ⟨rfl, d', n, os, hp, hsd, rfl⟩); go_ret
   have hd : d' = l.toArray := by
    have := sortedIn_is (d := ss.toArray) (d' := d') hso (by simpa using hS) (by simpa using hp) (by simpa using hsd); rw [← this]
   subst hd; rw [sortWorld_is]; refine ⟨.slice (some (Ad g 0)) ss.length cap, rfl, ⟨?_, ?_⟩, hb.grown (grownBy_sortK _) hb.size (fun j hj => by cases hj; exact hbase)⟩
   · rw [HL.out]; refine ⟨Zcf l, .inr ⟨g, cap, _, rfl, hbase, heap_sortK _ hgb, by rw [← HL.out]; exact r1, r2, by simp [putCells, r3], ?_⟩⟩; rw [← Zcf]; exact take_putK cur _ (by rw [Zcf, r3, ← HL.out]; omega)
   · have : ss = [] ↔ l = [] := by rw [← List.length_eq_zero_iff, ← List.length_eq_zero_iff, HL.out]
     rw [HNL.out, this]
end Go.Proofs.YtnfdfiholcelaaaGreatDoor
namespace Go.Proofs.YtnfdfiholcelaaaGreatDoor.Plain
set_option linter.unusedVariables false
def ones (n : Int) : Nat → Int
 | 0 => 0
 | k + 1 => ones n k + n / 2 ^ k % 2
theorem Zhc (n : Int) : ∀ k, 0 ≤ ones n k
 | 0 => Int.le_refl _
 | k + 1 => by have := Zhc n k; simp only [ones]; omega
theorem ones_le (n : Int) : ∀ k : Nat, ones n k ≤ k
 | 0 => by simp [ones]
 | k + 1 => by have := ones_le n k; simp only [ones]; omega
def low (n : Int) : Nat → Int
 | 0 => 0
 | k + 1 => low n k + n / 2 ^ k % 2 * 2 ^ k
def turn (n : Int) : Nat → Int
 | 0 => 0
 | k + 1 => 2 * turn n k + n / 2 ^ k % 2
theorem pop_byte : ∀ n : Fin 256, Lib.pop8 (n.val : Int) = ones (n.val : Int) 8 := by decide +kernel
theorem rev_byte : ∀ n : Fin 256, Lib.rev8 (n.val : Int) = turn (n.val : Int) 8 := by decide +kernel
theorem rev_back : ∀ n : Fin 256, Lib.rev8 (Lib.rev8 (n.val : Int)) = (n.val : Int) := by decide +kernel
theorem rev_lt : ∀ n : Fin 256, 0 ≤ Lib.rev8 (n.val : Int) ∧ Lib.rev8 (n.val : Int) ≤ 255 := by decide +kernel
theorem pop_eq (b : Int) (h0 : 0 ≤ b) (h1 : b ≤ 255) : Lib.pop8 b = ones b 8 := by
 have := pop_byte ⟨b.toNat, by omega⟩
 rwa [Int.toNat_of_nonneg h0] at this
theorem rev_eq (b : Int) (h0 : 0 ≤ b) (h1 : b ≤ 255) : Lib.rev8 b = turn b 8 := by
 have := rev_byte ⟨b.toNat, by omega⟩
 rwa [Int.toNat_of_nonneg h0] at this
theorem rev_rev (b : Int) (h0 : 0 ≤ b) (h1 : b ≤ 255) : Lib.rev8 (Lib.rev8 b) = b := by
 have := rev_back ⟨b.toNat, by omega⟩
 rwa [Int.toNat_of_nonneg h0] at this
theorem Zgf (b : Int) (h0 : 0 ≤ b) (h1 : b ≤ 255) : 0 ≤ Lib.rev8 b ∧ Lib.rev8 b ≤ 255 := by
 have := rev_lt ⟨b.toNat, by omega⟩
 rwa [Int.toNat_of_nonneg h0] at this
theorem div_pow_add (w : Int) (a j : Nat) : w / 2 ^ a / 2 ^ j = w / 2 ^ (a + j) := by
 rw [Int.ediv_ediv_of_nonneg (Int.le_of_lt (Int.pow_pos (by decide))), Int.pow_add]
theorem Zgh (w : Int) (a : Nat) : ∀ b, ones w (a + b) = ones w a + ones (w / 2 ^ a) b
 | 0 => by simp [ones]
 | b + 1 => by rw [← Nat.add_assoc, ones, Zgh w a b, ones, div_pow_add]; omega
theorem bit_mod (w : Int) (k j : Nat) (h : j < k) : w % 2 ^ k / 2 ^ j % 2 = w / 2 ^ j % 2 := by
 have hp : (0 : Int) < 2 ^ j := Int.pow_pos (by decide); have e := Int.mul_ediv_add_emod w (2 ^ k); obtain ⟨m, rfl⟩ : ∃ m, k = j + 1 + m := ⟨k - j - 1, by omega⟩
 conv => rhs; rw [← e]
 have e2 : (2 : Int) ^ (j + 1 + m) * (w / 2 ^ (j + 1 + m)) = 2 ^ j * (2 * (2 ^ m * (w / 2 ^ (j + 1 + m)))) := by
  rw [Int.pow_add, Int.pow_succ, Int.mul_assoc, Int.mul_assoc]
 rw [e2, Int.add_comm, Int.add_mul_ediv_left _ _ (Int.ne_of_gt hp)]
 omega
theorem Zeq (w : Int) (k : Nat) : ∀ j, j ≤ k → ones (w % 2 ^ k) j = ones w j
 | 0, _ => rfl
 | j + 1, h => by rw [ones, ones, Zeq w k j (by omega), bit_mod w k j (by omega)]
theorem ones_bytes (w : Int) : ones w 32 = ones (w / 16777216 % 256) 8 + ones (w / 65536 % 256) 8 + ones (w / 256 % 256) 8 + ones (w % 256) 8 := by
 have e1 := Zgh w 24 8; have e2 := Zgh w 16 8; have e3 := Zgh w 8 8; have m0 := Zeq w 8 8 (Nat.le_refl _); have m1 := Zeq (w / 256) 8 8 (Nat.le_refl _); have m2 := Zeq (w / 65536) 8 8 (Nat.le_refl _); have m3 := Zeq (w / 16777216) 8 8 (Nat.le_refl _); simp only [Nat.reduceAdd, Int.reducePow] at e1 e2 e3 m0 m1 m2 m3
 omega
theorem turn_low (w : Int) : turn (w % 256) 8 = turn w 8 := by
 simp only [turn, Int.reducePow, Int.pow_zero]
 omega
end Go.Proofs.YtnfdfiholcelaaaGreatDoor.Plain
namespace Go.Proofs.YtnfdfiholcelaaaGreatDoor
open Go.RowKit Plain
theorem rev_any (x : Int) (h0 : 0 ≤ x) (h1 : x ≤ 255) (w : World) :
 Calls Tryz.prog 134 #[.int .u8 x] w fun e w' => e = .returned (.int .u8 (Lib.rev8 x)) ∧ w' = w := by
 go_enter Tryz.func134, Tryz.ntmps134
 go_wp2; go_ret; exact ⟨rfl, rfl⟩
theorem Zgg (b : Int) (h0 : 0 ≤ b) (h1 : b ≤ 255) : 0 ≤ Lib.pop8 b ∧ Lib.pop8 b ≤ 8 := by
 rw [pop_eq b h0 h1]; exact ⟨Zhc b 8, ones_le b 8⟩
theorem onesCount_any (x : Int) (h0 : 0 ≤ x) (h1 : x < 4294967296) (w : World) :
 Calls Tryz.prog 194 #[.int .u32 x] w fun e w' => e = .returned (Vi (ones x 32)) ∧ ∃ k, w' = w.drewN k := by
 have a0 : 0 ≤ x / 16777216 ∧ x / 16777216 ≤ 255 := by omega
 have a1 : 0 ≤ x / 65536 % 256 ∧ x / 65536 % 256 ≤ 255 := by omega
 have a2 : 0 ≤ x / 256 % 256 ∧ x / 256 % 256 ≤ 255 := by omega
 have a3 : 0 ≤ x % 256 ∧ x % 256 ≤ 255 := by omega
 have p0 := Zgg _ a0.1 a0.2; have p1 := Zgg _ a1.1 a1.2; have p2 := Zgg _ a2.1 a2.2; have p3 := Zgg _ a3.1 a3.2
 have e : ones x 32 = Lib.pop8 (x / 16777216) + Lib.pop8 (x / 65536 % 256) + Lib.pop8 (x / 256 % 256) + Lib.pop8 (x % 256) := by
  rw [ones_bytes, pop_eq _ a0.1 a0.2, pop_eq _ a1.1 a1.2, pop_eq _ a2.1 a2.2, pop_eq _ a3.1 a3.2]
  have : x / 16777216 % 256 = x / 16777216 := by omega
  rw [this]
 rw [e]; clear e
 have m1 : bits .and .u32 (x / 65536) 255 = x / 65536 % 256 := by rw [u32_and _ _ (by omega) (by omega) (by omega) (by omega)]; simp [nat_mask8]; omega
 have m2 : bits .and .u32 (x / 256) 255 = x / 256 % 256 := by rw [u32_and _ _ (by omega) (by omega) (by omega) (by omega)]; simp [nat_mask8]; omega
 have m3 : bits .and .u32 x 255 = x % 256 := by rw [u32_and _ _ (by omega) (by omega) (by omega) (by omega)]; simp [nat_mask8]; omega
 generalize hy0 : x / 16777216 = y0 at *; generalize hy1 : x / 65536 % 256 = y1 at *; generalize hy2 : x / 256 % 256 = y2 at *; generalize hy3 : x % 256 = y3 at *
 go_enter Tryz.func194, Tryz.ntmps194
 go_wp2; go_quiet (fail); go_wp2; go_ret; exact ⟨rfl, _, rfl⟩
theorem isOdd_any (x : Int) (h0 : 0 ≤ x) (h1 : x < 4294967296) (w : World) :
 Calls Tryz.prog 136 #[.int .u32 x] w fun e w' => e = .returned (.bool (decide (ones x 32 % 2 = 1))) ∧ ∃ k, w' = w.drewN k := by
 have hc := onesCount_any x h0 h1; have o0 := Zhc x 32; have o1 := ones_le x 32; generalize ones x 32 = n at *
 go_enter Tryz.func136, Tryz.ntmps136
 go_wp2_with (go_at_call 194; refine (hc _).mono ?_; rintro e w' ⟨rfl, k, rfl⟩); go_ret; exact ⟨by by_cases h : n % 2 = 1 <;> simp [h], _, rfl⟩
theorem fits_8 (x : Int) (w : World) :
 Calls Tryz.prog 192 #[Vi x, Vi 8] w fun e w' => e = .returned (.bool (decide (0 ≤ x) && decide (x < 256))) ∧ w' = w := by
 by_cases h0 : 0 ≤ x
 · by_cases h1 : x < 256
   · rw [decide_eq_true h0, decide_eq_true h1]
     go_enter Tryz.func192, Tryz.ntmps192
     go_wp2; go_ret; exact ⟨by simp, rfl⟩
   · rw [decide_eq_true h0, decide_eq_false h1]
     go_enter Tryz.func192, Tryz.ntmps192
     go_wp2; go_ret; exact ⟨by simp, rfl⟩
 · rw [decide_eq_false h0]
   go_enter Tryz.func192, Tryz.ntmps192
   go_wp2; go_ret; exact ⟨rfl, rfl⟩
theorem fits_2 (x : Int) (w : World) :
 Calls Tryz.prog 192 #[Vi x, Vi 2] w fun e w' => e = .returned (.bool (decide (0 ≤ x) && decide (x < 4))) ∧ w' = w := by
 by_cases h0 : 0 ≤ x
 · by_cases h1 : x < 4
   · rw [decide_eq_true h0, decide_eq_true h1]
     go_enter Tryz.func192, Tryz.ntmps192
     go_wp2; go_ret; exact ⟨by simp, rfl⟩
   · rw [decide_eq_true h0, decide_eq_false h1]
     go_enter Tryz.func192, Tryz.ntmps192
     go_wp2; go_ret; exact ⟨by simp, rfl⟩
 · rw [decide_eq_false h0]
   go_enter Tryz.func192, Tryz.ntmps192
   go_wp2; go_ret; exact ⟨rfl, rfl⟩
theorem signed_any (x : Int) (h0 : 0 ≤ x) (h1 : x < 524288) (w : World) :
 Calls Tryz.prog 201 #[.int .u32 x] w fun e w' => e = .returned (Vi (if 262143 < x then x - 524288 else x)) ∧ w' = w := by
 by_cases h : 262143 < x
 · rw [if_pos h]
   go_enter Tryz.func201, Tryz.ntmps201
   go_wp2; go_ret; exact ⟨rfl, rfl⟩
 · rw [if_neg h]
   go_enter Tryz.func201, Tryz.ntmps201
   go_wp2; go_ret; exact ⟨rfl, rfl⟩
theorem part_0_19 (x : Int) (h0 : 0 ≤ x) (h1 : x < 4294967296) (w : World) :
 Calls Tryz.prog 135 #[.int .u32 x, Vi 0, Vi 19] w fun e w' => e = .returned (.int .u32 (x % 524288)) ∧ ∃ k, w' = w.drewN k := by
 have m1 : bits .and .u32 (x) 524287 = x % 524288 := by rw [u32_and _ _ (by omega) (by omega) (by omega) (by omega)]; simp [nat_mask19]; omega
 go_enter Tryz.func135, Tryz.ntmps135
 go_wp2; go_quiet (fail); go_wp2; go_ret; exact ⟨by first | rfl | simp, _, rfl⟩
theorem part_8_2 (x : Int) (h0 : 0 ≤ x) (h1 : x < 4294967296) (w : World) :
 Calls Tryz.prog 135 #[.int .u32 x, Vi 8, Vi 2] w fun e w' => e = .returned (.int .u32 (x / 256 % 4)) ∧ ∃ k, w' = w.drewN k := by
 have m1 : bits .and .u32 (x / 256) 3 = x / 256 % 4 := by rw [u32_and _ _ (by omega) (by omega) (by omega) (by omega)]; simp [nat_mask2]; omega
 go_enter Tryz.func135, Tryz.ntmps135
 go_wp2; go_quiet (fail); go_wp2; go_ret; exact ⟨by first | rfl | simp, _, rfl⟩
theorem part_29_2 (x : Int) (h0 : 0 ≤ x) (h1 : x < 4294967296) (w : World) :
 Calls Tryz.prog 135 #[.int .u32 x, Vi 29, Vi 2] w fun e w' => e = .returned (.int .u32 (x / 536870912 % 4)) ∧ ∃ k, w' = w.drewN k := by
 have m1 : bits .and .u32 (x / 536870912) 3 = x / 536870912 % 4 := by rw [u32_and _ _ (by omega) (by omega) (by omega) (by omega)]; simp [nat_mask2]; omega
 go_enter Tryz.func135, Tryz.ntmps135
 go_wp2; go_quiet (fail); go_wp2; go_ret; exact ⟨by first | rfl | simp, _, rfl⟩
theorem part_10_19 (x : Int) (h0 : 0 ≤ x) (h1 : x < 4294967296) (w : World) :
 Calls Tryz.prog 135 #[.int .u32 x, Vi 10, Vi 19] w fun e w' => e = .returned (.int .u32 (x / 1024 % 524288)) ∧ ∃ k, w' = w.drewN k := by
 have m1 : bits .and .u32 (x / 1024) 524287 = x / 1024 % 524288 := by rw [u32_and _ _ (by omega) (by omega) (by omega) (by omega)]; simp [nat_mask19]; omega
 go_enter Tryz.func135, Tryz.ntmps135
 go_wp2; go_quiet (fail); go_wp2; go_ret; exact ⟨by first | rfl | simp, _, rfl⟩
theorem Zaw (w : World) (o : Obj) : Below w.heap.size w (w.alloc o) := (Below.refl _ _).alloc (Nat.le_refl _) o
theorem Zcc {w w1 w2 : World} (h : Below w.heap.size w w1) (k : Below w1.heap.size w1 w2) : Below w.heap.size w w2 := h.trans (k.mono h.size)
def mayR (a b c d : Int) : Bool := (decide (0 ≤ a) && decide (a < 256)) && (decide (0 ≤ b) && decide (b < 4)) && (decide (0 ≤ c) && decide (c < 4)) && (decide (-262144 ≤ d) && decide (d < 262144))
theorem mayR_true {a b c d : Int} (h : mayR a b c d = true) : (0 ≤ a ∧ a < 256) ∧ (0 ≤ b ∧ b < 4) ∧ (0 ≤ c ∧ c < 4) ∧ -262144 ≤ d ∧ d < 262144 := by
 simp [mayR] at h; omega
theorem wHold_any (d : Int) (w : World) : Calls Tryz.prog 193 #[Vi d] w fun e w' => e = .returned (Vi (Zar d (-262144) 262143)) ∧ w' = w := by
 go_enter Tryz.func193, Tryz.ntmps193
 go_wp2_with (go_at_call 172; refine (Zav _ _ _ _).mono ?_; rintro e w' ⟨rfl, rfl⟩); go_ret; exact ⟨rfl, rfl⟩
theorem check_any (a b c d : Int) (w : World) :
 Calls Tryz.prog 133 #[.agg #[Vi a, Vi b, Vi c, Vi d]] w fun e w' => e = .returned (errV (if mayR a b c d then 0 else 1)) ∧ Below w.heap.size w w' := by
 have f1 := fits_8 a; have f2 := fits_2 b; have f3 := fits_2 c; have hh := wHold_any d
 have hd : (d != Zar d (-262144) 262143) = !(decide (-262144 ≤ d) && decide (d < 262144)) := by
  unfold Zar
  by_cases h1 : d < -262144
  · rw [if_pos h1, decide_eq_false (show ¬ -262144 ≤ d by omega)]; simp; omega
  · rw [if_neg h1, if_neg (by omega), decide_eq_true (show -262144 ≤ d by omega)]
    by_cases h2 : 262143 < d
    · rw [if_pos h2, decide_eq_false (show ¬ d < 262144 by omega)]; simp; omega
    · rw [if_neg h2, decide_eq_true (show d < 262144 by omega)]; simp
 unfold mayR
 generalize Zar d (-262144) 262143 = k at *; generalize (decide (0 ≤ a) && decide (a < 256)) = x1 at *; generalize (decide (0 ≤ b) && decide (b < 4)) = x2 at *; generalize (decide (0 ≤ c) && decide (c < 4)) = x3 at *; generalize (decide (-262144 ≤ d) && decide (d < 262144)) = x4 at *
 rcases (show x1 = false ∨ (x1 = true ∧ x2 = false) ∨ (x1 = true ∧ x2 = true ∧ x3 = false) ∨ (x1 = true ∧ x2 = true ∧ x3 = true ∧ x4 = false) ∨ (x1 = true ∧ x2 = true ∧ x3 = true ∧ x4 = true) by cases x1 <;> cases x2 <;> cases x3 <;> cases x4 <;> simp) with rfl | ⟨rfl, rfl⟩ | ⟨rfl, rfl, rfl⟩ | ⟨rfl, rfl, rfl, rfl⟩ | ⟨rfl, rfl, rfl, rfl⟩
 · go_enter Tryz.func133, Tryz.ntmps133
   go_wp2_with (first | ((first | go_at_call_of 192 (Vi a) | go_at_call_of 192 (Value.int .i64 a)); refine (f1 _).mono ?_; rintro e w' ⟨rfl, rfl⟩) | ((first | go_at_call_of 192 (Vi b) | go_at_call_of 192 (Value.int .i64 b)); refine (f2 _).mono ?_; rintro e w' ⟨rfl, rfl⟩) | ((first | go_at_call_of 192 (Vi c) | go_at_call_of 192 (Value.int .i64 c)); refine (f3 _).mono ?_; rintro e w' ⟨rfl, rfl⟩)); go_ret; exact ⟨rfl, Zaw _ _⟩
 · go_enter Tryz.func133, Tryz.ntmps133
   go_wp2_with (first | ((first | go_at_call_of 192 (Vi a) | go_at_call_of 192 (Value.int .i64 a)); refine (f1 _).mono ?_; rintro e w' ⟨rfl, rfl⟩) | ((first | go_at_call_of 192 (Vi b) | go_at_call_of 192 (Value.int .i64 b)); refine (f2 _).mono ?_; rintro e w' ⟨rfl, rfl⟩) | ((first | go_at_call_of 192 (Vi c) | go_at_call_of 192 (Value.int .i64 c)); refine (f3 _).mono ?_; rintro e w' ⟨rfl, rfl⟩)); go_ret; exact ⟨rfl, Zaw _ _⟩
 · go_enter Tryz.func133, Tryz.ntmps133
   go_wp2_with (first | ((first | go_at_call_of 192 (Vi a) | go_at_call_of 192 (Value.int .i64 a)); refine (f1 _).mono ?_; rintro e w' ⟨rfl, rfl⟩) | ((first | go_at_call_of 192 (Vi b) | go_at_call_of 192 (Value.int .i64 b)); refine (f2 _).mono ?_; rintro e w' ⟨rfl, rfl⟩) | ((first | go_at_call_of 192 (Vi c) | go_at_call_of 192 (Value.int .i64 c)); refine (f3 _).mono ?_; rintro e w' ⟨rfl, rfl⟩)); go_ret; exact ⟨rfl, Zaw _ _⟩
 all_goals
  simp only [Bool.not_false, Bool.not_true] at hd
  go_enter Tryz.func133, Tryz.ntmps133
  go_wp2_with (first | ((first | go_at_call_of 192 (Vi a) | go_at_call_of 192 (Value.int .i64 a)); refine (f1 _).mono ?_; rintro e w' ⟨rfl, rfl⟩) | ((first | go_at_call_of 192 (Vi b) | go_at_call_of 192 (Value.int .i64 b)); refine (f2 _).mono ?_; rintro e w' ⟨rfl, rfl⟩) | ((first | go_at_call_of 192 (Vi c) | go_at_call_of 192 (Value.int .i64 c)); refine (f3 _).mono ?_; rintro e w' ⟨rfl, rfl⟩)); go_quiet ((go_at_call 193; exact Calls.quiet_of_same (hh _))); go_wp2; go_ret; exact ⟨rfl, below_drewN (Zaw _ _) _⟩
def bodyI (a b c d : Int) : Int := Lib.rev8 a + b * 256 + d % 524288 * 1024 + c * 536870912
def Zfp (a b c d : Int) : Int := if ones (bodyI a b c d) 32 % 2 = 1 then bodyI a b c d else bodyI a b c d + 2147483648
theorem box4 {w w' : World} {a b c d : Int} {T : TypeId} (hb : Below (w.alloc (.cells #[Vi a, Vi b, Vi c, Vi d] T)).heap.size (w.alloc (.cells #[Vi a, Vi b, Vi c, Vi d] T)) w') :
 w'.cell? (Ad w.heap.size 0) = some (Vi a) ∧ w'.cell? (Ad w.heap.size 1) = some (Vi b) ∧ w'.cell? (Ad w.heap.size 2) = some (Vi c) ∧ w'.cell? (Ad w.heap.size 3) = some (Vi d) :=
 ⟨cell_later hb (by simp [go_sem]), cell_later hb (by simp [go_sem]), cell_later hb (by simp [go_sem]), cell_later hb (by simp [go_sem])⟩
theorem pack_yes (a b c d : Int) (hm : mayR a b c d = true) (w : World) :
 Calls Tryz.prog 84 #[.agg #[Vi a, Vi b, Vi c, Vi d]] w fun e w' => e = .returned (.tuple #[.int .u32 (Zfp a b c d), .nilIface]) ∧ Below w.heap.size w w' := by
 have hc := check_any a b c d; rw [hm, if_pos rfl, Zaq] at hc; obtain ⟨⟨a0, a1⟩, ⟨b0, b1⟩, ⟨c0, c1⟩, d0, d1⟩ := mayR_true hm; obtain ⟨r0, r1⟩ := Zgf a a0 (by omega)
 have e1 : bits .or .u32 (Lib.rev8 a) (b * 256) = Lib.rev8 a + b * 256 := by
  rw [u32_or _ _ r0 (by omega) (by omega) (by omega), Nat.or_comm, nat_join 8 _ _ (by omega) (by omega)]; omega
 have e2 : bits .or .u32 (Lib.rev8 a + b * 256) (d % 524288 * 1024) = Lib.rev8 a + b * 256 + d % 524288 * 1024 := by
  rw [u32_or _ _ (by omega) (by omega) (by omega) (by omega), Nat.or_comm, nat_join 10 _ _ (by omega) (by omega)]; omega
 have e3 : bits .or .u32 (Lib.rev8 a + b * 256 + d % 524288 * 1024) (c * 536870912) = Lib.rev8 a + b * 256 + d % 524288 * 1024 + c * 536870912 := by
  rw [u32_or _ _ (by omega) (by omega) (by omega) (by omega), Nat.or_comm, nat_join 29 _ _ (by omega) (by omega)]; omega
 have e4 : bits .or .u32 (Lib.rev8 a + b * 256 + d % 524288 * 1024 + c * 536870912) 2147483648 = Lib.rev8 a + b * 256 + d % 524288 * 1024 + c * 536870912 + 2147483648 := by
  rw [u32_or _ _ (by omega) (by omega) (by omega) (by omega), Nat.or_comm, nat_join 31 _ _ (by omega) (by omega)]; omega
 have ho := isOdd_any (bodyI a b c d) (by unfold bodyI; omega) (by unfold bodyI; omega)
 by_cases hodd : ones (bodyI a b c d) 32 % 2 = 1
 · have hp : Zfp a b c d = Lib.rev8 a + b * 256 + d % 524288 * 1024 + c * 536870912 := by unfold Zfp; rw [if_pos hodd]; rfl
   rw [decide_eq_true hodd] at ho; rw [hp]
   unfold bodyI at ho
   clear hodd hp e4
   go_enter Tryz.func84, Tryz.ntmps84
   go_wp2_with (first
    | (go_at_call 133; refine Sb (hc _) fun w' hb => ?_; obtain ⟨q0, q1, q2, q3⟩ := box4 hb; have HB : Hid (Below _ _ _) := hb; clear hb)
    | (go_at_call 134; refine (rev_any _ (by omega) (by omega) _).mono ?_; rintro e w' ⟨rfl, rfl⟩)
    | (go_at_call 135; refine (part_0_19 _ (by omega) (by omega) _).mono ?_; rintro e w' ⟨rfl, k, rfl⟩)
    | (go_at_call 136; refine (ho _).mono ?_; rintro e w' ⟨rfl, k2, rfl⟩))
   go_ret2; exact ⟨rfl, below_drewN (Zcc (Zaw _ _) HB.out) _⟩
 · have hp : Zfp a b c d = Lib.rev8 a + b * 256 + d % 524288 * 1024 + c * 536870912 + 2147483648 := by unfold Zfp; rw [if_neg hodd]; rfl
   rw [decide_eq_false hodd] at ho; rw [hp]
   unfold bodyI at ho
   clear hodd hp
   go_enter Tryz.func84, Tryz.ntmps84
   go_wp2_with (first
    | (go_at_call 133; refine Sb (hc _) fun w' hb => ?_; obtain ⟨q0, q1, q2, q3⟩ := box4 hb; have HB : Hid (Below _ _ _) := hb; clear hb)
    | (go_at_call 134; refine (rev_any _ (by omega) (by omega) _).mono ?_; rintro e w' ⟨rfl, rfl⟩)
    | (go_at_call 135; refine (part_0_19 _ (by omega) (by omega) _).mono ?_; rintro e w' ⟨rfl, k, rfl⟩)
    | (go_at_call 136; refine (ho _).mono ?_; rintro e w' ⟨rfl, k2, rfl⟩))
   go_ret2; exact ⟨rfl, below_drewN (Zcc (Zaw _ _) HB.out) _⟩
def labI (x : Int) : Int := Lib.rev8 (x % 256)
def srcI (x : Int) : Int := x / 256 % 4
def staI (x : Int) : Int := x / 536870912 % 4
def datI (x : Int) : Int := if 262143 < x / 1024 % 524288 then x / 1024 % 524288 - 524288 else x / 1024 % 524288
def readV (x : Int) : Value := .agg #[Vi (labI x), Vi (srcI x), Vi (staI x), Vi (datI x)]
def partI (x a b : Int) : Int := x / 2 ^ a.toNat % 2 ^ b.toNat
theorem part_of (x a b : Int) (h0 : 0 ≤ x) (h1 : x < 4294967296) (h : (a = 8 ∧ b = 2) ∨ (a = 29 ∧ b = 2) ∨ (a = 10 ∧ b = 19)) (w : World) :
 Calls Tryz.prog 135 #[.int .u32 x, Vi a, Vi b] w fun e w' => e = .returned (.int .u32 (partI x a b)) ∧ ∃ k, w' = w.drewN k := by
 rcases h with ⟨rfl, rfl⟩ | ⟨rfl, rfl⟩ | ⟨rfl, rfl⟩
 · exact part_8_2 x h0 h1 w
 · exact part_29_2 x h0 h1 w
 · exact part_10_19 x h0 h1 w
def Box4 (w : World) (b : Nat) (x y z u : Int) : Prop :=
 w.cell? (Ad b 0) = some (Vi x) ∧ w.cell? (Ad b 1) = some (Vi y) ∧ w.cell? (Ad b 2) = some (Vi z) ∧ w.cell? (Ad b 3) = some (Vi u)
 ∧ w.frozen? (Ad b 0) = false ∧ w.frozen? (Ad b 1) = false ∧ w.frozen? (Ad b 2) = false ∧ w.frozen? (Ad b 3) = false ∧ b < w.heap.size
theorem Box4.new (w : World) (x y z u : Int) (T : TypeId) : Box4 (w.alloc (.cells #[Vi x, Vi y, Vi z, Vi u] T)) w.heap.size x y z u := by
 refine ⟨?_, ?_, ?_, ?_, ?_, ?_, ?_, ?_, ?_⟩ <;> simp [go_sem]
theorem Box4.later {w w' : World} {b : Nat} {x y z u : Int} (h : Box4 w b x y z u) (hb : Below w.heap.size w w') : Box4 w' b x y z u := by
 obtain ⟨h1, h2, h3, h4, h5, h6, h7, h8, h9⟩ := h; exact ⟨cell_later hb h1, cell_later hb h2, cell_later hb h3, cell_later hb h4, (hb.frozen (p := ⟨b, 0, none⟩) h9).trans h5, (hb.frozen (p := ⟨b, 1, none⟩) h9).trans h6, (hb.frozen (p := ⟨b, 2, none⟩) h9).trans h7, (hb.frozen (p := ⟨b, 3, none⟩) h9).trans h8, Nat.lt_of_lt_of_le h9 hb.size⟩
theorem Box4.set {w : World} {b : Nat} {x y z u : Int} (h : Box4 w b x y z u) (p q r s : Int) :
 Box4 ((((w.setCell (Ad b 0) (Vi p)).setCell (Ad b 1) (Vi q)).setCell (Ad b 2) (Vi r)).setCell (Ad b 3) (Vi s)) b p q r s := by
 obtain ⟨h1, h2, h3, h4, h5, h6, h7, h8, h9⟩ := h; exact ⟨by simp [go_sem, *], by simp [go_sem, *], by simp [go_sem, *], by simp [go_sem, *], by simp [go_sem, *], by simp [go_sem, *], by simp [go_sem, *], by simp [go_sem, *], by simpa [go_sem] using h9⟩
theorem Box4.else {w : World} {b c o : Nat} {x y z u : Int} {v : Value} (h : Box4 w b x y z u) (hc : c ≠ b) : Box4 (w.setCell (Ad c o) v) b x y z u := by
 obtain ⟨h1, h2, h3, h4, h5, h6, h7, h8, h9⟩ := h; exact ⟨(World.cell?_setCell_other _ _ _ _ (fun e => hc (congrArg Addr.block e))).trans h1, (World.cell?_setCell_other _ _ _ _ (fun e => hc (congrArg Addr.block e))).trans h2, (World.cell?_setCell_other _ _ _ _ (fun e => hc (congrArg Addr.block e))).trans h3, (World.cell?_setCell_other _ _ _ _ (fun e => hc (congrArg Addr.block e))).trans h4, by simp [go_sem, h5], by simp [go_sem, h6], by simp [go_sem, h7], by simp [go_sem, h8], by simpa [go_sem] using h9⟩
theorem Box4.drew {w : World} {b : Nat} {x y z u : Int} (h : Box4 w b x y z u) : Box4 w.drew b x y z u := h.later (Below.refl _ _).drew
theorem Zgo {B : Nat} {w0 w : World} {b : Nat} (hb : Below B w0 w) (h : B ≤ b) (p q r s : Value) :
 Below B w0 ((((w.setCell (Ad b 0) p).setCell (Ad b 1) q).setCell (Ad b 2) r).setCell (Ad b 3) s) :=
 (((hb.setCell h _).setCell h _).setCell h _).setCell h _
theorem unpack_no (x : Int) (h0 : 0 ≤ x) (h1 : x < 4294967296) (h : ¬ ones x 32 % 2 = 1) (w : World) :
 Calls Tryz.prog 148 #[.int .u32 x] w fun e w' => e = .returned (.tuple #[.agg #[Vi 0, Vi 0, Vi 0, Vi 0], errV 3]) ∧ Below w.heap.size w w' := by
 have ho := isOdd_any x h0 h1; rw [decide_eq_false h] at ho; rw [Zbe (by decide)]; clear h
 go_enter Tryz.func148, Tryz.ntmps148
 go_wp2_with (go_at_call 136; refine (ho _).mono ?_; rintro e w' ⟨rfl, k2, rfl⟩); have HX : Hid (Box4 ((w.alloc (.cells #[Vi 0, Vi 0, Vi 0, Vi 0] 161)).drewN k2) w.heap.size 0 0 0 0) := (Box4.new w 0 0 0 0 161).later (below_drewN (Below.refl _ _) _); have HB : Hid (Below w.heap.size w ((w.alloc (.cells #[Vi 0, Vi 0, Vi 0, Vi 0] 161)).drewN k2)) := below_drewN (Zaw _ _) _; generalize ((w.alloc (.cells #[Vi 0, Vi 0, Vi 0, Vi 0] 161)).drewN k2) = w1 at *; have hx := HX.out.set 0 0 0 0; have hb := Zgo HB.out (Nat.le_refl _) (Vi 0) (Vi 0) (Vi 0) (Vi 0); generalize ((((w1.setCell (Ad w.heap.size 0) (Vi 0)).setCell (Ad w.heap.size 1) (Vi 0)).setCell (Ad w.heap.size 2) (Vi 0)).setCell (Ad w.heap.size 3) (Vi 0)) = w2 at *; obtain ⟨c0, c1, c2, c3, _⟩ := hx; exact bodyPost_ret (v := .tuple #[.agg #[Vi 0, Vi 0, Vi 0, Vi 0], .iface 44 (Vi 3)]) (by simp [results, Tryz.results148, go_sem, c0, c1, c2, c3]) rfl ⟨rfl, hb⟩
theorem unpack_yes (x : Int) (h0 : 0 ≤ x) (h1 : x < 4294967296) (h : ones x 32 % 2 = 1) (w : World) :
 Calls Tryz.prog 148 #[.int .u32 x] w fun e w' => e = .returned (.tuple #[readV x, .nilIface]) ∧ Below w.heap.size w w' := by
 have ho := isOdd_any x h0 h1; rw [decide_eq_true h] at ho; clear h; have hr := rev_any (x % 256) (by omega) (by omega); have rb := Zgf (x % 256) (by omega) (by omega); have e1 : partI x 8 2 = x / 256 % 4 := rfl; have e2 : partI x 29 2 = x / 536870912 % 4 := rfl; have e3 : partI x 10 19 = x / 1024 % 524288 := rfl; have hs := signed_any (x / 1024 % 524288) (by omega) (by omega)
 have b1 : 0 ≤ x / 256 % 4 ∧ x / 256 % 4 < 4 := by omega
 have b2 : 0 ≤ x / 536870912 % 4 ∧ x / 536870912 % 4 < 4 := by omega
 unfold readV labI srcI staI datI
 generalize (if 262143 < x / 1024 % 524288 then x / 1024 % 524288 - 524288 else x / 1024 % 524288) = dd at *; generalize x / 1024 % 524288 = d at *; generalize x / 256 % 4 = b at *; generalize x / 536870912 % 4 = c at *; generalize Lib.rev8 (x % 256) = a at *
 go_enter Tryz.func148, Tryz.ntmps148
 go_wp2_with (first
  | (go_at_call 136; refine (ho _).mono ?_; rintro e w' ⟨rfl, k0, rfl⟩)
  | (go_at_call 134; refine (hr _).mono ?_; rintro e w' ⟨rfl, rfl⟩)
  | (go_at_call 201; refine (hs _).mono ?_; rintro e w' ⟨rfl, rfl⟩)
  | (go_at_call 135; refine (part_of _ _ _ h0 h1 (by decide) _).mono ?_; rintro e w' ⟨rfl, k1, rfl⟩))
 rename_i ka kb
 generalize k0 + ka + kb + k1 = k2; have HX : Hid (Box4 ((w.alloc (.cells #[Vi 0, Vi 0, Vi 0, Vi 0] 161)).drewN k2) w.heap.size 0 0 0 0) := (Box4.new w 0 0 0 0 161).later (below_drewN (Below.refl _ _) _); have HB : Hid (Below w.heap.size w ((w.alloc (.cells #[Vi 0, Vi 0, Vi 0, Vi 0] 161)).drewN k2)) := below_drewN (Zaw _ _) _; generalize ((w.alloc (.cells #[Vi 0, Vi 0, Vi 0, Vi 0] 161)).drewN k2) = w1 at *; have hx := HX.out.set a b c dd; have hb := Zgo HB.out (Nat.le_refl _) (Vi a) (Vi b) (Vi c) (Vi dd); generalize ((((w1.setCell (Ad w.heap.size 0) (Vi a)).setCell (Ad w.heap.size 1) (Vi b)).setCell (Ad w.heap.size 2) (Vi c)).setCell (Ad w.heap.size 3) (Vi dd)) = w2 at *; obtain ⟨c0, c1, c2, c3, _⟩ := hx; exact bodyPost_ret (v := .tuple #[.agg #[Vi a, Vi b, Vi c, Vi dd], .nilIface]) (by simp [results, Tryz.results148, go_sem, c0, c1, c2, c3]) rfl ⟨rfl, hb⟩
theorem pow_mono (j k : Nat) (h : j ≤ k) : (2 : Int) ^ j ≤ 2 ^ k := by
 have : (2 : Nat) ^ j ≤ 2 ^ k := Nat.pow_le_pow_right (by decide) h
 exact_mod_cast this
theorem turn_bounds (x : Int) : ∀ k : Nat, 0 ≤ turn x k ∧ turn x k < 2 ^ k
 | 0 => by simp [turn]
 | k + 1 => by
  have h := turn_bounds x k; rw [turn, Int.pow_succ]
  omega
theorem turn_le (x : Int) (k : Nat) (hk : k ≤ 8) : 0 ≤ turn x k ∧ turn x k ≤ 255 := by
 have h := turn_bounds x k; have : (2 : Int) ^ k ≤ 2 ^ 8 := pow_mono k 8 hk
 omega
theorem lab_turn (x : Int) : turn x 8 = labI x := by
 unfold labI
 rw [rev_eq _ (by omega) (by omega), turn_low]
end Go.Proofs.YtnfdfiholcelaaaGreatDoor
