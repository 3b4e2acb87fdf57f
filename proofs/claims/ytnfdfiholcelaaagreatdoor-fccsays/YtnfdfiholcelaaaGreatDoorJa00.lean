import Derived.Deep.RegionHeld3
import Derived.Deep.MidRow
import Derived.WalkKit
import Derived.KernelRfl
import Derived.Sort.LotA
import Derived.Test.YtnfdfiholcelaaaGreatDoorProg
import Derived.WalkLawsBesides
import Derived.WalkSpells
import Derived.ProofKit
import Derived.Outline
set_option maxRecDepth 100000
set_option maxHeartbeats 20000000
namespace Go.Proofs.YtnfdfiholcelaaaGreatDoor
open Go.RowKit
abbrev Vi (x : Int) : Value := .int .i64 x
abbrev Ad (b o : Nat) : Addr := ⟨b, o, none⟩
theorem Sm {P : Program} {f : Nat} {vs : Array Value} {w u : World} {V : Ending} {Q : Ending → World → Prop} (h : Calls P f vs w fun e w' => e = V ∧ w' = u) (k : Q V u) : Calls P f vs w Q := h.mono (by rintro e w' ⟨rfl, rfl⟩; exact k)
theorem Sb {P : Program} {f : Nat} {vs : Array Value} {w : World} {V : Ending} {R : World → Prop} {Q : Ending → World → Prop} (h : Calls P f vs w fun e w' => e = V ∧ R w') (k : ∀ w', R w' → Q V w') : Calls P f vs w Q := h.mono (by rintro e w' ⟨rfl, h2⟩; exact k w' h2)
def okT (md : Region.Mode) (ops : Array Oper) (listed : Array Bool) (i : Nat) : Bool := Region.noSelect ops && (Region.free md ops listed i && (Region.ready md ops listed).contains i)
theorem okT_and {a b c : Bool} (h : (a && (b && c)) = true) : a = true ∧ b = true ∧ c = true := by simpa using h
section
variable {P : Program} {ops : Array Oper} {Q : Exit → Act → World → Prop} {md : Region.Mode} {S : World → Prop} {fuel : Nat} {listed : Array Bool} {a : Act} {w : World}
theorem Tk {oi : Oper} {v : Value} (i : Nat) (hi : ops[i]? = some oi) (hy : YieldsIf P ops S oi v a) (hS : S w) (h : wpAnyH P md ops Q S fuel (listed.setIfInBounds i true) (a.put oi.dst v) w)
    (hf : okT md ops listed i = true := by kernel_rfl) (hQ : ∀ c a w, Q (.panic c) (a.put oi.dst v) w → Q (.panic c) a w := by exact fun _ _ _ h => h) : wpAnyH P md ops Q S (fuel + 1) listed a w :=
  wpAnyH_take hi (okT_and hf).1 (okT_and hf).2.1 (okT_and hf).2.2 hQ hy hS h
theorem Tq {oi : Oper} {v : Value} (i : Nat) (hS : S w) (h : wpAnyH P md ops Q S fuel (listed.setIfInBounds i true) (a.put oi.dst v) w)
    (hi : ops[i]? = some oi := by rfl) (hf : okT md ops listed i = true := by kernel_rfl) (hQ : ∀ c a w, Q (.panic c) (a.put oi.dst v) w → Q (.panic c) a w := by exact fun _ _ _ h => h)
    (hw : Region.wanted oi (yielded ops a.tmps) = true := by rfl) (hy : ∀ w, S w → (execOp a.eval oi).run P w = .ok (.value v) w := by intro w hSw; clear hSw; go_simp; (try with_reducible rfl)) : wpAnyH P md ops Q S (fuel + 1) listed a w :=
  wpAnyH_take hi (okT_and hf).1 (okT_and hf).2.1 (okT_and hf).2.2 hQ (.inl ⟨hw, hy⟩) hS h
theorem Tp {oi : Oper} {v : Value} (i : Nat) (hS : S w) (h : wpAnyH P md ops Q S fuel (listed.setIfInBounds i true) (a.put oi.dst v) w)
    (hi : ops[i]? = some oi := by rfl) (hf : okT md ops listed i = true := by kernel_rfl) (hQ : ∀ c a w, Q (.panic c) (a.put oi.dst v) w → Q (.panic c) a w := by exact fun _ _ _ h => h)
    (hw : Region.wanted oi (yielded ops a.tmps) = true := by rfl) (hy : ∀ w, S w → (execOp a.eval oi).run P w = .ok (.value v) w := by intro w hSw; (try dsimp only at hSw); go_simp; (try with_reducible rfl)) : wpAnyH P md ops Q S (fuel + 1) listed a w :=
  wpAnyH_take hi (okT_and hf).1 (okT_and hf).2.1 (okT_and hf).2.2 hQ (.inl ⟨hw, hy⟩) hS h
theorem Th {oi : Oper} {v : Value} (i : Nat) (hi : ops[i]? = some oi) (hy : ∀ w, S w → (execOp a.eval oi).run P w = .ok (.value v) w) (hS : S w) (h : wpAnyH P md ops Q S fuel (listed.setIfInBounds i true) (a.put oi.dst v) w)
    (hf : okT md ops listed i = true := by kernel_rfl) (hQ : ∀ c a w, Q (.panic c) (a.put oi.dst v) w → Q (.panic c) a w := by exact fun _ _ _ h => h)
    (hw : Region.wanted oi (yielded ops a.tmps) = true := by rfl) : wpAnyH P md ops Q S (fuel + 1) listed a w :=
  wpAnyH_take hi (okT_and hf).1 (okT_and hf).2.1 (okT_and hf).2.2 hQ (.inl ⟨hw, hy⟩) hS h
theorem Ts {oi : Oper} (i : Nat) (hS : S w) (h : wpAnyH P md ops Q S fuel (listed.setIfInBounds i true) (a.put oi.dst undef) w)
    (hi : ops[i]? = some oi := by rfl) (hf : okT md ops listed i = true := by kernel_rfl) (hQ : ∀ c a w, Q (.panic c) (a.put oi.dst undef) w → Q (.panic c) a w := by exact fun _ _ _ h => h)
    (hw : Region.wanted oi (yielded ops a.tmps) = false := by rfl) : wpAnyH P md ops Q S (fuel + 1) listed a w :=
  wpAnyH_take hi (okT_and hf).1 (okT_and hf).2.1 (okT_and hf).2.2 hQ (.inr ⟨hw, rfl⟩) hS h
theorem Ra {o : Oper} (i : Nat) (h : ∀ K' : Act → World → Prop, Shut (∀ a w, S w → (S w → wpAnyH P md ops Q S fuel (listed.setIfInBounds i true) a w) → K' a w) → if Region.wanted o (yielded ops a.tmps) = true then Oper.wp P o a w K' Q else K' (a.put o.dst undef) w)
    (hi : ops[i]? = some o := by rfl) (hr : Region.ready md ops listed = [i] := by kernel_rfl) : wpAnyH P md ops Q S (fuel + 1) listed a w :=
  wpAnyH_ready hr (by simp) (AllReadyH.cons hi h AllReadyH.nil)
theorem Rb {o p : Oper} (i j : Nat) (h : ∀ K' : Act → World → Prop, Shut (∀ a w, S w → (S w → wpAnyH P md ops Q S fuel (listed.setIfInBounds i true) a w) → K' a w) → if Region.wanted o (yielded ops a.tmps) = true then Oper.wp P o a w K' Q else K' (a.put o.dst undef) w)
    (k : ∀ K' : Act → World → Prop, Shut (∀ a w, S w → (S w → wpAnyH P md ops Q S fuel (listed.setIfInBounds j true) a w) → K' a w) → if Region.wanted p (yielded ops a.tmps) = true then Oper.wp P p a w K' Q else K' (a.put p.dst undef) w)
    (hi : ops[i]? = some o := by rfl) (hj : ops[j]? = some p := by rfl) (hr : Region.ready md ops listed = [i, j] := by kernel_rfl) : wpAnyH P md ops Q S (fuel + 1) listed a w :=
  wpAnyH_ready hr (by simp) (AllReadyH.cons hi h (AllReadyH.cons hj k AllReadyH.nil))
end
theorem Ly {α : Type} : (∀ (xs : List α) (i : Nat) (h : i < xs.toArray.size), xs.toArray[i] = xs[i]'(by simpa using h)) ∧ (∀ (x : α) (xs : List α) (i : Nat) (h : i + 1 < (x :: xs).length), (x :: xs)[i + 1] = xs[i]'(by simpa using h)) ∧ (∀ (x : α) (xs : List α) (h : 0 < (x :: xs).length), (x :: xs)[0] = x) ∧
    (∀ (xs : List α) (i : Nat) (x : α), xs.toArray.setIfInBounds i x = (xs.set i x).toArray) ∧ (∀ (x : α) (xs : List α) (i : Nat) (y : α), (x :: xs).set (i + 1) y = x :: xs.set i y) ∧ (∀ (x : α) (xs : List α) (y : α), (x :: xs).set 0 y = y :: xs) :=
  ⟨fun _ _ _ => rfl, fun _ _ _ _ => rfl, fun _ _ _ => rfl, fun _ _ _ => by simp, fun _ _ _ _ => rfl, fun _ _ _ => rfl⟩
end Go.Proofs.YtnfdfiholcelaaaGreatDoor
namespace Go.Proofs.YtnfdfiholcelaaaGreatDoor.Plain
set_option linter.unusedVariables false
abbrev Rd := Int × Int × Int × Int
def rlt (x y : Rd) : Bool := decide (x.1 < y.1) || (decide (x.1 = y.1) && decide (x.2.1 < y.2.1))
def req (x y : Rd) : Bool := decide (x.1 = y.1) && decide (x.2.1 = y.2.1)
theorem Zfr {x y : Rd} : rlt x y = true ↔ x.1 < y.1 ∨ (x.1 = y.1 ∧ x.2.1 < y.2.1) := by simp [rlt]
theorem req_iff {x y : Rd} : req x y = true ↔ x.1 = y.1 ∧ x.2.1 = y.2.1 := by simp [req]
theorem rlt_no {x y : Rd} : rlt x y = false ↔ ¬ (x.1 < y.1 ∨ (x.1 = y.1 ∧ x.2.1 < y.2.1)) := by rw [← Zfr]; simp
theorem req_no {x y : Rd} : req x y = false ↔ ¬ (x.1 = y.1 ∧ x.2.1 = y.2.1) := by rw [← req_iff]; simp
theorem rlt_trans {x y z : Rd} (h : rlt x y = true) (k : rlt y z = true) : rlt x z = true := by
 rw [Zfr] at *; omega
theorem rlt_irrefl (x : Rd) : rlt x x = false := by rw [rlt_no]; omega
theorem rlt_other {y r : Rd} (h : rlt y r = false) (k : req y r = false) : rlt r y = true := by
 rw [rlt_no] at h; rw [req_no] at k; rw [Zfr]; omega
theorem rlt_req {y r z : Rd} (k : req y r = true) (h : rlt y z = true) : rlt r z = true := by
 rw [req_iff] at k; rw [Zfr] at *; omega
theorem rlt_ne {x y : Rd} (h : rlt x y = true) : req x y = false := by rw [Zfr] at h; rw [req_no]; omega
theorem rlt_ne' {x y : Rd} (h : rlt x y = true) : req y x = false := by rw [Zfr] at h; rw [req_no]; omega
def ins (r : Rd) : List Rd → List Rd
 | [] => [r]
 | y :: t => if rlt y r = true then y :: ins r t else if req y r = true then r :: t else r :: y :: t
theorem mem_ins {r z : Rd} : ∀ {l : List Rd}, z ∈ ins r l → z = r ∨ z ∈ l
 | [], h => by simp [ins] at h; exact .inl h
 | y :: t, h => by
  unfold ins at h
  split at h
  · rcases List.mem_cons.1 h with rfl | h
    · exact .inr (by simp)
    · rcases mem_ins h with h | h
      · exact .inl h
      · exact .inr (by simp [h])
  · split at h
    · rcases List.mem_cons.1 h with rfl | h
      · exact .inl rfl
      · exact .inr (by simp [h])
    · rcases List.mem_cons.1 h with rfl | h
      · exact .inl rfl
      · exact .inr h
theorem ins_sorted (r : Rd) : ∀ {l : List Rd}, l.Pairwise (fun x y => rlt x y = true) → (ins r l).Pairwise (fun x y => rlt x y = true)
 | [], _ => by simp [ins]
 | y :: t, h => by
  obtain ⟨h1, h2⟩ := List.pairwise_cons.1 h
  unfold ins
  split
  · rename_i hy
    refine List.pairwise_cons.2 ⟨fun z hz => ?_, ins_sorted r h2⟩
    rcases mem_ins hz with rfl | hz
    · exact hy
    · exact h1 z hz
  · rename_i hy
    split
    · rename_i hq
      exact List.pairwise_cons.2 ⟨fun z hz => rlt_req hq (h1 z hz), h2⟩
    · rename_i hq
      have hr : rlt r y = true := rlt_other (by simpa using hy) (by simpa using hq); refine List.pairwise_cons.2 ⟨fun z hz => ?_, h⟩
      rcases List.mem_cons.1 hz with rfl | hz
      · exact hr
      · exact rlt_trans hr (h1 z hz)
theorem filter_self {r : Rd} {l : List Rd} (h : ∀ z ∈ l, req z r = false) : l.filter (fun z => !req z r) = l :=
 List.filter_eq_self.2 fun z hz => by simp [h z hz]
theorem ins_perm (r : Rd) : ∀ {l : List Rd}, l.Pairwise (fun x y => rlt x y = true) → (ins r l).Perm (r :: l.filter (fun z => !req z r))
 | [], _ => by simp [ins]
 | y :: t, h => by
  obtain ⟨h1, h2⟩ := List.pairwise_cons.1 h
  unfold ins
  split
  · rename_i hy
    rw [List.filter_cons_of_pos (by simp [rlt_ne hy])]; exact ((ins_perm r h2).cons y).trans (List.Perm.swap r y _)
  · rename_i hy
    split
    · rename_i hq
      rw [List.filter_cons_of_neg (by simp [hq]), filter_self fun z hz => rlt_ne' (rlt_req hq (h1 z hz))]
    · rename_i hq
      have hr : rlt r y = true := rlt_other (by simpa using hy) (by simpa using hq); rw [filter_self fun z hz => ?_]
      rcases List.mem_cons.1 hz with rfl | hz
      · simpa using hq
      · exact rlt_ne' (rlt_trans hr (h1 z hz))
theorem ins_length (r : Rd) : ∀ (l : List Rd), (ins r l).length ≤ l.length + 1
 | [] => by simp [ins]
 | y :: t => by
  unfold ins
  split
  · have := ins_length r t; simp; omega
  · split <;> simp
def pos (r : Rd) : List Rd → Nat
 | [] => 0
 | y :: t => if rlt y r = true then pos r t + 1 else 0
def rat (l : List Rd) (k : Nat) : Rd := l.getD k (0, 0, 0, 0)
theorem rat_eq {l : List Rd} {k : Nat} (h : k < l.length) : rat l k = l[k] := by simp [rat, h]
theorem pos_le (r : Rd) : ∀ l : List Rd, pos r l ≤ l.length
 | [] => by simp [pos]
 | y :: t => by
  unfold pos
  split
  · have := pos_le r t; simp; omega
  · simp
theorem pos_ahead (r : Rd) : ∀ (l : List Rd) (k : Nat), k < pos r l → rlt (rat l k) r = true
 | [], k, h => by simp [pos] at h
 | y :: t, k, h => by
  unfold pos at h
  split at h
  · rename_i hy
    cases k with
    | zero => exact hy
    | succ k => exact pos_ahead r t k (by omega)
  · omega
theorem pos_stop (r : Rd) : ∀ (l : List Rd), pos r l < l.length → rlt (rat l (pos r l)) r = false
 | [], h => by simp at h
 | y :: t, h => by
  unfold pos at h ⊢
  split at h
  · rename_i hy
    rw [if_pos hy]; exact pos_stop r t (by simpa using h)
  · rename_i hy
    rw [if_neg hy]
    simpa [rat] using hy
theorem pos_is (r : Rd) (l : List Rd) (k : Nat) (hk : k ≤ l.length) (ha : ∀ j, j < k → rlt (rat l j) r = true) (hs : k = l.length ∨ rlt (rat l k) r = false) : pos r l = k := by
 rcases Nat.lt_trichotomy (pos r l) k with h | h | h
 · have := pos_stop r l (by omega); rw [ha _ h] at this; cases this
 · exact h
 · rcases hs with hs | hs
   · have := pos_le r l; omega
   · rw [pos_ahead r l k h] at hs; cases hs
theorem ins_set (r : Rd) : ∀ (l : List Rd), pos r l < l.length → req (rat l (pos r l)) r = true → ins r l = l.set (pos r l) r
 | [], h, _ => by simp at h
 | y :: t, h, q => by
  unfold pos at h q ⊢
  unfold ins
  split at h
  · rename_i hy
    rw [if_pos hy, if_pos hy, List.set_cons_succ]; rw [if_pos hy] at q; rw [ins_set r t (by simpa using h) q]
  · rename_i hy
    rw [if_neg hy] at q; rw [if_neg hy, if_neg hy, if_pos (by simpa [rat] using q), List.set_cons_zero]
theorem ins_put (r : Rd) : ∀ (l : List Rd), (pos r l = l.length ∨ req (rat l (pos r l)) r = false) → ins r l = l.take (pos r l) ++ r :: l.drop (pos r l)
 | [], _ => by simp [ins, pos]
 | y :: t, q => by
  unfold pos at q ⊢
  unfold ins
  by_cases hy : rlt y r = true
  · simp only [hy, if_true] at q ⊢; rw [ins_put r t (q.imp (fun q => by simpa using q) (fun q => q))]
    simp
  · rw [if_neg hy] at q ⊢; rw [if_neg hy]
    rcases q with q | q
    · simp at q
    · rw [if_neg (by simpa [rat] using q)]
      simp
def gat (f : Int → Option Rd) (ws : List Int) : List Rd := ws.foldl (fun acc x => match f x with | some r => ins r acc | none => acc) []
def bads (f : Int → Option Rd) (ws : List Int) : Nat := (ws.filter fun x => (f x).isNone).length
theorem Zgh (f : Int → Option Rd) (ws : List Int) (x : Int) : gat f (ws ++ [x]) = match f x with | some r => ins r (gat f ws) | none => gat f ws := by
 simp [gat, List.foldl_append]
theorem Zjn (f : Int → Option Rd) (ws : List Int) (x : Int) : bads f (ws ++ [x]) = bads f ws + (if (f x).isNone then 1 else 0) := by
 unfold bads
 rw [List.filter_append, List.length_append]
 cases h : (f x).isNone <;> simp [h]
theorem Zie {α : Type} (l : List α) (z : α) (k : Nat) (h : k < l.length) : l.take (k + 1) = l.take k ++ [l.getD k z] := by
 rw [List.take_add_one]; simp [h]
theorem snoc_ind {α : Type} {P : List α → Prop} (h0 : P []) (h1 : ∀ l x, P l → P (l ++ [x])) : ∀ l, P l := by
 intro l
 have : P l.reverse.reverse := by
  induction l.reverse with
  | nil => exact h0
  | cons x t ih => rw [List.reverse_cons]; exact h1 _ x ih
 rwa [List.reverse_reverse] at this
theorem gat_sorted (f : Int → Option Rd) : ∀ ws, (gat f ws).Pairwise (fun x y => rlt x y = true) :=
 snoc_ind (by simp [gat]) fun l x ih => by
  rw [Zgh]
  cases f x with
  | none => exact ih
  | some r => exact ins_sorted r ih
theorem Zhz (f : Int → Option Rd) : ∀ ws, (gat f ws).length ≤ ws.length :=
 snoc_ind (by simp [gat]) fun l x ih => by
  rw [Zgh]
  cases f x with
  | none => simp; omega
  | some r => have := ins_length r (gat f l); simp; omega
theorem gat_mem (f : Int → Option Rd) : ∀ ws r, r ∈ gat f ws → ∃ x ∈ ws, f x = some r :=
 snoc_ind (by simp [gat]) fun l x ih => by
  intro r; rw [Zgh]; intro h
  cases hf : f x with
  | none => rw [hf] at h; obtain ⟨y, hy, e⟩ := ih r h; exact ⟨y, by simp [hy], e⟩
  | some r' =>
   rw [hf] at h
   rcases mem_ins h with rfl | h
   · exact ⟨x, by simp, hf⟩
   · obtain ⟨y, hy, e⟩ := ih r h; exact ⟨y, by simp [hy], e⟩
theorem bads_le (f : Int → Option Rd) (ws : List Int) : bads f ws ≤ ws.length := List.length_filter_le _ _
def cmpI (a b : Int) : Int := if a < b then -1 else if b < a then 1 else 0
def rcf (x y : Rd) : Int := if cmpI x.1 y.1 = 0 then cmpI x.2.1 y.2.1 else cmpI x.1 y.1
theorem rcf_lt (x y : Rd) : decide (rcf x y < 0) = rlt x y := by
 unfold rcf cmpI rlt
 by_cases h1 : x.1 < y.1
 · simp [h1]
 · by_cases h2 : y.1 < x.1
   · have : ¬ x.1 = y.1 := by omega
     simp [h1, h2, this]
   · have : x.1 = y.1 := by omega
     by_cases h3 : x.2.1 < y.2.1
     · simp [this, h3]
     · by_cases h4 : y.2.1 < x.2.1
       · simp [this, h3, h4]
       · simp [this, h3, h4]
theorem swo_rcf : Go.Sort.SWO (fun x y : Rd => decide (rcf x y < 0)) where
 irrefl x := by rw [rcf_lt]; exact rlt_irrefl x
 trans x y z h k := by rw [rcf_lt] at *; exact rlt_trans h k
 ntrans x y z h k := by rw [rcf_lt] at *; rw [rlt_no] at *; omega
theorem Zhq {l : List Rd} (h : l.Pairwise (fun x y => rlt x y = true)) {a b : Rd} (ha : a ∈ l) (hb : b ∈ l) (h1 : rlt a b = false) (h2 : rlt b a = false) : a = b := by
 obtain ⟨i, hi, rfl⟩ := List.getElem_of_mem ha; obtain ⟨j, hj, rfl⟩ := List.getElem_of_mem hb; have hp := List.pairwise_iff_getElem.1 h
 rcases Nat.lt_trichotomy i j with e | e | e
 · rw [hp i j hi hj e] at h1; cases h1
 · subst e; rfl
 · rw [hp j i hj hi e] at h2; cases h2
theorem sorted_is {l l' : List Rd} (hs : l.Pairwise (fun x y => rlt x y = true)) (hp : l'.Perm l) (hs' : l'.Pairwise (fun x y => rlt y x = false)) : l' = l := by
 refine List.Perm.eq_of_pairwise (le := fun x y => rlt y x = false) ?_ hs' (hs.imp fun {x y} h => ?_) hp
 · intro a b ha hb h1 h2; exact Zhq hs (hp.mem_iff.1 ha) hb h2 h1
 · rw [Zfr] at h; rw [rlt_no]; omega
theorem sortedIn_is {l : List Rd} {d d' : Array Rd} (hs : l.Pairwise (fun x y => rlt x y = true)) (hd : d.toList.Perm l) (hp : Go.Sort.PermIn 0 d.size d d') (hso : Go.Sort.SortedIn (fun x y => decide (rcf x y < 0)) 0 d.size d') : d'.toList = l := by
 obtain ⟨hsz, _, hperm⟩ := hp
 have e1 : d'.extract 0 d.size = d' := by rw [← hsz]; exact Array.extract_size
 rw [e1, Array.extract_size] at hperm; refine sorted_is hs (hperm.trans hd) ?_; rw [List.pairwise_iff_getElem]; intro i j hi hj hij
 have hi' : i < d'.size := by simpa using hi
 have hj' : j < d'.size := by simpa using hj
 have := hso i j (Nat.zero_le _) hij (by omega); simp only [rcf_lt] at this; rw [getElem!_pos d' j hj', getElem!_pos d' i hi'] at this
 simpa using this
def fnd (a b : Int) : List Rd → Option Rd
 | [] => none
 | r :: t => if r.1 = a ∧ r.2.1 = b then some r else fnd a b t
theorem fnd_step (a b : Int) (l : List Rd) (k : Nat) (h : k < l.length) : fnd a b (l.drop k) = if (rat l k).1 = a ∧ (rat l k).2.1 = b then some (rat l k) else fnd a b (l.drop (k + 1)) := by
 rw [List.drop_eq_getElem_cons h, rat_eq h, fnd]
end Go.Proofs.YtnfdfiholcelaaaGreatDoor.Plain
namespace Go.Proofs.YtnfdfiholcelaaaGreatDoor.Plain
def ofI (x : Int) : Int := if x < -2147483647 then -2147483647 else if 2147483647 < x then 2147483647 else x
theorem ofI_lo (x : Int) : -2147483647 ≤ ofI x := by unfold ofI; split <;> (try split) <;> omega
theorem ofI_hi (x : Int) : ofI x ≤ 2147483647 := by unfold ofI; split <;> (try split) <;> omega
theorem mul_bd {a b : Int} (ha : -2147483647 ≤ a) (ha' : a ≤ 2147483647) (hb : -2147483647 ≤ b) (hb' : b ≤ 2147483647) : -4611686014132420609 ≤ a * b ∧ a * b ≤ 4611686014132420609 := by
 have h1 : 0 ≤ (2147483647 - a) * (2147483647 + b) := Int.mul_nonneg (by omega) (by omega); have h2 : 0 ≤ (2147483647 + a) * (2147483647 - b) := Int.mul_nonneg (by omega) (by omega); have h3 : 0 ≤ (2147483647 - a) * (2147483647 - b) := Int.mul_nonneg (by omega) (by omega); have h4 : 0 ≤ (2147483647 + a) * (2147483647 + b) := Int.mul_nonneg (by omega) (by omega); simp only [Int.sub_mul, Int.mul_sub, Int.add_mul, Int.mul_add] at h1 h2 h3 h4
 constructor <;> omega
def Zgp (n d : Int) : Int := if n < 0 then -((2 * (-n) + d) / (2 * d)) else (2 * n + d) / (2 * d)
theorem awayI_neg (n d : Int) (h : 0 < d) : Zgp (-n) d = -Zgp n d := by
 unfold Zgp
 rcases Int.lt_trichotomy n 0 with h0 | h0 | h0
 · rw [if_neg (by omega), if_pos h0]; omega
 · subst h0; have e : (2 * 0 + d) / (2 * d) = 0 := Int.ediv_eq_zero_of_lt (by omega) (by omega); simp only [Int.neg_zero, Int.lt_irrefl, if_false]; rw [e]; rfl
 · rw [if_pos (by omega), if_neg (by omega)]; simp
theorem away_div (n d : Int) (hd : 0 < d) (_hn : 0 ≤ n) : (2 * n + d) / (2 * d) = if 2 * (n % d) < d then n / d else n / d + 1 := by
 have e := Int.mul_ediv_add_emod n d; have r0 := Int.emod_nonneg n (show d ≠ 0 by omega); have r1 := Int.emod_lt_of_pos n hd
 have : 2 * n + d = (2 * (n % d) + d) + (2 * d) * (n / d) := by
  have : 2 * n = 2 * (d * (n / d)) + 2 * (n % d) := by omega
  have e2 : 2 * (d * (n / d)) = 2 * d * (n / d) := by rw [Int.mul_assoc]
  omega
 rw [this, Int.add_mul_ediv_left _ _ (by omega)]
 split
 · rw [Int.ediv_eq_zero_of_lt (by omega) (by omega)]; omega
 · have : (2 * (n % d) + d) / (2 * d) = 1 := by
    have : 2 * (n % d) + d = (2 * (n % d) - d) + (2 * d) * 1 := by omega
    rw [this, Int.add_mul_ediv_left _ _ (by omega), Int.ediv_eq_zero_of_lt (by omega) (by omega)]; rfl
   omega
theorem awayI_nonneg {n d : Int} (hd : 0 < d) (hn : 0 ≤ n) : 0 ≤ Zgp n d := by
 unfold Zgp; rw [if_neg (by omega)]; exact Int.ediv_nonneg (by omega) (by omega)
theorem awayI_le {n d : Int} (hd : 0 < d) (hn : 0 ≤ n) : Zgp n d ≤ n := by
 unfold Zgp; rw [if_neg (by omega), away_div n d hd hn]
 have e := Int.mul_ediv_add_emod n d; have r0 := Int.emod_nonneg n (show d ≠ 0 by omega); have q0 : 0 ≤ n / d := Int.ediv_nonneg hn (by omega)
 have m : n / d ≤ d * (n / d) := by
  have : 0 ≤ (d - 1) * (n / d) := Int.mul_nonneg (by omega) q0; rw [Int.sub_mul] at this; omega
 split <;> omega
def Zfx (n d : Int) : Int := if 2 * max (n.tmod d) (-(n.tmod d)) < max d (-d) then n.tdiv d else if (decide (n < 0) != decide (d < 0)) = true then n.tdiv d - 1 else n.tdiv d + 1
theorem near_pos (n d : Int) (hd : 0 < d) (hn : 0 ≤ n) : Zfx n d = Zgp n d := by
 unfold Zfx Zgp
 rw [if_neg (show ¬ n < 0 by omega), away_div n d hd hn, Int.tmod_eq_emod_of_nonneg hn, Int.tdiv_eq_ediv_of_nonneg hn]; have r0 := Int.emod_nonneg n (show d ≠ 0 by omega)
 have e1 : max (n % d) (-(n % d)) = n % d := by omega
 have e2 : max d (-d) = d := by omega
 rw [e1, e2]
 split
 · rfl
 · rw [if_neg]; simp; omega
theorem near_neg (n d : Int) (hd : 0 < d) : Zfx (-n) d = -Zfx n d := by
 by_cases h : n = 0
 · subst h; unfold Zfx; simp; omega
 · unfold Zfx
   rw [Int.neg_tmod, Int.neg_tdiv]
   have e1 : max (-(n.tmod d)) (- -(n.tmod d)) = max (n.tmod d) (-(n.tmod d)) := by omega
   rw [e1]
   by_cases hn : n < 0
   · have h1 : decide (-n < 0) = false := by simp; omega
     have h2 : decide (n < 0) = true := by simp; omega
     have h3 : decide (d < 0) = false := by simp; omega
     rw [h1, h2, h3]; split
     · rfl
     · simp; omega
   · have h1 : decide (-n < 0) = true := by simp; omega
     have h2 : decide (n < 0) = false := by simp; omega
     have h3 : decide (d < 0) = false := by simp; omega
     rw [h1, h2, h3]; split
     · rfl
     · simp; omega
theorem near_away (n d : Int) (hd : 0 < d) : Zfx n d = Zgp n d := by
 by_cases hn : 0 ≤ n
 · exact near_pos n d hd hn
 · have := near_pos (-n) d hd (by omega); rw [near_neg n d hd, awayI_neg n d hd] at this; omega
def mulI (a b : Int) : Int := ofI (Zgp (ofI a * ofI b) 256)
theorem mul_near (a b : Int) : ofI (Zfx (ofI a * ofI b) 256) = mulI a b := by unfold mulI; rw [near_away _ _ (by omega)]
theorem tdiv_bd (n d B : Int) (h1 : -B ≤ n) (h2 : n ≤ B) : -B ≤ n.tdiv d ∧ n.tdiv d ≤ B := by
 have h : (n.tdiv d).natAbs ≤ n.natAbs := by rw [Int.natAbs_tdiv]; exact Nat.div_le_self _ _
 omega
theorem tmod_bd (n d B : Int) (hd : d ≠ 0) (h1 : -B ≤ d) (h2 : d ≤ B) : -B ≤ n.tmod d ∧ n.tmod d ≤ B := by
 have h : (n.tmod d).natAbs < d.natAbs := by rw [Int.natAbs_tmod]; exact Nat.mod_lt _ (by omega)
 omega
theorem awayI_bd {n d B : Int} (hd : 0 < d) (h1 : -B ≤ n) (h2 : n ≤ B) : -B ≤ Zgp n d ∧ Zgp n d ≤ B := by
 by_cases hn : 0 ≤ n
 · have := awayI_nonneg hd hn; have := awayI_le hd hn; omega
 · have a := awayI_nonneg (n := -n) hd (by omega); have b := awayI_le (n := -n) hd (by omega); rw [awayI_neg n d hd] at a b; omega
end Go.Proofs.YtnfdfiholcelaaaGreatDoor.Plain
namespace Go.Proofs.YtnfdfiholcelaaaGreatDoor
open Go.RowKit Plain
def Zao (x lo hi : Int) : Int := if x < lo then lo else if hi < lo then lo else if hi < x then hi else x
theorem Zaz (x lo hi : Int) (w : World) : Calls Tryz.prog 172 #[Vi x, Vi lo, Vi hi] w fun e w' => e = .returned (Vi (Zao x lo hi)) ∧ w' = w := by
 unfold Zao
 by_cases h1 : x < lo
 · rw [if_pos h1]
   go_enter Tryz.func172, Tryz.ntmps172
   go_wp2; go_ret; exact ⟨rfl, rfl⟩
 · rw [if_neg h1]
   by_cases h2 : hi < lo
   · rw [if_pos h2]
     go_enter Tryz.func172, Tryz.ntmps172
     go_wp2; go_ret; exact ⟨rfl, rfl⟩
   · rw [if_neg h2]
     by_cases h3 : hi < x
     · rw [if_pos h3]
       go_enter Tryz.func172, Tryz.ntmps172
       go_wp2; go_ret; exact ⟨rfl, rfl⟩
     · rw [if_neg h3]
       go_enter Tryz.func172, Tryz.ntmps172
       go_wp2; go_ret; exact ⟨rfl, rfl⟩
theorem Zay (x lo hi : Int) (h : lo ≤ hi) (w : World) : Calls Tryz.prog 94 #[Vi x, Vi lo, Vi hi] w fun e w' => e = .returned (Vi (Zao x lo hi)) ∧ w' = w := by
 unfold Zao
 by_cases h1 : x < lo
 · rw [if_pos h1]
   by_cases h3 : hi < lo
   · omega
   · go_enter Tryz.func94, Tryz.ntmps94
     go_wp2; go_ret; exact ⟨rfl, rfl⟩
 · rw [if_neg h1, if_neg (show ¬ hi < lo by omega)]
   by_cases h3 : hi < x
   · rw [if_pos h3]
     go_enter Tryz.func94, Tryz.ntmps94
     go_wp2; go_ret; exact ⟨rfl, rfl⟩
   · rw [if_neg h3]
     go_enter Tryz.func94, Tryz.ntmps94
     go_wp2; go_ret; exact ⟨rfl, rfl⟩
theorem clip_of (x : Int) : Zao x (-2147483647) 2147483647 = ofI x := by
 unfold Zao ofI; rw [if_neg (show ¬ ((2147483647 : Int) < -2147483647) by omega)]
theorem fixOf_any (x : Int) (w : World) : Calls Tryz.prog 137 #[Vi x] w fun e w' => e = .returned (Vi (ofI x)) ∧ w' = w := by
 go_enter Tryz.func137, Tryz.ntmps137
 go_wp2_with (go_at_call 172; refine (Zaz _ _ _ _).mono ?_; rintro e w' ⟨rfl, rfl⟩); go_ret; rw [clip_of]; exact ⟨rfl, rfl⟩
theorem refOf_any (x : Int) (w : World) : Calls Tryz.prog 233 #[Vi x] w fun e w' => e = .returned (Vi (ofI x)) ∧ w' = w := by
 go_enter Tryz.func233, Tryz.ntmps233
 go_wp2_with (go_at_call 94; refine (Zay _ _ _ (by omega) _).mono ?_; rintro e w' ⟨rfl, rfl⟩); go_ret; rw [clip_of]; exact ⟨rfl, rfl⟩
end Go.Proofs.YtnfdfiholcelaaaGreatDoor
namespace Go.Proofs.YtnfdfiholcelaaaGreatDoor.Plain
def at0 (l : List Int) (k : Nat) : Int := l.getD k 0
def Zbi (x : Int) : Bool := decide (-1000000 ≤ x) && decide (x ≤ 1000000)
theorem Zeo {x : Int} (h : Zbi x = true) : -1000000 ≤ x ∧ x ≤ 1000000 := by simp [Zbi] at h; omega
def Zbp (l : List Int) : Int := if l.all Zbi then 0 else 1
theorem worth_step (l : List Int) (k : Nat) (h : k < l.length) : Zbp (l.drop k) = if Zbi (at0 l k) then Zbp (l.drop (k + 1)) else 1 := by
 rw [List.drop_eq_getElem_cons h]
 have e : at0 l k = l[k] := by rw [at0, List.getD_eq_getElem?_getD, List.getElem?_eq_getElem h]; rfl
 rw [e]; unfold Zbp; rw [List.all_cons]
 cases Zbi l[k] <;> simp
theorem Zbw {l : List Int} (h : Zbp l = 0) (k : Nat) (hk : k < l.length) : -1000000 ≤ at0 l k ∧ at0 l k ≤ 1000000 := by
 have e : at0 l k = l[k] := by rw [at0, List.getD_eq_getElem?_getD, List.getElem?_eq_getElem hk]; rfl
 have a : l.all Zbi = true := by
  unfold Zbp at h; split at h
  · assumption
  · omega
 rw [e]; exact Zeo (List.all_eq_true.mp a _ (List.getElem_mem hk))
theorem Zfm (l : List Int) : Zbp l = 0 ∨ Zbp l = 1 := by unfold Zbp; split <;> simp
def Zch (l : List Int) : Nat → Bool
 | 0 => false
 | n + 1 => Zch l n || decide (at0 l (n + 1) ≤ at0 l n)
theorem falls_of_lt {l : List Int} : ∀ {n : Nat}, Zch l n = false → ∀ k, k < n → at0 l k < at0 l (k + 1)
 | 0, _, k, hk => by omega
 | n + 1, h, k, hk => by
  simp only [Zch, Bool.or_eq_false_iff, decide_eq_false_iff_not] at h
  by_cases e : k = n
  · subst e; omega
  · exact falls_of_lt h.1 k (by omega)
def Zbv (l : List Int) : Int := if l.length < 2 then 3 else if 8 < l.length then 2 else if Zbp l = 0 then (if Zch l (l.length - 1) then 3 else 0) else 1
structure Places (l : List Int) : Prop where
 lo : 2 ≤ l.length
 hi : l.length ≤ 8
 worth : Zbp l = 0
 up : ∀ k, k + 1 < l.length → at0 l k < at0 l (k + 1)
theorem places_of {l : List Int} (h : Zbv l = 0) : Places l := by
 unfold Zbv at h
 split at h
 · omega
 · split at h
   · omega
   · split at h
     · split at h
       · omega
       · exact ⟨by omega, by omega, by assumption, fun k hk => falls_of_lt (n := l.length - 1) (by cases e : Zch l (l.length - 1) <;> simp_all) k (by omega)⟩
     · omega
theorem Places.mono {l : List Int} (p : Places l) : ∀ {j k : Nat}, j < k → k < l.length → at0 l j < at0 l k := by
 intro j k hjk
 induction k with
 | zero => omega
 | succ k ih =>
  intro hk; have := p.up k hk
  by_cases e : j = k
  · subst e; exact this
  · have := ih (by omega) (by omega); omega
theorem Places.monole {l : List Int} (p : Places l) {j k : Nat} (h : j ≤ k) (hk : k < l.length) : at0 l j ≤ at0 l k := by
 by_cases e : j = k
 · subst e; omega
 · have := p.mono (show j < k by omega) hk; omega
def Zeq (a i : List Int) : Int := if a.length = i.length then (if Zbv a = 0 then Zbp i else Zbv a) else 3
theorem line_of {a i : List Int} (h : Zeq a i = 0) : a.length = i.length ∧ Places a ∧ Zbp i = 0 := by
 unfold Zeq at h
 split at h
 · split at h
   · exact ⟨by assumption, places_of (by assumption), h⟩
   · omega
 · omega
def upI (n d : Int) : Int := (2 * n + d) / (2 * d)
theorem upI_rem (n d : Int) (hd : 0 < d) : upI n d = if d - n % d ≤ n % d then n / d + 1 else n / d := by
 unfold upI
 have e := Int.mul_ediv_add_emod n d; have r0 := Int.emod_nonneg n (show d ≠ 0 by omega); have r1 := Int.emod_lt_of_pos n hd
 have : 2 * n + d = (2 * (n % d) + d) + (2 * d) * (n / d) := by
  have : 2 * n = 2 * (d * (n / d)) + 2 * (n % d) := by omega
  have e2 : 2 * (d * (n / d)) = 2 * d * (n / d) := by rw [Int.mul_assoc]
  omega
 rw [this, Int.add_mul_ediv_left _ _ (by omega)]
 split
 · have : (2 * (n % d) + d) / (2 * d) = 1 := by
    have : 2 * (n % d) + d = (2 * (n % d) - d) + (2 * d) * 1 := by omega
    rw [this, Int.add_mul_ediv_left _ _ (by omega), Int.ediv_eq_zero_of_lt (by omega) (by omega)]; rfl
   omega
 · rw [Int.ediv_eq_zero_of_lt (by omega) (by omega)]; omega
def nearT (n d : Int) : Int :=
 if n.tmod d < 0 then (if d - (n.tmod d + d) ≤ n.tmod d + d then n.tdiv d - 1 + 1 else n.tdiv d - 1)
 else (if d - n.tmod d ≤ n.tmod d then n.tdiv d + 1 else n.tdiv d)
theorem tdm (n d : Int) (hd : 0 < d) : (n.tmod d < 0 → n % d = n.tmod d + d ∧ n / d = n.tdiv d - 1) ∧ (¬ n.tmod d < 0 → n % d = n.tmod d ∧ n / d = n.tdiv d) := by
 have e := Int.mul_tdiv_add_tmod n d
 have b : (n.tmod d).natAbs < d.natAbs := by rw [Int.natAbs_tmod]; exact Nat.mod_lt _ (by omega)
 constructor
 · intro h
   have h1 : n = (n.tmod d + d) + d * (n.tdiv d - 1) := by rw [Int.mul_sub]; omega
   constructor
   · conv => lhs; rw [h1]
     rw [Int.add_mul_emod_self_left, Int.emod_eq_of_lt (by omega) (by omega)]
   · conv => lhs; rw [h1]
     rw [Int.add_mul_ediv_left _ _ (by omega), Int.ediv_eq_zero_of_lt (by omega) (by omega)]; omega
 · intro h
   have h1 : n = n.tmod d + d * n.tdiv d := by omega
   constructor
   · conv => lhs; rw [h1]
     rw [Int.add_mul_emod_self_left, Int.emod_eq_of_lt (by omega) (by omega)]
   · conv => lhs; rw [h1]
     rw [Int.add_mul_ediv_left _ _ (by omega), Int.ediv_eq_zero_of_lt (by omega) (by omega)]; omega
theorem near_up (n d : Int) (hd : 0 < d) : nearT n d = upI n d := by
 rw [upI_rem n d hd]; unfold nearT
 by_cases h : n.tmod d < 0
 · obtain ⟨e1, e2⟩ := (tdm n d hd).1 h; rw [if_pos h, e1, e2]
 · obtain ⟨e1, e2⟩ := (tdm n d hd).2 h; rw [if_neg h, e1, e2]
theorem upI_exact (k d : Int) (hd : 0 < d) : upI (k * d) d = k := by
 unfold upI
 have : 2 * (k * d) + d = d + 2 * d * k := by rw [Int.mul_assoc, Int.mul_comm d k]; omega
 rw [this, Int.add_mul_ediv_left _ _ (by omega), Int.ediv_eq_zero_of_lt (by omega) (by omega)]; omega
def standF (l : List Int) (c : Int) : Nat → Nat → Nat
 | 0, i => i
 | f + 1, i => if i + 2 < l.length ∧ at0 l (i + 1) ≤ c then standF l c f (i + 1) else i
def standI (l : List Int) (c : Int) : Nat := standF l c l.length 0
structure Stands (l : List Int) (c : Int) (i : Nat) : Prop where
 lt : i + 1 < l.length
 past : at0 l i ≤ c
 left : c ≤ at0 l (i + 1)
 next : i + 2 < l.length → c < at0 l (i + 1)
theorem Zjb {l : List Int} {c : Int} (h1 : c ≤ at0 l (l.length - 1)) : ∀ (f i : Nat), l.length ≤ f + i + 2 → i + 1 < l.length → at0 l i ≤ c → Stands l c (standF l c f i)
 | 0, i, hf, hi, hp => by
  have e : i + 1 = l.length - 1 := by omega
  exact ⟨hi, hp, by simp only [standF]; rw [e]; exact h1, fun h => by simp only [standF] at h; omega⟩
 | f + 1, i, hf, hi, hp => by
  simp only [standF]
  split
  · rename_i h; exact Zjb h1 f (i + 1) (by omega) (by omega) h.2
  · rename_i h
    by_cases e : i + 2 < l.length
    · have : ¬ at0 l (i + 1) ≤ c := fun q => h ⟨e, q⟩; exact ⟨hi, hp, by omega, fun _ => by omega⟩
    · have q : i + 1 = l.length - 1 := by omega
      exact ⟨hi, hp, by rw [q]; exact h1, fun h => by omega⟩
theorem standI_stands {l : List Int} {c : Int} (p : Places l) (h0 : at0 l 0 ≤ c) (h1 : c ≤ at0 l (l.length - 1)) : Stands l c (standI l c) :=
 Zjb h1 _ 0 (by omega) (by have := p.lo; omega) h0
theorem Stands.unique {l : List Int} {c : Int} (p : Places l) {i j : Nat} (a : Stands l c i) (b : Stands l c j) : i = j := by
 rcases Nat.lt_trichotomy i j with h | h | h
 · have := a.next (by have := b.lt; omega); have := p.monole (show i + 1 ≤ j by omega) (by have := b.lt; omega); have := b.past; omega
 · exact h
 · have := b.next (by have := a.lt; omega); have := p.monole (show j + 1 ≤ i by omega) (by have := a.lt; omega); have := a.past; omega
def clipT (x lo hi : Int) : Int := if x < lo then lo else if hi < lo then lo else if hi < x then hi else x
def Zdi (l : List Int) (x : Int) : Int := clipT x (at0 l 0) (at0 l (l.length - 1))
theorem clipE_bd {l : List Int} (p : Places l) (x : Int) : at0 l 0 ≤ Zdi l x ∧ Zdi l x ≤ at0 l (l.length - 1) := by
 have := p.mono (show 0 < l.length - 1 by have := p.lo; omega) (by have := p.lo; omega)
 unfold Zdi clipT; split <;> (try split) <;> (try split) <;> omega
theorem clipE_id {l : List Int} {x : Int} (h0 : at0 l 0 ≤ x) (h1 : x ≤ at0 l (l.length - 1)) : Zdi l x = x := by
 unfold Zdi clipT; rw [if_neg (by omega), if_neg (by omega), if_neg (by omega)]
def Zer (a z : List Int) (c : Int) (i : Nat) : Int := upI (at0 z i * (at0 a (i + 1) - c) + at0 z (i + 1) * (c - at0 a i)) (at0 a (i + 1) - at0 a i)
def Zga (a z : List Int) (x : Int) : Int := Zer a z (Zdi a x) (standI a (Zdi a x))
theorem Zfz {a z : List Int} (p : Places a) {x : Int} {i : Nat} (s : Stands a (Zdi a x) i) : Zga a z x = Zer a z (Zdi a x) i := by
 have b := clipE_bd p x; rw [Zga, (standI_stands p b.1 b.2).unique p s]
theorem height_left {a z : List Int} {i : Nat} (h : at0 a i < at0 a (i + 1)) : Zer a z (at0 a i) i = at0 z i := by
 unfold Zer; rw [Int.sub_self, Int.mul_zero, Int.add_zero, upI_exact _ _ (by omega)]
theorem height_right {a z : List Int} {i : Nat} (h : at0 a i < at0 a (i + 1)) : Zer a z (at0 a (i + 1)) i = at0 z (i + 1) := by
 unfold Zer; rw [Int.sub_self, Int.mul_zero, Int.zero_add, upI_exact _ _ (by omega)]
theorem look_point {a z : List Int} (p : Places a) (k : Nat) (hk : k < a.length) : Zga a z (at0 a k) = at0 z k := by
 have h0 := p.monole (Nat.zero_le k) hk; have h1 := p.monole (show k ≤ a.length - 1 by omega) (by omega); have e := clipE_id h0 h1; have l2 := p.lo
 by_cases hl : k + 1 < a.length
 · have s : Stands a (Zdi a (at0 a k)) k := by
    rw [e]; exact ⟨hl, by omega, by have := p.up k hl; omega, fun _ => p.up k hl⟩
   rw [Zfz p s, e, height_left (p.up k hl)]
 · obtain ⟨j, rfl⟩ : ∃ j, k = j + 1 := ⟨k - 1, by omega⟩
   have s : Stands a (Zdi a (at0 a (j + 1))) j := by
    rw [e]; exact ⟨hk, by have := p.up j hk; omega, by omega, fun h => by omega⟩
   rw [Zfz p s, e, height_right (p.up j hk)]
theorem look_last {a z : List Int} (p : Places a) {x : Int} (h : at0 a (a.length - 1) ≤ x) : Zga a z x = at0 z (a.length - 1) := by
 have l2 := p.lo; have m := p.mono (show 0 < a.length - 1 by omega) (by omega)
 have e : Zdi a x = Zdi a (at0 a (a.length - 1)) := by
  rw [clipE_id (l := a) (x := at0 a (a.length - 1)) (by omega) (by omega)]; unfold Zdi clipT; split <;> (try split) <;> (try split) <;> omega
 rw [Zga, e, ← Zga, look_point p _ (by omega)]
theorem look_first {a z : List Int} (p : Places a) {x : Int} (h : x ≤ at0 a 0) : Zga a z x = at0 z 0 := by
 have l2 := p.lo; have m := p.mono (show 0 < a.length - 1 by omega) (by omega)
 have e : Zdi a x = Zdi a (at0 a 0) := by
  rw [clipE_id (l := a) (x := at0 a 0) (by omega) (by omega)]; unfold Zdi clipT; split <;> (try split) <;> (try split) <;> omega
 rw [Zga, e, ← Zga, look_point p _ (by omega)]
theorem look_mid {a z : List Int} (p : Places a) {x : Int} {i : Nat} (h0 : at0 a 0 ≤ x) (h1 : x ≤ at0 a (a.length - 1)) (s : Stands a x i) : Zga a z x = Zer a z x i := by
 have e := clipE_id h0 h1; rw [Zfz p (i := i) (by rw [e]; exact s), e]
theorem mul_bdT {a b A B : Int} (ha : -A ≤ a) (ha' : a ≤ A) (hb : -B ≤ b) (hb' : b ≤ B) : -(A * B) ≤ a * b ∧ a * b ≤ A * B := by
 have h1 : 0 ≤ (A - a) * (B + b) := Int.mul_nonneg (by omega) (by omega); have h2 : 0 ≤ (A + a) * (B - b) := Int.mul_nonneg (by omega) (by omega); have h3 : 0 ≤ (A - a) * (B - b) := Int.mul_nonneg (by omega) (by omega); have h4 : 0 ≤ (A + a) * (B + b) := Int.mul_nonneg (by omega) (by omega); simp only [Int.sub_mul, Int.mul_sub, Int.add_mul, Int.mul_add] at h1 h2 h3 h4
 constructor <;> omega
end Go.Proofs.YtnfdfiholcelaaaGreatDoor.Plain
