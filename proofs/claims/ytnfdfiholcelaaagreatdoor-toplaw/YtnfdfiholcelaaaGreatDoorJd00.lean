import Derived.Deep.RegionHeld3
import Derived.Deep.MidRow
import Derived.WalkKit
import Derived.KernelRfl
import Derived.Sort.LotA
import Derived.Test.YtnfdfiholcelaaaGreatDoorProg
import Derived.WalkLawsBesides
import Derived.WalkSpells
import Derived.ProofKit
import Derived.Outline
import Derived.RegionTactic
import Derived.ChangeAlike
import Derived.Deep.QuietTactic
import Derived.BigQuiet
import Derived.Deep.CutRange
import Derived.Deep.DeepCutAuto
import Derived.BigRegion
set_option maxRecDepth 100000
set_option maxHeartbeats 20000000
namespace Go.Proofs.YtnfdfiholcelaaaGreatDoor
open Go.RowKit
abbrev Vi (x : Int) : Value := .int .i64 x
abbrev Ad (b o : Nat) : Addr := ⟨b, o, none⟩
theorem Sm {P : Program} {f : Nat} {vs : Array Value} {w u : World} {V : Ending} {Q : Ending → World → Prop} (h : Calls P f vs w fun e w' => e = V ∧ w' = u) (k : Q V u) : Calls P f vs w Q := h.mono (by rintro e w' ⟨rfl, rfl⟩; exact k)
theorem Sb {P : Program} {f : Nat} {vs : Array Value} {w : World} {V : Ending} {R : World → Prop} {Q : Ending → World → Prop} (h : Calls P f vs w fun e w' => e = V ∧ R w') (k : ∀ w', R w' → Q V w') : Calls P f vs w Q := h.mono (by rintro e w' ⟨rfl, h2⟩; exact k w' h2)
def okT (md : Region.Mode) (ops : Array Oper) (listed : Array Bool) (i : Nat) : Bool := Region.noSelect ops && (Region.free md ops listed i && (Region.ready md ops listed).contains i)
theorem okT_and {a b c : Bool} (h : (a && (b && c)) = true) : a = true ∧ b = true ∧ c = true := by simpa using h
section
variable {P : Program} {ops : Array Oper} {Q : Exit → Act → World → Prop} {md : Region.Mode} {S : World → Prop} {fuel : Nat} {listed : Array Bool} {a : Act} {w : World}
theorem Tk {oi : Oper} {v : Value} (i : Nat) (hi : ops[i]? = some oi) (hy : YieldsIf P ops S oi v a) (hS : S w) (h : wpAnyH P md ops Q S fuel (listed.setIfInBounds i true) (a.put oi.dst v) w)
    (hf : okT md ops listed i = true := by kernel_rfl) (hQ : ∀ c a w, Q (.panic c) (a.put oi.dst v) w → Q (.panic c) a w := by exact fun _ _ _ h => h) : wpAnyH P md ops Q S (fuel + 1) listed a w :=
  wpAnyH_take hi (okT_and hf).1 (okT_and hf).2.1 (okT_and hf).2.2 hQ hy hS h
theorem Tq {oi : Oper} {v : Value} (i : Nat) (hS : S w) (h : wpAnyH P md ops Q S fuel (listed.setIfInBounds i true) (a.put oi.dst v) w)
    (hi : ops[i]? = some oi := by rfl) (hf : okT md ops listed i = true := by kernel_rfl) (hQ : ∀ c a w, Q (.panic c) (a.put oi.dst v) w → Q (.panic c) a w := by exact fun _ _ _ h => h)
    (hw : Region.wanted oi (yielded ops a.tmps) = true := by rfl) (hy : ∀ w, S w → (execOp a.eval oi).run P w = .ok (.value v) w := by intro w hSw; clear hSw; go_simp; (try with_reducible rfl)) : wpAnyH P md ops Q S (fuel + 1) listed a w :=
  wpAnyH_take hi (okT_and hf).1 (okT_and hf).2.1 (okT_and hf).2.2 hQ (.inl ⟨hw, hy⟩) hS h
theorem Tp {oi : Oper} {v : Value} (i : Nat) (hS : S w) (h : wpAnyH P md ops Q S fuel (listed.setIfInBounds i true) (a.put oi.dst v) w)
    (hi : ops[i]? = some oi := by rfl) (hf : okT md ops listed i = true := by kernel_rfl) (hQ : ∀ c a w, Q (.panic c) (a.put oi.dst v) w → Q (.panic c) a w := by exact fun _ _ _ h => h)
    (hw : Region.wanted oi (yielded ops a.tmps) = true := by rfl) (hy : ∀ w, S w → (execOp a.eval oi).run P w = .ok (.value v) w := by intro w hSw; (try dsimp only at hSw); go_simp; (try with_reducible rfl)) : wpAnyH P md ops Q S (fuel + 1) listed a w :=
  wpAnyH_take hi (okT_and hf).1 (okT_and hf).2.1 (okT_and hf).2.2 hQ (.inl ⟨hw, hy⟩) hS h
theorem Th {oi : Oper} {v : Value} (i : Nat) (hi : ops[i]? = some oi) (hy : ∀ w, S w → (execOp a.eval oi).run P w = .ok (.value v) w) (hS : S w) (h : wpAnyH P md ops Q S fuel (listed.setIfInBounds i true) (a.put oi.dst v) w)
    (hf : okT md ops listed i = true := by kernel_rfl) (hQ : ∀ c a w, Q (.panic c) (a.put oi.dst v) w → Q (.panic c) a w := by exact fun _ _ _ h => h)
    (hw : Region.wanted oi (yielded ops a.tmps) = true := by rfl) : wpAnyH P md ops Q S (fuel + 1) listed a w :=
  wpAnyH_take hi (okT_and hf).1 (okT_and hf).2.1 (okT_and hf).2.2 hQ (.inl ⟨hw, hy⟩) hS h
theorem Ts {oi : Oper} (i : Nat) (hS : S w) (h : wpAnyH P md ops Q S fuel (listed.setIfInBounds i true) (a.put oi.dst undef) w)
    (hi : ops[i]? = some oi := by rfl) (hf : okT md ops listed i = true := by kernel_rfl) (hQ : ∀ c a w, Q (.panic c) (a.put oi.dst undef) w → Q (.panic c) a w := by exact fun _ _ _ h => h)
    (hw : Region.wanted oi (yielded ops a.tmps) = false := by rfl) : wpAnyH P md ops Q S (fuel + 1) listed a w :=
  wpAnyH_take hi (okT_and hf).1 (okT_and hf).2.1 (okT_and hf).2.2 hQ (.inr ⟨hw, rfl⟩) hS h
theorem Ra {o : Oper} (i : Nat) (h : ∀ K' : Act → World → Prop, Shut (∀ a w, S w → (S w → wpAnyH P md ops Q S fuel (listed.setIfInBounds i true) a w) → K' a w) → if Region.wanted o (yielded ops a.tmps) = true then Oper.wp P o a w K' Q else K' (a.put o.dst undef) w)
    (hi : ops[i]? = some o := by rfl) (hr : Region.ready md ops listed = [i] := by kernel_rfl) : wpAnyH P md ops Q S (fuel + 1) listed a w :=
  wpAnyH_ready hr (by simp) (AllReadyH.cons hi h AllReadyH.nil)
theorem Rb {o p : Oper} (i j : Nat) (h : ∀ K' : Act → World → Prop, Shut (∀ a w, S w → (S w → wpAnyH P md ops Q S fuel (listed.setIfInBounds i true) a w) → K' a w) → if Region.wanted o (yielded ops a.tmps) = true then Oper.wp P o a w K' Q else K' (a.put o.dst undef) w)
    (k : ∀ K' : Act → World → Prop, Shut (∀ a w, S w → (S w → wpAnyH P md ops Q S fuel (listed.setIfInBounds j true) a w) → K' a w) → if Region.wanted p (yielded ops a.tmps) = true then Oper.wp P p a w K' Q else K' (a.put p.dst undef) w)
    (hi : ops[i]? = some o := by rfl) (hj : ops[j]? = some p := by rfl) (hr : Region.ready md ops listed = [i, j] := by kernel_rfl) : wpAnyH P md ops Q S (fuel + 1) listed a w :=
  wpAnyH_ready hr (by simp) (AllReadyH.cons hi h (AllReadyH.cons hj k AllReadyH.nil))
end
theorem Ly {α : Type} : (∀ (xs : List α) (i : Nat) (h : i < xs.toArray.size), xs.toArray[i] = xs[i]'(by simpa using h)) ∧ (∀ (x : α) (xs : List α) (i : Nat) (h : i + 1 < (x :: xs).length), (x :: xs)[i + 1] = xs[i]'(by simpa using h)) ∧ (∀ (x : α) (xs : List α) (h : 0 < (x :: xs).length), (x :: xs)[0] = x) ∧
    (∀ (xs : List α) (i : Nat) (x : α), xs.toArray.setIfInBounds i x = (xs.set i x).toArray) ∧ (∀ (x : α) (xs : List α) (i : Nat) (y : α), (x :: xs).set (i + 1) y = x :: xs.set i y) ∧ (∀ (x : α) (xs : List α) (y : α), (x :: xs).set 0 y = y :: xs) :=
  ⟨fun _ _ _ => rfl, fun _ _ _ _ => rfl, fun _ _ _ => rfl, fun _ _ _ => by simp, fun _ _ _ _ => rfl, fun _ _ _ => rfl⟩
end Go.Proofs.YtnfdfiholcelaaaGreatDoor
namespace Go.Proofs.YtnfdfiholcelaaaGreatDoor.Plain
set_option linter.unusedVariables false
abbrev Rd := Int × Int × Int × Int
def rlt (x y : Rd) : Bool := decide (x.1 < y.1) || (decide (x.1 = y.1) && decide (x.2.1 < y.2.1))
def req (x y : Rd) : Bool := decide (x.1 = y.1) && decide (x.2.1 = y.2.1)
theorem Zfm {x y : Rd} : rlt x y = true ↔ x.1 < y.1 ∨ (x.1 = y.1 ∧ x.2.1 < y.2.1) := by simp [rlt]
theorem req_iff {x y : Rd} : req x y = true ↔ x.1 = y.1 ∧ x.2.1 = y.2.1 := by simp [req]
theorem rlt_no {x y : Rd} : rlt x y = false ↔ ¬ (x.1 < y.1 ∨ (x.1 = y.1 ∧ x.2.1 < y.2.1)) := by rw [← Zfm]; simp
theorem req_no {x y : Rd} : req x y = false ↔ ¬ (x.1 = y.1 ∧ x.2.1 = y.2.1) := by rw [← req_iff]; simp
theorem rlt_trans {x y z : Rd} (h : rlt x y = true) (k : rlt y z = true) : rlt x z = true := by
 rw [Zfm] at *; omega
theorem rlt_irrefl (x : Rd) : rlt x x = false := by rw [rlt_no]; omega
theorem rlt_other {y r : Rd} (h : rlt y r = false) (k : req y r = false) : rlt r y = true := by
 rw [rlt_no] at h; rw [req_no] at k; rw [Zfm]; omega
theorem rlt_req {y r z : Rd} (k : req y r = true) (h : rlt y z = true) : rlt r z = true := by
 rw [req_iff] at k; rw [Zfm] at *; omega
theorem rlt_ne {x y : Rd} (h : rlt x y = true) : req x y = false := by rw [Zfm] at h; rw [req_no]; omega
theorem rlt_ne' {x y : Rd} (h : rlt x y = true) : req y x = false := by rw [Zfm] at h; rw [req_no]; omega
def ins (r : Rd) : List Rd → List Rd
 | [] => [r]
 | y :: t => if rlt y r = true then y :: ins r t else if req y r = true then r :: t else r :: y :: t
theorem mem_ins {r z : Rd} : ∀ {l : List Rd}, z ∈ ins r l → z = r ∨ z ∈ l
 | [], h => by simp [ins] at h; exact .inl h
 | y :: t, h => by
  unfold ins at h
  split at h
  · rcases List.mem_cons.1 h with rfl | h
    · exact .inr (by simp)
    · rcases mem_ins h with h | h
      · exact .inl h
      · exact .inr (by simp [h])
  · split at h
    · rcases List.mem_cons.1 h with rfl | h
      · exact .inl rfl
      · exact .inr (by simp [h])
    · rcases List.mem_cons.1 h with rfl | h
      · exact .inl rfl
      · exact .inr h
theorem ins_sorted (r : Rd) : ∀ {l : List Rd}, l.Pairwise (fun x y => rlt x y = true) → (ins r l).Pairwise (fun x y => rlt x y = true)
 | [], _ => by simp [ins]
 | y :: t, h => by
  obtain ⟨h1, h2⟩ := List.pairwise_cons.1 h
  unfold ins
  split
  · rename_i hy
    refine List.pairwise_cons.2 ⟨fun z hz => ?_, ins_sorted r h2⟩
    rcases mem_ins hz with rfl | hz
    · exact hy
    · exact h1 z hz
  · rename_i hy
    split
    · rename_i hq
      exact List.pairwise_cons.2 ⟨fun z hz => rlt_req hq (h1 z hz), h2⟩
    · rename_i hq
      have hr : rlt r y = true := rlt_other (by simpa using hy) (by simpa using hq); refine List.pairwise_cons.2 ⟨fun z hz => ?_, h⟩
      rcases List.mem_cons.1 hz with rfl | hz
      · exact hr
      · exact rlt_trans hr (h1 z hz)
theorem filter_self {r : Rd} {l : List Rd} (h : ∀ z ∈ l, req z r = false) : l.filter (fun z => !req z r) = l :=
 List.filter_eq_self.2 fun z hz => by simp [h z hz]
theorem ins_perm (r : Rd) : ∀ {l : List Rd}, l.Pairwise (fun x y => rlt x y = true) → (ins r l).Perm (r :: l.filter (fun z => !req z r))
 | [], _ => by simp [ins]
 | y :: t, h => by
  obtain ⟨h1, h2⟩ := List.pairwise_cons.1 h
  unfold ins
  split
  · rename_i hy
    rw [List.filter_cons_of_pos (by simp [rlt_ne hy])]; exact ((ins_perm r h2).cons y).trans (List.Perm.swap r y _)
  · rename_i hy
    split
    · rename_i hq
      rw [List.filter_cons_of_neg (by simp [hq]), filter_self fun z hz => rlt_ne' (rlt_req hq (h1 z hz))]
    · rename_i hq
      have hr : rlt r y = true := rlt_other (by simpa using hy) (by simpa using hq); rw [filter_self fun z hz => ?_]
      rcases List.mem_cons.1 hz with rfl | hz
      · simpa using hq
      · exact rlt_ne' (rlt_trans hr (h1 z hz))
theorem ins_length (r : Rd) : ∀ (l : List Rd), (ins r l).length ≤ l.length + 1
 | [] => by simp [ins]
 | y :: t => by
  unfold ins
  split
  · have := ins_length r t; simp; omega
  · split <;> simp
def rat (l : List Rd) (k : Nat) : Rd := l.getD k (0, 0, 0, 0)
theorem rat_eq {l : List Rd} {k : Nat} (h : k < l.length) : rat l k = l[k] := by simp [rat, h]
theorem rat_mem {l : List Rd} {k : Nat} (h : k < l.length) : rat l k ∈ l := by rw [rat_eq h]; exact List.getElem_mem h
def gat (f : Int → Option Rd) (ws : List Int) : List Rd := ws.foldl (fun acc x => match f x with | some r => ins r acc | none => acc) []
def bads (f : Int → Option Rd) (ws : List Int) : Nat := (ws.filter fun x => (f x).isNone).length
theorem Zgm (f : Int → Option Rd) (ws : List Int) (x : Int) : gat f (ws ++ [x]) = match f x with | some r => ins r (gat f ws) | none => gat f ws := by
 simp [gat, List.foldl_append]
theorem bads_snoc (f : Int → Option Rd) (ws : List Int) (x : Int) : bads f (ws ++ [x]) = bads f ws + (if (f x).isNone then 1 else 0) := by
 unfold bads
 rw [List.filter_append, List.length_append]
 cases h : (f x).isNone <;> simp [h]
theorem take_succ_getD {α : Type} (l : List α) (z : α) (k : Nat) (h : k < l.length) : l.take (k + 1) = l.take k ++ [l.getD k z] := by
 rw [List.take_add_one]; simp [h]
theorem snoc_ind {α : Type} {P : List α → Prop} (h0 : P []) (h1 : ∀ l x, P l → P (l ++ [x])) : ∀ l, P l := by
 intro l
 have : P l.reverse.reverse := by
  induction l.reverse with
  | nil => exact h0
  | cons x t ih => rw [List.reverse_cons]; exact h1 _ x ih
 rwa [List.reverse_reverse] at this
theorem gat_sorted (f : Int → Option Rd) : ∀ ws, (gat f ws).Pairwise (fun x y => rlt x y = true) :=
 snoc_ind (by simp [gat]) fun l x ih => by
  rw [Zgm]
  cases f x with
  | none => exact ih
  | some r => exact ins_sorted r ih
theorem gat_length (f : Int → Option Rd) : ∀ ws, (gat f ws).length ≤ ws.length :=
 snoc_ind (by simp [gat]) fun l x ih => by
  rw [Zgm]
  cases f x with
  | none => simp; omega
  | some r => have := ins_length r (gat f l); simp; omega
theorem gat_mem (f : Int → Option Rd) : ∀ ws r, r ∈ gat f ws → ∃ x ∈ ws, f x = some r :=
 snoc_ind (by simp [gat]) fun l x ih => by
  intro r; rw [Zgm]; intro h
  cases hf : f x with
  | none => rw [hf] at h; obtain ⟨y, hy, e⟩ := ih r h; exact ⟨y, by simp [hy], e⟩
  | some r' =>
   rw [hf] at h
   rcases mem_ins h with rfl | h
   · exact ⟨x, by simp, hf⟩
   · obtain ⟨y, hy, e⟩ := ih r h; exact ⟨y, by simp [hy], e⟩
theorem bads_le (f : Int → Option Rd) (ws : List Int) : bads f ws ≤ ws.length := List.length_filter_le _ _
def cmpI (a b : Int) : Int := if a < b then -1 else if b < a then 1 else 0
def rcf (x y : Rd) : Int := if cmpI x.1 y.1 = 0 then cmpI x.2.1 y.2.1 else cmpI x.1 y.1
theorem rcf_lt (x y : Rd) : decide (rcf x y < 0) = rlt x y := by
 unfold rcf cmpI rlt
 by_cases h1 : x.1 < y.1
 · simp [h1]
 · by_cases h2 : y.1 < x.1
   · have : ¬ x.1 = y.1 := by omega
     simp [h1, h2, this]
   · have : x.1 = y.1 := by omega
     by_cases h3 : x.2.1 < y.2.1
     · simp [this, h3]
     · by_cases h4 : y.2.1 < x.2.1
       · simp [this, h3, h4]
       · simp [this, h3, h4]
theorem swo_rcf : Go.Sort.SWO (fun x y : Rd => decide (rcf x y < 0)) where
 irrefl x := by rw [rcf_lt]; exact rlt_irrefl x
 trans x y z h k := by rw [rcf_lt] at *; exact rlt_trans h k
 ntrans x y z h k := by rw [rcf_lt] at *; rw [rlt_no] at *; omega
theorem Zgb {l : List Rd} (h : l.Pairwise (fun x y => rlt x y = true)) {a b : Rd} (ha : a ∈ l) (hb : b ∈ l) (h1 : rlt a b = false) (h2 : rlt b a = false) : a = b := by
 obtain ⟨i, hi, rfl⟩ := List.getElem_of_mem ha; obtain ⟨j, hj, rfl⟩ := List.getElem_of_mem hb; have hp := List.pairwise_iff_getElem.1 h
 rcases Nat.lt_trichotomy i j with e | e | e
 · rw [hp i j hi hj e] at h1; cases h1
 · subst e; rfl
 · rw [hp j i hj hi e] at h2; cases h2
theorem sorted_is {l l' : List Rd} (hs : l.Pairwise (fun x y => rlt x y = true)) (hp : l'.Perm l) (hs' : l'.Pairwise (fun x y => rlt y x = false)) : l' = l := by
 refine List.Perm.eq_of_pairwise (le := fun x y => rlt y x = false) ?_ hs' (hs.imp fun {x y} h => ?_) hp
 · intro a b ha hb h1 h2; exact Zgb hs (hp.mem_iff.1 ha) hb h2 h1
 · rw [Zfm] at h; rw [rlt_no]; omega
theorem sortedIn_is {l : List Rd} {d d' : Array Rd} (hs : l.Pairwise (fun x y => rlt x y = true)) (hd : d.toList.Perm l) (hp : Go.Sort.PermIn 0 d.size d d') (hso : Go.Sort.SortedIn (fun x y => decide (rcf x y < 0)) 0 d.size d') : d'.toList = l := by
 obtain ⟨hsz, _, hperm⟩ := hp
 have e1 : d'.extract 0 d.size = d' := by rw [← hsz]; exact Array.extract_size
 rw [e1, Array.extract_size] at hperm; refine sorted_is hs (hperm.trans hd) ?_; rw [List.pairwise_iff_getElem]; intro i j hi hj hij
 have hi' : i < d'.size := by simpa using hi
 have hj' : j < d'.size := by simpa using hj
 have := hso i j (Nat.zero_le _) hij (by omega); simp only [rcf_lt] at this; rw [getElem!_pos d' j hj', getElem!_pos d' i hi'] at this
 simpa using this
def fnd (a b : Int) : List Rd → Option Rd
 | [] => none
 | r :: t => if r.1 = a ∧ r.2.1 = b then some r else fnd a b t
theorem fnd_step (a b : Int) (l : List Rd) (k : Nat) (h : k < l.length) : fnd a b (l.drop k) = if (rat l k).1 = a ∧ (rat l k).2.1 = b then some (rat l k) else fnd a b (l.drop (k + 1)) := by
 rw [List.drop_eq_getElem_cons h, rat_eq h, fnd]
end Go.Proofs.YtnfdfiholcelaaaGreatDoor.Plain
namespace Go.Proofs.YtnfdfiholcelaaaGreatDoor.Plain
def ofI (x : Int) : Int := if x < -2147483647 then -2147483647 else if 2147483647 < x then 2147483647 else x
theorem ofI_lo (x : Int) : -2147483647 ≤ ofI x := by unfold ofI; split <;> (try split) <;> omega
theorem ofI_hi (x : Int) : ofI x ≤ 2147483647 := by unfold ofI; split <;> (try split) <;> omega
theorem mul_bd {a b : Int} (ha : -2147483647 ≤ a) (ha' : a ≤ 2147483647) (hb : -2147483647 ≤ b) (hb' : b ≤ 2147483647) : -4611686014132420609 ≤ a * b ∧ a * b ≤ 4611686014132420609 := by
 have h1 : 0 ≤ (2147483647 - a) * (2147483647 + b) := Int.mul_nonneg (by omega) (by omega); have h2 : 0 ≤ (2147483647 + a) * (2147483647 - b) := Int.mul_nonneg (by omega) (by omega); have h3 : 0 ≤ (2147483647 - a) * (2147483647 - b) := Int.mul_nonneg (by omega) (by omega); have h4 : 0 ≤ (2147483647 + a) * (2147483647 + b) := Int.mul_nonneg (by omega) (by omega); simp only [Int.sub_mul, Int.mul_sub, Int.add_mul, Int.mul_add] at h1 h2 h3 h4
 constructor <;> omega
def awayI (n d : Int) : Int := if n < 0 then -((2 * (-n) + d) / (2 * d)) else (2 * n + d) / (2 * d)
theorem awayI_neg (n d : Int) (h : 0 < d) : awayI (-n) d = -awayI n d := by
 unfold awayI
 rcases Int.lt_trichotomy n 0 with h0 | h0 | h0
 · rw [if_neg (by omega), if_pos h0]; omega
 · subst h0; have e : (2 * 0 + d) / (2 * d) = 0 := Int.ediv_eq_zero_of_lt (by omega) (by omega); simp only [Int.neg_zero, Int.lt_irrefl, if_false]; rw [e]; rfl
 · rw [if_pos (by omega), if_neg (by omega)]; simp
theorem away_div (n d : Int) (hd : 0 < d) (_hn : 0 ≤ n) : (2 * n + d) / (2 * d) = if 2 * (n % d) < d then n / d else n / d + 1 := by
 have e := Int.mul_ediv_add_emod n d; have r0 := Int.emod_nonneg n (show d ≠ 0 by omega); have r1 := Int.emod_lt_of_pos n hd
 have : 2 * n + d = (2 * (n % d) + d) + (2 * d) * (n / d) := by
  have : 2 * n = 2 * (d * (n / d)) + 2 * (n % d) := by omega
  have e2 : 2 * (d * (n / d)) = 2 * d * (n / d) := by rw [Int.mul_assoc]
  omega
 rw [this, Int.add_mul_ediv_left _ _ (by omega)]
 split
 · rw [Int.ediv_eq_zero_of_lt (by omega) (by omega)]; omega
 · have : (2 * (n % d) + d) / (2 * d) = 1 := by
    have : 2 * (n % d) + d = (2 * (n % d) - d) + (2 * d) * 1 := by omega
    rw [this, Int.add_mul_ediv_left _ _ (by omega), Int.ediv_eq_zero_of_lt (by omega) (by omega)]; rfl
   omega
def Zer (n d : Int) : Int := if 2 * max (n.tmod d) (-(n.tmod d)) < max d (-d) then n.tdiv d else if (decide (n < 0) != decide (d < 0)) = true then n.tdiv d - 1 else n.tdiv d + 1
theorem near_pos (n d : Int) (hd : 0 < d) (hn : 0 ≤ n) : Zer n d = awayI n d := by
 unfold Zer awayI
 rw [if_neg (show ¬ n < 0 by omega), away_div n d hd hn, Int.tmod_eq_emod_of_nonneg hn, Int.tdiv_eq_ediv_of_nonneg hn]; have r0 := Int.emod_nonneg n (show d ≠ 0 by omega)
 have e1 : max (n % d) (-(n % d)) = n % d := by omega
 have e2 : max d (-d) = d := by omega
 rw [e1, e2]
 split
 · rfl
 · rw [if_neg]; simp; omega
theorem near_neg (n d : Int) (hd : 0 < d) : Zer (-n) d = -Zer n d := by
 by_cases h : n = 0
 · subst h; unfold Zer; simp; omega
 · unfold Zer
   rw [Int.neg_tmod, Int.neg_tdiv]
   have e1 : max (-(n.tmod d)) (- -(n.tmod d)) = max (n.tmod d) (-(n.tmod d)) := by omega
   rw [e1]
   by_cases hn : n < 0
   · have h1 : decide (-n < 0) = false := by simp; omega
     have h2 : decide (n < 0) = true := by simp; omega
     have h3 : decide (d < 0) = false := by simp; omega
     rw [h1, h2, h3]; split
     · rfl
     · simp; omega
   · have h1 : decide (-n < 0) = true := by simp; omega
     have h2 : decide (n < 0) = false := by simp; omega
     have h3 : decide (d < 0) = false := by simp; omega
     rw [h1, h2, h3]; split
     · rfl
     · simp; omega
theorem near_away (n d : Int) (hd : 0 < d) : Zer n d = awayI n d := by
 by_cases hn : 0 ≤ n
 · exact near_pos n d hd hn
 · have := near_pos (-n) d hd (by omega); rw [near_neg n d hd, awayI_neg n d hd] at this; omega
def mulI (a b : Int) : Int := ofI (awayI (ofI a * ofI b) 256)
theorem mul_near (a b : Int) : ofI (Zer (ofI a * ofI b) 256) = mulI a b := by unfold mulI; rw [near_away _ _ (by omega)]
theorem tdiv_bd (n d B : Int) (h1 : -B ≤ n) (h2 : n ≤ B) : -B ≤ n.tdiv d ∧ n.tdiv d ≤ B := by
 have h : (n.tdiv d).natAbs ≤ n.natAbs := by rw [Int.natAbs_tdiv]; exact Nat.div_le_self _ _
 omega
theorem tmod_bd (n d B : Int) (hd : d ≠ 0) (h1 : -B ≤ d) (h2 : d ≤ B) : -B ≤ n.tmod d ∧ n.tmod d ≤ B := by
 have h : (n.tmod d).natAbs < d.natAbs := by rw [Int.natAbs_tmod]; exact Nat.mod_lt _ (by omega)
 omega
end Go.Proofs.YtnfdfiholcelaaaGreatDoor.Plain
namespace Go.Proofs.YtnfdfiholcelaaaGreatDoor
open Go.RowKit Plain
def Zar (x lo hi : Int) : Int := if x < lo then lo else if hi < lo then lo else if hi < x then hi else x
theorem Zav (x lo hi : Int) (w : World) : Calls Tryz.prog 172 #[Vi x, Vi lo, Vi hi] w fun e w' => e = .returned (Vi (Zar x lo hi)) ∧ w' = w := by
 unfold Zar
 by_cases h1 : x < lo
 · rw [if_pos h1]
   go_enter Tryz.func172, Tryz.ntmps172
   go_wp2; go_ret; exact ⟨rfl, rfl⟩
 · rw [if_neg h1]
   by_cases h2 : hi < lo
   · rw [if_pos h2]
     go_enter Tryz.func172, Tryz.ntmps172
     go_wp2; go_ret; exact ⟨rfl, rfl⟩
   · rw [if_neg h2]
     by_cases h3 : hi < x
     · rw [if_pos h3]
       go_enter Tryz.func172, Tryz.ntmps172
       go_wp2; go_ret; exact ⟨rfl, rfl⟩
     · rw [if_neg h3]
       go_enter Tryz.func172, Tryz.ntmps172
       go_wp2; go_ret; exact ⟨rfl, rfl⟩
theorem clip_of (x : Int) : Zar x (-2147483647) 2147483647 = ofI x := by
 unfold Zar ofI; rw [if_neg (show ¬ ((2147483647 : Int) < -2147483647) by omega)]
theorem Zic (x : Int) (w : World) : Calls Tryz.prog 137 #[Vi x] w fun e w' => e = .returned (Vi (ofI x)) ∧ w' = w := by
 go_enter Tryz.func137, Tryz.ntmps137
 go_wp2_with (go_at_call 172; refine (Zav _ _ _ _).mono ?_; rintro e w' ⟨rfl, rfl⟩); go_ret; rw [clip_of]; exact ⟨rfl, rfl⟩
end Go.Proofs.YtnfdfiholcelaaaGreatDoor
namespace Go.Proofs.YtnfdfiholcelaaaGreatDoor.Plain
def at0 (l : List Int) (k : Nat) : Int := l.getD k 0
def Zbb (x : Int) : Bool := decide (-1000000 ≤ x) && decide (x ≤ 1000000)
theorem Zcu {x : Int} (h : Zbb x = true) : -1000000 ≤ x ∧ x ≤ 1000000 := by simp [Zbb] at h; omega
def Zbk (l : List Int) : Int := if l.all Zbb then 0 else 1
theorem worth_step (l : List Int) (k : Nat) (h : k < l.length) : Zbk (l.drop k) = if Zbb (at0 l k) then Zbk (l.drop (k + 1)) else 1 := by
 rw [List.drop_eq_getElem_cons h]
 have e : at0 l k = l[k] := by rw [at0, List.getD_eq_getElem?_getD, List.getElem?_eq_getElem h]; rfl
 rw [e]; unfold Zbk; rw [List.all_cons]
 cases Zbb l[k] <;> simp
theorem Zdb {l : List Int} (h : Zbk l = 0) (k : Nat) (hk : k < l.length) : -1000000 ≤ at0 l k ∧ at0 l k ≤ 1000000 := by
 have e : at0 l k = l[k] := by rw [at0, List.getD_eq_getElem?_getD, List.getElem?_eq_getElem hk]; rfl
 have a : l.all Zbb = true := by
  unfold Zbk at h; split at h
  · assumption
  · omega
 rw [e]; exact Zcu (List.all_eq_true.mp a _ (List.getElem_mem hk))
theorem Zej (l : List Int) : Zbk l = 0 ∨ Zbk l = 1 := by unfold Zbk; split <;> simp
def Zbu (l : List Int) : Nat → Bool
 | 0 => false
 | n + 1 => Zbu l n || decide (at0 l (n + 1) ≤ at0 l n)
theorem falls_of_lt {l : List Int} : ∀ {n : Nat}, Zbu l n = false → ∀ k, k < n → at0 l k < at0 l (k + 1)
 | 0, _, k, hk => by omega
 | n + 1, h, k, hk => by
  simp only [Zbu, Bool.or_eq_false_iff, decide_eq_false_iff_not] at h
  by_cases e : k = n
  · subst e; omega
  · exact falls_of_lt h.1 k (by omega)
def Zbm (l : List Int) : Int := if l.length < 2 then 3 else if 8 < l.length then 2 else if Zbk l = 0 then (if Zbu l (l.length - 1) then 3 else 0) else 1
structure Places (l : List Int) : Prop where
 lo : 2 ≤ l.length
 hi : l.length ≤ 8
 worth : Zbk l = 0
 up : ∀ k, k + 1 < l.length → at0 l k < at0 l (k + 1)
theorem places_of {l : List Int} (h : Zbm l = 0) : Places l := by
 unfold Zbm at h
 split at h
 · omega
 · split at h
   · omega
   · split at h
     · split at h
       · omega
       · exact ⟨by omega, by omega, by assumption, fun k hk => falls_of_lt (n := l.length - 1) (by cases e : Zbu l (l.length - 1) <;> simp_all) k (by omega)⟩
     · omega
theorem Places.mono {l : List Int} (p : Places l) : ∀ {j k : Nat}, j < k → k < l.length → at0 l j < at0 l k := by
 intro j k hjk
 induction k with
 | zero => omega
 | succ k ih =>
  intro hk; have := p.up k hk
  by_cases e : j = k
  · subst e; exact this
  · have := ih (by omega) (by omega); omega
theorem Places.monole {l : List Int} (p : Places l) {j k : Nat} (h : j ≤ k) (hk : k < l.length) : at0 l j ≤ at0 l k := by
 by_cases e : j = k
 · subst e; omega
 · have := p.mono (show j < k by omega) hk; omega
def Zdq (a i : List Int) : Int := if a.length = i.length then (if Zbm a = 0 then Zbk i else Zbm a) else 3
theorem line_of {a i : List Int} (h : Zdq a i = 0) : a.length = i.length ∧ Places a ∧ Zbk i = 0 := by
 unfold Zdq at h
 split at h
 · split at h
   · exact ⟨by assumption, places_of (by assumption), h⟩
   · omega
 · omega
def upI (n d : Int) : Int := (2 * n + d) / (2 * d)
theorem upI_rem (n d : Int) (hd : 0 < d) : upI n d = if d - n % d ≤ n % d then n / d + 1 else n / d := by
 unfold upI
 have e := Int.mul_ediv_add_emod n d; have r0 := Int.emod_nonneg n (show d ≠ 0 by omega); have r1 := Int.emod_lt_of_pos n hd
 have : 2 * n + d = (2 * (n % d) + d) + (2 * d) * (n / d) := by
  have : 2 * n = 2 * (d * (n / d)) + 2 * (n % d) := by omega
  have e2 : 2 * (d * (n / d)) = 2 * d * (n / d) := by rw [Int.mul_assoc]
  omega
 rw [this, Int.add_mul_ediv_left _ _ (by omega)]
 split
 · have : (2 * (n % d) + d) / (2 * d) = 1 := by
    have : 2 * (n % d) + d = (2 * (n % d) - d) + (2 * d) * 1 := by omega
    rw [this, Int.add_mul_ediv_left _ _ (by omega), Int.ediv_eq_zero_of_lt (by omega) (by omega)]; rfl
   omega
 · rw [Int.ediv_eq_zero_of_lt (by omega) (by omega)]; omega
def nearT (n d : Int) : Int :=
 if n.tmod d < 0 then (if d - (n.tmod d + d) ≤ n.tmod d + d then n.tdiv d - 1 + 1 else n.tdiv d - 1)
 else (if d - n.tmod d ≤ n.tmod d then n.tdiv d + 1 else n.tdiv d)
theorem tdm (n d : Int) (hd : 0 < d) : (n.tmod d < 0 → n % d = n.tmod d + d ∧ n / d = n.tdiv d - 1) ∧ (¬ n.tmod d < 0 → n % d = n.tmod d ∧ n / d = n.tdiv d) := by
 have e := Int.mul_tdiv_add_tmod n d
 have b : (n.tmod d).natAbs < d.natAbs := by rw [Int.natAbs_tmod]; exact Nat.mod_lt _ (by omega)
 constructor
 · intro h
   have h1 : n = (n.tmod d + d) + d * (n.tdiv d - 1) := by rw [Int.mul_sub]; omega
   constructor
   · conv => lhs; rw [h1]
     rw [Int.add_mul_emod_self_left, Int.emod_eq_of_lt (by omega) (by omega)]
   · conv => lhs; rw [h1]
     rw [Int.add_mul_ediv_left _ _ (by omega), Int.ediv_eq_zero_of_lt (by omega) (by omega)]; omega
 · intro h
   have h1 : n = n.tmod d + d * n.tdiv d := by omega
   constructor
   · conv => lhs; rw [h1]
     rw [Int.add_mul_emod_self_left, Int.emod_eq_of_lt (by omega) (by omega)]
   · conv => lhs; rw [h1]
     rw [Int.add_mul_ediv_left _ _ (by omega), Int.ediv_eq_zero_of_lt (by omega) (by omega)]; omega
theorem near_up (n d : Int) (hd : 0 < d) : nearT n d = upI n d := by
 rw [upI_rem n d hd]; unfold nearT
 by_cases h : n.tmod d < 0
 · obtain ⟨e1, e2⟩ := (tdm n d hd).1 h; rw [if_pos h, e1, e2]
 · obtain ⟨e1, e2⟩ := (tdm n d hd).2 h; rw [if_neg h, e1, e2]
def standF (l : List Int) (c : Int) : Nat → Nat → Nat
 | 0, i => i
 | f + 1, i => if i + 2 < l.length ∧ at0 l (i + 1) ≤ c then standF l c f (i + 1) else i
def standI (l : List Int) (c : Int) : Nat := standF l c l.length 0
structure Stands (l : List Int) (c : Int) (i : Nat) : Prop where
 lt : i + 1 < l.length
 past : at0 l i ≤ c
 left : c ≤ at0 l (i + 1)
 next : i + 2 < l.length → c < at0 l (i + 1)
theorem Zhm {l : List Int} {c : Int} (h1 : c ≤ at0 l (l.length - 1)) : ∀ (f i : Nat), l.length ≤ f + i + 2 → i + 1 < l.length → at0 l i ≤ c → Stands l c (standF l c f i)
 | 0, i, hf, hi, hp => by
  have e : i + 1 = l.length - 1 := by omega
  exact ⟨hi, hp, by simp only [standF]; rw [e]; exact h1, fun h => by simp only [standF] at h; omega⟩
 | f + 1, i, hf, hi, hp => by
  simp only [standF]
  split
  · rename_i h; exact Zhm h1 f (i + 1) (by omega) (by omega) h.2
  · rename_i h
    by_cases e : i + 2 < l.length
    · have : ¬ at0 l (i + 1) ≤ c := fun q => h ⟨e, q⟩; exact ⟨hi, hp, by omega, fun _ => by omega⟩
    · have q : i + 1 = l.length - 1 := by omega
      exact ⟨hi, hp, by rw [q]; exact h1, fun h => by omega⟩
theorem standI_stands {l : List Int} {c : Int} (p : Places l) (h0 : at0 l 0 ≤ c) (h1 : c ≤ at0 l (l.length - 1)) : Stands l c (standI l c) :=
 Zhm h1 _ 0 (by omega) (by have := p.lo; omega) h0
theorem Stands.unique {l : List Int} {c : Int} (p : Places l) {i j : Nat} (a : Stands l c i) (b : Stands l c j) : i = j := by
 rcases Nat.lt_trichotomy i j with h | h | h
 · have := a.next (by have := b.lt; omega); have := p.monole (show i + 1 ≤ j by omega) (by have := b.lt; omega); have := b.past; omega
 · exact h
 · have := b.next (by have := a.lt; omega); have := p.monole (show j + 1 ≤ i by omega) (by have := a.lt; omega); have := a.past; omega
def clipT (x lo hi : Int) : Int := if x < lo then lo else if hi < lo then lo else if hi < x then hi else x
def Zfa (l : List Int) (x : Int) : Int := clipT x (at0 l 0) (at0 l (l.length - 1))
theorem clipE_bd {l : List Int} (p : Places l) (x : Int) : at0 l 0 ≤ Zfa l x ∧ Zfa l x ≤ at0 l (l.length - 1) := by
 have := p.mono (show 0 < l.length - 1 by have := p.lo; omega) (by have := p.lo; omega)
 unfold Zfa clipT; split <;> (try split) <;> (try split) <;> omega
def heightI (a z : List Int) (c : Int) (i : Nat) : Int := upI (at0 z i * (at0 a (i + 1) - c) + at0 z (i + 1) * (c - at0 a i)) (at0 a (i + 1) - at0 a i)
def lookI (a z : List Int) (x : Int) : Int := heightI a z (Zfa a x) (standI a (Zfa a x))
theorem look_stands {a z : List Int} (p : Places a) {x : Int} {i : Nat} (s : Stands a (Zfa a x) i) : lookI a z x = heightI a z (Zfa a x) i := by
 have b := clipE_bd p x; rw [lookI, (standI_stands p b.1 b.2).unique p s]
theorem mul_bdT {a b A B : Int} (ha : -A ≤ a) (ha' : a ≤ A) (hb : -B ≤ b) (hb' : b ≤ B) : -(A * B) ≤ a * b ∧ a * b ≤ A * B := by
 have h1 : 0 ≤ (A - a) * (B + b) := Int.mul_nonneg (by omega) (by omega); have h2 : 0 ≤ (A + a) * (B - b) := Int.mul_nonneg (by omega) (by omega); have h3 : 0 ≤ (A - a) * (B - b) := Int.mul_nonneg (by omega) (by omega); have h4 : 0 ≤ (A + a) * (B + b) := Int.mul_nonneg (by omega) (by omega); simp only [Int.sub_mul, Int.mul_sub, Int.add_mul, Int.mul_add] at h1 h2 h3 h4
 constructor <;> omega
end Go.Proofs.YtnfdfiholcelaaaGreatDoor.Plain
namespace Go.Proofs.YtnfdfiholcelaaaGreatDoor
open Go.RowKit Plain
theorem nearest_any (n d : Int) (h0 : -4611686018427387904 ≤ n) (h1 : n ≤ 4611686018427387904) (d0 : 0 < d) (d1 : d ≤ 4000000000000) (w : World) :
 Calls Tryz.prog 282 #[Vi n, Vi d] w fun e w' => e = .returned (Vi (upI n d)) ∧ ∃ k, w' = w.drewN k := by
 have q : -4611686018427387904 ≤ n.tdiv d ∧ n.tdiv d ≤ 4611686018427387904 := by
  have h : (n.tdiv d).natAbs ≤ n.natAbs := by rw [Int.natAbs_tdiv]; exact Nat.div_le_self _ _
  omega
 have r : -4000000000000 ≤ n.tmod d ∧ n.tmod d ≤ 4000000000000 := by
  have h : (n.tmod d).natAbs < d.natAbs := by rw [Int.natAbs_tmod]; exact Nat.mod_lt _ (by omega)
  omega
 obtain ⟨q0, q1⟩ := q; obtain ⟨r0, r1⟩ := r
 have hd' : (d == 0) = false := by simp; omega
 rw [← near_up n d d0]
 by_cases c1 : n.tmod d < 0
 · by_cases c2 : d - (n.tmod d + d) ≤ n.tmod d + d
   · have e : nearT n d = n.tdiv d := by unfold nearT; rw [if_pos c1, if_pos c2]; omega
     rw [e]; clear e
     go_enter Tryz.func282, Tryz.ntmps282
     go_wp2; go_quiet (fail); go_wp2; go_ret; exact ⟨rfl, _, rfl⟩
   · have e : nearT n d = n.tdiv d - 1 := by unfold nearT; rw [if_pos c1, if_neg c2]
     rw [e]; clear e
     go_enter Tryz.func282, Tryz.ntmps282
     go_wp2; go_quiet (fail); go_wp2; go_ret; exact ⟨rfl, _, rfl⟩
 · by_cases c2 : d - n.tmod d ≤ n.tmod d
   · have e : nearT n d = n.tdiv d + 1 := by unfold nearT; rw [if_neg c1, if_pos c2]
     rw [e]; clear e
     go_enter Tryz.func282, Tryz.ntmps282
     go_wp2; go_quiet (fail); go_wp2; go_ret; exact ⟨rfl, _, rfl⟩
   · have e : nearT n d = n.tdiv d := by unfold nearT; rw [if_neg c1, if_neg c2]
     rw [e]; clear e
     go_enter Tryz.func282, Tryz.ntmps282
     go_wp2; go_quiet (fail); go_wp2; go_ret; exact ⟨rfl, _, rfl⟩
theorem Zba (e : Int) (w : World) : Calls Tryz.prog 14 #[.bool true, Vi e] w fun r w' => r = .returned (Vi e) ∧ w' = w := by
 go_enter Tryz.func14, Tryz.ntmps14
 go_wp2; go_ret; exact ⟨rfl, rfl⟩
theorem Zbp (e : Int) (w : World) : Calls Tryz.prog 14 #[.bool false, Vi e] w fun r w' => r = .returned (Vi 0) ∧ w' = w := by
 go_enter Tryz.func14, Tryz.ntmps14
 go_wp2; go_ret; exact ⟨rfl, rfl⟩
theorem Zek (b : Bool) (e : Int) (w : World) : Calls Tryz.prog 14 #[.bool b, Vi e] w fun r w' => r = .returned (Vi (if b then e else 0)) ∧ w' = w := by
 cases b
 · exact Zbp e w
 · exact Zba e w
theorem when_named (b : Bool) (e : Int) (w : World) : Calls Tryz.prog 14 #[.bool b, Vi e] w fun r w' => ∃ x, r = .returned (Vi x) ∧ Hid (x = if b then e else 0) ∧ w' = w :=
 (Zek b e w).mono fun _ _ ⟨h1, h2⟩ => ⟨_, h1, rfl, h2⟩
def errV (e : Int) : Value := if e = 0 then .nilIface else .iface 44 (Vi e)
theorem Zaq : errV 0 = .nilIface := rfl
theorem Zbe {e : Int} (h : e ≠ 0) : errV e = .iface 44 (Vi e) := by unfold errV; rw [if_neg h]
theorem Zds (x lo hi : Int) (w : World) :
 Calls Tryz.prog 38 #[Vi x, Vi lo, Vi hi] w fun e w' => e = .returned (.bool (decide (lo ≤ x) && decide (x ≤ hi))) ∧ w' = w := by
 by_cases g1 : lo ≤ x
 · by_cases g2 : x ≤ hi
   · rw [decide_eq_true g1, decide_eq_true g2]
     go_enter Tryz.func38, Tryz.ntmps38
     go_wp2; go_ret; exact ⟨rfl, rfl⟩
   · rw [decide_eq_true g1, decide_eq_false g2]
     go_enter Tryz.func38, Tryz.ntmps38
     go_wp2; go_ret; exact ⟨by simp, rfl⟩
 · rw [decide_eq_false g1]
   go_enter Tryz.func38, Tryz.ntmps38
   go_wp2; go_ret; exact ⟨rfl, rfl⟩
theorem Zif (x : Int) (w : World) :
 Calls Tryz.prog 38 #[Vi x, Vi (-1000000), Vi 1000000] w fun e w' => e = .returned (.bool (Zbb x)) ∧ w' = w := Zds x _ _ w
theorem isBeyond_any (x : Int) (w : World) :
 Calls Tryz.prog 266 #[Vi x] w fun e w' => e = .returned (.bool (!Zbb x)) ∧ w' = w := by
 by_cases g1 : 1000000 < x
 · have e : Zbb x = false := by simp [Zbb]; omega
   rw [e]
   go_enter Tryz.func266, Tryz.ntmps266
   go_wp2; go_ret; exact ⟨rfl, rfl⟩
 · by_cases g2 : x < -1000000
   · have e : Zbb x = false := by simp [Zbb]; omega
     rw [e]
     go_enter Tryz.func266, Tryz.ntmps266
     go_wp2; go_ret; exact ⟨by simp, rfl⟩
   · have e : Zbb x = true := by simp [Zbb]; omega
     rw [e]
     go_enter Tryz.func266, Tryz.ntmps266
     go_wp2; go_ret; exact ⟨by simp, rfl⟩
theorem nan_any (x : Int) (w : World) : Calls Tryz.prog 238 #[Vi x] w fun e w' => e = .returned (.bool false) ∧ w' = w := by
 have e : (x != x) = false := by simp
 go_enter Tryz.func238, Tryz.ntmps238
 go_wp2; go_ret; exact ⟨by simp, rfl⟩
def Zao : List Int → Int
 | [] => 0
 | x :: l => if x = 0 then Zao l else x
theorem first_step (zs : List Int) (k : Nat) (h : k < zs.length) : Zao (zs.drop k) = if zs.getD k 0 = 0 then Zao (zs.drop (k + 1)) else zs.getD k 0 := by
 rw [List.drop_eq_getElem_cons h, List.getD_eq_getElem?_getD, List.getElem?_eq_getElem h]; rfl
theorem first_any (b off cap : Nat) (zs : List Int) (w : World) (hm : zs.length ≤ 9223372036854775807) (hc : ∀ k, k < zs.length → w.cell? (Ad b (off + k)) = some (Vi (zs.getD k 0))) :
 Calls Tryz.prog 13 #[.slice (some (Ad b off)) zs.length cap] w fun r w' => r = .returned (Vi (Zao zs)) ∧ w' = w := by
 have HC : Hid (∀ k, k < zs.length → w.cell? (Ad b (off + k)) = some (Vi (zs.getD k 0))) := hc; clear hc
 go_enter Tryz.func13, Tryz.ntmps13
 go_wp2
 go_loop [3] (fun i => ∃ k : Nat, k ≤ zs.length ∧ i = Vi k ∧ Hid (Zao zs = Zao (zs.drop k))) (fun i => zs.length - (intOf i).toNat)
 case atStart => exact ⟨0, Nat.zero_le _, rfl, by show Zao zs = Zao (zs.drop 0); rw [List.drop_zero]⟩
 case round =>
  obtain ⟨k, hk, rfl, hf⟩ := hrel
  by_cases hlt : k < zs.length
  · have hcell := HC.out k hlt; have hs := first_step zs k hlt; generalize zs.getD k 0 = z at hcell hs
    by_cases hz : z = 0
    · subst hz; rw [if_pos rfl] at hs; have HS : Hid (Zao zs = Zao (zs.drop (k + 1))) := hf.out.trans hs; clear hs hf; go_wp2
      go_round
      case rel => exact ⟨k + 1, by omega, by go_num, HS⟩
      case measure => simp [intOf]; omega
    · rw [if_neg hz] at hs; have HS : Hid (Zao zs = z) := hf.out.trans hs; clear hs hf
      have hz' : (z != 0) = true := by simpa using hz
      clear hz; go_wp2; go_ret; exact ⟨by rw [HS.out]; rfl, rfl⟩
  · go_wp2; go_ret
    have : k = zs.length := by omega
    subst this; exact ⟨by rw [hf.out, List.drop_length]; rfl, rfl⟩
theorem first_two (b cap : Nat) (x y : Int) (w : World) (h0 : w.cell? (Ad b 0) = some (Vi x)) (h1 : w.cell? (Ad b 1) = some (Vi y)) :
 Calls Tryz.prog 13 #[.slice (some (Ad b 0)) 2 cap] w fun r w' => r = .returned (Vi (Zao [x, y])) ∧ w' = w := by
 refine first_any b 0 cap [x, y] w (by simp) ?_; intro k hk; simp only [List.length_cons, List.length_nil] at hk
 match k, hk with
 | 0, _ => exact h0
 | 1, _ => exact h1
theorem Zdr (b cap : Nat) (x y z : Int) (w : World) (h0 : w.cell? (Ad b 0) = some (Vi x)) (h1 : w.cell? (Ad b 1) = some (Vi y)) (h2 : w.cell? (Ad b 2) = some (Vi z)) :
 Calls Tryz.prog 13 #[.slice (some (Ad b 0)) 3 cap] w fun r w' => r = .returned (Vi (Zao [x, y, z])) ∧ w' = w := by
 refine first_any b 0 cap [x, y, z] w (by simp) ?_; intro k hk; simp only [List.length_cons, List.length_nil] at hk
 match k, hk with
 | 0, _ => exact h0
 | 1, _ => exact h1
 | 2, _ => exact h2
theorem first_four (b cap : Nat) (x y z u : Int) (w : World) (h0 : w.cell? (Ad b 0) = some (Vi x)) (h1 : w.cell? (Ad b 1) = some (Vi y)) (h2 : w.cell? (Ad b 2) = some (Vi z)) (h3 : w.cell? (Ad b 3) = some (Vi u)) :
 Calls Tryz.prog 13 #[.slice (some (Ad b 0)) 4 cap] w fun r w' => r = .returned (Vi (Zao [x, y, z, u])) ∧ w' = w := by
 refine first_any b 0 cap [x, y, z, u] w (by simp) ?_; intro k hk; simp only [List.length_cons, List.length_nil] at hk
 match k, hk with
 | 0, _ => exact h0
 | 1, _ => exact h1
 | 2, _ => exact h2
 | 3, _ => exact h3
theorem first_new2 (T : TypeId) (x y : Int) (w : World) :
 Calls Tryz.prog 13 #[.slice (some (Ad w.heap.size 0)) 2 2] (w.alloc (.cells #[Vi x, Vi y] T)) fun r w' => r = .returned (Vi (Zao [x, y])) ∧ w' = w.alloc (.cells #[Vi x, Vi y] T) :=
 first_two _ _ x y _ (by simp [go_sem]) (by simp [go_sem])
theorem first_new3 (T : TypeId) (x y z : Int) (w : World) :
 Calls Tryz.prog 13 #[.slice (some (Ad w.heap.size 0)) 3 3] (w.alloc (.cells #[Vi x, Vi y, Vi z] T)) fun r w' => r = .returned (Vi (Zao [x, y, z])) ∧ w' = w.alloc (.cells #[Vi x, Vi y, Vi z] T) :=
 Zdr _ _ x y z _ (by simp [go_sem]) (by simp [go_sem]) (by simp [go_sem])
theorem first_new4 (T : TypeId) (x y z u : Int) (w : World) :
 Calls Tryz.prog 13 #[.slice (some (Ad w.heap.size 0)) 4 4] (w.alloc (.cells #[Vi x, Vi y, Vi z, Vi u] T)) fun r w' => r = .returned (Vi (Zao [x, y, z, u])) ∧ w' = w.alloc (.cells #[Vi x, Vi y, Vi z, Vi u] T) :=
 first_four _ _ x y z u _ (by simp [go_sem]) (by simp [go_sem]) (by simp [go_sem]) (by simp [go_sem])
theorem Zab {p : Prop} (h : p) : Hid p := h
theorem Zaa (w : World) (o : Obj) : Below w.heap.size w (w.alloc o) := (Below.refl _ _).alloc (Nat.le_refl _) o
theorem Zac {w w1 w2 : World} (h : Below w.heap.size w w1) (k : Below w1.heap.size w1 w2) : Below w.heap.size w w2 := h.trans (k.mono h.size)
def betw (x lo hi : Int) : Bool := decide (lo ≤ x) && decide (x ≤ hi)
theorem Zal {x lo hi : Int} (h : betw x lo hi = true) : lo ≤ x ∧ x ≤ hi := by simp [betw] at h; omega
theorem Zec {x lo hi : Int} (h0 : lo ≤ x) (h1 : x ≤ hi) : betw x lo hi = true := by simp [betw]; omega
theorem Zap (x lo hi : Int) (w : World) :
 Calls Tryz.prog 38 #[Vi x, Vi lo, Vi hi] w fun e w' => e = .returned (.bool (betw x lo hi)) ∧ w' = w := Zds x lo hi w
theorem fixIn_ex (x lo hi : Int) (w : World) :
 Calls Tryz.prog 128 #[Vi x, .agg #[Vi lo, Vi hi]] w fun e w' => e = .returned (.bool (betw x lo hi)) ∧ w' = w.alloc (.cells #[Vi lo, Vi hi] 105) := by
 unfold betw
 by_cases g1 : lo ≤ x
 · by_cases g2 : x ≤ hi
   · rw [decide_eq_true g1, decide_eq_true g2]
     go_enter Tryz.func128, Tryz.ntmps128
     go_wp2; go_ret; exact ⟨rfl, rfl⟩
   · rw [decide_eq_true g1, decide_eq_false g2]
     go_enter Tryz.func128, Tryz.ntmps128
     go_wp2; go_ret; exact ⟨by simp, rfl⟩
 · rw [decide_eq_false g1]
   go_enter Tryz.func128, Tryz.ntmps128
   go_wp2; go_ret; exact ⟨rfl, rfl⟩
theorem Zay (x lo hi : Int) (w : World) :
 Calls Tryz.prog 76 #[Vi x, Vi lo, Vi hi] w fun e w' => e = .returned (.bool (betw x lo hi)) ∧ w' = w.alloc (.cells #[Vi lo, Vi hi] 105) := by
 go_enter Tryz.func76, Tryz.ntmps76
 go_wp2_with (go_at_call 128; refine (fixIn_ex _ _ _ _).mono ?_; rintro e w' ⟨rfl, rfl⟩); go_ret; exact ⟨rfl, rfl⟩
def arB (T R S C : Int) : Bool := betw T 1 1000 && betw R 1 T && betw S 0 T && betw C 1 10
def arE (T R S C : Int) : Int := if arB T R S C then 0 else 1
theorem Zau {T R S C : Int} (h : arB T R S C = true) : (1 ≤ T ∧ T ≤ 1000) ∧ (1 ≤ R ∧ R ≤ T) ∧ (0 ≤ S ∧ S ≤ T) ∧ 1 ≤ C ∧ C ≤ 10 := by
 simp only [arB, Bool.and_eq_true] at h; exact ⟨Zal h.1.1.1, Zal h.1.1.2, Zal h.1.2, Zal h.2⟩
theorem Zfe {T R S C : Int} (h : arE T R S C = 0) : arB T R S C = true := by
 unfold arE at h; split at h
 · assumption
 · omega
theorem arE_ne {T R S C : Int} (h : arE T R S C ≠ 0) : arE T R S C = 1 := by unfold arE at *; split <;> simp_all
theorem Zhi (T R S C : Int) (w : World) :
 Calls Tryz.prog 180 #[.agg #[Vi T, Vi R, Vi S, Vi C]] w fun e w' => e = .returned (errV (arE T R S C)) ∧ Below w.heap.size w w' := by
 have f1 := Zay T 1 1000; have f2 := Zay R 1 T; have f3 := Zay S 0 T; have f4 := Zay C 1 10
 unfold arE arB
 generalize betw T 1 1000 = x1 at *; generalize betw R 1 T = x2 at *; generalize betw S 0 T = x3 at *; generalize betw C 1 10 = x4 at *
 rcases (show x1 = false ∨ (x1 = true ∧ x2 = false) ∨ (x1 = true ∧ x2 = true ∧ x3 = false) ∨ (x1 = true ∧ x2 = true ∧ x3 = true ∧ x4 = false) ∨ (x1 = true ∧ x2 = true ∧ x3 = true ∧ x4 = true) by cases x1 <;> cases x2 <;> cases x3 <;> cases x4 <;> simp) with rfl | ⟨rfl, rfl⟩ | ⟨rfl, rfl, rfl⟩ | ⟨rfl, rfl, rfl, rfl⟩ | ⟨rfl, rfl, rfl, rfl⟩
 all_goals
  go_enter Tryz.func180, Tryz.ntmps180
  go_wp2_with (first | ((first | go_at_call_of 76 (Vi R) | go_at_call_of 76 (Value.int .i64 R)); refine (f2 _).mono ?_; rintro e w' ⟨rfl, rfl⟩) | ((first | go_at_call_of 76 (Vi S) | go_at_call_of 76 (Value.int .i64 S)); refine (f3 _).mono ?_; rintro e w' ⟨rfl, rfl⟩) | ((first | go_at_call_of 76 (Vi C) | go_at_call_of 76 (Value.int .i64 C)); refine (f4 _).mono ?_; rintro e w' ⟨rfl, rfl⟩) | ((first | go_at_call_of 76 (Vi T) | go_at_call_of 76 (Value.int .i64 T)); refine (f1 _).mono ?_; rintro e w' ⟨rfl, rfl⟩)); go_ret; exact ⟨rfl, by repeat (first | exact Zaa _ _ | refine Zac ?_ (Zaa _ _))⟩
theorem refActRule_any (T R S C : Int) (w : World) :
 Calls Tryz.prog 89 #[.agg #[Vi T, Vi R, Vi S, Vi C]] w fun e w' => e = .returned (Vi (arE T R S C)) ∧ Below w.heap.size w w' := by
 have f1 := Zap T 1 1000; have f2 := Zap R 1 T; have f3 := Zap S 0 T; have f4 := Zap C 1 10
 unfold arE arB
 generalize betw T 1 1000 = x1 at *; generalize betw R 1 T = x2 at *; generalize betw S 0 T = x3 at *; generalize betw C 1 10 = x4 at *
 rcases (show x1 = false ∨ (x1 = true ∧ x2 = false) ∨ (x1 = true ∧ x2 = true ∧ x3 = false) ∨ (x1 = true ∧ x2 = true ∧ x3 = true ∧ x4 = false) ∨ (x1 = true ∧ x2 = true ∧ x3 = true ∧ x4 = true) by cases x1 <;> cases x2 <;> cases x3 <;> cases x4 <;> simp) with rfl | ⟨rfl, rfl⟩ | ⟨rfl, rfl, rfl⟩ | ⟨rfl, rfl, rfl, rfl⟩ | ⟨rfl, rfl, rfl, rfl⟩
 all_goals
  go_enter Tryz.func89, Tryz.ntmps89
  go_wp2_with (first | ((first | go_at_call_of 38 (Vi R) | go_at_call_of 38 (Value.int .i64 R)); refine (f2 _).mono ?_; rintro e w' ⟨rfl, rfl⟩) | ((first | go_at_call_of 38 (Vi S) | go_at_call_of 38 (Value.int .i64 S)); refine (f3 _).mono ?_; rintro e w' ⟨rfl, rfl⟩) | ((first | go_at_call_of 38 (Vi C) | go_at_call_of 38 (Value.int .i64 C)); refine (f4 _).mono ?_; rintro e w' ⟨rfl, rfl⟩) | ((first | go_at_call_of 38 (Vi T) | go_at_call_of 38 (Value.int .i64 T)); refine (f1 _).mono ?_; rintro e w' ⟨rfl, rfl⟩) | (go_at_call 14; refine (Zek _ _ _).mono ?_; rintro e w' ⟨rfl, rfl⟩)); go_ret; exact ⟨rfl, Zaa _ _⟩
end Go.Proofs.YtnfdfiholcelaaaGreatDoor
