/-
  Readings gathered, in plain words: of each label and source the last one, by label, then source. No program is spoken of here.
-/
import Derived.Sort.LotA
namespace Go.Proofs.Ytheihcpacpoliaa.Plain
set_option linter.unusedVariables false

/-- A reading: label, source, status, data. -/
abbrev Rd := Int × Int × Int × Int

/-- One stands ahead of another: by label, then source. -/
def rlt (x y : Rd) : Bool := decide (x.1 < y.1) || (decide (x.1 = y.1) && decide (x.2.1 < y.2.1))
/-- By one label and one source. -/
def req (x y : Rd) : Bool := decide (x.1 = y.1) && decide (x.2.1 = y.2.1)

theorem rlt_iff {x y : Rd} : rlt x y = true ↔ x.1 < y.1 ∨ (x.1 = y.1 ∧ x.2.1 < y.2.1) := by simp [rlt]
theorem req_iff {x y : Rd} : req x y = true ↔ x.1 = y.1 ∧ x.2.1 = y.2.1 := by simp [req]
theorem rlt_no {x y : Rd} : rlt x y = false ↔ ¬ (x.1 < y.1 ∨ (x.1 = y.1 ∧ x.2.1 < y.2.1)) := by rw [← rlt_iff]; simp
theorem req_no {x y : Rd} : req x y = false ↔ ¬ (x.1 = y.1 ∧ x.2.1 = y.2.1) := by rw [← req_iff]; simp
theorem rlt_trans {x y z : Rd} (h : rlt x y = true) (k : rlt y z = true) : rlt x z = true := by
  rw [rlt_iff] at *; omega
theorem rlt_irrefl (x : Rd) : rlt x x = false := by rw [rlt_no]; omega
theorem rlt_other {y r : Rd} (h : rlt y r = false) (k : req y r = false) : rlt r y = true := by
  rw [rlt_no] at h; rw [req_no] at k; rw [rlt_iff]; omega
theorem rlt_req {y r z : Rd} (k : req y r = true) (h : rlt y z = true) : rlt r z = true := by
  rw [req_iff] at k; rw [rlt_iff] at *; omega
theorem rlt_ne {x y : Rd} (h : rlt x y = true) : req x y = false := by rw [rlt_iff] at h; rw [req_no]; omega
theorem rlt_ne' {x y : Rd} (h : rlt x y = true) : req y x = false := by rw [rlt_iff] at h; rw [req_no]; omega
theorem req_comm (x y : Rd) : req x y = req y x := by
  cases h : req y x
  · rw [req_no] at h ⊢; omega
  · rw [req_iff] at h ⊢; omega

/-- Put in, in its place; for one of the same label and source. -/
def ins (r : Rd) : List Rd → List Rd
  | [] => [r]
  | y :: t => if rlt y r = true then y :: ins r t else if req y r = true then r :: t else r :: y :: t

theorem mem_ins {r z : Rd} : ∀ {l : List Rd}, z ∈ ins r l → z = r ∨ z ∈ l
  | [], h => by simp [ins] at h; exact .inl h
  | y :: t, h => by
    unfold ins at h
    split at h
    · rcases List.mem_cons.1 h with rfl | h
      · exact .inr (by simp)
      · rcases mem_ins h with h | h
        · exact .inl h
        · exact .inr (by simp [h])
    · split at h
      · rcases List.mem_cons.1 h with rfl | h
        · exact .inl rfl
        · exact .inr (by simp [h])
      · rcases List.mem_cons.1 h with rfl | h
        · exact .inl rfl
        · exact .inr h

theorem ins_sorted (r : Rd) : ∀ {l : List Rd}, l.Pairwise (fun x y => rlt x y = true) → (ins r l).Pairwise (fun x y => rlt x y = true)
  | [], _ => by simp [ins]
  | y :: t, h => by
    obtain ⟨h1, h2⟩ := List.pairwise_cons.1 h
    unfold ins
    split
    · rename_i hy
      refine List.pairwise_cons.2 ⟨fun z hz => ?_, ins_sorted r h2⟩
      rcases mem_ins hz with rfl | hz
      · exact hy
      · exact h1 z hz
    · rename_i hy
      split
      · rename_i hq
        exact List.pairwise_cons.2 ⟨fun z hz => rlt_req hq (h1 z hz), h2⟩
      · rename_i hq
        have hr : rlt r y = true := rlt_other (by simpa using hy) (by simpa using hq)
        refine List.pairwise_cons.2 ⟨fun z hz => ?_, h⟩
        rcases List.mem_cons.1 hz with rfl | hz
        · exact hr
        · exact rlt_trans hr (h1 z hz)

theorem filter_self {r : Rd} {l : List Rd} (h : ∀ z ∈ l, req z r = false) : l.filter (fun z => !req z r) = l :=
  List.filter_eq_self.2 fun z hz => by simp [h z hz]

theorem ins_perm (r : Rd) : ∀ {l : List Rd}, l.Pairwise (fun x y => rlt x y = true) → (ins r l).Perm (r :: l.filter (fun z => !req z r))
  | [], _ => by simp [ins]
  | y :: t, h => by
    obtain ⟨h1, h2⟩ := List.pairwise_cons.1 h
    unfold ins
    split
    · rename_i hy
      rw [List.filter_cons_of_pos (by simp [rlt_ne hy])]
      exact ((ins_perm r h2).cons y).trans (List.Perm.swap r y _)
    · rename_i hy
      split
      · rename_i hq
        rw [List.filter_cons_of_neg (by simp [hq]), filter_self fun z hz => rlt_ne' (rlt_req hq (h1 z hz))]
      · rename_i hq
        have hr : rlt r y = true := rlt_other (by simpa using hy) (by simpa using hq)
        rw [filter_self fun z hz => ?_]
        rcases List.mem_cons.1 hz with rfl | hz
        · simpa using hq
        · exact rlt_ne' (rlt_trans hr (h1 z hz))

theorem ins_length (r : Rd) : ∀ (l : List Rd), (ins r l).length ≤ l.length + 1
  | [] => by simp [ins]
  | y :: t => by
    unfold ins
    split
    · have := ins_length r t; simp; omega
    · split <;> simp

/-- Where it is put: how many stand ahead of it, from the first on. -/
def pos (r : Rd) : List Rd → Nat
  | [] => 0
  | y :: t => if rlt y r = true then pos r t + 1 else 0

/-- The one at a place. -/
def rat (l : List Rd) (k : Nat) : Rd := l.getD k (0, 0, 0, 0)
theorem rat_eq {l : List Rd} {k : Nat} (h : k < l.length) : rat l k = l[k] := by simp [rat, h]
theorem rat_mem {l : List Rd} {k : Nat} (h : k < l.length) : rat l k ∈ l := by rw [rat_eq h]; exact List.getElem_mem h

theorem pos_le (r : Rd) : ∀ l : List Rd, pos r l ≤ l.length
  | [] => by simp [pos]
  | y :: t => by
    unfold pos
    split
    · have := pos_le r t; simp; omega
    · simp
theorem pos_ahead (r : Rd) : ∀ (l : List Rd) (k : Nat), k < pos r l → rlt (rat l k) r = true
  | [], k, h => by simp [pos] at h
  | y :: t, k, h => by
    unfold pos at h
    split at h
    · rename_i hy
      cases k with
      | zero => exact hy
      | succ k => exact pos_ahead r t k (by omega)
    · omega
theorem pos_stop (r : Rd) : ∀ (l : List Rd), pos r l < l.length → rlt (rat l (pos r l)) r = false
  | [], h => by simp at h
  | y :: t, h => by
    unfold pos at h ⊢
    split at h
    · rename_i hy
      rw [if_pos hy]
      exact pos_stop r t (by simpa using h)
    · rename_i hy
      rw [if_neg hy]
      simpa [rat] using hy
/-- A place at which the search stops is that place. -/
theorem pos_is (r : Rd) (l : List Rd) (k : Nat) (hk : k ≤ l.length) (ha : ∀ j, j < k → rlt (rat l j) r = true) (hs : k = l.length ∨ rlt (rat l k) r = false) : pos r l = k := by
  rcases Nat.lt_trichotomy (pos r l) k with h | h | h
  · have := pos_stop r l (by omega)
    rw [ha _ h] at this; cases this
  · exact h
  · rcases hs with hs | hs
    · have := pos_le r l; omega
    · rw [pos_ahead r l k h] at hs; cases hs
theorem ins_set (r : Rd) : ∀ (l : List Rd), pos r l < l.length → req (rat l (pos r l)) r = true → ins r l = l.set (pos r l) r
  | [], h, _ => by simp at h
  | y :: t, h, q => by
    unfold pos at h q ⊢
    unfold ins
    split at h
    · rename_i hy
      rw [if_pos hy, if_pos hy, List.set_cons_succ]
      rw [if_pos hy] at q
      rw [ins_set r t (by simpa using h) q]
    · rename_i hy
      rw [if_neg hy] at q
      rw [if_neg hy, if_neg hy, if_pos (by simpa [rat] using q), List.set_cons_zero]
theorem ins_put (r : Rd) : ∀ (l : List Rd), (pos r l = l.length ∨ req (rat l (pos r l)) r = false) → ins r l = l.take (pos r l) ++ r :: l.drop (pos r l)
  | [], _ => by simp [ins, pos]
  | y :: t, q => by
    unfold pos at q ⊢
    unfold ins
    by_cases hy : rlt y r = true
    · simp only [hy, if_true] at q ⊢
      rw [ins_put r t (q.imp (fun q => by simpa using q) (fun q => q))]
      simp
    · rw [if_neg hy] at q ⊢
      rw [if_neg hy]
      rcases q with q | q
      · simp at q
      · rw [if_neg (by simpa [rat] using q)]
        simp

/-- What is gathered of words: f says what a word says, if it is no bad one. -/
def gat (f : Int → Option Rd) (ws : List Int) : List Rd := ws.foldl (fun acc x => match f x with | some r => ins r acc | none => acc) []
/-- How many are bad ones. -/
def bads (f : Int → Option Rd) (ws : List Int) : Nat := (ws.filter fun x => (f x).isNone).length

theorem gat_snoc (f : Int → Option Rd) (ws : List Int) (x : Int) : gat f (ws ++ [x]) = match f x with | some r => ins r (gat f ws) | none => gat f ws := by
  simp [gat, List.foldl_append]
theorem bads_snoc (f : Int → Option Rd) (ws : List Int) (x : Int) : bads f (ws ++ [x]) = bads f ws + (if (f x).isNone then 1 else 0) := by
  unfold bads
  rw [List.filter_append, List.length_append]
  cases h : (f x).isNone <;> simp [h]
theorem take_succ_getD {α : Type} (l : List α) (z : α) (k : Nat) (h : k < l.length) : l.take (k + 1) = l.take k ++ [l.getD k z] := by
  rw [List.take_add_one]; simp [h]

/-- The list from its end: what is shown of it by putting one more behind. -/
theorem snoc_ind {α : Type} {P : List α → Prop} (h0 : P []) (h1 : ∀ l x, P l → P (l ++ [x])) : ∀ l, P l := by
  intro l
  have : P l.reverse.reverse := by
    induction l.reverse with
    | nil => exact h0
    | cons x t ih => rw [List.reverse_cons]; exact h1 _ x ih
  rwa [List.reverse_reverse] at this

theorem gat_sorted (f : Int → Option Rd) : ∀ ws, (gat f ws).Pairwise (fun x y => rlt x y = true) :=
  snoc_ind (by simp [gat]) fun l x ih => by
    rw [gat_snoc]
    cases f x with
    | none => exact ih
    | some r => exact ins_sorted r ih
theorem gat_length (f : Int → Option Rd) : ∀ ws, (gat f ws).length ≤ ws.length :=
  snoc_ind (by simp [gat]) fun l x ih => by
    rw [gat_snoc]
    cases f x with
    | none => simp; omega
    | some r => have := ins_length r (gat f l); simp; omega
theorem gat_mem (f : Int → Option Rd) : ∀ ws r, r ∈ gat f ws → ∃ x ∈ ws, f x = some r :=
  snoc_ind (by simp [gat]) fun l x ih => by
    intro r
    rw [gat_snoc]
    intro h
    cases hf : f x with
    | none => rw [hf] at h; obtain ⟨y, hy, e⟩ := ih r h; exact ⟨y, by simp [hy], e⟩
    | some r' =>
      rw [hf] at h
      rcases mem_ins h with rfl | h
      · exact ⟨x, by simp, hf⟩
      · obtain ⟨y, hy, e⟩ := ih r h; exact ⟨y, by simp [hy], e⟩
theorem bads_le (f : Int → Option Rd) (ws : List Int) : bads f ws ≤ ws.length := List.length_filter_le _ _

/-- cmp.Compare of two numbers. -/
def cmpI (a b : Int) : Int := if a < b then -1 else if b < a then 1 else 0
/-- How two readings compare. -/
def rcf (x y : Rd) : Int := if cmpI x.1 y.1 = 0 then cmpI x.2.1 y.2.1 else cmpI x.1 y.1
theorem rcf_lt (x y : Rd) : decide (rcf x y < 0) = rlt x y := by
  unfold rcf cmpI rlt
  by_cases h1 : x.1 < y.1
  · simp [h1]
  · by_cases h2 : y.1 < x.1
    · have : ¬ x.1 = y.1 := by omega
      simp [h1, h2, this]
    · have : x.1 = y.1 := by omega
      by_cases h3 : x.2.1 < y.2.1
      · simp [this, h3]
      · by_cases h4 : y.2.1 < x.2.1
        · simp [this, h3, h4]
        · simp [this, h3, h4]
theorem swo_rcf : Go.Sort.SWO (fun x y : Rd => decide (rcf x y < 0)) where
  irrefl x := by rw [rcf_lt]; exact rlt_irrefl x
  trans x y z h k := by rw [rcf_lt] at *; exact rlt_trans h k
  ntrans x y z h k := by rw [rcf_lt] at *; rw [rlt_no] at *; omega

theorem apart_of_sorted {l : List Rd} (h : l.Pairwise (fun x y => rlt x y = true)) {a b : Rd} (ha : a ∈ l) (hb : b ∈ l) (h1 : rlt a b = false) (h2 : rlt b a = false) : a = b := by
  obtain ⟨i, hi, rfl⟩ := List.getElem_of_mem ha
  obtain ⟨j, hj, rfl⟩ := List.getElem_of_mem hb
  have hp := List.pairwise_iff_getElem.1 h
  rcases Nat.lt_trichotomy i j with e | e | e
  · rw [hp i j hi hj e] at h1; cases h1
  · subst e; rfl
  · rw [hp j i hj hi e] at h2; cases h2
/-- There is one sorted way to lay them. -/
theorem sorted_is {l l' : List Rd} (hs : l.Pairwise (fun x y => rlt x y = true)) (hp : l'.Perm l) (hs' : l'.Pairwise (fun x y => rlt y x = false)) : l' = l := by
  refine List.Perm.eq_of_pairwise (le := fun x y => rlt y x = false) ?_ hs' (hs.imp fun {x y} h => ?_) hp
  · intro a b ha hb h1 h2
    exact apart_of_sorted hs (hp.mem_iff.1 ha) hb h2 h1
  · rw [rlt_iff] at h; rw [rlt_no]; omega
/-- .. as the sort tells it. -/
theorem sortedIn_is {l : List Rd} {d d' : Array Rd} (hs : l.Pairwise (fun x y => rlt x y = true)) (hd : d.toList.Perm l) (hp : Go.Sort.PermIn 0 d.size d d') (hso : Go.Sort.SortedIn (fun x y => decide (rcf x y < 0)) 0 d.size d') : d'.toList = l := by
  obtain ⟨hsz, _, hperm⟩ := hp
  have e1 : d'.extract 0 d.size = d' := by rw [← hsz]; exact Array.extract_size
  rw [e1, Array.extract_size] at hperm
  refine sorted_is hs (hperm.trans hd) ?_
  rw [List.pairwise_iff_getElem]
  intro i j hi hj hij
  have hi' : i < d'.size := by simpa using hi
  have hj' : j < d'.size := by simpa using hj
  have := hso i j (Nat.zero_le _) hij (by omega)
  simp only [rcf_lt] at this
  rw [getElem!_pos d' j hj', getElem!_pos d' i hi'] at this
  simpa using this

/-- The first one of a label and a source. -/
def fnd (a b : Int) : List Rd → Option Rd
  | [] => none
  | r :: t => if r.1 = a ∧ r.2.1 = b then some r else fnd a b t
theorem fnd_step (a b : Int) (l : List Rd) (k : Nat) (h : k < l.length) : fnd a b (l.drop k) = if (rat l k).1 = a ∧ (rat l k).2.1 = b then some (rat l k) else fnd a b (l.drop (k + 1)) := by
  rw [List.drop_eq_getElem_cons h, rat_eq h, fnd]

end Go.Proofs.Ytheihcpacpoliaa.Plain
