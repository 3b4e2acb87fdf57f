/-
  A map by label and source that holds readings: what its keys and values read as; what it holds behind a store; what a range over it gives.
-/
import Derived.Test.YtheihcpacpoliaaWalksA
import Derived.Test.YtheihcpacpoliaaGathP
import Derived.Maps.Own
import Derived.Maps.Range
import Derived.Sort.MapsRangeIn
import Derived.DeepKeys4
namespace Go.Proofs.Ytheihcpacpoliaa
open Go.RowKit Plain Go.Maps Go.WideMaps

theorem who_laid : laidOutB Try.prog = true := by kernel_rfl
theorem who_row : (73 : TypeId) < Try.prog.types.size := of_decide_eq_true (by kernel_rfl)
theorem who_under : Try.prog.underlying 73 = some (.array 2 3) := by kernel_rfl
theorem who_int : Try.prog.underlying 3 = some (.int .i64) := by kernel_rfl
theorem who_cells : Try.prog.cellsOf 73 = 2 := by kernel_rfl
theorem who_one : Try.prog.cellsOf 3 = 1 := by kernel_rfl
theorem who_key : Try.prog.keyType 73 = true := by kernel_rfl
theorem who_wide : (match Try.prog.underlying 73 with | some (.array _ _) | some (.struct _) => true | _ => false) = true := by rw [who_under]
theorem who_at : Try.prog.keyTypeAt 2 73 = true := by kernel_rfl
set_option maxRecDepth 100000 in
theorem who_law : KeyLaw Try.prog 73 := deep_law_laid who_laid (m := 2) (by decide) who_row who_at who_wide
theorem who_keyed : Keyed Try.prog 73 := Keyed.of_law who_law

theorem succ_of {n k : Nat} (h : k < n) : ∃ m, n = m + 1 := ⟨n - 1, by omega⟩
theorem who_size : ∃ m, Try.prog.types.size = m + 1 := succ_of who_row
/-- What a key reads as. -/
def klI (a b : Int) : Lit := .string (keyBytes [.int .i64 a, .int .i64 b])
/-- A reading whose label and source are numbers of the machine's. -/
def wfR (r : Rd) : Prop := (Lit.int .i64 r.1).wf = true ∧ (Lit.int .i64 r.2.1).wf = true

theorem keyOf_who {a b : Int} (wa : (Lit.int .i64 a).wf = true) (wb : (Lit.int .i64 b).wf = true) : keyOf Try.prog 73 (.agg #[.int .i64 a, .int .i64 b]) = some (klI a b) := by
  obtain ⟨m, hm⟩ := who_size
  have hf : (Value.agg #[.int .i64 a, .int .i64 b]).formed Try.prog 73 = true := by simp [Value.formed, who_cells]
  unfold keyOf
  rw [who_under, who_key, hf, hm]
  simp [Program.keyLits, who_cells, who_one, Value.cells, wa, wb, klI, List.range_succ]

theorem klI_inj {a b a' b' : Int} (wa : (Lit.int .i64 a).wf = true) (wb : (Lit.int .i64 b).wf = true) (wa' : (Lit.int .i64 a').wf = true) (wb' : (Lit.int .i64 b').wf = true) (h : klI a b = klI a' b') : a = a' ∧ b = b' := by
  have := who_keyed.inj (keyOf_who wa wb) (by rw [h]; exact keyOf_who wa' wb')
  simpa using this
theorem klI_is (a b : Int) : WideAt.IsKeyLit (klI a b) := trivial
theorem klI_same {r z : Rd} (hr : wfR r) (hz : wfR z) : (klI z.1 z.2.1).sameKey (klI r.1 r.2.1) = req z r := by
  cases h : req z r
  · cases hs : (klI z.1 z.2.1).sameKey (klI r.1 r.2.1)
    · rfl
    · have := klI_inj hz.1 hz.2 hr.1 hr.2 (WideAt.sameKey_eq hs)
      rw [req_no] at h
      exact absurd this h
  · rw [req_iff] at h
    rw [h.1, h.2]
    exact WideAt.sameKey_self (klI_is _ _)

/-- A reading's cells. -/
def encR (r : Rd) : List Value := [.int .i64 r.1, .int .i64 r.2.1, .int .i64 r.2.2.1, .int .i64 r.2.2.2]
/-- A reading as a value. -/
def rdV (r : Rd) : Value := .agg #[.int .i64 r.1, .int .i64 r.2.1, .int .i64 r.2.2.1, .int .i64 r.2.2.2]
theorem rdV_inj {r z : Rd} (h : rdV r = rdV z) : r = z := by
  obtain ⟨a, b, c, d⟩ := r
  obtain ⟨a', b', c', d'⟩ := z
  simp [rdV] at h
  simp [h]
section
variable {H : Type}
/-- .. as a datum. -/
def datR (r : Rd) : DataW H := .agg [.lit (.int .i64 r.1), .lit (.int .i64 r.2.1), .lit (.int .i64 r.2.2.1), .lit (.int .i64 r.2.2.2)]
theorem datR_inj {r z : Rd} (h : (datR r : DataW H) = datR z) : r = z := by
  obtain ⟨a, b, c, d⟩ := r
  obtain ⟨a', b', c', d'⟩ := z
  simp [datR] at h
  simp [h]
/-- How a value of the map reads. -/
def rdRead (v : Value) : Option (DataW H × List MemPlace) :=
  match v with
  | .agg cs => match cs.toList with
    | [.int .i64 a, .int .i64 b, .int .i64 c, .int .i64 d] => some (datR (a, b, c, d), [])
    | _ => none
  | _ => none
theorem rdRead_mk (r : Rd) : rdRead (H := H) (rdV r) = some (datR r, []) := rfl
theorem rdRead_inv {v : Value} {y : DataW H × List MemPlace} (h : rdRead v = some y) : ∃ r, v = rdV r ∧ y = (datR r, []) := by
  unfold rdRead at h
  split at h
  · rename_i cs
    split at h
    · rename_i a b c d e
      refine ⟨(a, b, c, d), ?_, by cases h; rfl⟩
      unfold rdV
      congr 1
      rw [← Array.toArray_toList (xs := cs), e]
    · cases h
  · cases h

/-- An entry. -/
def entR (r : Rd) : Lit × DataW H := (klI r.1 r.2.1, datR r)
/-- The map holds these readings, each by its label and source. -/
def RepM (D : DataW H) (l : List Rd) : Prop := ∃ es, D = .map es ∧ es.Perm (l.map entR)
theorem RepM.nil : RepM (.map [] : DataW H) [] := ⟨[], rfl, by simp⟩

theorem RepM.put {D : DataW H} {l : List Rd} {r : Rd} (h : RepM D l) (hl : ∀ z ∈ l, wfR z) (hr : wfR r) (hs : l.Pairwise (fun x y => rlt x y = true)) : RepM (D.put (klI r.1 r.2.1) (datR r)) (ins r l) := by
  obtain ⟨es, rfl, hp⟩ := h
  refine ⟨_, rfl, (WideShapes.insert_perm _ _).trans ?_⟩
  have e1 : (l.map (entR (H := H))).filter (fun p => !p.1.sameKey (klI r.1 r.2.1)) = (l.filter (fun z => !req z r)).map entR := by
    rw [List.filter_map]
    congr 1
    refine List.filter_congr fun z hz => ?_
    show (!(klI z.1 z.2.1).sameKey (klI r.1 r.2.1)) = !req z r
    rw [klI_same hr (hl z hz)]
  have e2 := (hp.filter (fun p => !p.1.sameKey (klI r.1 r.2.1))).cons (klI r.1 r.2.1, (datR r : DataW H))
  rw [e1] at e2
  exact e2.trans ((ins_perm r hs).map (entR (H := H))).symm

/-- What has come of a range over such a map. -/
def ColR (D : DataW H) (left : Lit → Bool) (ss : List Rd) : Prop :=
  ss.Nodup ∧ (∀ r ∈ ss, left (klI r.1 r.2.1) = false) ∧ ∀ k, has D k = true → left k = false → ∃ r ∈ ss, klI r.1 r.2.1 = k
theorem ColR.start (D : DataW H) : ColR D (has D) [] := ⟨List.nodup_nil, by simp, fun k h1 h2 => by rw [h1] at h2; cases h2⟩
theorem RepM.found {D : DataW H} {l : List Rd} {kl : Lit} {r : Rd} (h : RepM D l) (hat : ∀ zd, D.atKey kl zd = datR r) : r ∈ l ∧ kl = klI r.1 r.2.1 := by
  obtain ⟨es, rfl, hp⟩ := h
  have h1 := has_true_of_atKey hat
  have h2 := hat .nil
  simp only [DataW.atKey] at h2
  split at h2
  · rename_i p hf
    have hm := List.mem_of_find?_eq_some hf
    have hk := List.find?_some hf
    obtain ⟨z, hz, e⟩ := List.mem_map.1 (hp.mem_iff.1 hm)
    subst e
    obtain rfl := datR_inj h2
    exact ⟨hz, (WideAt.sameKey_eq hk).symm⟩
  · simp [datR] at h2
theorem ColR.step {D : DataW H} {left : Lit → Bool} {ss : List Rd} {r : Rd} (h : ColR D left ss) (hlk : left (klI r.1 r.2.1) = true) : ColR D (fun z => left z && !z.sameKey (klI r.1 r.2.1)) (ss ++ [r]) := by
  obtain ⟨h1, h2, h3⟩ := h
  have hnew : r ∉ ss := fun hx => by have := h2 r hx; rw [hlk] at this; cases this
  refine ⟨List.nodup_append.2 ⟨h1, by simp, fun a ha b hb => by simp at hb; subst hb; exact fun e => hnew (e ▸ ha)⟩, fun z hz => ?_, fun k hk hl => ?_⟩
  · rcases List.mem_append.1 hz with hz | hz
    · simp [h2 z hz]
    · simp at hz; subst hz; simp [WideAt.sameKey_self (klI_is z.1 z.2.1)]
  · cases hlf : left k
    · obtain ⟨z, hz, e⟩ := h3 k hk hlf
      exact ⟨z, by simp [hz], e⟩
    · have hl : (left k && !k.sameKey (klI r.1 r.2.1)) = false := hl
      rw [hlf] at hl
      have : k.sameKey (klI r.1 r.2.1) = true := by simpa using hl
      exact ⟨r, by simp, (WideAt.sameKey_eq this).symm⟩
theorem nodup_of_sorted {l : List Rd} (h : l.Pairwise (fun x y => rlt x y = true)) : l.Nodup := h.imp fun {x y} h e => by subst e; rw [rlt_irrefl] at h; cases h
theorem ColR.perm {D : DataW H} {left : Lit → Bool} {ss l : List Rd} (h : ColR D left ss) (hD : RepM D l) (hl : ∀ z ∈ l, wfR z) (hs : l.Pairwise (fun x y => rlt x y = true)) (hm : ∀ r ∈ ss, r ∈ l) (h0 : ∀ k, left k = false) : ss.Perm l := by
  obtain ⟨h1, h2, h3⟩ := h
  obtain ⟨es, rfl, hp⟩ := hD
  refine (List.perm_ext_iff_of_nodup h1 (nodup_of_sorted hs)).2 fun r => ⟨hm r, fun hr => ?_⟩
  have hh : has (.map es) (klI r.1 r.2.1) = true := by
    rw [has_eq, List.any_eq_true]
    exact ⟨entR r, hp.mem_iff.2 (List.mem_map.2 ⟨r, hr, rfl⟩), WideAt.sameKey_self (klI_is _ _)⟩
  obtain ⟨z, hz, e⟩ := h3 _ hh (h0 _)
  have hzl := hm z hz
  have := klI_inj (hl z hzl).1 (hl z hzl).2 (hl r hr).1 (hl r hr).2 e
  have : z = r := apart_of_sorted hs hzl hr (by rw [rlt_no]; omega) (by rw [rlt_no]; omega)
  exact this ▸ hz
theorem RepM.size {D : DataW H} {l : List Rd} (h : RepM D l) : Maps.size D = l.length := by
  obtain ⟨es, rfl, hp⟩ := h
  rw [size_eq, hp.length_eq, List.length_map]
end

end Go.Proofs.Ytheihcpacpoliaa
