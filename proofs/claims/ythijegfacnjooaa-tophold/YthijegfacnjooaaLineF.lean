/-
  Contracts of table.Check, table.Look, table.Rises and fulmarref.LineMay: each returns what the plain words say, and nothing that was there has turned.
-/
import Derived.Test.YthijegfacnjooaaLineE
namespace Go.Proofs.Ythijegfacnjooaa
open Go.RowKit Plain

theorem tbelow_alloc (w : World) (o : Obj) : Below w.heap.size w (w.alloc o) := (Below.refl _ _).alloc (Nat.le_refl _) o
theorem tbelow_up {w w1 w2 : World} (h : Below w.heap.size w w1) (k : Below w1.heap.size w1 w2) : Below w.heap.size w w2 := h.trans (k.mono h.size)

theorem tcheck_any (a z : Option Addr) (ca cz : Nat) (al zl : List Int) (w : World) (hm : al.length ≤ 9223372036854775807) (hn : zl.length ≤ 9223372036854775807) (hca : al.length ≤ ca) (ha : Lst w a al) (hz : Lst w z zl) :
    Calls Try.prog 99 #[.agg #[.slice a al.length ca, .slice z zl.length cz]] w fun r w' => r = .returned (errV (lineI al zl)) ∧ Below w.heap.size w w' := by
  have hA := tbelow_alloc w (.cells #[.slice a al.length ca, .slice z zl.length cz] 63)
  have b1 : (w.alloc (.cells #[.slice a al.length ca, .slice z zl.length cz] 63)).cell? ⟨w.heap.size, 1, none⟩ = some (.slice z zl.length cz) := by simp [go_sem]
  by_cases h1 : al.length = zl.length
  · have h1' : ((al.length : Int) != (zl.length : Int)) = false := by simp; omega
    have e : lineI al zl = if risingI al = 0 then worthI zl else risingI al := by unfold lineI; rw [if_pos h1]
    have cp := checkPlaces_any a ca al (w.alloc (.cells #[.slice a al.length ca, .slice z zl.length cz] 63)) hm hca (ha.later hA)
    clear h1
    by_cases h2 : risingI al = 0
    · rw [if_pos h2] at e
      have E : Hid (lineI al zl = worthI zl) := e
      rw [h2] at cp
      have B1 : Hid (∀ u, Below (w.alloc (.cells #[.slice a al.length ca, .slice z zl.length cz] 63)).heap.size (w.alloc (.cells #[.slice a al.length ca, .slice z zl.length cz] 63)) u → u.cell? ⟨w.heap.size, 1, none⟩ = some (.slice z zl.length cz) ∧ Below w.heap.size w u) := fun u hb => ⟨cell_later hb b1, tbelow_up hA hb⟩
      have HZ : Hid (Lst w z zl) := hz
      clear e h2 ha hz b1
      have cp' : Calls Try.prog 112 #[.slice a al.length ca] (w.alloc (.cells #[.slice a al.length ca, .slice z zl.length cz] 63)) fun r w' => r = .returned .nilIface ∧ w'.cell? ⟨w.heap.size, 1, none⟩ = some (.slice z zl.length cz) ∧ Below w.heap.size w w' := cp.mono fun _ u ⟨h, hb⟩ => ⟨h, B1.out u hb⟩
      clear cp hA B1
      go_enter Try.func99, Try.ntmps99
      go_wp2_with (first
        | (go_at_call 112; refine cp'.mono ?_; rintro e w1 ⟨rfl, hc1, hb1⟩)
        | (go_at_call 113; refine (checkWorths_any z cz zl _ hn (HZ.out.later hb1)).mono ?_; rintro e w' ⟨rfl, rfl⟩))
      go_ret
      exact ⟨by rw [E.out]; rfl, hb1⟩
    · rw [if_neg h2] at e
      rw [e]; clear e
      rw [errV_ne h2] at cp ⊢
      clear ha hz b1 h2
      go_enter Try.func99, Try.ntmps99
      go_wp2_with (go_at_call 112; refine cp.mono ?_; rintro e w1 ⟨rfl, hb⟩)
      go_ret
      exact ⟨rfl, tbelow_up hA hb⟩
  · have h1' : ((al.length : Int) != (zl.length : Int)) = true := by simp; omega
    have e : lineI al zl = 3 := by unfold lineI; rw [if_neg h1]
    rw [e]; clear e h1 ha hz
    go_enter Try.func99, Try.ntmps99
    go_wp2_with fail
    go_ret
    exact ⟨rfl, hA⟩

/-- A line that may be, in a world. -/
structure Line (w : World) (ba oa bz oz : Nat) (a z : List Int) : Prop where
  may : lineI a z = 0
  at' : ∀ k, k < a.length → w.cell? ⟨ba, oa + k, none⟩ = some (.int .i64 (at0 a k))
  is' : ∀ k, k < z.length → w.cell? ⟨bz, oz + k, none⟩ = some (.int .i64 (at0 z k))
theorem Line.later {w w' : World} {ba oa bz oz : Nat} {a z : List Int} (h : Line w ba oa bz oz a z) (hb : Below w.heap.size w w') : Line w' ba oa bz oz a z :=
  ⟨h.may, fun k hk => cell_later hb (h.at' k hk), fun k hk => cell_later hb (h.is' k hk)⟩
theorem Line.lstA {w : World} {ba oa bz oz : Nat} {a z : List Int} (h : Line w ba oa bz oz a z) : Lst w (some ⟨ba, oa, none⟩) a := .inr ⟨ba, oa, rfl, h.at'⟩
theorem Line.lstZ {w : World} {ba oa bz oz : Nat} {a z : List Int} (h : Line w ba oa bz oz a z) : Lst w (some ⟨bz, oz, none⟩) z := .inr ⟨bz, oz, rfl, h.is'⟩
theorem Line.len {w : World} {ba oa bz oz : Nat} {a z : List Int} (h : Line w ba oa bz oz a z) : 2 ≤ a.length ∧ a.length ≤ 8 ∧ a.length = z.length := by
  obtain ⟨h1, h2, _⟩ := line_of h.may; exact ⟨h2.lo, h2.hi, h1⟩

theorem check_ok (ba oa ca bz oz cz : Nat) (a z : List Int) (w : World) (hca : a.length ≤ ca) (h : Line w ba oa bz oz a z) :
    Calls Try.prog 99 #[.agg #[.slice (some ⟨ba, oa, none⟩) a.length ca, .slice (some ⟨bz, oz, none⟩) z.length cz]] w fun r w' => r = .returned .nilIface ∧ Below w.heap.size w w' := by
  have := tcheck_any (some ⟨ba, oa, none⟩) (some ⟨bz, oz, none⟩) ca cz a z w (by have := h.len; omega) (by have := h.len; omega) hca h.lstA h.lstZ
  rwa [h.may] at this
theorem along_ok (ba oa ca bz oz cz : Nat) (a z : List Int) (x : Int) (w : World) (h : Line w ba oa bz oz a z) :
    Calls Try.prog 100 #[.agg #[.slice (some ⟨ba, oa, none⟩) a.length ca, .slice (some ⟨bz, oz, none⟩) z.length cz], .int .i64 x] w fun r w' => r = .returned (.int .i64 (lookI a z x)) ∧ Below w.heap.size w w' := by
  obtain ⟨h1, h2, h3⟩ := line_of h.may
  exact along_any ba oa ca bz oz cz a z x w h2 h3 h1 h.at' h.is'

theorem look_ok (ba oa ca bz oz cz : Nat) (a z : List Int) (x : Int) (w : World) (hca : a.length ≤ ca) (h : Line w ba oa bz oz a z) :
    Calls Try.prog 83 #[.agg #[.slice (some ⟨ba, oa, none⟩) a.length ca, .slice (some ⟨bz, oz, none⟩) z.length cz], .int .i64 x] w fun r w' => r = .returned (.tuple #[.int .i64 (lookI a z x), .nilIface]) ∧ Below w.heap.size w w' := by
  have hA := tbelow_alloc w (.cells #[.slice (some ⟨ba, oa, none⟩) a.length ca, .slice (some ⟨bz, oz, none⟩) z.length cz] 63)
  have ck := check_ok ba oa ca bz oz cz a z _ hca (h.later hA)
  have ck' : Calls Try.prog 99 #[.agg #[.slice (some ⟨ba, oa, none⟩) a.length ca, .slice (some ⟨bz, oz, none⟩) z.length cz]] (w.alloc (.cells #[.slice (some ⟨ba, oa, none⟩) a.length ca, .slice (some ⟨bz, oz, none⟩) z.length cz] 63))
      fun r w' => r = .returned .nilIface ∧ w'.cell? ⟨w.heap.size, 0, none⟩ = some (.slice (some ⟨ba, oa, none⟩) a.length ca) ∧ w'.cell? ⟨w.heap.size, 1, none⟩ = some (.slice (some ⟨bz, oz, none⟩) z.length cz) ∧ Below w.heap.size w w' :=
    ck.mono fun _ u ⟨h1, hb⟩ => ⟨h1, cell_later hb (by simp [go_sem]), cell_later hb (by simp [go_sem]), tbelow_up hA hb⟩
  have H : Hid (Line w ba oa bz oz a z) := h
  clear h ck hA
  go_enter Try.func83, Try.ntmps83
  go_wp2_with (first
    | (go_at_call 99; refine ck'.mono ?_; rintro e w1 ⟨rfl, hc0, hc1, hb1⟩)
    | (go_at_call 100; refine (along_ok ba oa ca bz oz cz a z x _ (H.out.later hb1)).mono ?_; rintro e w2 ⟨rfl, hb2⟩))
  go_ret2
  exact ⟨rfl, tbelow_up hb1 hb2⟩

theorem look_no (a z : Option Addr) (ca cz : Nat) (al zl : List Int) (x : Int) (w : World) (hm : al.length ≤ 9223372036854775807) (hn : zl.length ≤ 9223372036854775807) (hca : al.length ≤ ca) (ha : Lst w a al) (hz : Lst w z zl) (h : lineI al zl ≠ 0) :
    Calls Try.prog 83 #[.agg #[.slice a al.length ca, .slice z zl.length cz], .int .i64 x] w fun r w' => r = .returned (.tuple #[.int .i64 0, errV (lineI al zl)]) ∧ Below w.heap.size w w' := by
  have hA := tbelow_alloc w (.cells #[.slice a al.length ca, .slice z zl.length cz] 63)
  have ck := tcheck_any a z ca cz al zl _ hm hn hca (ha.later hA) (hz.later hA)
  rw [errV_ne h] at ck ⊢
  clear ha hz h
  go_enter Try.func83, Try.ntmps83
  go_wp2_with (go_at_call 99; refine ck.mono ?_; rintro e w1 ⟨rfl, hb1⟩)
  go_ret2
  exact ⟨rfl, tbelow_up hA hb1⟩

end Go.Proofs.Ythijegfacnjooaa
