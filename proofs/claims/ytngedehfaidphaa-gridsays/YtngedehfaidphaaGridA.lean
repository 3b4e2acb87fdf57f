/-
  Contracts of table.checkRow and table.CheckGrid: each returns what the plain words say, and nothing that was there has turned.
-/
import Derived.Test.YtngedehfaidphaaLineI
import Derived.Test.YtngedehfaidphaaPlainG
namespace Go.Proofs.Ytngedehfaidphaa
open Go.RowKit Plain

/-- Rows of numbers lie at an address. -/
def Rws (w : World) (a : Option Addr) (A : Nat → Option Addr) (C : Nat → Nat) (z : List (List Int)) : Prop :=
  z = [] ∨ ∃ b off, a = some ⟨b, off, none⟩ ∧ ∀ r, r < z.length → w.cell? ⟨b, off + r, none⟩ = some (.slice (A r) (rowZ z r).length (C r)) ∧ Lst w (A r) (rowZ z r) ∧ (rowZ z r).length ≤ 9223372036854775807
theorem Rws.later {w w' : World} {a : Option Addr} {A : Nat → Option Addr} {C : Nat → Nat} {z : List (List Int)} (h : Rws w a A C z) (hb : Below w.heap.size w w') : Rws w' a A C z := by
  rcases h with h | ⟨b, off, e, h⟩
  · exact .inl h
  · exact .inr ⟨b, off, e, fun r hr => ⟨cell_later hb (h r hr).1, (h r hr).2.1.later hb, (h r hr).2.2⟩⟩
theorem Rws.at {w : World} {a : Option Addr} {A : Nat → Option Addr} {C : Nat → Nat} {z : List (List Int)} (h : Rws w a A C z) {k : Nat} (hk : k < z.length) : ∃ b off, a = some ⟨b, off, none⟩ ∧ ∀ r, r < z.length → w.cell? ⟨b, off + r, none⟩ = some (.slice (A r) (rowZ z r).length (C r)) ∧ Lst w (A r) (rowZ z r) ∧ (rowZ z r).length ≤ 9223372036854775807 := by
  rcases h with h | h
  · subst h; simp at hk
  · exact h

theorem checkRow_any (a : Option Addr) (cap : Nat) (l : List Int) (n : Nat) (w : World) (hm : l.length ≤ 9223372036854775807) (hc : Lst w a l) :
    Calls Try.prog 39 #[.slice a l.length cap, .int .i64 n] w fun r w' => r = .returned (errV (rowI n l)) ∧ w' = w := by
  have kw := checkWorths_any a cap l w hm hc
  clear hc
  by_cases h : l.length = n
  · have e : rowI n l = worthI l := by unfold rowI; rw [if_pos h]
    rw [e]
    have h' : ((l.length : Int) != (n : Int)) = false := by simp; omega
    clear e h
    generalize worthI l = wl at *
    go_enter Try.func39, Try.ntmps39
    go_wp2_with (go_at_call 31; refine kw.mono ?_; rintro e w' ⟨rfl, rfl⟩)
    go_ret
    exact ⟨rfl, rfl⟩
  · have e : rowI n l = 3 := by unfold rowI; rw [if_neg h]
    rw [e]
    have h' : ((l.length : Int) != (n : Int)) = true := by simp; omega
    clear e h kw
    go_enter Try.func39, Try.ntmps39
    go_wp2_with fail
    go_ret
    exact ⟨rfl, rfl⟩

/-- What lies of a grid; nothing below has turned. -/
def RG (W : World) (B : Nat) (x y z : Option Addr) (A : Nat → Option Addr) (C : Nat → Nat) (xl yl : List Int) (zl : List (List Int)) (u : World) : Prop := Lst u x xl ∧ Lst u y yl ∧ Rws u z A C zl ∧ Below B W u
theorem keepG {B cx cy cz lx ly lz : Nat} {W u u' : World} {x y z : Option Addr} {A : Nat → Option Addr} {C : Nat → Nat} {xl yl : List Int} {zl : List (List Int)} (hb : Below u.heap.size u u')
    (h : (u.cell? ⟨B, 0, none⟩ = some (.slice x lx cx) ∧ u.cell? ⟨B, 1, none⟩ = some (.slice y ly cy) ∧ u.cell? ⟨B, 2, none⟩ = some (.slice z lz cz)) ∧ RG W B x y z A C xl yl zl u) :
    (u'.cell? ⟨B, 0, none⟩ = some (.slice x lx cx) ∧ u'.cell? ⟨B, 1, none⟩ = some (.slice y ly cy) ∧ u'.cell? ⟨B, 2, none⟩ = some (.slice z lz cz)) ∧ RG W B x y z A C xl yl zl u' := by
  obtain ⟨⟨h1, h2, h3⟩, h4, h5, h6, h7⟩ := h
  have hs := World.block_lt_of_cell? u ⟨B, 0, none⟩ h1
  exact ⟨⟨cell_later hb h1, cell_later hb h2, cell_later hb h3⟩, h4.later hb, h5.later hb, h6.later hb, h7.trans (hb.mono (Nat.le_of_lt hs))⟩
theorem startG (w : World) (x y z : Option Addr) (cx cy cz : Nat) (A : Nat → Option Addr) (C : Nat → Nat) (xl yl : List Int) (zl : List (List Int)) (hx : Lst w x xl) (hy : Lst w y yl) (hz : Rws w z A C zl) (u : World)
    (hu : Below (w.alloc (.cells #[.slice x xl.length cx, .slice y yl.length cy, .slice z zl.length cz] 46)).heap.size (w.alloc (.cells #[.slice x xl.length cx, .slice y yl.length cy, .slice z zl.length cz] 46)) u) :
    (u.cell? ⟨w.heap.size, 0, none⟩ = some (.slice x xl.length cx) ∧ u.cell? ⟨w.heap.size, 1, none⟩ = some (.slice y yl.length cy) ∧ u.cell? ⟨w.heap.size, 2, none⟩ = some (.slice z zl.length cz)) ∧ RG w w.heap.size x y z A C xl yl zl u :=
  keepG hu ⟨⟨by simp [go_sem], by simp [go_sem], by simp [go_sem]⟩, hx.later (below_alloc _ _), hy.later (below_alloc _ _), hz.later (below_alloc _ _), below_alloc _ _⟩

theorem checkGrid_any (x y z : Option Addr) (cx cy cz : Nat) (A : Nat → Option Addr) (C : Nat → Nat) (xl yl : List Int) (zl : List (List Int)) (w : World) (hm : xl.length ≤ 9223372036854775807) (hn : yl.length ≤ 9223372036854775807) (_ho : zl.length ≤ 9223372036854775807) (hcx : xl.length ≤ cx) (hcy : yl.length ≤ cy)
    (hx : Lst w x xl) (hy : Lst w y yl) (hz : Rws w z A C zl) :
    Calls Try.prog 20 #[.agg #[.slice x xl.length cx, .slice y yl.length cy, .slice z zl.length cz]] w fun r w' => r = .returned (errV (gridI xl yl zl)) ∧ Below w.heap.size w w' := by
  have Z := startG w x y z cx cy cz A C xl yl zl hx hy hz
  have kx : ∀ u, (u.cell? ⟨w.heap.size, 0, none⟩ = some (.slice x xl.length cx) ∧ u.cell? ⟨w.heap.size, 1, none⟩ = some (.slice y yl.length cy) ∧ u.cell? ⟨w.heap.size, 2, none⟩ = some (.slice z zl.length cz)) ∧ RG w w.heap.size x y z A C xl yl zl u →
      Calls Try.prog 30 #[.slice x xl.length cx] u fun r u' => r = .returned (errV (risingI xl)) ∧ (u'.cell? ⟨w.heap.size, 0, none⟩ = some (.slice x xl.length cx) ∧ u'.cell? ⟨w.heap.size, 1, none⟩ = some (.slice y yl.length cy) ∧ u'.cell? ⟨w.heap.size, 2, none⟩ = some (.slice z zl.length cz)) ∧ RG w w.heap.size x y z A C xl yl zl u' :=
    fun u hu => (checkPlaces_any x cx xl u hm hcx hu.2.1).mono fun _ _ ⟨e, hb⟩ => ⟨e, keepG hb hu⟩
  have ky : ∀ u, (u.cell? ⟨w.heap.size, 0, none⟩ = some (.slice x xl.length cx) ∧ u.cell? ⟨w.heap.size, 1, none⟩ = some (.slice y yl.length cy) ∧ u.cell? ⟨w.heap.size, 2, none⟩ = some (.slice z zl.length cz)) ∧ RG w w.heap.size x y z A C xl yl zl u →
      Calls Try.prog 30 #[.slice y yl.length cy] u fun r u' => r = .returned (errV (risingI yl)) ∧ (u'.cell? ⟨w.heap.size, 0, none⟩ = some (.slice x xl.length cx) ∧ u'.cell? ⟨w.heap.size, 1, none⟩ = some (.slice y yl.length cy) ∧ u'.cell? ⟨w.heap.size, 2, none⟩ = some (.slice z zl.length cz)) ∧ RG w w.heap.size x y z A C xl yl zl u' :=
    fun u hu => (checkPlaces_any y cy yl u hn hcy hu.2.2.1).mono fun _ _ ⟨e, hb⟩ => ⟨e, keepG hb hu⟩
  have S0 := Z _ (Below.refl _ _)
  clear Z hx hy hz
  obtain ⟨⟨c0, c1, c2⟩, R0⟩ := S0
  by_cases h1 : ¬ risingI xl = 0
  · have e : gridI xl yl zl = risingI xl := by
      have : edgesI xl yl zl.length = risingI xl := by unfold edgesI; rw [if_neg h1]
      unfold gridI; rw [this, if_neg h1]
    rw [e, errV_ne h1]
    rw [errV_ne h1] at kx
    clear e h1 ky
    go_enter Try.func20, Try.ntmps20
    go_wp2_with (go_at_call 30; refine (kx _ ⟨⟨c0, c1, c2⟩, R0⟩).mono ?_; rintro e w1 ⟨rfl, _, R1⟩)
    go_ret
    exact ⟨rfl, R1.2.2.2⟩
  have h1 := Decidable.not_not.mp h1
  rw [h1] at kx
  by_cases h2 : ¬ risingI yl = 0
  · have e : gridI xl yl zl = risingI yl := by
      have : edgesI xl yl zl.length = risingI yl := by unfold edgesI; rw [if_pos h1, if_neg h2]
      unfold gridI; rw [this, if_neg h2]
    rw [e, errV_ne h2]
    rw [errV_ne h2] at ky
    have kx' : ∀ u, _ → Calls _ _ _ u fun r u' => r = .returned .nilIface ∧ _ := kx
    clear e h1 h2 kx
    go_enter Try.func20, Try.ntmps20
    go_wp2_with (first
      | (go_at_call 30; refine (kx' _ ⟨⟨c0, c1, c2⟩, R0⟩).mono ?_; rintro e w1 ⟨rfl, ⟨d0, d1, d2⟩, R1⟩; clear c0 c1 c2 R0)
      | (go_at_call 30; refine (ky _ ⟨⟨d0, d1, d2⟩, R1⟩).mono ?_; rintro e w2 ⟨rfl, _, R2⟩))
    go_ret
    exact ⟨rfl, R2.2.2.2⟩
  have h2 := Decidable.not_not.mp h2
  rw [h2] at ky
  have kx' : ∀ u, _ → Calls _ _ _ u fun r u' => r = .returned .nilIface ∧ _ := kx
  have ky' : ∀ u, _ → Calls _ _ _ u fun r u' => r = .returned .nilIface ∧ _ := ky
  clear kx ky
  by_cases h3 : ¬ zl.length = xl.length
  · have e : gridI xl yl zl = 3 := by
      have : edgesI xl yl zl.length = 3 := by unfold edgesI; rw [if_pos h1, if_pos h2, if_neg h3]
      unfold gridI; rw [this]; rfl
    rw [e]
    have h3' : ((zl.length : Int) != (xl.length : Int)) = true := by simp; omega
    clear e h1 h2 h3
    go_enter Try.func20, Try.ntmps20
    go_wp2_with (first
      | (go_at_call 30; refine (kx' _ ⟨⟨c0, c1, c2⟩, R0⟩).mono ?_; rintro e w1 ⟨rfl, ⟨d0, d1, d2⟩, R1⟩; clear c0 c1 c2 R0)
      | (go_at_call 30; refine (ky' _ ⟨⟨d0, d1, d2⟩, R1⟩).mono ?_; rintro e w2 ⟨rfl, ⟨e0, e1, e2⟩, R2⟩))
    go_ret
    exact ⟨rfl, R2.2.2.2⟩
  have h3 := Decidable.not_not.mp h3
  have HE : Hid (gridI xl yl zl = rowsI yl.length zl) := by
    have : edgesI xl yl zl.length = 0 := by unfold edgesI; rw [if_pos h1, if_pos h2, if_pos h3]
    show gridI xl yl zl = rowsI yl.length zl
    unfold gridI; rw [this, if_pos rfl]
  have h3' : ((zl.length : Int) != (xl.length : Int)) = false := by simp; omega
  clear h1 h2 h3
  go_enter Try.func20, Try.ntmps20
  go_wp2_with (first
    | (go_at_call 30; refine (kx' _ ⟨⟨c0, c1, c2⟩, R0⟩).mono ?_; rintro e w1 ⟨rfl, ⟨d0, d1, d2⟩, R1⟩; clear c0 c1 c2 R0)
    | (go_at_call 30; refine (ky' _ ⟨⟨d0, d1, d2⟩, R1⟩).mono ?_; rintro e w2 ⟨rfl, ⟨e0, e1, e2⟩, R2⟩))
  clear kx' ky' d0 d1 d2 R1
  have HR : Hid (RG w w.heap.size x y z A C xl yl zl w2) := R2
  clear R2
  go_loop [31] (fun i => ∃ k : Nat, k ≤ zl.length ∧ i = .int .i64 k ∧ Hid (rowsI yl.length zl = rowsI yl.length (zl.drop k))) (fun i => zl.length - (intOf i).toNat)
  case atStart => exact ⟨0, Nat.zero_le _, rfl, rfl⟩
  case round =>
    obtain ⟨k, hk, rfl, hf⟩ := hrel
    by_cases hlt : k < zl.length
    · obtain ⟨b, off, rfl, hrs⟩ := HR.out.2.2.1.at hlt
      obtain ⟨hcell, hlst, hlen⟩ := hrs k hlt
      have kr := checkRow_any (A k) (C k) (rowZ zl k) yl.length w2 hlen hlst
      have hs := rows_step yl.length zl k hlt
      clear hrs hlst hlen
      generalize (rowZ zl k).length = lr at *
      generalize rowI yl.length (rowZ zl k) = er at *
      by_cases hz : er = 0
      · subst hz
        rw [if_pos rfl] at hs
        have HS : Hid (rowsI yl.length zl = rowsI yl.length (zl.drop (k + 1))) := hf.out.trans hs
        clear hs hf
        have kr' : Calls _ _ _ w2 fun r w' => r = .returned .nilIface ∧ w' = w2 := kr
        clear kr
        go_wp2_with (go_at_call 39; refine kr'.mono ?_; rintro e w' ⟨rfl, rfl⟩)
        go_round
        case rel => exact ⟨k + 1, by omega, by go_num, HS⟩
        case measure => simp [intOf]; omega
      · rw [if_neg hz] at hs
        have HS : Hid (rowsI yl.length zl = er) := hf.out.trans hs
        rw [errV_ne hz] at kr
        have HV : Hid (errV er = .iface 25 (.int .i64 er)) := errV_ne hz
        clear hs hf hz
        go_wp2_with (go_at_call 39; refine kr.mono ?_; rintro e w' ⟨rfl, rfl⟩)
        go_ret
        exact ⟨by rw [HE.out, HS.out, HV.out]; rfl, HR.out.2.2.2⟩
    · have : k = zl.length := by omega
      subst this
      go_wp2_with fail
      go_ret
      exact ⟨by rw [HE.out, hf.out, List.drop_length]; rfl, HR.out.2.2.2⟩

end Go.Proofs.Ytngedehfaidphaa
