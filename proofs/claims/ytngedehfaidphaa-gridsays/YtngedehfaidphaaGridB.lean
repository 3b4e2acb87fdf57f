/-
  Contract of fulmarref.GridMay: it returns what the plain words say, and nothing that was there has turned.
-/
import Derived.Test.YtngedehfaidphaaGridA
import Derived.Deep.DeepCutAuto
namespace Go.Proofs.Ytngedehfaidphaa
open Go.RowKit Plain

theorem edges_first (xl yl : List Int) (n : Nat) (e : Int) (he : e = if ((n : Int) != (xl.length : Int)) = true then 3 else 0) : firstI [risingI xl, risingI yl, e] = edgesI xl yl n := by
  subst he
  unfold edgesI; simp only [firstI]
  by_cases h : n = xl.length
  · have q : ((n : Int) != (xl.length : Int)) = false := by simp; omega
    rw [q, if_pos h]; simp
  · have q : ((n : Int) != (xl.length : Int)) = true := by simp; omega
    rw [q, if_neg h]; simp
theorem row_first (r : List Int) (n : Nat) (e : Int) (he : e = if ((r.length : Int) != (n : Int)) = true then 3 else 0) : firstI [e, worthI r] = rowI n r := by
  subst he
  unfold rowI; simp only [firstI]
  by_cases h : r.length = n
  · have q : ((r.length : Int) != (n : Int)) = false := by simp; omega
    rw [q, if_pos h]; rcases worth_cases r with w | w <;> simp [w]
  · have q : ((r.length : Int) != (n : Int)) = true := by simp; omega
    rw [q, if_neg h]; simp

theorem first_drew2 (T : TypeId) (x y : Int) (w : World) :
    Calls Try.prog 13 #[.slice (some ⟨w.heap.size, 0, none⟩) 2 2] (w.alloc (.cells #[.int .i64 x, .int .i64 y] T)).drew fun r w' => r = .returned (.int .i64 (firstI [x, y])) ∧ w' = (w.alloc (.cells #[.int .i64 x, .int .i64 y] T)).drew :=
  first_two _ _ x y _ (by simp [go_sem]) (by simp [go_sem])

set_option maxRecDepth 100000 in
set_option maxHeartbeats 2000000 in
theorem gridMay_any (x y z : Option Addr) (cx cy cz : Nat) (A : Nat → Option Addr) (C : Nat → Nat) (xl yl : List Int) (zl : List (List Int)) (w : World) (hm : xl.length ≤ 9223372036854775807) (hn : yl.length ≤ 9223372036854775807) (ho : zl.length ≤ 20)
    (hx : Lst w x xl) (hy : Lst w y yl) (hz : Rws w z A C zl) :
    Calls Try.prog 17 #[.agg #[.slice x xl.length cx, .slice y yl.length cy, .slice z zl.length cz]] w fun r w' => r = .returned (.int .i64 (gridI xl yl zl)) ∧ Below w.heap.size w w' := by
  have Z : Hid (∀ u, _ → _) := startG w x y z cx cy cz A C xl yl zl hx hy hz
  have kx : ∀ u, (u.cell? ⟨w.heap.size, 0, none⟩ = some (.slice x xl.length cx) ∧ u.cell? ⟨w.heap.size, 1, none⟩ = some (.slice y yl.length cy) ∧ u.cell? ⟨w.heap.size, 2, none⟩ = some (.slice z zl.length cz)) ∧ RG w w.heap.size x y z A C xl yl zl u →
      Calls Try.prog 25 #[.slice x xl.length cx] u fun r u' => r = .returned (.int .i64 (risingI xl)) ∧ Below u.heap.size u u' := fun u hu => rising_any x cx xl u hm hu.2.1
  have ky : ∀ u, (u.cell? ⟨w.heap.size, 0, none⟩ = some (.slice x xl.length cx) ∧ u.cell? ⟨w.heap.size, 1, none⟩ = some (.slice y yl.length cy) ∧ u.cell? ⟨w.heap.size, 2, none⟩ = some (.slice z zl.length cz)) ∧ RG w w.heap.size x y z A C xl yl zl u →
      Calls Try.prog 25 #[.slice y yl.length cy] u fun r u' => r = .returned (.int .i64 (risingI yl)) ∧ Below u.heap.size u u' := fun u hu => rising_any y cy yl u hn hu.2.2.1
  clear hx hy hz
  go_enter Try.func17, Try.ntmps17
  go_upto_region 1 with fail
  go_cut [3] (fun e w' => e = .int .i64 (edgesI xl yl zl.length) ∧ (w'.cell? ⟨w.heap.size, 0, none⟩ = some (.slice x xl.length cx) ∧ w'.cell? ⟨w.heap.size, 1, none⟩ = some (.slice y yl.length cy) ∧ w'.cell? ⟨w.heap.size, 2, none⟩ = some (.slice z zl.length cz)) ∧ RG w w.heap.size x y z A C xl yl zl w')
  case first =>
    go_region_held3 (fun u => (u.cell? ⟨w.heap.size, 0, none⟩ = some (.slice x xl.length cx) ∧ u.cell? ⟨w.heap.size, 1, none⟩ = some (.slice y yl.length cy) ∧ u.cell? ⟨w.heap.size, 2, none⟩ = some (.slice z zl.length cz)) ∧ RG w w.heap.size x y z A C xl yl zl u)
      (first
        | (with_reducible assumption)
        | (with_reducible refine keepG (below_alloc _ _) ?_; with_reducible assumption)
        | (with_reducible apply keepG; with_reducible assumption; with_reducible assumption)
        | (refine Z.out _ ?_; exact (Below.refl _ _).drew))
      (first
        | (go_at_call 24; refine (when_named _ _ _).mono ?_; rintro e w' ⟨v, rfl, hv, rfl⟩)
        | (go_at_call_of 25 (Value.slice x xl.length cx); refine (kx _ ?_).mono ?_; (with_reducible assumption); rintro e w' ⟨rfl, hb⟩)
        | (go_at_call_of 25 (Value.slice y yl.length cy); refine (ky _ ?_).mono ?_; (with_reducible assumption); rintro e w' ⟨rfl, hb⟩)
        | (go_at_call 13; refine (first_new3 _ _ _ _ _).mono ?_; rintro e w' ⟨rfl, rfl⟩))
    all_goals (
      rename_i hH
      go_wp2_with fail
      go_meet
      case rel => exact ⟨by rw [edges_first xl yl zl.length _ hv.out], hH.1, hH.2⟩)
  case rest =>
    obtain ⟨rfl, ⟨c0, c1, c2⟩, R0⟩ := hcut
    rename World => wb
    clear Z kx ky
    have HE : Hid (gridI xl yl zl = if edgesI xl yl zl.length = 0 then rowsI yl.length (zl.drop 0) else edgesI xl yl zl.length) := rfl
    generalize edgesI xl yl zl.length = e0 at *
    go_wp2_with fail
    go_loopw [3, 4] (fun e i wr => ∃ (k : Nat) (er : Int), k ≤ zl.length ∧ i = .int .i64 k ∧ e = .int .i64 er ∧ Hid (gridI xl yl zl = if er = 0 then rowsI yl.length (zl.drop k) else er) ∧ (wr.cell? ⟨w.heap.size, 0, none⟩ = some (.slice x xl.length cx) ∧ wr.cell? ⟨w.heap.size, 1, none⟩ = some (.slice y yl.length cy) ∧ wr.cell? ⟨w.heap.size, 2, none⟩ = some (.slice z zl.length cz)) ∧ RG w w.heap.size x y z A C xl yl zl wr) (fun _ i _ => zl.length - (intOf i).toNat)
    case atStart => exact ⟨0, e0, Nat.zero_le _, rfl, rfl, HE, ⟨c0, c1, c2⟩, R0⟩
    case round =>
      obtain ⟨k, er, hk, rfl, rfl, hE, ⟨d0, d1, d2⟩, R1⟩ := hrel
      clear c0 c1 c2 R0 HE
      by_cases hlt : k < zl.length
      · by_cases h0 : er = 0
        · subst h0
          have HG : Hid (gridI xl yl zl = rowsI yl.length (zl.drop k)) := by have := hE.out; rwa [if_pos rfl] at this
          obtain ⟨b, off, rfl, hrs⟩ := R1.2.2.1.at hlt
          obtain ⟨hcell, hlst, hlen⟩ := hrs k hlt
          have hs := rows_step yl.length zl k hlt
          have HN : Hid (gridI xl yl zl = if rowI yl.length (rowZ zl k) = 0 then rowsI yl.length (zl.drop (k + 1)) else rowI yl.length (rowZ zl k)) := HG.out.trans hs
          have HF := row_first (rowZ zl k) yl.length
          have kw : ∀ u, Lst u (A k) (rowZ zl k) → Calls Try.prog 26 #[.slice (A k) (rowZ zl k).length (C k)] u fun r w' => r = .returned (.int .i64 (worthI (rowZ zl k))) ∧ w' = u := fun u hu => worth_any (A k) (C k) (rowZ zl k) u hlen hu
          have HFH : Hid (∀ e : Int, (e = if (((rowZ zl k).length : Int) != (yl.length : Int)) = true then 3 else 0) → firstI [e, worthI (rowZ zl k)] = rowI yl.length (rowZ zl k)) := HF
          have Z1 : Hid (∀ u, Below wr.heap.size wr u → (u.cell? ⟨w.heap.size, 1, none⟩ = some (.slice y yl.length cy) ∧ u.cell? ⟨w.heap.size, 2, none⟩ = some (.slice (some ⟨b, off, none⟩) zl.length cz) ∧ u.cell? ⟨b, off + k, none⟩ = some (.slice (A k) (rowZ zl k).length (C k))) ∧ Lst u (A k) (rowZ zl k) ∧ Below wr.heap.size wr u) := fun u hb => ⟨⟨cell_later hb d1, cell_later hb d2, cell_later hb hcell⟩, hlst.later hb, hb⟩
          have HK : Hid (∀ u, Below wr.heap.size wr u → _) := fun u hb => keepG hb ⟨⟨d0, d1, d2⟩, R1⟩
          clear hE HG hrs hs HF hlen hlst R1
          generalize (rowZ zl k).length = lr at *
          generalize worthI (rowZ zl k) = wl at *
          generalize rowI yl.length (rowZ zl k) = rw' at *
          go_upto_region 5 with fail
          clear hcell d0 d1 d2
          go_region_held3 (fun u => (u.cell? ⟨w.heap.size, 1, none⟩ = some (.slice y yl.length cy) ∧ u.cell? ⟨w.heap.size, 2, none⟩ = some (.slice (some ⟨b, off, none⟩) zl.length cz) ∧ u.cell? ⟨b, off + k, none⟩ = some (.slice (A k) lr (C k))) ∧ Lst u (A k) (rowZ zl k) ∧ Below wr.heap.size wr u)
            (first
              | (with_reducible assumption)
              | (refine Z1.out _ ?_; exact (Below.refl _ _).drew)
              | (refine Z1.out _ ?_; exact ((Below.refl _ _).alloc (Nat.le_refl _) _).drew))
            (first
              | (go_at_call 24; refine (when_named _ _ _).mono ?_; rintro e w' ⟨v, rfl, hv, rfl⟩)
              | (go_at_call 26; refine (kw _ ?_).mono ?_; (refine (Z1.out _ ?_).2.1; exact (Below.refl _ _).drew); rintro e w' ⟨rfl, rfl⟩)
              | (go_at_call 13; refine (first_drew2 _ _ _ _).mono ?_; rintro e w' ⟨rfl, rfl⟩))
          all_goals (
            rename_i hH
            have K := HK.out _ hH.2.2
            have HV := HFH.out _ hv.out
            clear hH Z1 HK kw
            rw [HV]
            clear HV HFH
            go_wp2_with fail
            go_roundw
            case rel => exact ⟨k + 1, rw', by omega, by go_num, rfl, HN, K.1, K.2⟩
            case measure => simp [intOf]; omega)
        · have h0' : (er == 0) = false := by simpa using h0
          have HG : Hid (gridI xl yl zl = er) := by have := hE.out; rwa [if_neg h0] at this
          clear hE h0
          go_wp2_with fail
          go_ret
          exact ⟨by rw [HG.out]; rfl, R1.2.2.2⟩
      · have HG : Hid (gridI xl yl zl = er) := by
          have := hE.out
          have e : k = zl.length := by omega
          rw [e, List.drop_length] at this
          by_cases q : er = 0
          · rw [if_pos q] at this; rw [q]; exact this
          · rwa [if_neg q] at this
        clear hE
        go_wp2_with fail
        go_ret
        exact ⟨by rw [HG.out]; rfl, R1.2.2.2⟩

end Go.Proofs.Ytngedehfaidphaa
