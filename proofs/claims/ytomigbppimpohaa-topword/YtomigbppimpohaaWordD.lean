/-
  Contracts of word.Unpack and fulmarref.ReadingOf: what a word says.
-/
import Derived.Test.YtomigbppimpohaaWordB
import Derived.BigRegion
namespace Go.Proofs.Ytomigbppimpohaa
open Go.RowKit Plain

/-- The parts of a word. -/
def labI (x : Int) : Int := Lib.rev8 (x % 256)
def srcI (x : Int) : Int := x / 256 % 4
def staI (x : Int) : Int := x / 536870912 % 4
def datI (x : Int) : Int := if 262143 < x / 1024 % 524288 then x / 1024 % 524288 - 524288 else x / 1024 % 524288
/-- What a word says, as a value. -/
def readV (x : Int) : Value := .agg #[.int .i64 (labI x), .int .i64 (srcI x), .int .i64 (staI x), .int .i64 (datI x)]

/-- That many bits of a word. -/
def partI (x a b : Int) : Int := x / 2 ^ a.toNat % 2 ^ b.toNat
theorem part_of (x a b : Int) (h0 : 0 ≤ x) (h1 : x < 4294967296) (h : (a = 8 ∧ b = 2) ∨ (a = 29 ∧ b = 2) ∨ (a = 10 ∧ b = 19)) (w : World) :
    Calls Try.prog 17 #[.int .u32 x, .int .i64 a, .int .i64 b] w fun e w' => e = .returned (.int .u32 (partI x a b)) ∧ ∃ k, w' = w.drewN k := by
  rcases h with ⟨rfl, rfl⟩ | ⟨rfl, rfl⟩ | ⟨rfl, rfl⟩
  · exact part_8_2 x h0 h1 w
  · exact part_29_2 x h0 h1 w
  · exact part_10_19 x h0 h1 w

/-- Four numbers lie in a block of their own. -/
def Box4 (w : World) (b : Nat) (x y z u : Int) : Prop :=
  w.cell? ⟨b, 0, none⟩ = some (.int .i64 x) ∧ w.cell? ⟨b, 1, none⟩ = some (.int .i64 y) ∧ w.cell? ⟨b, 2, none⟩ = some (.int .i64 z) ∧ w.cell? ⟨b, 3, none⟩ = some (.int .i64 u)
  ∧ w.frozen? ⟨b, 0, none⟩ = false ∧ w.frozen? ⟨b, 1, none⟩ = false ∧ w.frozen? ⟨b, 2, none⟩ = false ∧ w.frozen? ⟨b, 3, none⟩ = false ∧ b < w.heap.size
theorem Box4.new (w : World) (x y z u : Int) (T : TypeId) : Box4 (w.alloc (.cells #[.int .i64 x, .int .i64 y, .int .i64 z, .int .i64 u] T)) w.heap.size x y z u := by
  refine ⟨?_, ?_, ?_, ?_, ?_, ?_, ?_, ?_, ?_⟩ <;> simp [go_sem]
theorem Box4.later {w w' : World} {b : Nat} {x y z u : Int} (h : Box4 w b x y z u) (hb : Below w.heap.size w w') : Box4 w' b x y z u := by
  obtain ⟨h1, h2, h3, h4, h5, h6, h7, h8, h9⟩ := h
  exact ⟨cell_later hb h1, cell_later hb h2, cell_later hb h3, cell_later hb h4, (hb.frozen (p := ⟨b, 0, none⟩) h9).trans h5, (hb.frozen (p := ⟨b, 1, none⟩) h9).trans h6, (hb.frozen (p := ⟨b, 2, none⟩) h9).trans h7, (hb.frozen (p := ⟨b, 3, none⟩) h9).trans h8, Nat.lt_of_lt_of_le h9 hb.size⟩
theorem Box4.set {w : World} {b : Nat} {x y z u : Int} (h : Box4 w b x y z u) (p q r s : Int) :
    Box4 ((((w.setCell ⟨b, 0, none⟩ (.int .i64 p)).setCell ⟨b, 1, none⟩ (.int .i64 q)).setCell ⟨b, 2, none⟩ (.int .i64 r)).setCell ⟨b, 3, none⟩ (.int .i64 s)) b p q r s := by
  obtain ⟨h1, h2, h3, h4, h5, h6, h7, h8, h9⟩ := h
  exact ⟨by simp [go_sem, *], by simp [go_sem, *], by simp [go_sem, *], by simp [go_sem, *], by simp [go_sem, *], by simp [go_sem, *], by simp [go_sem, *], by simp [go_sem, *], by simpa [go_sem] using h9⟩
theorem Box4.set0 {w : World} {b : Nat} {x y z u : Int} (h : Box4 w b x y z u) (p : Int) : Box4 (w.setCell ⟨b, 0, none⟩ (.int .i64 p)) b p y z u := by
  obtain ⟨h1, h2, h3, h4, h5, h6, h7, h8, h9⟩ := h
  exact ⟨by simp [go_sem, *], by simp [go_sem, *], by simp [go_sem, *], by simp [go_sem, *], by simp [go_sem, *], by simp [go_sem, *], by simp [go_sem, *], by simp [go_sem, *], by simpa [go_sem] using h9⟩
theorem Box4.set1 {w : World} {b : Nat} {x y z u : Int} (h : Box4 w b x y z u) (p : Int) : Box4 (w.setCell ⟨b, 1, none⟩ (.int .i64 p)) b x p z u := by
  obtain ⟨h1, h2, h3, h4, h5, h6, h7, h8, h9⟩ := h
  exact ⟨by simp [go_sem, *], by simp [go_sem, *], by simp [go_sem, *], by simp [go_sem, *], by simp [go_sem, *], by simp [go_sem, *], by simp [go_sem, *], by simp [go_sem, *], by simpa [go_sem] using h9⟩
theorem Box4.set2 {w : World} {b : Nat} {x y z u : Int} (h : Box4 w b x y z u) (p : Int) : Box4 (w.setCell ⟨b, 2, none⟩ (.int .i64 p)) b x y p u := by
  obtain ⟨h1, h2, h3, h4, h5, h6, h7, h8, h9⟩ := h
  exact ⟨by simp [go_sem, *], by simp [go_sem, *], by simp [go_sem, *], by simp [go_sem, *], by simp [go_sem, *], by simp [go_sem, *], by simp [go_sem, *], by simp [go_sem, *], by simpa [go_sem] using h9⟩
theorem Box4.set3 {w : World} {b : Nat} {x y z u : Int} (h : Box4 w b x y z u) (p : Int) : Box4 (w.setCell ⟨b, 3, none⟩ (.int .i64 p)) b x y z p := by
  obtain ⟨h1, h2, h3, h4, h5, h6, h7, h8, h9⟩ := h
  exact ⟨by simp [go_sem, *], by simp [go_sem, *], by simp [go_sem, *], by simp [go_sem, *], by simp [go_sem, *], by simp [go_sem, *], by simp [go_sem, *], by simp [go_sem, *], by simpa [go_sem] using h9⟩
theorem Box4.else {w : World} {b c o : Nat} {x y z u : Int} {v : Value} (h : Box4 w b x y z u) (hc : c ≠ b) : Box4 (w.setCell ⟨c, o, none⟩ v) b x y z u := by
  obtain ⟨h1, h2, h3, h4, h5, h6, h7, h8, h9⟩ := h
  exact ⟨(World.cell?_setCell_other _ _ _ _ (fun e => hc (congrArg Addr.block e))).trans h1, (World.cell?_setCell_other _ _ _ _ (fun e => hc (congrArg Addr.block e))).trans h2, (World.cell?_setCell_other _ _ _ _ (fun e => hc (congrArg Addr.block e))).trans h3, (World.cell?_setCell_other _ _ _ _ (fun e => hc (congrArg Addr.block e))).trans h4, by simp [go_sem, h5], by simp [go_sem, h6], by simp [go_sem, h7], by simp [go_sem, h8], by simpa [go_sem] using h9⟩
theorem Box4.drew {w : World} {b : Nat} {x y z u : Int} (h : Box4 w b x y z u) : Box4 w.drew b x y z u := h.later (Below.refl _ _).drew
theorem below_set4 {B : Nat} {w0 w : World} {b : Nat} (hb : Below B w0 w) (h : B ≤ b) (p q r s : Value) :
    Below B w0 ((((w.setCell ⟨b, 0, none⟩ p).setCell ⟨b, 1, none⟩ q).setCell ⟨b, 2, none⟩ r).setCell ⟨b, 3, none⟩ s) :=
  (((hb.setCell h _).setCell h _).setCell h _).setCell h _

theorem unpack_no (x : Int) (h0 : 0 ≤ x) (h1 : x < 4294967296) (h : ¬ ones x 32 % 2 = 1) (w : World) :
    Calls Try.prog 11 #[.int .u32 x] w fun e w' => e = .returned (.tuple #[.agg #[.int .i64 0, .int .i64 0, .int .i64 0, .int .i64 0], errV 3]) ∧ Below w.heap.size w w' := by
  have ho := isOdd_any x h0 h1
  rw [decide_eq_false h] at ho
  rw [errV_ne (by decide)]
  clear h
  go_enter Try.func11, Try.ntmps11
  go_wp2_with (go_at_call 18; refine (ho _).mono ?_; rintro e w' ⟨rfl, k2, rfl⟩)
  have HX : Hid (Box4 ((w.alloc (.cells #[.int .i64 0, .int .i64 0, .int .i64 0, .int .i64 0] 23)).drewN k2) w.heap.size 0 0 0 0) := (Box4.new w 0 0 0 0 23).later (below_drewN (Below.refl _ _) _)
  have HB : Hid (Below w.heap.size w ((w.alloc (.cells #[.int .i64 0, .int .i64 0, .int .i64 0, .int .i64 0] 23)).drewN k2)) := below_drewN (below_alloc _ _) _
  generalize ((w.alloc (.cells #[.int .i64 0, .int .i64 0, .int .i64 0, .int .i64 0] 23)).drewN k2) = w1 at *
  have hx := HX.out.set 0 0 0 0
  have hb := below_set4 HB.out (Nat.le_refl _) (.int .i64 0) (.int .i64 0) (.int .i64 0) (.int .i64 0)
  generalize ((((w1.setCell ⟨w.heap.size, 0, none⟩ (.int .i64 0)).setCell ⟨w.heap.size, 1, none⟩ (.int .i64 0)).setCell ⟨w.heap.size, 2, none⟩ (.int .i64 0)).setCell ⟨w.heap.size, 3, none⟩ (.int .i64 0)) = w2 at *
  obtain ⟨c0, c1, c2, c3, _⟩ := hx
  exact bodyPost_ret (v := .tuple #[.agg #[.int .i64 0, .int .i64 0, .int .i64 0, .int .i64 0], .iface 24 (.int .i64 3)]) (by simp [results, Try.results11, go_sem, c0, c1, c2, c3]) rfl ⟨rfl, hb⟩

theorem unpack_yes (x : Int) (h0 : 0 ≤ x) (h1 : x < 4294967296) (h : ones x 32 % 2 = 1) (w : World) :
    Calls Try.prog 11 #[.int .u32 x] w fun e w' => e = .returned (.tuple #[readV x, .nilIface]) ∧ Below w.heap.size w w' := by
  have ho := isOdd_any x h0 h1
  rw [decide_eq_true h] at ho
  clear h
  have hr := rev_any (x % 256) (by omega) (by omega)
  have rb := rev_bounds (x % 256) (by omega) (by omega)
  have e1 : partI x 8 2 = x / 256 % 4 := rfl
  have e2 : partI x 29 2 = x / 536870912 % 4 := rfl
  have e3 : partI x 10 19 = x / 1024 % 524288 := rfl
  have hs := signed_any (x / 1024 % 524288) (by omega) (by omega)
  have b1 : 0 ≤ x / 256 % 4 ∧ x / 256 % 4 < 4 := by omega
  have b2 : 0 ≤ x / 536870912 % 4 ∧ x / 536870912 % 4 < 4 := by omega
  unfold readV labI srcI staI datI
  generalize (if 262143 < x / 1024 % 524288 then x / 1024 % 524288 - 524288 else x / 1024 % 524288) = dd at *
  generalize x / 1024 % 524288 = d at *
  generalize x / 256 % 4 = b at *
  generalize x / 536870912 % 4 = c at *
  generalize Lib.rev8 (x % 256) = a at *
  go_enter Try.func11, Try.ntmps11
  go_wp2_with (first
    | (go_at_call 18; refine (ho _).mono ?_; rintro e w' ⟨rfl, k0, rfl⟩)
    | (go_at_call 16; refine (hr _).mono ?_; rintro e w' ⟨rfl, rfl⟩)
    | (go_at_call 23; refine (hs _).mono ?_; rintro e w' ⟨rfl, rfl⟩)
    | (go_at_call 17; refine (part_of _ _ _ h0 h1 (by decide) _).mono ?_; rintro e w' ⟨rfl, k1, rfl⟩))
  rename_i ka kb
  generalize k0 + ka + kb + k1 = k2
  have HX : Hid (Box4 ((w.alloc (.cells #[.int .i64 0, .int .i64 0, .int .i64 0, .int .i64 0] 23)).drewN k2) w.heap.size 0 0 0 0) := (Box4.new w 0 0 0 0 23).later (below_drewN (Below.refl _ _) _)
  have HB : Hid (Below w.heap.size w ((w.alloc (.cells #[.int .i64 0, .int .i64 0, .int .i64 0, .int .i64 0] 23)).drewN k2)) := below_drewN (below_alloc _ _) _
  generalize ((w.alloc (.cells #[.int .i64 0, .int .i64 0, .int .i64 0, .int .i64 0] 23)).drewN k2) = w1 at *
  have hx := HX.out.set a b c dd
  have hb := below_set4 HB.out (Nat.le_refl _) (.int .i64 a) (.int .i64 b) (.int .i64 c) (.int .i64 dd)
  generalize ((((w1.setCell ⟨w.heap.size, 0, none⟩ (.int .i64 a)).setCell ⟨w.heap.size, 1, none⟩ (.int .i64 b)).setCell ⟨w.heap.size, 2, none⟩ (.int .i64 c)).setCell ⟨w.heap.size, 3, none⟩ (.int .i64 dd)) = w2 at *
  obtain ⟨c0, c1, c2, c3, _⟩ := hx
  exact bodyPost_ret (v := .tuple #[.agg #[.int .i64 a, .int .i64 b, .int .i64 c, .int .i64 dd], .nilIface]) (by simp [results, Try.results11, go_sem, c0, c1, c2, c3]) rfl ⟨rfl, hb⟩

end Go.Proofs.Ytomigbppimpohaa
