/-
  The contract of fcc.firstError: what the first closure that has an error says.
-/
import Derived.Test.YtaonbbimnenehaaDoorAsA
import Derived.Test.YtaonbbimnenehaaDoorActA
import Derived.Shelf.Abstract
namespace Go.Proofs.YtaonbbimnenehaaDoor
open Go.RowKit Plain

/-- The first one that is not nought. -/
def fstN (e : Nat → Int) : Nat → Int
  | 0 => 0
  | n + 1 => if fstN e n = 0 then e n else fstN e n
theorem fstN_zero {e : Nat → Int} : ∀ {n : Nat}, (∀ j, j < n → e j = 0) → fstN e n = 0
  | 0, _ => rfl
  | n + 1, h => by
    have := fstN_zero (n := n) (fun j hj => h j (by omega))
    simp [fstN, this, h n (by omega)]
theorem fstN_at {e : Nat → Int} {k : Nat} (h : ∀ j, j < k → e j = 0) (hk : e k ≠ 0) : ∀ {n : Nat}, k < n → fstN e n = e k
  | 0, hn => by omega
  | n + 1, hn => by
    rcases Nat.lt_or_ge k n with h' | h'
    · have := fstN_at h hk h'
      simp only [fstN, this, if_neg hk]
    · obtain rfl : k = n := by omega
      simp only [fstN, fstN_zero h, if_true]
theorem fstN_all {e : Nat → Int} : ∀ {n : Nat}, fstN e n = 0 → ∀ j, j < n → e j = 0
  | 0, _, j, hj => by omega
  | n + 1, h, j, hj => by
    have h0 : fstN e n = 0 := by
      unfold fstN at h
      split at h
      · assumption
      · exact h
    rcases Nat.lt_or_ge j n with h' | h'
    · exact fstN_all h0 j h'
    · obtain rfl : j = n := by omega
      simpa [fstN, h0] using h

/-- Closures lie at an address. -/
def Clos (w : World) (a : Option Addr) (n : Nat) (g : Nat → Nat) (cb : Nat → Array Value) : Prop := n = 0 ∨ ∃ b off, a = some ⟨b, off, none⟩ ∧ ∀ k, k < n → w.cell? ⟨b, off + k, none⟩ = some (.func (.func (g k)) #[] (cb k))
theorem Clos.later {w w' : World} {a : Option Addr} {n : Nat} {g : Nat → Nat} {cb : Nat → Array Value} (h : Clos w a n g cb) (hb : Below w.heap.size w w') : Clos w' a n g cb := by
  rcases h with h | ⟨b, off, h, hc⟩
  · exact .inl h
  · exact .inr ⟨b, off, h, fun k hk => cell_later hb (hc k hk)⟩
theorem Clos.at {w : World} {a : Option Addr} {n : Nat} {g : Nat → Nat} {cb : Nat → Array Value} (h : Clos w a n g cb) {k : Nat} (hk : k < n) : ∃ b off, a = some ⟨b, off, none⟩ ∧ w.cell? ⟨b, off + k, none⟩ = some (.func (.func (g k)) #[] (cb k)) := by
  rcases h with rfl | ⟨b, off, h', hc⟩
  · omega
  · exact ⟨b, off, h', hc k hk⟩
theorem below_as {w u : World} {t : Nat} (hb : Below w.heap.size w u) (ht : w.heap.size ≤ t) (o1 o2 o3 o4 : Obj) (v : Value) : Below w.heap.size w (((((u.alloc o1).alloc o2).alloc o3).alloc o4).setCell ⟨t, 0, none⟩ v) :=
  ((((hb.alloc hb.size _).alloc (by have := hb.size; simp; omega) _).alloc (by have := hb.size; simp; omega) _).alloc (by have := hb.size; simp; omega) _).setCell ht _

theorem as_cell {u : World} {t : Nat} {x : Value} (h : u.cell? ⟨t, 0, none⟩ = some x) (o1 o2 o3 o4 : Obj) (v : Value) : (((((u.alloc o1).alloc o2).alloc o3).alloc o4).setCell ⟨t, 0, none⟩ v).cell? ⟨t, 0, none⟩ = some v := by
  have h1 := cell_later (abelow_alloc _ o4) (cell_later (abelow_alloc _ o3) (cell_later (abelow_alloc _ o2) (cell_later (abelow_alloc u o1) h)))
  exact World.cell?_setCell_same' _ _ _ (by rw [h1]; rfl)
/-- .. in a box of one's own. -/
theorem as_box (e : Int) (w0 : World) (B : Nat) (w : World) (hg : GV w) (hx : w.cell? ⟨B, 0, none⟩ = some (.int .i64 0) ∧ w.frozen? ⟨B, 0, none⟩ = false) (hb : Below w0.heap.size w0 w) (hB : w0.heap.size ≤ B) :
    Calls Tryd.prog 49 #[.iface 31 (.int .i64 e), .iface 95 (.pointer (some ⟨B, 0, none⟩))] w fun ev w' => ev = .returned (.bool true) ∧ w'.cell? ⟨B, 0, none⟩ = some (.int .i64 e) ∧ Below w0.heap.size w0 w' :=
  (as_hit e ⟨B, 0, none⟩ (.int .i64 0) w hg hx.1 hx.2).mono fun _ _ h => ⟨h.1, by rw [h.2]; exact as_cell hx.1 _ _ _ _ _, by rw [h.2]; exact below_as hb hB _ _ _ _ _⟩
set_option maxHeartbeats 4000000 in
theorem firstError_any (a : Option Addr) (n cap : Nat) (g : Nat → Nat) (cb : Nat → Array Value) (e : Nat → Int) (hn : n ≤ 1000) (w : World) (hc : Clos w a n g cb) (hg : GV w)
    (hent : ∀ k, k < n → ∀ args w, (callFunc (g k) args).run Tryd.prog w = .ok (.enter (g k) args) w)
    (hcall : ∀ k, k < n → (∀ j, j < k → e j = 0) → ∀ u, Below w.heap.size w u → Calls Tryd.prog (g k) (cb k) u fun r u' => r = .returned (errV (e k)) ∧ Below u.heap.size u u') :
    Calls Tryd.prog 22 #[.slice a n cap] w fun r w' => r = .returned (errV (fstN e n)) ∧ Below w.heap.size w w' := by
  have HC := ahide hc
  have HG := ahide hg
  have HK := ahide hcall
  have HE := ahide hent
  clear hc hg hcall hent
  go_enter Tryd.func22, Tryd.ntmps22
  go_wp2
  go_loopw [8] (fun i wr => ∃ k : Nat, k ≤ n ∧ i = .int .i64 k ∧ Hid (∀ j, j < k → e j = 0) ∧ Below w.heap.size w wr) (fun i _ => n - (intOf i).toNat)
  case atStart => exact ⟨0, Nat.zero_le _, rfl, ahide (fun j hj => absurd hj (by omega)), Below.refl _ _⟩
  case round =>
    obtain ⟨k, hk, rfl, HZ, hb⟩ := hrel
    have HB := ahide hb
    by_cases hlt : k < n
    · obtain ⟨b, off, rfl, hcell⟩ := (HC.out.later hb).at hlt
      have hen := HE.out k hlt
      have hB1 := abelow_up hb (abelow_alloc wr (.cells #[.int .i64 0] 31))
      have hca := HK.out k hlt HZ.out _ hB1
      have HZ1 := ahide (fun h => (fun j hj => by rcases Nat.lt_or_ge j k with h' | h'; exact HZ.out j h'; rw [show j = k by omega]; exact h : ∀ j, j < k + 1 → e j = 0))
      have HF := ahide (fun h => fstN_at HZ.out h hlt)
      have HB1 := ahide hB1
      have HX : Hid ((wr.alloc (.cells #[.int .i64 0] 31)).cell? ⟨wr.heap.size, 0, none⟩ = some (.int .i64 0) ∧ (wr.alloc (.cells #[.int .i64 0] 31)).frozen? ⟨wr.heap.size, 0, none⟩ = false ∧ wr.heap.size < (wr.alloc (.cells #[.int .i64 0] 31)).heap.size) := ahide ⟨by simp [go_sem], by simp [go_sem], by simp⟩
      clear hb hB1 HZ
      generalize g k = gk at *
      generalize cb k = ck at *
      by_cases hz : e k = 0
      · rw [hz, errV_zero] at hca
        have HZ2 := ahide (HZ1.out hz)
        clear hz HZ1 HF HX
        go_wp2_with (first
          | (go_at_fn gk; refine hca.mono ?_; rintro r w1 ⟨rfl, hb1⟩; have HB2 := ahide (abelow_up HB1.out hb1); clear hb1)
          | (go_at_call 49; refine (as_nil _ _).mono ?_; rintro r w2 ⟨rfl, rfl⟩))
        go_roundw
        case rel => exact ⟨k + 1, by omega, by go_num, HZ2, HB2.out⟩
        case measure => simp [intOf]; omega
      · rw [errV_ne hz] at hca
        have HF2 : Hid (errV (fstN e n) = .iface 31 (.int .i64 (e k))) := ahide (by rw [HF.out hz, errV_ne hz])
        have HBL := ahide HB.out.size
        clear hz HZ1 HF
        generalize e k = ek at *
        go_wp2_with (first
          | (go_at_fn gk; refine hca.mono ?_; rintro r w1 ⟨rfl, hb1⟩; have HB2 := ahide (abelow_up HB1.out hb1); have HG1 := ahide (HG.out.later HB2.out); have HX1 : Hid (w1.cell? ⟨wr.heap.size, 0, none⟩ = some (.int .i64 0) ∧ w1.frozen? ⟨wr.heap.size, 0, none⟩ = false) := ahide ⟨cell_later hb1 HX.out.1, (hb1.frozen (p := ⟨wr.heap.size, 0, none⟩) HX.out.2.2).trans HX.out.2.1⟩; clear hb1 hca)
          | (go_at_call 49; refine (as_box ek w wr.heap.size w1 HG1.out HX1.out HB2.out HBL.out).mono ?_; rintro r w2 ⟨rfl, hc2, hb3⟩; have HB3 := ahide hb3; clear hb3))
        go_ret
        exact ⟨by rw [HF2.out]; rfl, HB3.out⟩
    · obtain rfl : k = n := by omega
      have HF := ahide (fstN_zero HZ.out)
      clear hb
      go_wp2
      go_ret
      exact ⟨by rw [HF.out, errV_zero]; rfl, HB.out⟩

end Go.Proofs.YtaonbbimnenehaaDoor
