/-
  Contracts of table.along, table.Check, table.Look, table.Rises: each returns what the plain words say, and nothing that was there has turned.
-/
import Derived.Test.YthijegfacnjooaaLineD
namespace Go.Proofs.Ythijegfacnjooaa
open Go.RowKit Plain

/-- A line as a value. -/
def lineV (ba oa ca la bz oz cz lz : Nat) : Value := .agg #[.slice (some ⟨ba, oa, none⟩) la ca, .slice (some ⟨bz, oz, none⟩) lz cz]

theorem along_any (ba oa ca bz oz cz : Nat) (a z : List Int) (x : Int) (w : World) (p : Places a) (hz : worthI z = 0) (hlen : a.length = z.length)
    (ha : ∀ k, k < a.length → w.cell? ⟨ba, oa + k, none⟩ = some (.int .i64 (at0 a k))) (hi : ∀ k, k < z.length → w.cell? ⟨bz, oz + k, none⟩ = some (.int .i64 (at0 z k))) :
    Calls Try.prog 100 #[.agg #[.slice (some ⟨ba, oa, none⟩) a.length ca, .slice (some ⟨bz, oz, none⟩) z.length cz], .int .i64 x] w fun r w' => r = .returned (.int .i64 (lookI a z x)) ∧ Below w.heap.size w w' := by
  have hl2 := p.lo
  have hl8 := p.hi
  have HP : Hid (Places a ∧ worthI z = 0 ∧ a.length = z.length) := ⟨p, hz, hlen⟩
  have hA : ∀ o, Below w.heap.size w (w.alloc o) := fun o => (Below.refl _ _).alloc (Nat.le_refl _) o
  have HI : Hid (∀ k, k < z.length → w.cell? ⟨bz, oz + k, none⟩ = some (.int .i64 (at0 z k))) := hi
  have hs : ∀ o, Calls Try.prog 114 #[.slice (some ⟨ba, oa, none⟩) a.length ca, .int .i64 x] (w.alloc o) _ := fun o => stand_any ba oa ca a x (w.alloc o) p (fun k hk => cell_later (hA o) (ha k hk))
  clear ha hi p hz hlen
  go_enter Try.func100, Try.ntmps100
  go_upto_region 2 with (go_at_call 114; refine (hs _).mono ?_; rintro e w' ⟨i, rfl, st, n, rfl⟩)
  have i1 := st.lt
  have i2 : i + 1 < z.length := by have := HP.out.2.2; omega
  have HL : Hid (lookI a z x = heightI a z (clipE a x) i) := look_stands HP.out.1 st
  have q0 := worth_all HP.out.1.worth i (by omega)
  have q1 := worth_all HP.out.1.worth (i + 1) (by omega)
  have r0 := worth_all HP.out.2.1 i (by omega)
  have r1 := worth_all HP.out.2.1 (i + 1) (by omega)
  have u := HP.out.1.up i (by omega)
  have s0 := st.past
  have s1 := st.left
  obtain ⟨w1, hw1⟩ : ∃ w1, (w.alloc (.cells #[.slice (some ⟨ba, oa, none⟩) a.length ca, .slice (some ⟨bz, oz, none⟩) z.length cz] 63)).drewN n = w1 := ⟨_, rfl⟩
  have b1 : w1.cell? ⟨w.heap.size, 1, none⟩ = some (.slice (some ⟨bz, oz, none⟩) z.length cz) := by rw [← hw1]; simp [go_sem]
  have hB : Below w.heap.size w w1 := by rw [← hw1]; exact below_drewN (hA _) _
  rw [hw1]
  clear hw1
  have c0 := cell_later hB (HI.out i (by omega))
  have c1 := cell_later hB (HI.out (i + 1) (by omega))
  unfold heightI at HL
  clear st hs
  generalize clipE a x = c at *
  generalize at0 a i = a0 at *
  generalize at0 a (i + 1) = a1 at *
  generalize at0 z i = z0 at *
  generalize at0 z (i + 1) = z1 at *
  have t1 : ((i : Int) + 1).toNat = i + 1 := by omega
  obtain ⟨f, hf⟩ : ∃ f, f = a1 - c := ⟨_, rfl⟩
  obtain ⟨g, hg⟩ : ∃ g, g = c - a0 := ⟨_, rfl⟩
  have f0 : 0 ≤ f := by omega
  have g0 : 0 ≤ g := by omega
  have fg : 0 < f + g := by omega
  have fg' : f + g ≤ 2000000 := by omega
  have m0 := mul_bdT (a := z0) (b := f) (A := 1000000) (B := 2000000) (by omega) (by omega) (by omega) (by omega)
  have m1 := mul_bdT (a := z1) (b := g) (A := 1000000) (B := 2000000) (by omega) (by omega) (by omega) (by omega)
  have ew : a1 - a0 = g + f := by omega
  rw [← hf, ← hg, ew] at HL
  rw [← hf, ← hg]
  clear hf hg ew
  have hn : ∀ w, Calls Try.prog 115 #[.int .i64 (z0 * f + z1 * g), .int .i64 (g + f)] w _ := fun w => nearest_any (z0 * f + z1 * g) (g + f) (by omega) (by omega) (by omega) (by omega) w
  go_quiet ((go_at_call 115; exact Calls.quiet_of (hn _)))
  go_wp2
  go_ret
  exact ⟨by rw [HL.out]; rfl, below_drewN hB _⟩

end Go.Proofs.Ythijegfacnjooaa
