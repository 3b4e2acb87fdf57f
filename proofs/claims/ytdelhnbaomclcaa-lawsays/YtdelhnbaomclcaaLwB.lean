/-
  Contract of law.Wanted; the law LawSays, walked: it returns true, and nothing that was there has turned.
-/
import Derived.Test.YtdelhnbaomclcaaLwA
namespace Go.Proofs.Ytdelhnbaomclcaa
open Go.RowKit Plain

abbrev He := Int × Int × Int
def heAt (l : List He) (k : Nat) : He := l.getD k (0, 0, 0)
/-- Healths lie at an address. -/
def HLs (w : World) (a : Option Addr) (l : List He) : Prop := l = [] ∨ ∃ b off, a = some ⟨b, off, none⟩ ∧ ∀ k, k < l.length → w.cell? ⟨b, off + k * 3, none⟩ = some (.int .i64 (heAt l k).1) ∧ w.cell? ⟨b, off + k * 3 + 1, none⟩ = some (.int .i64 (heAt l k).2.1) ∧ w.cell? ⟨b, off + k * 3 + 2, none⟩ = some (.int .i64 (heAt l k).2.2)
theorem HLs.later {w w' : World} {a : Option Addr} {l : List He} (h : HLs w a l) (hb : Below w.heap.size w w') : HLs w' a l := by
  rcases h with h | ⟨b, off, h, hc⟩
  · exact .inl h
  · exact .inr ⟨b, off, h, fun k hk => ⟨cell_later hb (hc k hk).1, cell_later hb (hc k hk).2.1, cell_later hb (hc k hk).2.2⟩⟩
theorem HLs.at {w : World} {a : Option Addr} {l : List He} (h : HLs w a l) {k : Nat} (hk : k < l.length) : ∃ b off, a = some ⟨b, off, none⟩ ∧ w.cell? ⟨b, off + k * 3, none⟩ = some (.int .i64 (heAt l k).1) ∧ w.cell? ⟨b, off + k * 3 + 1, none⟩ = some (.int .i64 (heAt l k).2.1) ∧ w.cell? ⟨b, off + k * 3 + 2, none⟩ = some (.int .i64 (heAt l k).2.2) := by
  rcases h with h | ⟨b, off, h, hc⟩
  · subst h; simp at hk
  · exact ⟨b, off, h, hc k hk⟩

/-- What is wrong of the first k; the worst law that they ask for. -/
def weU (l : List He) : Nat → Int
  | 0 => 0
  | k + 1 => firstI [weU l k, heE (heAt l k).1 (heAt l k).2.1 (heAt l k).2.2]
def wlU (l : List He) : Nat → Int
  | 0 => 0
  | k + 1 => mxL (wlU l k) (lawI (heAt l k).1 (heAt l k).2.1 (heAt l k).2.2)
theorem weU_step (l : List He) (k : Nat) : weU l (k + 1) = if weU l k = 0 then heE (heAt l k).1 (heAt l k).2.1 (heAt l k).2.2 else weU l k := by
  simp only [weU, firstI]
  split
  · split
    · rename_i h; rw [h]
    · rfl
  · rfl
theorem weU_stay {l : List He} {k : Nat} (h : weU l k ≠ 0) : ∀ m, k ≤ m → weU l m = weU l k := by
  intro m hm
  induction m with
  | zero => have : k = 0 := by omega
            subst this; rfl
  | succ m ih =>
    by_cases e : k = m + 1
    · subst e; rfl
    · have i := ih (by omega)
      rw [weU_step, i, if_neg h]
/-- What Wanted answers. -/
def waI (l : List He) : Int := if weU l l.length = 0 then wlU l l.length else 0

set_option maxRecDepth 100000 in
set_option maxHeartbeats 2000000 in
theorem wanted_any (l : List He) (a : Option Addr) (cap : Nat) (hl : l.length ≤ 9223372036854775807) (w : World) (hv : HLs w a l) :
    Calls Try.prog 19 #[.slice a l.length cap] w fun e w' => e = .returned (.tuple #[.int .i64 (waI l), errV (weU l l.length)]) ∧ Below w.heap.size w w' := by
  have HV := ahide hv
  clear hv
  go_enter Try.func19, Try.ntmps19
  go_wp2
  go_loopw [4, 10] (fun s i wr => ∃ k : Nat, k ≤ l.length ∧ i = .int .i64 k ∧ s = .int .i64 (wlU l k) ∧ Hid (weU l k = 0) ∧ Below w.heap.size w wr) (fun _ i _ => l.length - (intOf i).toNat)
  case atStart => exact ⟨0, Nat.zero_le _, rfl, rfl, rfl, Below.refl _ _⟩
  case round =>
    obtain ⟨k, hk, rfl, rfl, hE, hb⟩ := hrel
    by_cases hlt : k < l.length
    · obtain ⟨bl, ol, rfl, d0, d1, d2⟩ := (HV.out.later hb).at hlt
      have HS := ahide (weU_step l k)
      have HL := ahide (show wlU l (k + 1) = mxL (wlU l k) (lawI (heAt l k).1 (heAt l k).2.1 (heAt l k).2.2) from rfl)
      have j0 : (0 : Int) ≤ (k : Int) := by omega
      have j1 : (k : Int) < (l.length : Int) := by omega
      have HB := ahide hb
      clear hb
      by_cases hz : heE (heAt l k).1 (heAt l k).2.1 (heAt l k).2.2 = 0
      · have hc := lawCheck_any (heAt l k).1 (heAt l k).2.1 (heAt l k).2.2
        have hq := asked_any (heAt l k).1 (heAt l k).2.1 (heAt l k).2.2 (heE_zero hz)
        have hm := worse_any (wlU l k) (lawI (heAt l k).1 (heAt l k).2.1 (heAt l k).2.2)
        rw [hz, errV_zero] at hc
        have HZ := ahide (show weU l (k + 1) = 0 by rw [HS.out, if_pos hE.out, hz])
        clear hz HS
        generalize mxL (wlU l k) (lawI (heAt l k).1 (heAt l k).2.1 (heAt l k).2.2) = m at *
        generalize lawI (heAt l k).1 (heAt l k).2.1 (heAt l k).2.2 = q at *
        generalize wlU l k = s at *
        generalize (heAt l k).1 = x0 at *
        generalize (heAt l k).2.1 = x1 at *
        generalize (heAt l k).2.2 = x2 at *
        go_wp2_with (first
          | (go_at_call 17; refine (hc _).mono ?_; rintro e w1 ⟨rfl, hb1⟩; have c0 := cell_later hb1 (a := ⟨wr.heap.size, 0, none⟩) (v := .int .i64 x0) (by simp [go_sem]); have c1 := cell_later hb1 (a := ⟨wr.heap.size, 1, none⟩) (v := .int .i64 x1) (by simp [go_sem]); have c2 := cell_later hb1 (a := ⟨wr.heap.size, 2, none⟩) (v := .int .i64 x2) (by simp [go_sem]))
          | (go_at_call 45; refine (hq _).mono ?_; rintro e w2 ⟨rfl, hb2⟩)
          | (go_at_call 44; refine (hm _).mono ?_; rintro e w' ⟨rfl, hw⟩; have hw := hw.symm; subst hw))
        go_roundw
        case rel => exact ⟨k + 1, by omega, by go_num, by rw [HL.out], HZ, abelow_up HB.out (abelow_up (abelow_alloc _ _) (abelow_up hb1 hb2))⟩
        case measure => simp [intOf]; omega
      · have hc := lawCheck_any (heAt l k).1 (heAt l k).2.1 (heAt l k).2.2
        rw [errV_ne hz] at hc
        have hs : weU l (k + 1) = heE (heAt l k).1 (heAt l k).2.1 (heAt l k).2.2 := by rw [HS.out, if_pos hE.out]
        have hf : weU l l.length = heE (heAt l k).1 (heAt l k).2.1 (heAt l k).2.2 := by rw [weU_stay (k := k + 1) (by rw [hs]; exact hz) _ (by omega), hs]
        have HZ := ahide (show waI l = 0 ∧ errV (weU l l.length) = .iface 23 (.int .i64 (heE (heAt l k).1 (heAt l k).2.1 (heAt l k).2.2)) by
          refine ⟨?_, ?_⟩
          · unfold waI; rw [if_neg (by rw [hf]; exact hz)]
          · rw [hf, errV_ne hz])
        clear hz HS hs hf
        generalize heE (heAt l k).1 (heAt l k).2.1 (heAt l k).2.2 = q at *
        generalize wlU l k = s at *
        generalize (heAt l k).1 = x0 at *
        generalize (heAt l k).2.1 = x1 at *
        generalize (heAt l k).2.2 = x2 at *
        go_wp2_with (first
          | (go_at_call 17; refine (hc _).mono ?_; rintro e w1 ⟨rfl, hb1⟩))
        go_ret2
        exact ⟨by rw [HZ.out.1, HZ.out.2]; rfl, abelow_up HB.out (abelow_up (abelow_alloc _ _) hb1)⟩
    · have e : k = l.length := by omega
      subst e
      have HZ := ahide (show waI l = wlU l l.length ∧ errV (weU l l.length) = .nilIface by
        unfold waI; rw [if_pos hE.out, hE.out]; exact ⟨rfl, rfl⟩)
      generalize wlU l l.length = s at *
      go_wp2
      go_ret2
      exact ⟨by rw [HZ.out.1, HZ.out.2]; rfl, hb⟩

end Go.Proofs.Ytdelhnbaomclcaa
