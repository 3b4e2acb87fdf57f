/-
  Contracts of table.ends, table.stand, table.along, table.Check, table.Look, table.Rises: each returns what the plain words say, and nothing that was there has turned.
-/
import Derived.Test.YthijegfacnjooaaLineC
namespace Go.Proofs.Ythijegfacnjooaa
open Go.RowKit Plain

theorem wrap_id {x : Int} (h1 : -9223372036854775808 ≤ x) (h2 : x ≤ 9223372036854775807) : IntKind.i64.wrap x = x := by
  rw [IntKind.wrap_i64]; omega

theorem ends_any (b off cap : Nat) (l : List Int) (w : World) (hm : l.length ≤ 9223372036854775807) (hl : 0 < l.length) (hc : ∀ k, k < l.length → w.cell? ⟨b, off + k, none⟩ = some (.int .i64 (at0 l k))) :
    Calls Try.prog 124 #[.slice (some ⟨b, off, none⟩) l.length cap] w fun r w' => r = .returned (.tuple #[.int .i64 (at0 l 0), .int .i64 (at0 l (l.length - 1))]) ∧ ∃ n, w' = w.drewN n := by
  have c0 := hc 0 hl
  have c1 := hc (l.length - 1) (by omega)
  clear hc
  rw [Nat.add_zero] at c0
  generalize at0 l 0 = y at *
  generalize at0 l (l.length - 1) = z at *
  have t1 : ((l.length : Int) - 1).toNat = l.length - 1 := by omega
  go_enter Try.func124, Try.ntmps124
  go_wp2
  go_quiet (fail)
  go_wp2
  go_ret2
  exact ⟨rfl, _, rfl⟩

theorem stand_any (b off cap : Nat) (l : List Int) (x : Int) (w : World) (p : Places l) (hc : ∀ k, k < l.length → w.cell? ⟨b, off + k, none⟩ = some (.int .i64 (at0 l k))) :
    Calls Try.prog 114 #[.slice (some ⟨b, off, none⟩) l.length cap, .int .i64 x] w fun r w' => ∃ i : Nat, r = .returned (.tuple #[.int .i64 i, .int .i64 (clipE l x - at0 l i), .int .i64 (at0 l (i + 1) - clipE l x)]) ∧ Stands l (clipE l x) i ∧ ∃ n, w' = w.drewN n := by
  have hl2 := p.lo
  have hl8 := p.hi
  have HP : Hid (Places l) := p
  have HC : Hid (∀ k, k < l.length → w.cell? ⟨b, off + k, none⟩ = some (.int .i64 (at0 l k))) := hc
  have he := ends_any b off cap l w (by omega) (by omega) hc
  have hb := clipE_bd p x
  have w0 := worth_all p.worth 0 (by omega)
  have w1 := worth_all p.worth (l.length - 1) (by omega)
  have hx : clipI x (at0 l 0) (at0 l (l.length - 1)) = clipE l x := rfl
  have c0 : -1000000 ≤ clipE l x := by omega
  have c1 : clipE l x ≤ 1000000 := by omega
  have HB : Hid (at0 l 0 ≤ clipE l x ∧ clipE l x ≤ at0 l (l.length - 1)) := hb
  have hk : ∀ w, Calls Try.prog 44 #[.int .i64 x, .int .i64 (at0 l 0), .int .i64 (at0 l (l.length - 1))] w fun e w' => e = .returned (.int .i64 (clipE l x)) ∧ w' = w := fun w => fixClip_any x _ _ w
  clear hc hb w0 w1 hx p
  generalize clipE l x = c at *
  generalize hy : at0 l 0 = y at he hk
  generalize hz : at0 l (l.length - 1) = z at he hk
  go_enter Try.func114, Try.ntmps114
  go_wp2_with (first
    | (go_at_call 124; refine he.mono ?_; rintro e w' ⟨rfl, n, rfl⟩)
    | (go_at_call 44; refine (hk _).mono ?_; rintro e w' ⟨rfl, rfl⟩))
  clear he hk hy hz
  go_loop [4] (fun i => ∃ k : Nat, k + 1 < l.length ∧ i = .int .i64 k ∧ Hid (at0 l k ≤ c)) (fun i => l.length - (intOf i).toNat)
  case atStart => exact ⟨0, by omega, rfl, HB.out.1⟩
  case round =>
    obtain ⟨k, hk, rfl, hf⟩ := hrel
    have hcell1 := HC.out (k + 1) hk
    have hcell0 := HC.out k (by omega)
    have q0 := worth_all HP.out.worth k (by omega)
    have q1 := worth_all HP.out.worth (k + 1) hk
    have t1 : ((k : Int) + 1).toNat = k + 1 := by omega
    by_cases hlt : k + 2 < l.length
    · by_cases hz : at0 l (k + 1) ≤ c
      · clear hf q0 q1 hcell0
        have HS : Hid (at0 l (k + 1) ≤ c) := hz
        generalize at0 l (k + 1) = z at hcell1 hz
        go_wp2
        go_round
        case rel => exact ⟨k + 1, by omega, by go_num, HS⟩
        case measure => simp [intOf]; omega
      · have HS : Hid (Stands l c k) := ⟨hk, hf.out, by omega, fun _ => by omega⟩
        clear hf
        generalize hz1 : at0 l (k + 1) = z at *
        generalize hz0 : at0 l k = y at *
        go_wp2
        go_quiet (fail)
        go_wp2
        refine bodyPost_ret (v := .tuple #[.int .i64 k, .int .i64 (c - y), .int .i64 (z - c)]) (by simp [results, Try.results114, go_sem]) rfl ⟨k, by rw [hz1, hz0], HS, ?_⟩
        exact ⟨_, World.drewN_drewN _ _ _⟩
    · have HS : Hid (Stands l c k) := ⟨hk, hf.out, by have := HB.out.2; rw [show l.length - 1 = k + 1 by omega] at this; exact this, fun h => absurd h hlt⟩
      have hlt' : ¬ (k : Int) + 2 < (l.length : Int) := by omega
      clear hf
      generalize hz1 : at0 l (k + 1) = z at *
      generalize hz0 : at0 l k = y at *
      go_wp2
      go_quiet (fail)
      go_wp2
      refine bodyPost_ret (v := .tuple #[.int .i64 k, .int .i64 (c - y), .int .i64 (z - c)]) (by simp [results, Try.results114, go_sem]) rfl ⟨k, by rw [hz1, hz0], HS, ?_⟩
      exact ⟨_, World.drewN_drewN _ _ _⟩

end Go.Proofs.Ythijegfacnjooaa
