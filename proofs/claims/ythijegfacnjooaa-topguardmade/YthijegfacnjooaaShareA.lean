/-
  Contracts of share.lost.takes, share.free.takes, share.together, fulmarref.taken: what surfaces take at a level.
-/
import Derived.Test.YthijegfacnjooaaShareP
namespace Go.Proofs.Ythijegfacnjooaa
open Go.RowKit Plain

theorem lostTakes_any (v : Int) (w : World) :
    Calls Try.prog 143 #[.agg #[], .int .i64 v] w fun e w' => e = .returned (.int .i64 0) ∧ Below w.heap.size w w' := by
  go_enter Try.func143, Try.ntmps143
  go_wp2
  go_ret
  exact ⟨rfl, abelow_alloc _ _⟩
theorem freeTakes_any (lo hi v : Int) (w : World) :
    Calls Try.prog 144 #[.agg #[.int .i64 lo, .int .i64 hi], .int .i64 v] w fun e w' => e = .returned (.int .i64 (clipI v lo hi)) ∧ Below w.heap.size w w' := by
  go_enter Try.func144, Try.ntmps144
  go_wp2_with (go_at_call 44; refine (fixClip_any _ _ _ _).mono ?_; rintro e w' ⟨rfl, hq⟩; have hq := hq.symm; subst hq)
  go_ret
  exact ⟨rfl, abelow_alloc _ _⟩

theorem free_method (x x' : Value) (w : World) : Sem.run Try.prog (method 312 164 (.agg #[x, x']) "fulmar/share.takes") w = .ok (144, .agg #[x, x']) w := by kernel_rfl
theorem lost_method (w : World) : Sem.run Try.prog (method 312 163 (.agg #[]) "fulmar/share.takes") w = .ok (143, .agg #[]) w := by kernel_rfl

/-- Who takes a share of a servo. -/
def tv (T R : Int) (s : Sv) : Value := if s.2.2 then .iface 163 (.agg #[]) else .iface 164 (.agg #[.int .i64 (loR T R s.1 s.2.2), .int .i64 (hiR T R s.1 s.2.2)])
theorem tk_lost {T R v : Int} {s : Sv} (h : s.2.2 = true) : tk T R s v = 0 := by
  unfold tk loR hiR clipI; rw [h]; simp only [if_true]; split
  · rfl
  · split
    · rfl
    · split <;> omega
/-- Those who take lie at an address. -/
def WLs (w : World) (a : Option Addr) (T R : Int) (l : List Sv) : Prop := l = [] ∨ ∃ b off, a = some ⟨b, off, none⟩ ∧ ∀ k, k < l.length → w.cell? ⟨b, off + k, none⟩ = some (tv T R (svAt l k))
theorem WLs.later {w w' : World} {a : Option Addr} {T R : Int} {l : List Sv} (h : WLs w a T R l) (hb : Below w.heap.size w w') : WLs w' a T R l := by
  rcases h with h | ⟨b, off, h, hc⟩
  · exact .inl h
  · exact .inr ⟨b, off, h, fun k hk => cell_later hb (hc k hk)⟩
theorem WLs.at {w : World} {a : Option Addr} {T R : Int} {l : List Sv} (h : WLs w a T R l) {k : Nat} (hk : k < l.length) : ∃ b off, a = some ⟨b, off, none⟩ ∧ w.cell? ⟨b, off + k, none⟩ = some (tv T R (svAt l k)) := by
  rcases h with h | ⟨b, off, h, hc⟩
  · subst h; simp at hk
  · exact ⟨b, off, h, hc k hk⟩

set_option maxRecDepth 100000 in
set_option maxHeartbeats 1000000 in
theorem together_any (T R S C : Int) (l : List Sv) (v : Int) (a : Option Addr) (cap : Nat) (hok : AllOk T R S C l) (hl : l.length ≤ 9) (w : World) (hw : WLs w a T R l) :
    Calls Try.prog 72 #[.slice a l.length cap, .int .i64 v] w fun e w' => e = .returned (.int .i64 (tot T R l v)) ∧ Below w.heap.size w w' := by
  have HW := ahide hw
  have HOK := ahide hok
  have hme := free_method
  have hml := lost_method
  clear hw hok
  go_enter Try.func72, Try.ntmps72
  go_wp2
  go_loopw [5, 10] (fun s i wr => ∃ k : Nat, k ≤ l.length ∧ i = .int .i64 k ∧ s = .int .i64 (totU T R l v k) ∧ Below w.heap.size w wr) (fun _ i _ => l.length - (intOf i).toNat)
  case atStart => exact ⟨0, Nat.zero_le _, rfl, rfl, Below.refl _ _⟩
  case round =>
    obtain ⟨k, hk, rfl, rfl, hb⟩ := hrel
    have HB := ahide hb
    have hbd := totU_bd HOK.out v k hk
    clear hb
    by_cases hlt : k < l.length
    · obtain ⟨bb, off, rfl, hc⟩ := (HW.out.later HB.out).at hlt
      have htb := tk_bd HOK.out hlt v
      have HS := ahide (show totU T R l v (k + 1) = totU T R l v k + tk T R (svAt l k) v from rfl)
      have htk : tk T R (svAt l k) v = clipI v (loR T R (svAt l k).1 (svAt l k).2.2) (hiR T R (svAt l k).1 (svAt l k).2.2) := rfl
      have j0 : (0 : Int) ≤ (k : Int) := by omega
      have j1 : (k : Int) < (l.length : Int) := by omega
      generalize totU T R l v k = s at *
      cases ho : (svAt l k).2.2
      · have hf := freeTakes_any (loR T R (svAt l k).1 (svAt l k).2.2) (hiR T R (svAt l k).1 (svAt l k).2.2) v
        rw [← htk] at hf
        unfold tv at hc
        rw [if_neg (by simp [ho])] at hc
        clear htk ho
        generalize tk T R (svAt l k) v = t at *
        generalize loR T R (svAt l k).1 (svAt l k).2.2 = lo at *
        generalize hiR T R (svAt l k).1 (svAt l k).2.2 = hi at *
        go_wp2_with (go_at_call 144; refine (hf _).mono ?_; rintro e w1 ⟨rfl, hb1⟩)
        go_roundw
        case rel => exact ⟨k + 1, by omega, by go_num, by rw [HS.out], abelow_up HB.out hb1⟩
        case measure => simp [intOf]; omega
      · have hf := lostTakes_any v
        rw [← tk_lost (T := T) (R := R) (v := v) ho] at hf
        unfold tv at hc
        rw [if_pos ho] at hc
        clear htk ho
        generalize tk T R (svAt l k) v = t at *
        go_wp2_with (go_at_call 143; refine (hf _).mono ?_; rintro e w1 ⟨rfl, hb1⟩)
        go_roundw
        case rel => exact ⟨k + 1, by omega, by go_num, by rw [HS.out], abelow_up HB.out hb1⟩
        case measure => simp [intOf]; omega
    · have e : k = l.length := by omega
      subst e
      go_wp2
      go_ret
      exact ⟨rfl, HB.out⟩

theorem taken_any (T R S C i b : Int) (o : Bool) (v : Int) (hr : arB T R S C = true) (hs : svB T C i b o = true) (w : World) :
    Calls Try.prog 46 #[.agg #[.int .i64 T, .int .i64 R, .int .i64 S, .int .i64 C], .agg #[.int .i64 i, .int .i64 b, .bool o], .int .i64 v] w fun e w' => e = .returned (.int .i64 (tk T R (i, b, o) v)) ∧ Below w.heap.size w w' := by
  have hrd := reached_any T R S C i b o hr hs
  have hcl := refClip_any v (loR T R i o) (hiR T R i o) (lo_le_hi (svE_mk hr hs))
  have HN := ahide (RS.new w T R S C i b o).2.2
  unfold tk
  clear hr hs
  generalize clipI v (loR T R i o) (hiR T R i o) = t at *
  generalize loR T R i o = lo at *
  generalize hiR T R i o = hi at *
  go_enter Try.func46, Try.ntmps46
  go_wp2_with (first
    | (go_at_call 70; refine (hrd _).mono ?_; rintro e w1 ⟨rfl, hb1⟩)
    | (go_at_call 14; refine (hcl _).mono ?_; rintro e w' ⟨rfl, hq⟩; have hq := hq.symm; subst hq))
  go_ret
  exact ⟨rfl, abelow_up (abelow_up HN.out hb1) (abelow_alloc _ _)⟩

end Go.Proofs.Ythijegfacnjooaa
