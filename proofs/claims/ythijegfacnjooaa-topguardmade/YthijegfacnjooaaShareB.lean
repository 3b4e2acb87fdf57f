/-
  Contracts of fulmarref.Total, fulmarref.SpreadMay, fulmarref.SumOf, share.Sum and fulmarref.SameInts.
-/
import Derived.Test.YthijegfacnjooaaShareA
import Derived.Test.YthijegfacnjooaaServoA
namespace Go.Proofs.Ythijegfacnjooaa
open Go.RowKit Plain

/-- Servos lie at an address. -/
def VLs (w : World) (a : Option Addr) (l : List Sv) : Prop := l = [] ∨ ∃ b off, a = some ⟨b, off, none⟩ ∧ ∀ k, k < l.length → w.cell? ⟨b, off + k * 3, none⟩ = some (.int .i64 (svAt l k).1) ∧ w.cell? ⟨b, off + k * 3 + 1, none⟩ = some (.int .i64 (svAt l k).2.1) ∧ w.cell? ⟨b, off + k * 3 + 2, none⟩ = some (.bool (svAt l k).2.2)
theorem VLs.later {w w' : World} {a : Option Addr} {l : List Sv} (h : VLs w a l) (hb : Below w.heap.size w w') : VLs w' a l := by
  rcases h with h | ⟨b, off, h, hc⟩
  · exact .inl h
  · exact .inr ⟨b, off, h, fun k hk => ⟨cell_later hb (hc k hk).1, cell_later hb (hc k hk).2.1, cell_later hb (hc k hk).2.2⟩⟩
theorem VLs.at {w : World} {a : Option Addr} {l : List Sv} (h : VLs w a l) {k : Nat} (hk : k < l.length) : ∃ b off, a = some ⟨b, off, none⟩ ∧ w.cell? ⟨b, off + k * 3, none⟩ = some (.int .i64 (svAt l k).1) ∧ w.cell? ⟨b, off + k * 3 + 1, none⟩ = some (.int .i64 (svAt l k).2.1) ∧ w.cell? ⟨b, off + k * 3 + 2, none⟩ = some (.bool (svAt l k).2.2) := by
  rcases h with h | ⟨b, off, h, hc⟩
  · subst h; simp at hk
  · exact ⟨b, off, h, hc k hk⟩
theorem keepQ {w u u' : World} {bl ol k : Nat} {T R S C i b : Int} {o : Bool} (hb : Below u.heap.size u u') (h : (u.cell? ⟨w.heap.size, 0, none⟩ = some (.int .i64 T) ∧ u.cell? ⟨w.heap.size, 1, none⟩ = some (.int .i64 R) ∧ u.cell? ⟨w.heap.size, 2, none⟩ = some (.int .i64 S) ∧ u.cell? ⟨w.heap.size, 3, none⟩ = some (.int .i64 C)) ∧ (u.cell? ⟨bl, ol + k * 3, none⟩ = some (.int .i64 i) ∧ u.cell? ⟨bl, ol + k * 3 + 1, none⟩ = some (.int .i64 b) ∧ u.cell? ⟨bl, ol + k * 3 + 2, none⟩ = some (.bool o)) ∧ Below w.heap.size w u) : (u'.cell? ⟨w.heap.size, 0, none⟩ = some (.int .i64 T) ∧ u'.cell? ⟨w.heap.size, 1, none⟩ = some (.int .i64 R) ∧ u'.cell? ⟨w.heap.size, 2, none⟩ = some (.int .i64 S) ∧ u'.cell? ⟨w.heap.size, 3, none⟩ = some (.int .i64 C)) ∧ (u'.cell? ⟨bl, ol + k * 3, none⟩ = some (.int .i64 i) ∧ u'.cell? ⟨bl, ol + k * 3 + 1, none⟩ = some (.int .i64 b) ∧ u'.cell? ⟨bl, ol + k * 3 + 2, none⟩ = some (.bool o)) ∧ Below w.heap.size w u' :=
  ⟨B4.later h.1 hb, ⟨cell_later hb h.2.1.1, cell_later hb h.2.1.2.1, cell_later hb h.2.1.2.2⟩, abelow_up h.2.2 hb⟩
/-- A rule lies in its box. -/
def RB (w0 w : World) (T R S C : Int) : Prop := B4 w w0.heap.size (.int .i64 T) (.int .i64 R) (.int .i64 S) (.int .i64 C) ∧ Below w0.heap.size w0 w
theorem RB.later {w0 w w' : World} {T R S C : Int} (h : RB w0 w T R S C) (hb : Below w.heap.size w w') : RB w0 w' T R S C := ⟨h.1.later hb, abelow_up h.2 hb⟩
theorem RB.new (w : World) (T R S C : Int) : RB w (w.alloc (.cells #[.int .i64 T, .int .i64 R, .int .i64 S, .int .i64 C] 48)) T R S C := ⟨B4.new _ _ _ _ _ _, abelow_alloc _ _⟩

set_option maxRecDepth 100000 in
set_option maxHeartbeats 2000000 in
theorem total_any (T R S C : Int) (l : List Sv) (v : Int) (a : Option Addr) (cap : Nat) (hok : AllOk T R S C l) (hl : l.length ≤ 9) (w : World) (hv : VLs w a l) :
    Calls Try.prog 22 #[.agg #[.int .i64 T, .int .i64 R, .int .i64 S, .int .i64 C], .slice a l.length cap, .int .i64 v] w fun e w' => e = .returned (.int .i64 (tot T R l v)) ∧ Below w.heap.size w w' := by
  have HV := ahide hv
  have HOK := ahide hok
  have HR := ahide (RB.new w T R S C)
  clear hv hok
  go_enter Try.func22, Try.ntmps22
  go_wp2
  go_loopw [7, 8] (fun s i wr => ∃ k : Nat, k ≤ l.length ∧ i = .int .i64 k ∧ s = .int .i64 (totU T R l v k) ∧ RB w wr T R S C) (fun _ i _ => l.length - (intOf i).toNat)
  case atStart => exact ⟨0, Nat.zero_le _, rfl, rfl, HR.out⟩
  case round =>
    clear HR
    obtain ⟨k, hk, rfl, rfl, hR⟩ := hrel
    have hbd := totU_bd HOK.out v k hk
    by_cases hlt : k < l.length
    · obtain ⟨bl, ol, rfl, d0, d1, d2⟩ := (HV.out.later hR.2).at hlt
      have htn := taken_any T R S C (svAt l k).1 (svAt l k).2.1 (svAt l k).2.2 v HOK.out.1 (HOK.out.2 k hlt)
      have htb := tk_bd HOK.out hlt v
      have HS := ahide (show totU T R l v (k + 1) = totU T R l v k + tk T R ((svAt l k).1, (svAt l k).2.1, (svAt l k).2.2) v from rfl)
      rw [show tk T R (svAt l k) v = tk T R ((svAt l k).1, (svAt l k).2.1, (svAt l k).2.2) v from rfl] at htb
      have j0 : (0 : Int) ≤ (k : Int) := by omega
      have j1 : (k : Int) < (l.length : Int) := by omega
      generalize totU T R l v k = s at *
      generalize tk T R ((svAt l k).1, (svAt l k).2.1, (svAt l k).2.2) v = t at *
      generalize (svAt l k).1 = i at *
      generalize (svAt l k).2.1 = b at *
      generalize (svAt l k).2.2 = o at *
      have S0 : (wr.cell? ⟨w.heap.size, 0, none⟩ = some (.int .i64 T) ∧ wr.cell? ⟨w.heap.size, 1, none⟩ = some (.int .i64 R) ∧ wr.cell? ⟨w.heap.size, 2, none⟩ = some (.int .i64 S) ∧ wr.cell? ⟨w.heap.size, 3, none⟩ = some (.int .i64 C)) ∧ (wr.cell? ⟨bl, ol + k * 3, none⟩ = some (.int .i64 i) ∧ wr.cell? ⟨bl, ol + k * 3 + 1, none⟩ = some (.int .i64 b) ∧ wr.cell? ⟨bl, ol + k * 3 + 2, none⟩ = some (.bool o)) ∧ Below w.heap.size w wr := ⟨hR.1, ⟨d0, d1, d2⟩, hR.2⟩
      have Z := ahide S0
      clear hR d0 d1 d2
      go_upto_region 5 with fail
      go_region_held3 (fun u => (u.cell? ⟨w.heap.size, 0, none⟩ = some (.int .i64 T) ∧ u.cell? ⟨w.heap.size, 1, none⟩ = some (.int .i64 R) ∧ u.cell? ⟨w.heap.size, 2, none⟩ = some (.int .i64 S) ∧ u.cell? ⟨w.heap.size, 3, none⟩ = some (.int .i64 C)) ∧ (u.cell? ⟨bl, ol + k * 3, none⟩ = some (.int .i64 i) ∧ u.cell? ⟨bl, ol + k * 3 + 1, none⟩ = some (.int .i64 b) ∧ u.cell? ⟨bl, ol + k * 3 + 2, none⟩ = some (.bool o)) ∧ Below w.heap.size w u)
        (first
          | (with_reducible assumption)
          | (with_reducible refine keepQ (abelow_alloc _ _) ?_; with_reducible assumption)
          | (with_reducible apply keepQ; with_reducible assumption; with_reducible assumption)
          | (refine keepQ ?_ Z.out; exact (Below.refl _ _).drew))
        (first
          | (go_at_call 46; refine (htn _).mono ?_; rintro e w' ⟨rfl, hb⟩))
      all_goals
        rename_i hH
        have HH := ahide hH
        clear hH
        go_wp2_with fail
        go_roundw
        (case rel => exact ⟨k + 1, by omega, by go_num, by rw [HS.out, swrap_id (by omega) (by omega)], HH.out.1, HH.out.2.2⟩)
        (case measure => simp [intOf]; omega)
    · have e : k = l.length := by omega
      subst e
      go_wp2
      go_ret
      exact ⟨rfl, hR.2⟩

/-- What is wrong, of the first k. -/
def spU (T R S C : Int) (l : List Sv) : Nat → Int
  | 0 => firstI [arE T R S C, if betw (l.length : Int) 1 4 then 0 else 2]
  | k + 1 => firstI [spU T R S C l k, svE T R S C (svAt l k).1 (svAt l k).2.1 (svAt l k).2.2]
def spE (T R S C : Int) (l : List Sv) : Int := spU T R S C l l.length

/-- Where the first k are together. -/
def smU (l : List Sv) : Nat → Int
  | 0 => 0
  | k + 1 => smU l k + (svAt l k).1
theorem smU_bd {l : List Sv} (h : ∀ k, k < l.length → -2147483647 ≤ (svAt l k).1 ∧ (svAt l k).1 ≤ 2147483647) : ∀ k : Nat, k ≤ l.length → -2147483647 * (k : Int) ≤ smU l k ∧ smU l k ≤ 2147483647 * (k : Int)
  | 0, _ => by simp [smU]
  | k + 1, hk => by
    have a := smU_bd h k (by omega)
    have c := h k (by omega)
    simp only [smU]; omega
set_option maxHeartbeats 1000000 in
theorem sumOf_any (l : List Sv) (a : Option Addr) (cap : Nat) (hl : l.length ≤ 9) (hi : ∀ k, k < l.length → -2147483647 ≤ (svAt l k).1 ∧ (svAt l k).1 ≤ 2147483647) (w : World) (hv : VLs w a l) :
    Calls Try.prog 24 #[.slice a l.length cap] w fun e w' => e = .returned (.int .i64 (smU l l.length)) ∧ w' = w := by
  have HV := ahide hv
  have HI := ahide hi
  clear hv hi
  go_enter Try.func24, Try.ntmps24
  go_wp2
  go_loop [3, 4] (fun s i => ∃ k : Nat, k ≤ l.length ∧ i = .int .i64 k ∧ s = .int .i64 (smU l k)) (fun _ i => l.length - (intOf i).toNat)
  case atStart => exact ⟨0, Nat.zero_le _, rfl, rfl⟩
  case round =>
    obtain ⟨k, hk, rfl, rfl⟩ := hrel
    have hbd := smU_bd HI.out k hk
    by_cases hlt : k < l.length
    · obtain ⟨bl, ol, rfl, d0, d1, d2⟩ := HV.out.at hlt
      have hb1 := HI.out k hlt
      have HS := ahide (show smU l (k + 1) = smU l k + (svAt l k).1 from rfl)
      have j0 : (0 : Int) ≤ (k : Int) := by omega
      have j1 : (k : Int) < (l.length : Int) := by omega
      generalize smU l k = s at *
      generalize (svAt l k).1 = i at *
      go_wp2
      go_round
      case rel => exact ⟨k + 1, by omega, by go_num, by rw [HS.out]⟩
      case measure => simp [intOf]; omega
    · have e : k = l.length := by omega
      subst e
      go_wp2
      go_ret
      exact ⟨rfl, rfl⟩
end Go.Proofs.Ythijegfacnjooaa
