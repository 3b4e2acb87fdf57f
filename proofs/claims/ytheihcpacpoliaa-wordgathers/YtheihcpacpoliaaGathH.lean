/-
  Contracts of word.Find and fulmarref.SameReadings.
-/
import Derived.Test.YtheihcpacpoliaaGathF
namespace Go.Proofs.Ytheihcpacpoliaa
open Go.RowKit Plain

theorem info_int : ∃ i, Try.prog.info? 3 = some i ∧ i.size = 1 := by
  have h : (Try.prog.info? 3).map (·.size) = some 1 := by kernel_rfl
  cases hq : Try.prog.info? 3 with
  | none => rw [hq] at h; cases h
  | some i => rw [hq] at h; exact ⟨i, rfl, by simpa using h⟩
theorem eq_who (d : Nat) (a b p q : Int) (w : World) : (Op.equalIn (d + 1 + 1) 73 (.agg #[.int .i64 a, .int .i64 b]) (.agg #[.int .i64 p, .int .i64 q])).run Try.prog w = .ok (decide (a = p) && decide (b = q)) w := by
  obtain ⟨i, hi, _⟩ := info_int
  rw [run_equalIn_array w _ _ _ who_under hi, who_one, show List.range 2 = [0, 1] from rfl]
  by_cases h1 : a = p
  · by_cases h2 : b = q
    · simp [Op.eqItems, go_sem, h1, h2]
    · have : (b == q) = false := by simpa using h2
      simp [Op.eqItems, go_sem, h1, h2, this]
  · have : (a == p) = false := by simpa using h1
    simp [Op.eqItems, go_sem, h1, this]

/-- What a search keeps. -/
def FindS (w u : World) (B : Nat) (a : Option Addr) (l : List Rd) (x y : Int) : Prop :=
  Box4 u B 0 0 0 0 ∧ (u.cell? ⟨B + 1, 0, none⟩ = some (.int .i64 x) ∧ u.cell? ⟨B + 1, 1, none⟩ = some (.int .i64 y)) ∧ Rds u a l ∧ Below B w u
theorem FindS.later {w u u' : World} {B : Nat} {a : Option Addr} {l : List Rd} {x y : Int} (h : FindS w u B a l x y) (hb : Below u.heap.size u u') : FindS w u' B a l x y :=
  ⟨h.1.later hb, ⟨cell_later hb h.2.1.1, cell_later hb h.2.1.2⟩, h.2.2.1.later hb, h.2.2.2.trans (hb.mono (Nat.le_of_lt h.1.2.2.2.2.2.2.2.2))⟩

set_option maxHeartbeats 2000000 in
theorem find_any (a : Option Addr) (cap : Nat) (l : List Rd) (x y : Int) (hl : l.length ≤ 1000) (w : World) (hr : Rds w a l) :
    Calls Try.prog 9 #[.slice a l.length cap, .int .i64 x, .int .i64 y] w fun e w' => e = .returned (fndV x y l) ∧ Below w.heap.size w w' := by
  have hq := eq_who
  have HF : Hid (FindS w ((w.alloc (.cells #[.int .i64 0, .int .i64 0, .int .i64 0, .int .i64 0] 33)).alloc (.cells #[.int .i64 x, .int .i64 y] 73)) w.heap.size a l x y) :=
    ghide ⟨(Box4.new w 0 0 0 0 33).later (below_alloc _ _), ⟨by simp [go_sem], by simp [go_sem]⟩, hr.later (below_up (below_alloc _ _) (below_alloc _ _)), below_up (below_alloc _ _) (below_alloc _ _)⟩
  clear hr
  go_enter Try.func9, Try.ntmps9
  go_wp2
  generalize (w.alloc (.cells #[.int .i64 0, .int .i64 0, .int .i64 0, .int .i64 0] 33)).alloc (.cells #[.int .i64 x, .int .i64 y] 73) = w1 at *
  obtain ⟨B, hB⟩ : ∃ B, B = w.heap.size := ⟨_, rfl⟩
  rw [← hB] at HF
  rw [← hB]
  have HBB := ghide hB
  clear hB
  go_loopw [16] (fun i wr => ∃ k : Nat, k ≤ l.length ∧ i = .int .i64 k ∧ Hid (fndV x y l = fndV x y (l.drop k)) ∧ FindS w wr B a l x y) (fun i _ => l.length - (intOf i).toNat)
  case atStart => exact ⟨0, Nat.zero_le _, rfl, by show fndV x y l = fndV x y (l.drop 0); rw [List.drop_zero], HF.out⟩
  case round =>
    obtain ⟨k, hk, rfl, hf, hS⟩ := hrel
    have HS := ghide hS
    clear hS
    by_cases hlt : k < l.length
    · obtain ⟨g, rfl, c0, c1, c2, c3⟩ := HS.out.2.2.1.at hlt
      have HY := ghide (fun h1 h2 => fndV_yes hlt hf.out h1 h2)
      have HN := ghide (fun h => fndV_no hlt hf.out h)
      unfold rdV at HY
      generalize (rat l k).1 = r1 at *
      generalize (rat l k).2.1 = r2 at *
      generalize (rat l k).2.2.1 = r3 at *
      generalize (rat l k).2.2.2 = r4 at *
      clear hf
      go_upto_region 5 with fail
      have HS1 := ghide (HS.out.later (below_alloc wr (.cells #[.int .i64 r1, .int .i64 r2, .int .i64 r3, .int .i64 r4] 33)))
      have HC := ghide (Box4.new wr r1 r2 r3 r4 33)
      generalize wr.alloc (.cells #[.int .i64 r1, .int .i64 r2, .int .i64 r3, .int .i64 r4] 33) = w2 at *
      generalize wr.heap.size = V at *
      have Z : Hid (w2.cell? ⟨V, 0, none⟩ = some (.int .i64 r1) ∧ w2.cell? ⟨V, 1, none⟩ = some (.int .i64 r2) ∧ w2.cell? ⟨V, 2, none⟩ = some (.int .i64 r3) ∧ w2.cell? ⟨V, 3, none⟩ = some (.int .i64 r4) ∧ w2.cell? ⟨B + 1, 0, none⟩ = some (.int .i64 x) ∧ w2.cell? ⟨B + 1, 1, none⟩ = some (.int .i64 y)) := ghide ⟨HC.out.1, HC.out.2.1, HC.out.2.2.1, HC.out.2.2.2.1, HS1.out.2.1.1, HS1.out.2.1.2⟩
      clear c0 c1 c2 c3
      by_cases h : r1 = x ∧ r2 = y
      · have hq1 : ∀ d w, (Op.equalIn (d + 1 + 1) 73 (.agg #[.int .i64 r1, .int .i64 r2]) (.agg #[.int .i64 x, .int .i64 y])).run Try.prog w = .ok true w := fun d w => by rw [hq]; simp [h]
        have HV := ghide (HY.out h.1 h.2)
        clear HY HN h hq
        go_region_held3 (fun u => (u.cell? ⟨V, 0, none⟩ = some (.int .i64 r1) ∧ u.cell? ⟨V, 1, none⟩ = some (.int .i64 r2) ∧ u.cell? ⟨V, 2, none⟩ = some (.int .i64 r3) ∧ u.cell? ⟨V, 3, none⟩ = some (.int .i64 r4) ∧ u.cell? ⟨B + 1, 0, none⟩ = some (.int .i64 x) ∧ u.cell? ⟨B + 1, 1, none⟩ = some (.int .i64 y)))
          (first
            | (with_reducible assumption)
            | exact Z.out)
          (first
            | (go_at_call 21; refine (by_any r1 r2 r3 r4 _).mono ?_; rintro e w3 ⟨rfl, hb3⟩; have HC3 := ghide (HC.out.drew.later hb3); have HS3 := ghide ((HS1.out.later (Below.refl _ _).drew).later hb3); have KS3 : (w3.cell? ⟨V, 0, none⟩ = some (.int .i64 r1) ∧ w3.cell? ⟨V, 1, none⟩ = some (.int .i64 r2) ∧ w3.cell? ⟨V, 2, none⟩ = some (.int .i64 r3) ∧ w3.cell? ⟨V, 3, none⟩ = some (.int .i64 r4) ∧ w3.cell? ⟨B + 1, 0, none⟩ = some (.int .i64 x) ∧ w3.cell? ⟨B + 1, 1, none⟩ = some (.int .i64 y)) := ⟨HC3.out.1, HC3.out.2.1, HC3.out.2.2.1, HC3.out.2.2.2.1, HS3.out.2.1.1, HS3.out.2.1.2⟩; clear hb3))
        all_goals
          obtain ⟨y0, y1, y2, y3, f0, f1, f2, f3, _⟩ := HS3.out.1
          obtain ⟨z0, z1, z2, z3, _⟩ := HC3.out
          go_wp2_with fail
          refine bodyPost_ret (v := .tuple #[.agg #[.int .i64 r1, .int .i64 r2, .int .i64 r3, .int .i64 r4], .bool true]) (by simp [results, Try.results9, go_sem, *]) rfl ⟨by rw [HV.out], ?_⟩
          rw [HBB.out] at HS3 ⊢
          exact below_set4 HS3.out.2.2.2 (Nat.le_refl _) _ _ _ _
      · have hq1 : ∀ d w, (Op.equalIn (d + 1 + 1) 73 (.agg #[.int .i64 r1, .int .i64 r2]) (.agg #[.int .i64 x, .int .i64 y])).run Try.prog w = .ok false w := fun d w => by rw [hq]; simp; intro h1 h2; exact h ⟨h1, h2⟩
        have HV := ghide (HN.out h)
        clear HY HN h hq
        go_region_held3 (fun u => (u.cell? ⟨V, 0, none⟩ = some (.int .i64 r1) ∧ u.cell? ⟨V, 1, none⟩ = some (.int .i64 r2) ∧ u.cell? ⟨V, 2, none⟩ = some (.int .i64 r3) ∧ u.cell? ⟨V, 3, none⟩ = some (.int .i64 r4) ∧ u.cell? ⟨B + 1, 0, none⟩ = some (.int .i64 x) ∧ u.cell? ⟨B + 1, 1, none⟩ = some (.int .i64 y)))
          (first
            | (with_reducible assumption)
            | exact Z.out)
          (first
            | (go_at_call 21; refine (by_any r1 r2 r3 r4 _).mono ?_; rintro e w3 ⟨rfl, hb3⟩; have HC3 := ghide (HC.out.drew.later hb3); have HS3 := ghide ((HS1.out.later (Below.refl _ _).drew).later hb3); have KS3 : (w3.cell? ⟨V, 0, none⟩ = some (.int .i64 r1) ∧ w3.cell? ⟨V, 1, none⟩ = some (.int .i64 r2) ∧ w3.cell? ⟨V, 2, none⟩ = some (.int .i64 r3) ∧ w3.cell? ⟨V, 3, none⟩ = some (.int .i64 r4) ∧ w3.cell? ⟨B + 1, 0, none⟩ = some (.int .i64 x) ∧ w3.cell? ⟨B + 1, 1, none⟩ = some (.int .i64 y)) := ⟨HC3.out.1, HC3.out.2.1, HC3.out.2.2.1, HC3.out.2.2.2.1, HS3.out.2.1.1, HS3.out.2.1.2⟩; clear hb3))
        all_goals
          go_wp2_with fail
          go_roundw
          (case rel => exact ⟨k + 1, by omega, by go_num, HV, HS3.out⟩)
          (case measure => simp [intOf]; omega)
    · obtain rfl : k = l.length := by omega
      have HV := ghide (fndV_end hf.out)
      obtain ⟨y0, y1, y2, y3, f0, f1, f2, f3, _⟩ := HS.out.1
      clear hf hq
      go_wp2
      refine bodyPost_ret (v := .tuple #[.agg #[.int .i64 0, .int .i64 0, .int .i64 0, .int .i64 0], .bool false]) (by simp [results, Try.results9, go_sem, *]) rfl ⟨by rw [HV.out], ?_⟩
      rw [HBB.out] at HS ⊢
      exact below_set4 HS.out.2.2.2 (Nat.le_refl _) _ _ _ _

/-- Two lists are the same, from a place on. -/
theorem sameR_at {l m : List Rd} {k : Nat} (h : l = m) : rat l k = rat m k := by rw [h]
set_option maxHeartbeats 2000000 in
theorem sameReadings_any (a b : Option Addr) (cap cap2 : Nat) (l : List Rd) (hl : l.length ≤ 1000) (w : World) (hr : Rds w a l) (hs : Rds w b l) :
    Calls Try.prog 11 #[.slice a l.length cap, .slice b l.length cap2] w fun e w' => e = .returned (.bool true) ∧ Below w.heap.size w w' := by
  have HR := ghide hr
  have HS := ghide hs
  clear hr hs
  go_enter Try.func11, Try.ntmps11
  go_wp2
  go_loopw [5] (fun i wr => ∃ k : Nat, k ≤ l.length ∧ i = .int .i64 k ∧ Below w.heap.size w wr) (fun i _ => l.length - (intOf i).toNat)
  case atStart => exact ⟨0, Nat.zero_le _, rfl, Below.refl _ _⟩
  case round =>
    obtain ⟨k, hk, rfl, hb⟩ := hrel
    have HB := ghide hb
    by_cases hlt : k < l.length
    · obtain ⟨g, rfl, c0, c1, c2, c3⟩ := (HR.out.later hb).at hlt
      obtain ⟨g', rfl, d0, d1, d2, d3⟩ := (HS.out.later hb).at hlt
      generalize (rat l k).1 = r1 at *
      generalize (rat l k).2.1 = r2 at *
      generalize (rat l k).2.2.1 = r3 at *
      generalize (rat l k).2.2.2 = r4 at *
      clear hb
      go_wp2
      go_quiet (fail)
      go_wp2
      go_roundw
      case rel => exact ⟨k + 1, by omega, by go_num, below_drewN HB.out _⟩
      case measure => simp [intOf]; omega
    · go_wp2
      go_ret
      exact ⟨rfl, HB.out⟩

end Go.Proofs.Ytheihcpacpoliaa
