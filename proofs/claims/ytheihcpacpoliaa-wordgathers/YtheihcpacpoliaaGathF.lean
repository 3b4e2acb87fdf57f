/-
  Contracts of fulmarref.Found and word.Find: the first reading of a label and a source.
-/
import Derived.Test.YtheihcpacpoliaaGathG
import Derived.ChangeKeysEq
namespace Go.Proofs.Ytheihcpacpoliaa
open Go.RowKit Plain

/-- Four cells of a reading. -/
def Q4 (w : World) (g o : Nat) (r : Rd) : Prop := w.cell? ⟨g, o, none⟩ = some (.int .i64 r.1) ∧ w.cell? ⟨g, o + 1, none⟩ = some (.int .i64 r.2.1) ∧ w.cell? ⟨g, o + 2, none⟩ = some (.int .i64 r.2.2.1) ∧ w.cell? ⟨g, o + 3, none⟩ = some (.int .i64 r.2.2.2)
/-- Readings lie at an address. -/
def Rds (w : World) (a : Option Addr) (l : List Rd) : Prop := l = [] ∨ ∃ g, a = some ⟨g, 0, none⟩ ∧ ∀ k, k < l.length → Q4 w g (k * 4) (rat l k)
theorem Q4.later {w w' : World} {g o : Nat} {r : Rd} (h : Q4 w g o r) (hb : Below w.heap.size w w') : Q4 w' g o r := ⟨cell_later hb h.1, cell_later hb h.2.1, cell_later hb h.2.2.1, cell_later hb h.2.2.2⟩
theorem Rds.later {w w' : World} {a : Option Addr} {l : List Rd} (h : Rds w a l) (hb : Below w.heap.size w w') : Rds w' a l := by
  rcases h with h | ⟨g, h, hc⟩
  · exact .inl h
  · exact .inr ⟨g, h, fun k hk => (hc k hk).later hb⟩
theorem Rds.at {w : World} {a : Option Addr} {l : List Rd} (h : Rds w a l) {k : Nat} (hk : k < l.length) : ∃ g, a = some ⟨g, 0, none⟩ ∧ Q4 w g (k * 4) (rat l k) := by
  rcases h with rfl | ⟨g, h, hc⟩
  · simp at hk
  · exact ⟨g, h, hc k hk⟩
/-- What was gathered lies so. -/
theorem OwnL.rds {B : Nat} {v : Value} {l : List Rd} {w : World} (h : OwnL B v l w) : ∃ a cap, v = .slice a l.length cap ∧ Rds w a l := by
  rcases h.1.2 with ⟨rfl, hz⟩ | ⟨g, cap, cur, rfl, _, hb, r1, r2, r3, r4⟩
  · have hl : l = [] := h.2.1 rfl
    subst hl
    exact ⟨none, 0, rfl, .inl rfl⟩
  · refine ⟨_, cap, rfl, .inr ⟨g, rfl, fun k hk => ?_⟩⟩
    have hc : ∀ j, j < 4 → w.cell? ⟨g, k * 4 + j, none⟩ = (encR (rat l k))[j]? := fun j hj => by
      have ht : k * 4 + j < l.length * 4 := by omega
      have h1 : (cur.toList.take (l.length * 4))[k * 4 + j]? = (encL l)[k * 4 + j]? := by rw [r4]
      rw [List.getElem?_take_of_lt ht, encL_get l _ ht, show (k * 4 + j) / 4 = k by omega, show (k * 4 + j) % 4 = j by omega, Array.getElem?_toList] at h1
      simp only [World.cell?, hb]
      simp only [Option.isSome_none, Bool.false_eq_true, if_false]
      exact h1
    exact ⟨hc 0 (by omega), hc 1 (by omega), hc 2 (by omega), hc 3 (by omega)⟩
theorem OwnL.nil_or {B : Nat} {v : Value} {l : List Rd} {w : World} (h : OwnL B v l w) : l.length ≤ maxLen := by
  rcases h.1.2 with ⟨_, hz⟩ | ⟨g, cap, cur, _, _, _, r1, r2, _⟩
  · omega
  · omega

/-- What is told of one that was looked for. -/
def fndV (a b : Int) (l : List Rd) : Value := match fnd a b l with
  | some r => .tuple #[rdV r, .bool true]
  | none => .tuple #[.agg #[.int .i64 0, .int .i64 0, .int .i64 0, .int .i64 0], .bool false]
theorem fndV_yes {a b : Int} {l : List Rd} {k : Nat} (hk : k < l.length) (hf : fndV a b l = fndV a b (l.drop k)) (h1 : (rat l k).1 = a) (h2 : (rat l k).2.1 = b) : fndV a b l = .tuple #[rdV (rat l k), .bool true] := by
  rw [hf]
  unfold fndV
  rw [fnd_step a b l k hk, if_pos ⟨h1, h2⟩]
theorem fndV_no {a b : Int} {l : List Rd} {k : Nat} (hk : k < l.length) (hf : fndV a b l = fndV a b (l.drop k)) (h : ¬ ((rat l k).1 = a ∧ (rat l k).2.1 = b)) : fndV a b l = fndV a b (l.drop (k + 1)) := by
  rw [hf]
  unfold fndV
  rw [fnd_step a b l k hk, if_neg h]
theorem fndV_end {a b : Int} {l : List Rd} (hf : fndV a b l = fndV a b (l.drop l.length)) : fndV a b l = .tuple #[.agg #[.int .i64 0, .int .i64 0, .int .i64 0, .int .i64 0], .bool false] := by
  rw [hf, List.drop_length]
  rfl

set_option maxHeartbeats 2000000 in
theorem found_any (a : Option Addr) (cap : Nat) (l : List Rd) (x y : Int) (hl : l.length ≤ 1000) (w : World) (hr : Rds w a l) :
    Calls Try.prog 8 #[.slice a l.length cap, .int .i64 x, .int .i64 y] w fun e w' => e = .returned (fndV x y l) ∧ Below w.heap.size w w' := by
  have HR := ghide (hr.later (below_alloc w (.cells #[.int .i64 0, .int .i64 0, .int .i64 0, .int .i64 0] 33)))
  have HB := ghide (below_alloc w (.cells #[.int .i64 0, .int .i64 0, .int .i64 0, .int .i64 0] 33))
  have HX := ghide (Box4.new w 0 0 0 0 33)
  clear hr
  go_enter Try.func8, Try.ntmps8
  go_wp2
  generalize w.alloc (.cells #[.int .i64 0, .int .i64 0, .int .i64 0, .int .i64 0] 33) = w1 at *
  obtain ⟨B, hB⟩ : ∃ B, B = w.heap.size := ⟨_, rfl⟩
  rw [← hB] at HX
  rw [← hB]
  have HBB := ghide hB
  clear hB
  go_loop [8] (fun i => ∃ k : Nat, k ≤ l.length ∧ i = .int .i64 k ∧ Hid (fndV x y l = fndV x y (l.drop k))) (fun i => l.length - (intOf i).toNat)
  case atStart => exact ⟨0, Nat.zero_le _, rfl, by show fndV x y l = fndV x y (l.drop 0); rw [List.drop_zero]⟩
  case round =>
    obtain ⟨k, hk, rfl, hf⟩ := hrel
    obtain ⟨x0, x1, x2, x3, f0, f1, f2, f3, _⟩ := HX.out
    by_cases hlt : k < l.length
    · obtain ⟨g, rfl, c0, c1, c2, c3⟩ := HR.out.at hlt
      by_cases h1 : (rat l k).1 = x
      · by_cases h2 : (rat l k).2.1 = y
        · have HS := ghide (fndV_yes hlt hf.out h1 h2)
          unfold rdV at HS
          generalize (rat l k).1 = r1 at *
          generalize (rat l k).2.1 = r2 at *
          generalize (rat l k).2.2.1 = r3 at *
          generalize (rat l k).2.2.2 = r4 at *
          have e1 : (r1 == x) = true := by simpa using h1
          have e2 : (r2 == y) = true := by simpa using h2
          clear hf h1 h2
          go_wp2
          refine bodyPost_ret (v := .tuple #[.agg #[.int .i64 r1, .int .i64 r2, .int .i64 r3, .int .i64 r4], .bool true]) (by simp [results, Try.results8, go_sem, *]) rfl ⟨by rw [HS.out], ?_⟩
          exact below_set4 HB.out (by rw [HBB.out]; exact Nat.le_refl _) _ _ _ _
        · have HS := ghide (fndV_no hlt hf.out (fun h => h2 h.2))
          generalize (rat l k).1 = r1 at *
          generalize (rat l k).2.1 = r2 at *
          have e1 : (r1 == x) = true := by simpa using h1
          have e2 : (r2 == y) = false := by simpa using h2
          clear hf h1 h2
          go_wp2
          go_round
          case rel => exact ⟨k + 1, by omega, by go_num, HS⟩
          case measure => simp [intOf]; omega
      · have HS := ghide (fndV_no hlt hf.out (fun h => h1 h.1))
        generalize (rat l k).1 = r1 at *
        have e1 : (r1 == x) = false := by simpa using h1
        clear hf h1
        go_wp2
        go_round
        case rel => exact ⟨k + 1, by omega, by go_num, HS⟩
        case measure => simp [intOf]; omega
    · obtain rfl : k = l.length := by omega
      have HS := ghide (fndV_end hf.out)
      clear hf
      go_wp2
      refine bodyPost_ret (v := .tuple #[.agg #[.int .i64 0, .int .i64 0, .int .i64 0, .int .i64 0], .bool false]) (by simp [results, Try.results8, go_sem, *]) rfl ⟨by rw [HS.out], ?_⟩
      exact below_set4 HB.out (by rw [HBB.out]; exact Nat.le_refl _) _ _ _ _

end Go.Proofs.Ytheihcpacpoliaa
