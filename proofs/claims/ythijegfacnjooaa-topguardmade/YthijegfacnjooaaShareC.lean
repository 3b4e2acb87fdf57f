/-
  The contract of share.takers: who takes a share, or the first servo that may not be.
-/
import Derived.Test.YthijegfacnjooaaShareB
import Derived.Deep.AppendLies
import Derived.OwnWalk
namespace Go.Proofs.Ythijegfacnjooaa
open Go.RowKit Plain

theorem infoTaker : (Try.prog.info? 166).map (fun i => (i.zero, i.size, i.bytes)) = some (some .nilIface, 1, 16) := by kernel_rfl
theorem aowns_later {w w' : World} {B : Nat} {e : TypeId} {size : Nat} {v : Value} {n : Nat} {xs : List Value} (h : w.ownsRow B e size v n xs) (hb : Below w.heap.size w w') : w'.ownsRow B e size v n xs := by
  refine ⟨h.1, ?_⟩
  rcases h.2 with h | ⟨g, cap, cur, h1, h2, h3, h4⟩
  · exact .inl h
  · refine .inr ⟨g, cap, cur, h1, h2, ?_, h4⟩
    rw [hb.block g ?_]
    · exact h3
    · rcases Nat.lt_or_ge g w.heap.size with h | h
      · exact h
      · rw [Array.getElem?_eq_none h] at h3; cases h3
theorem new_cell1 (w1 : World) (s1 : Obj) (X : Value) (t : TypeId) : ∀ j u, [X][j]? = some u → ((w1.alloc s1).alloc (.cells #[X] t)).cell? ((⟨w1.heap.size + 1, 0, none⟩ : Addr).add j) = some u := by
  intro j u hu
  cases j with
  | zero => simp at hu; subst hu; simp [go_sem, Addr.add]
  | succ j => simp at hu
/-- The first k of them. -/
def tvU (T R : Int) (l : List Sv) : Nat → List Value
  | 0 => []
  | k + 1 => tvU T R l k ++ [tv T R (svAt l k)]
theorem tvU_len (T R : Int) (l : List Sv) : ∀ k, (tvU T R l k).length = k
  | 0 => rfl
  | k + 1 => by simp [tvU, tvU_len T R l k]
theorem tvU_get (T R : Int) (l : List Sv) : ∀ n k, k < n → (tvU T R l n)[k]? = some (tv T R (svAt l k))
  | 0, k, h => by omega
  | n + 1, k, h => by
    rw [tvU]
    by_cases e : k = n
    · subst e; rw [List.getElem?_append_right (by rw [tvU_len]; omega), tvU_len]; simp
    · rw [List.getElem?_append_left (by rw [tvU_len]; omega)]; exact tvU_get T R l n k (by omega)
theorem wls_of_owns {w : World} {B : Nat} {a : Option Addr} {cap : Nat} {T R : Int} {l : List Sv} (h : w.ownsRow B 166 1 (.slice a l.length cap) l.length (tvU T R l l.length)) : WLs w a T R l := by
  by_cases h0 : l.length = 0
  · exact .inl (List.length_eq_zero_iff.mp h0)
  · right
    obtain ⟨g, c, hv, hb, hg⟩ := h.form (by omega)
    simp only [Value.slice.injEq] at hv
    obtain ⟨rfl, _, rfl⟩ := hv
    refine ⟨g, 0, rfl, fun k hk => ?_⟩
    show w.cell? _ = _
    rw [Nat.zero_add, h.cellAt k (by omega)]
    exact tvU_get T R l _ k hk

set_option maxRecDepth 100000 in
set_option maxHeartbeats 2000000 in
theorem takers_any (T R S C : Int) (l : List Sv) (a : Option Addr) (ca n0 : Nat) (hn : n0 ≤ l.length) (hr : arB T R S C = true) (hbef : ∀ j, j < n0 → svB T C (svAt l j).1 (svAt l j).2.1 (svAt l j).2.2 = true) (hx : n0 < l.length → svE T R S C (svAt l n0).1 (svAt l n0).2.1 (svAt l n0).2.2 ≠ 0) (hl : l.length ≤ 9) (w : World) (hv : VLs w a l) :
    Calls Try.prog 71 #[.agg #[.int .i64 T, .int .i64 R, .int .i64 S, .int .i64 C], .slice a l.length ca] w fun e w' => ((n0 = l.length ∧ ∃ x cap, e = .returned (.tuple #[.slice x l.length cap, .nilIface]) ∧ WLs w' x T R l) ∨ (n0 < l.length ∧ e = .returned (.tuple #[.slice none 0 0, .iface 26 (.int .i64 (svE T R S C (svAt l n0).1 (svAt l n0).2.1 (svAt l n0).2.2))]))) ∧ Below w.heap.size w w' := by
  obtain ⟨i0, hi, hz0, hz1, hz2⟩ := info_parts infoTaker
  have HR := ahide (RB.new w T R S C)
  have HA := ahide hr
  have HV := ahide (hv.later (abelow_alloc w (.cells #[.int .i64 T, .int .i64 R, .int .i64 S, .int .i64 C] 48)))
  have HBF := ahide hbef
  have HXN := ahide hx
  have hmt := fun (lo hi : Value) (w : World) => free_method lo hi w
  clear hv hbef hx hr
  go_enter Try.func71, Try.ntmps71
  go_wp2
  generalize w.alloc (.cells #[.int .i64 T, .int .i64 R, .int .i64 S, .int .i64 C] 48) = w2 at *
  go_loopw [6, 13] (fun v ix wr => ∃ (k : Nat) (ao : Option Addr) (cv : Nat), k ≤ n0 ∧ ix = .int .i64 k ∧ v = .slice ao k cv ∧ wr.ownsRow w2.heap.size 166 1 v k (tvU T R l k) ∧ Below w2.heap.size w2 wr) (fun _ ix _ => l.length - (intOf ix).toNat)
  case atStart => exact ⟨0, none, 0, by omega, rfl, rfl, World.ownsRow_nil _ _ _ _, Below.refl _ _⟩
  case round =>
    obtain ⟨k, ao, cv, hk, rfl, rfl, hown, hnx⟩ := hrel
    have hsize := hnx.size
    by_cases hlt : k < l.length
    · obtain ⟨bl, ol, rfl, d0, d1, d2⟩ := (HV.out.later hnx).at hlt
      obtain ⟨q0, q1, q2, q3⟩ := (B4.later HR.out.1 hnx).later (abelow_alloc wr (.cells #[.int .i64 (svAt l k).1, .int .i64 (svAt l k).2.1, .bool (svAt l k).2.2] 53))
      have j0 : (0 : Int) ≤ (k : Int) := by omega
      have j1 : (k : Int) < (l.length : Int) := by omega
      have HN := ahide hnx
      clear hnx
      by_cases hkn : k < n0
      · have hsv := HBF.out k hkn
        have hre := reach_ok T R S C (svAt l k).1 (svAt l k).2.1 (svAt l k).2.2 (svE_mk HA.out hsv)
        have HS := ahide (show tvU T R l (k + 1) = tvU T R l k ++ [tv T R (svAt l k)] from rfl)
        have HTV := ahide (show tv T R (svAt l k) = if (svAt l k).2.2 then .iface 163 (.agg #[]) else .iface 164 (.agg #[.int .i64 (loR T R (svAt l k).1 (svAt l k).2.2), .int .i64 (hiR T R (svAt l k).1 (svAt l k).2.2)]) from rfl)
        clear hsv
        generalize tvU T R l k = q at *
        generalize tv T R (svAt l k) = X at *
        generalize loR T R (svAt l k).1 (svAt l k).2.2 = lo at *
        generalize hiR T R (svAt l k).1 (svAt l k).2.2 = hi' at *
        generalize (svAt l k).1 = i at *
        generalize (svAt l k).2.1 = b at *
        generalize (svAt l k).2.2 = o at *
        cases o
        · go_wp2_with (first
            | (go_at_call 43; refine (hre _).mono ?_; rintro e w1 ⟨rfl, hb1⟩; have HOW := ahide (aowns_later (hown.alloc _) hb1); have HN1 := ahide (abelow_up (abelow_up HN.out (abelow_alloc _ _)) hb1); have LS := HN1.out.size; obtain ⟨z0, z1, z2⟩ := ((B3.new wr (.int .i64 i) (.int .i64 b) (.bool false) 53).later hb1).later (abelow_alloc w1 (.cells #[.int .i64 lo, .int .i64 hi'] 93)); clear hb1)
            | (at_builtin; refine wpList_append_lies _ rfl _ _ 141 rfl w2.heap.size 166 i0 .nilIface 1 16 Try.underlying141 hi hz0 hz1 hz2 rfl (by decide) _ _ _ rfl ((HOW.out.alloc _).alloc _) ⟨w1.heap.size + 1, 0, none⟩ 1 1 [.iface 164 (.agg #[.int .i64 lo, .int .i64 hi'])] rfl rfl (new_cell1 w1 _ _ _) (fun x hx => by simp at hx; subst hx; rfl) (by omega) (by unfold maxLen; omega) (by omega) (by simp; omega) _ rfl ?_; intro g cap w3 hown' hgrow hat hlt3))
          go_roundw
          case rel =>
            refine ⟨k + 1, some ⟨g, 0, none⟩, cap, by omega, by go_num, rfl, ?_, ?_⟩
            · rw [HS.out, HTV.out]; exact hown'
            · exact ((HN1.out.alloc LS _).alloc (by simp; omega) _).grown hgrow (by simp; omega) (fun q hq => (HOW.out.lt q hq).1)
          case measure => simp [intOf]; omega
        · go_wp2_with (first
            | (go_at_call 43; refine (hre _).mono ?_; rintro e w1 ⟨rfl, hb1⟩; have HOW := ahide (aowns_later (hown.alloc _) hb1); have HN1 := ahide (abelow_up (abelow_up HN.out (abelow_alloc _ _)) hb1); have LS := HN1.out.size; obtain ⟨z0, z1, z2⟩ := ((B3.new wr (.int .i64 i) (.int .i64 b) (.bool true) 53).later hb1).later (abelow_alloc w1 (.cells #[.int .i64 lo, .int .i64 hi'] 93)); clear hb1)
            | (at_builtin; refine wpList_append_lies _ rfl _ _ 141 rfl w2.heap.size 166 i0 .nilIface 1 16 Try.underlying141 hi hz0 hz1 hz2 rfl (by decide) _ _ _ rfl ((HOW.out.alloc _).alloc _) ⟨w1.heap.size + 1, 0, none⟩ 1 1 [.iface 163 (.agg #[])] rfl rfl (new_cell1 w1 _ _ _) (fun x hx => by simp at hx; subst hx; rfl) (by omega) (by unfold maxLen; omega) (by omega) (by simp; omega) _ rfl ?_; intro g cap w3 hown' hgrow hat hlt3))
          go_roundw
          case rel =>
            refine ⟨k + 1, some ⟨g, 0, none⟩, cap, by omega, by go_num, rfl, ?_, ?_⟩
            · rw [HS.out, HTV.out]; exact hown'
            · exact ((HN1.out.alloc LS _).alloc (by simp; omega) _).grown hgrow (by simp; omega) (fun q hq => (HOW.out.lt q hq).1)
          case measure => simp [intOf]; omega
      · have e : k = n0 := by omega
        subst e
        have hre := reach_err T R S C (svAt l k).1 (svAt l k).2.1 (svAt l k).2.2 (HXN.out hlt)
        clear hown
        obtain ⟨x, HXE⟩ : ∃ x, Hid (svE T R S C (svAt l k).1 (svAt l k).2.1 (svAt l k).2.2 = x) := ⟨_, rfl⟩
        rw [HXE.out] at hre
        go_wp2_with (go_at_call 43; refine (hre _).mono ?_; rintro e w1 ⟨rfl, hb1⟩; have HN1 := ahide (abelow_up (abelow_up HN.out (abelow_alloc _ _)) hb1); clear hb1)
        go_ret2
        exact ⟨.inr ⟨hlt, by rw [HXE.out]; rfl⟩, abelow_up HR.out.2 (abelow_up HN1.out (abelow_alloc _ _))⟩
    · have e : k = l.length := by omega
      have e2 : n0 = l.length := by omega
      subst e
      have HW := ahide (wls_of_owns hown)
      have HN := ahide hnx
      clear hown hnx
      go_wp2
      go_ret2
      exact ⟨.inl ⟨e2, _, _, rfl, HW.out⟩, abelow_up HR.out.2 HN.out⟩


end Go.Proofs.Ythijegfacnjooaa
