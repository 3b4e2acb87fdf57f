/-
  The walk of the law ShareSays: for every rule, servos and sum it returns true.
-/
import Derived.Test.YtbgabomjiibphaaShareG
namespace Go.Proofs.Ytbgabomjiibphaa
open Go.RowKit Plain

set_option maxRecDepth 100000 in
set_option maxHeartbeats 2000000 in
theorem shareSays_walk (T R S C sum : Int) (l : List Sv) (a : Option Addr) (ca : Nat) (hm : l.length ≤ 9223372036854775807) (w : World) (hw : VLs w a l) :
    Calls Try.prog 5 #[.agg #[.int .i64 T, .int .i64 R, .int .i64 S, .int .i64 C], .slice a l.length ca, .int .i64 sum] w fun e w' => e = .returned (.bool true) ∧ Below w.heap.size w w' := by
  have HR := ahide (RB.new w T R S C)
  have HV := ahide hw
  clear hw
  by_cases h9 : (9 : Int) < (l.length : Int)
  · go_enter Try.func5, Try.ntmps5
    go_wp2
    go_ret
    exact ⟨rfl, HR.out.2⟩
  · have hl : l.length ≤ 9 := by omega
    have hsm := fun u hu => spreadMay_any T R S C l a ca hl u hu
    by_cases he : spE T R S C l = 0
    · rw [he] at hsm
      rcases sp_split T R S C l l.length (Nat.le_refl _) with ⟨_, h2, h3, h4⟩ | ⟨h1, _⟩
      · have hok : AllOk T R S C l := ⟨arE_zero h2, h4⟩
        have b := betw_true h3
        have ⟨t0, t1⟩ := (arB_true hok.1).1
        have HM := ahide (tot_mono T R l (show -T ≤ T by omega))
        obtain ⟨v, hv⟩ := lev_is (T := T) (R := R) (l := l) (s := clipI sum (tot T R l (-T)) (tot T R l T)) (by omega) (clip_bd (v := sum) HM.out).1
        have hrs := fun u hu => refSpread_any T R S C sum v l a ca hok (by omega) hv u hu
        have hsp := fun u hu => spread_ok T R S C sum v l a ca hok (by omega) (by omega) hv u hu
        have hsi := fun x y c d u h1 h2 => sameInts_any (dlU T R l v (clipI sum (tot T R l (-T)) (tot T R l T) - tot T R l v) l.length) x y c d (by rw [dlU_len]; exact hl) u h1 h2
        rw [dlU_len] at hsi
        generalize dlU T R l v (clipI sum (tot T R l (-T)) (tot T R l T) - tot T R l v) l.length = zs at *
        clear h2 h3 h4 hok b t0 t1 HM hv he h9
        have h9 : (l.length : Int) ≤ 9 := by omega
        go_enter Try.func5, Try.ntmps5
        go_wp2_with (first
          | (go_at_call 26; refine (hsm _ (HV.out.later HR.out.2)).mono ?_; rintro e w1 ⟨rfl, hb1⟩; have HR := ahide (HR.out.later hb1); obtain ⟨q0, q1, q2, q3⟩ := HR.out.1; clear hb1)
          | (go_at_call 27; refine (hrs _ (HV.out.later HR.out.2)).mono ?_; rintro e w2 ⟨⟨x, cx, rfl, hys⟩, hb2⟩; have HR := ahide (HR.out.later hb2); have HY := ahide hys; obtain ⟨q0, q1, q2, q3⟩ := HR.out.1; clear hb2 hys))
        go_loop [9] (fun ix => ∃ k : Nat, k ≤ l.length ∧ ix = .int .i64 k ∧ Hid (∀ j, j < k → -2147483647 ≤ (svAt l j).1 ∧ (svAt l j).1 ≤ 2147483647)) (fun ix => l.length - (intOf ix).toNat)
        case atStart => exact ⟨0, Nat.zero_le _, rfl, fun j hj => by omega⟩
        case round =>
          obtain ⟨k, hk, rfl, hin⟩ := hrel
          by_cases hlt : k < l.length
          · obtain ⟨bl, ol, rfl, d0, d1, d2⟩ := (HV.out.later HR.out.2).at hlt
            have hbw := refBetw_any (svAt l k).1 (-2147483647) 2147483647
            have HBW := ahide (show betw (svAt l k).1 (-2147483647) 2147483647 = true → -2147483647 ≤ (svAt l k).1 ∧ (svAt l k).1 ≤ 2147483647 from betw_true)
            have j0 : (0 : Int) ≤ (k : Int) := by omega
            have j1 : (k : Int) < (l.length : Int) := by omega
            generalize betw (svAt l k).1 (-2147483647) 2147483647 = z at *
            cases z
            · go_wp2_with (go_at_call 28; refine (hbw _).mono ?_; rintro e w' ⟨rfl, hq⟩; have hq := hq.symm; subst hq)
              go_ret
              exact ⟨rfl, HR.out.2⟩
            · go_wp2_with (go_at_call 28; refine (hbw _).mono ?_; rintro e w' ⟨rfl, hq⟩; have hq := hq.symm; subst hq)
              go_round
              case rel =>
                refine ⟨k + 1, by omega, by go_num, fun j hj => ?_⟩
                by_cases ej : j = k
                · subst ej; exact HBW.out (by simp)
                · exact hin.out j (by omega)
              case measure => simp [intOf]; omega
          · have e : k = l.length := by omega
            subst e
            have hsu := fun u hu => shareSum_any l a ca (by omega) hin.out u hu
            have hso := fun u hu => sumOf_any l a ca (by omega) hin.out u hu
            generalize smU l l.length = m at *
            go_wp2_with (first
              | (go_at_call 29; refine (hsp _ (HV.out.later HR.out.2)).mono ?_; rintro e w4 ⟨⟨y, cy, rfl, hzs⟩, hb4⟩; have HR := ahide (HR.out.later hb4); have HY := ahide (HY.out.later hb4); have HZ := ahide hzs; clear hb4 hzs)
              | (go_at_call 14; refine (ais_zero _).mono ?_; rintro e w' ⟨rfl, hq⟩; have hq := hq.symm; subst hq)
              | (go_at_call 30; refine (hsi _ _ _ _ _ HZ.out HY.out).mono ?_; rintro e w5 ⟨rfl, hb5⟩; have HR := ahide (HR.out.later hb5); clear hb5)
              | (go_at_call 31; refine (hsu _ (HV.out.later HR.out.2)).mono ?_; rintro e w6 ⟨rfl, hb6⟩; have HR := ahide (HR.out.later hb6); clear hb6)
              | (go_at_call 32; refine (hso _ (HV.out.later HR.out.2)).mono ?_; rintro e w' ⟨rfl, hq⟩; have hq := hq.symm; subst hq))
            go_ret
            exact ⟨by simp, HR.out.2⟩
      · exact absurd he h1
    · have hsp := fun u hu => spread_err T R S C sum l a ca hl he u hu
      have his : ∀ w, Calls Try.prog 14 #[.iface 23 (.int .i64 (spE T R S C l)), .int .i64 (spE T R S C l)] w fun r w' => r = .returned (.bool true) ∧ w' = w := by
        intro w
        have h := ais_same (spE T R S C l) w
        rwa [errV_ne he] at h
      have hx : (spE T R S C l == 0) = false := by simpa using he
      clear he h9
      generalize spE T R S C l = x at *
      have h9 : (l.length : Int) ≤ 9 := by omega
      go_enter Try.func5, Try.ntmps5
      go_wp2_with (go_at_call 26; refine (hsm _ (HV.out.later HR.out.2)).mono ?_; rintro e w1 ⟨rfl, hb1⟩; have HR := ahide (HR.out.later hb1); obtain ⟨q0, q1, q2, q3⟩ := HR.out.1; clear hb1)
      go_loop [9] (fun ix => ∃ k : Nat, k ≤ l.length ∧ ix = .int .i64 k ∧ Hid (∀ j, j < k → -2147483647 ≤ (svAt l j).1 ∧ (svAt l j).1 ≤ 2147483647)) (fun ix => l.length - (intOf ix).toNat)
      case atStart => exact ⟨0, Nat.zero_le _, rfl, fun j hj => by omega⟩
      case round =>
        obtain ⟨k, hk, rfl, hin⟩ := hrel
        by_cases hlt : k < l.length
        · obtain ⟨bl, ol, rfl, d0, d1, d2⟩ := (HV.out.later HR.out.2).at hlt
          have hbw := refBetw_any (svAt l k).1 (-2147483647) 2147483647
          have HBW := ahide (show betw (svAt l k).1 (-2147483647) 2147483647 = true → -2147483647 ≤ (svAt l k).1 ∧ (svAt l k).1 ≤ 2147483647 from betw_true)
          have j0 : (0 : Int) ≤ (k : Int) := by omega
          have j1 : (k : Int) < (l.length : Int) := by omega
          generalize betw (svAt l k).1 (-2147483647) 2147483647 = z at *
          cases z
          · go_wp2_with (go_at_call 28; refine (hbw _).mono ?_; rintro e w' ⟨rfl, hq⟩; have hq := hq.symm; subst hq)
            go_ret
            exact ⟨rfl, HR.out.2⟩
          · go_wp2_with (go_at_call 28; refine (hbw _).mono ?_; rintro e w' ⟨rfl, hq⟩; have hq := hq.symm; subst hq)
            go_round
            case rel =>
              refine ⟨k + 1, by omega, by go_num, fun j hj => ?_⟩
              by_cases ej : j = k
              · subst ej; exact HBW.out (by simp)
              · exact hin.out j (by omega)
            case measure => simp [intOf]; omega
        · have e : k = l.length := by omega
          subst e
          have hsu := fun u hu => shareSum_any l a ca (by omega) hin.out u hu
          have hso := fun u hu => sumOf_any l a ca (by omega) hin.out u hu
          generalize smU l l.length = m at *
          go_wp2_with (first
            | (go_at_call 29; refine (hsp _ (HV.out.later HR.out.2)).mono ?_; rintro e w4 ⟨rfl, hb4⟩; have HR := ahide (HR.out.later hb4); clear hb4)
            | (go_at_call 14; refine (his _).mono ?_; rintro e w' ⟨rfl, hq⟩; have hq := hq.symm; subst hq)
            | (go_at_call 30; refine (sameInts_any [] none none 0 0 (by simp) _ (.inl rfl) (.inl rfl)).mono ?_; rintro e w5 ⟨rfl, hb5⟩; have HR := ahide (HR.out.later hb5); clear hb5)
            | (go_at_call 31; refine (hsu _ (HV.out.later HR.out.2)).mono ?_; rintro e w6 ⟨rfl, hb6⟩; have HR := ahide (HR.out.later hb6); clear hb6)
            | (go_at_call 32; refine (hso _ (HV.out.later HR.out.2)).mono ?_; rintro e w' ⟨rfl, hq⟩; have hq := hq.symm; subst hq))
          go_ret
          exact ⟨by simp, HR.out.2⟩


end Go.Proofs.Ytbgabomjiibphaa
