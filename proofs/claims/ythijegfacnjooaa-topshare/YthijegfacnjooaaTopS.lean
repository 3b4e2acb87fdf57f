/-
  The walk of the law TopShare.
-/
import Derived.Test.YthijegfacnjooaaShareR
import Derived.Test.YthijegfacnjooaaServG
import Derived.Test.YthijegfacnjooaaMadeC
import Derived.Test.YthijegfacnjooaaAwake
namespace Go.Proofs.Ythijegfacnjooaa
open Go.RowKit Plain

/-- The least and the greatest of the first k that are in. -/
def leU (l : List Sv) : Nat → Int
  | 0 => 2147483647
  | k + 1 => if (svAt l k).2.2 then leU l k else mnA (leU l k) (svAt l k).1
def moU (l : List Sv) : Nat → Int
  | 0 => -2147483647
  | k + 1 => if (svAt l k).2.2 then moU l k else mxA (moU l k) (svAt l k).1
theorem lm_is {l : List Sv} : ∀ n, n ≤ l.length → (∀ k, k < l.length → -2147483647 ≤ (svAt l k).1 ∧ (svAt l k).1 ≤ 2147483647) →
    (inN l n = 0 ∧ leU l n = 2147483647 ∧ moU l n = -2147483647) ∨ (∃ j k, j < n ∧ k < n ∧ (svAt l j).2.2 = false ∧ (svAt l k).2.2 = false ∧ leU l n = (svAt l j).1 ∧ moU l n = (svAt l k).1)
  | 0, _, _ => .inl ⟨rfl, rfl, rfl⟩
  | n + 1, hn, hb => by
    have i := lm_is n (by omega) hb
    have b := hb n (by omega)
    simp only [inN, leU, moU]
    cases ho : (svAt l n).2.2
    · right
      simp only [Bool.false_eq_true, if_false]
      rcases i with ⟨_, h2, h3⟩ | ⟨j, k, h1, h2, h3, h4, h5, h6⟩
      · exact ⟨n, n, by omega, by omega, ho, ho, by rw [h2]; unfold mnA; omega, by rw [h3]; unfold mxA; omega⟩
      · rw [h5, h6]
        unfold mnA mxA
        by_cases c1 : (svAt l j).1 ≤ (svAt l n).1
        · by_cases c2 : (svAt l n).1 ≤ (svAt l k).1
          · exact ⟨j, k, by omega, by omega, h3, h4, by omega, by omega⟩
          · exact ⟨j, n, by omega, by omega, h3, ho, by omega, by omega⟩
        · by_cases c2 : (svAt l n).1 ≤ (svAt l k).1
          · exact ⟨n, k, by omega, by omega, ho, h4, by omega, by omega⟩
          · exact ⟨n, n, by omega, by omega, ho, ho, by omega, by omega⟩
    · simp only [if_true]
      rcases i with i | ⟨j, k, h1, h2, h⟩
      · exact .inl i
      · exact .inr ⟨j, k, by omega, by omega, h⟩
theorem lm_bd {l : List Sv} (n : Nat) (hn : n ≤ l.length) (hb : ∀ k, k < l.length → -1000 ≤ (svAt l k).1 ∧ (svAt l k).1 ≤ 1000) : (-2147483647 ≤ leU l n ∧ leU l n ≤ 2147483647) ∧ -2147483647 ≤ moU l n ∧ moU l n ≤ 2147483647 := by
  rcases lm_is n hn (fun k hk => by have := hb k hk; omega) with ⟨_, h2, h3⟩ | ⟨j, k, h1, h2, h3, h4, h5, h6⟩
  · omega
  · have := hb j (by omega); have := hb k (by omega); omega
theorem ok_bd {T R S C : Int} {l : List Sv} (h : AllOk T R S C l) : ∀ k, k < l.length → -1000 ≤ (svAt l k).1 ∧ (svAt l k).1 ≤ 1000 := fun k hk => by
  have a := arB_true h.1
  have b := svB_true (h.2 k hk)
  omega
theorem ok_wide {T R S C : Int} {l : List Sv} (h : AllOk T R S C l) : ∀ k, k < l.length → -2147483647 ≤ (svAt l k).1 ∧ (svAt l k).1 ≤ 2147483647 := fun k hk => by
  have := ok_bd h k hk
  omega
theorem lm_end {T R S C : Int} {l : List Sv} (h : AllOk T R S C l) (ha : Apart l 1) (hn : inN l l.length ≠ 0) : moU l l.length - leU l l.length ≤ 1 := by
  rcases lm_is l.length (Nat.le_refl _) (ok_wide h) with ⟨h1, _⟩ | ⟨j, k, h1, h2, h3, h4, h5, h6⟩
  · exact absurd h1 hn
  · have := ha k j h2 h1 h4 h3; omega
theorem keepT5 {w u u' : World} {P : Nat} {T R S C : Int} (hb : Below u.heap.size u u') (h : (u.cell? ⟨P, 0, none⟩ = some (.int .i64 T) ∧ u.cell? ⟨P, 1, none⟩ = some (.int .i64 R) ∧ u.cell? ⟨P, 2, none⟩ = some (.int .i64 S) ∧ u.cell? ⟨P, 3, none⟩ = some (.int .i64 C)) ∧ Below w.heap.size w u) : (u'.cell? ⟨P, 0, none⟩ = some (.int .i64 T) ∧ u'.cell? ⟨P, 1, none⟩ = some (.int .i64 R) ∧ u'.cell? ⟨P, 2, none⟩ = some (.int .i64 S) ∧ u'.cell? ⟨P, 3, none⟩ = some (.int .i64 C)) ∧ Below w.heap.size w u' := ⟨B4.later h.1 hb, abelow_up h.2 hb⟩
theorem keepT5d {w u u' : World} {P O : Nat} {T R S C : Int} (hO : P ≠ O ∧ w.heap.size ≤ O) (hb : DK O u u') (h : (u.cell? ⟨P, 0, none⟩ = some (.int .i64 T) ∧ u.cell? ⟨P, 1, none⟩ = some (.int .i64 R) ∧ u.cell? ⟨P, 2, none⟩ = some (.int .i64 S) ∧ u.cell? ⟨P, 3, none⟩ = some (.int .i64 C)) ∧ Below w.heap.size w u) : (u'.cell? ⟨P, 0, none⟩ = some (.int .i64 T) ∧ u'.cell? ⟨P, 1, none⟩ = some (.int .i64 R) ∧ u'.cell? ⟨P, 2, none⟩ = some (.int .i64 S) ∧ u'.cell? ⟨P, 3, none⟩ = some (.int .i64 C)) ∧ Below w.heap.size w u' :=
  ⟨⟨hb.cell (p := ⟨P, 0, none⟩) hO.1 h.1.1, hb.cell (p := ⟨P, 1, none⟩) hO.1 h.1.2.1, hb.cell (p := ⟨P, 2, none⟩) hO.1 h.1.2.2.1, hb.cell (p := ⟨P, 3, none⟩) hO.1 h.1.2.2.2⟩, hb.below h.2 hO.2 h.2.size⟩
theorem keepT7 {w u u' : World} {P : Nat} {x : Option Addr} {ls : List Sv} {T R S C : Int} (hb : Below u.heap.size u u') (h : (u.cell? ⟨P, 0, none⟩ = some (.int .i64 T) ∧ u.cell? ⟨P, 1, none⟩ = some (.int .i64 R) ∧ u.cell? ⟨P, 2, none⟩ = some (.int .i64 S) ∧ u.cell? ⟨P, 3, none⟩ = some (.int .i64 C)) ∧ VLs u x ls ∧ Below w.heap.size w u) : (u'.cell? ⟨P, 0, none⟩ = some (.int .i64 T) ∧ u'.cell? ⟨P, 1, none⟩ = some (.int .i64 R) ∧ u'.cell? ⟨P, 2, none⟩ = some (.int .i64 S) ∧ u'.cell? ⟨P, 3, none⟩ = some (.int .i64 C)) ∧ VLs u' x ls ∧ Below w.heap.size w u' := ⟨B4.later h.1 hb, h.2.1.later hb, abelow_up h.2.2 hb⟩
theorem raw_up {a : Option Addr} {l : List Int} {K : Nat} (h : RawAt a l K) {w : World} (hw : K ≤ w.heap.size) {X : World} (hb : Below w.heap.size w X) : RawAt a l X.heap.size := fun b off e hne => Nat.lt_of_lt_of_le (h b off e hne) (Nat.le_trans hw hb.size)
theorem ceil_is {T R : Int} (t0 : 1 ≤ T) (r0 : 1 ≤ R) : ∃ K : Int, (2 * T + R - 1).tdiv R = K ∧ (2 * T + R - 1) / R = K ∧ 2 * T ≤ K * R ∧ 1 ≤ K ∧ K ≤ 2 * T := by
  have e : (2 * T + R - 1).tdiv R = (2 * T + R - 1) / R := Int.tdiv_eq_ediv_of_nonneg (by omega)
  refine ⟨(2 * T + R - 1) / R, e, rfl, ?_, ?_, ?_⟩
  · have h1 := Int.mul_ediv_add_emod (2 * T + R - 1) R
    have h2 := Int.emod_lt_of_pos (2 * T + R - 1) (show 0 < R by omega)
    rw [Int.mul_comm] at h1
    omega
  · exact Int.le_ediv_of_mul_le (by omega) (by omega)
  · refine Int.ediv_le_of_le_mul (by omega) ?_
    have : 0 ≤ (2 * T - 1) * (R - 1) := Int.mul_nonneg (by omega) (by omega)
    rw [Int.sub_mul, Int.mul_sub] at this
    omega

/-- What is there behind t frames. -/
def TSh (w0 wr : World) (P : Nat) (T R S C : Int) (sm K t : Int) (x : Option Addr) (ls : List Sv) (len : Nat) : Prop :=
  B4 wr P (.int .i64 T) (.int .i64 R) (.int .i64 S) (.int .i64 C) ∧ Below w0.heap.size w0 wr ∧ VLs wr x ls ∧ AllOk T R S C ls ∧ ls.length = len ∧ Ev T R sm K t ls
theorem TSh.later {w0 wr wr' : World} {P : Nat} {T R S C sm K t : Int} {x : Option Addr} {ls : List Sv} {len : Nat} (h : TSh w0 wr P T R S C sm K t x ls len) (hb : Below wr.heap.size wr wr') : TSh w0 wr' P T R S C sm K t x ls len :=
  ⟨h.1.later hb, abelow_up h.2.1 hb, h.2.2.1.later hb, h.2.2.2⟩
/-- One frame more. -/
theorem shared_step {w0 wr : World} {P : Nat} {T R S C sm K t : Int} {x : Option Addr} {ls : List Sv} {len : Nat} (cp : Nat) (h : TSh w0 wr P T R S C sm K t x ls len) (h1 : 1 ≤ len) (h4 : len ≤ 4) (hK : 2 * T ≤ K * R) :
    Calls Try.prog 23 #[.agg #[.int .i64 T, .int .i64 R, .int .i64 S, .int .i64 C], .slice x len cp, .int .i64 sm] wr fun e w' => (∃ x' cp' ls', e = .returned (.tuple #[.slice x' len cp', .bool true]) ∧ TSh w0 w' P T R S C sm K (t + 1) x' ls' len ∧ Fr T R S C sm ls ls') ∧ Below wr.heap.size wr w' := by
  obtain ⟨hB, hw, hv, hok, hl, hev⟩ := h
  subst hl
  have a := arB_true hok.1
  have hm := tot_mono T R ls (show -T ≤ T by omega)
  obtain ⟨v, hv'⟩ := lev_is (T := T) (R := R) (l := ls) (s := clipI sm (tot T R ls (-T)) (tot T R ls T)) (by omega) (clip_bd hm).1
  refine (shared_ok T R S C sm v ls x cp hok h1 h4 hv' wr hv).mono ?_
  rintro e w' ⟨⟨x', cp', rfl, hx⟩, hb⟩
  have f := fr_mk hok hv'
  exact ⟨⟨x', cp', _, rfl, ⟨hB.later hb, abelow_up hw hb, hx, f.ok', f.len, ev_step f hK hev⟩, f⟩, hb⟩

set_option maxRecDepth 100000 in
set_option maxHeartbeats 4000000 in
theorem topShare_walk (a : Option Addr) (l : List Int) (cap : Nat) (hm : l.length ≤ 9223372036854775807) (many sum : Int) (w : World) (hil : ILs w a l) :
    Calls Try.prog 5 #[.slice a l.length cap, .int .i64 many, .int .i64 sum] w fun e w' => e = .returned (.bool true) ∧ Below w.heap.size w w' := by
  have HIL := ahide hil
  have HRAW := ahide (raw_of hil)
  have HB := ahide (Below.refl w.heap.size w)
  clear hil
  by_cases hl : (100 : Int) < (l.length : Int)
  · go_enter Try.func5, Try.ntmps5
    go_wp2_with (go_at_call 10; refine (awake_any _).mono ?_; rintro e w1 ⟨rfl, hb1⟩; have HB := ahide (abelow_up HB.out hb1); clear hb1)
    go_ret
    exact ⟨rfl, HB.out⟩
  · have hl' : l.length ≤ 100 := by omega
    have hfa := fld_axes
    have hif := idx_second
    go_enter Try.func5, Try.ntmps5
    go_upto_region 5 with (first
      | (go_at_call 10; refine (awake_any _).mono ?_; rintro e w1 ⟨rfl, hb1⟩; have HB := ahide (abelow_up HB.out hb1); clear hb1)
      | (go_at_call 20; refine (craft_two a l cap hl' _ (HIL.out.later (gbw_alloc HB.out))).mono ?_; rintro e w2 ⟨⟨a0, a1, a2, a3, a4, a5, a6, a7, a8, a9, a10, a11, a14, b0, b1, b2, b3, b4, b5, b6, b7, b8, b9, b10, b11, b14, ga, gi, gb, gj, y, z, rfl, hax, hbx⟩, hb2⟩; have HA := ahide hbx; have HD := ahide ((dice_new (cap := cap) (HIL.out.later HB.out)).later hb2); have HB2 := ahide (abelow_up (gbw_alloc HB.out) hb2); clear hax hbx hb2)
      | (go_at_call 19; refine (mactRule_any b0 b1 b2 b3 b4 b5 b6 b7 b8 b9 b10 b11 b14 gb gj _).mono ?_; rintro e w3 ⟨rfl, hb3⟩; have HD3 := ahide (HD.out.later hb3); have HB3 := ahide (abelow_up HB2.out hb3); clear hb3))
    have HAR := ahide (ax_arB HA.out)
    generalize b5 = T at *
    generalize b6 = R at *
    generalize b7 = S at *
    generalize b10 = C at *
    have HO : Hid (w.heap.size ≤ w1.heap.size) := HB.out.size
    have HO2 : Hid (w1.heap.size < w3.heap.size) := HD3.out.lt
    have HD4 := ahide (HD3.out.later (abelow_alloc w3 (.cells #[.int .i64 T, .int .i64 R, .int .i64 S, .int .i64 C] 48)))
    have HQ := ahide (B4.new w3 (.int .i64 T) (.int .i64 R) (.int .i64 S) (.int .i64 C) 48)
    have HB4 := ahide (gbw_alloc (o := .cells #[.int .i64 T, .int .i64 R, .int .i64 S, .int .i64 C] 48) HB3.out)
    clear HD HD3 HB2 HB3 HB HA
    generalize w3.alloc (.cells #[.int .i64 T, .int .i64 R, .int .i64 S, .int .i64 C] 48) = w4 at *
    generalize w3.heap.size = P at *
    generalize w1.heap.size = O at *
    have hPO : Hid (P ≠ O ∧ w.heap.size ≤ O) := ahide ⟨by have := HO2.out; omega, HO.out⟩
    obtain ⟨⟨t0, t1⟩, ⟨r0, r1⟩, ⟨s0, s1⟩, c0, c1⟩ := arB_true HAR.out
    have e0 := Int.emod_nonneg many (b := 4) (by omega)
    have e1 := Int.emod_lt_of_pos many (b := 4) (by omega)
    have hpk := pick_any many 4 (by omega) (by omega)
    obtain ⟨m0, hm0⟩ : ∃ m0 : Nat, many % 4 = (m0 : Int) := ⟨(many % 4).toNat, by omega⟩
    rw [hm0] at hpk e1
    have v0 : IntKind.i64.wrap (1 + (m0 : Int)) = ((m0 + 1 : Nat) : Int) := by rw [swrap_id (by omega) (by omega)]; omega
    clear hm0 e0
    have S0 : (w4.cell? ⟨P, 0, none⟩ = some (.int .i64 T) ∧ w4.cell? ⟨P, 1, none⟩ = some (.int .i64 R) ∧ w4.cell? ⟨P, 2, none⟩ = some (.int .i64 S) ∧ w4.cell? ⟨P, 3, none⟩ = some (.int .i64 C)) ∧ Below w.heap.size w w4 := ⟨HQ.out, HB4.out⟩
    have Z := ahide S0
    have HRW : Hid (∀ X, Below w4.heap.size w4 X → RawAt a l X.heap.size) := ahide (fun X hX => raw_up HRAW.out HB4.out.size hX)
    go_cut [9] (fun v u => ∃ (x : Option Addr) (cp : Nat) (ls : List Sv), v = .slice x (m0 + 1) cp ∧ ls.length = m0 + 1 ∧ VLs u x ls ∧ SvOK T C ls ∧ (u.cell? ⟨P, 0, none⟩ = some (.int .i64 T) ∧ u.cell? ⟨P, 1, none⟩ = some (.int .i64 R) ∧ u.cell? ⟨P, 2, none⟩ = some (.int .i64 S) ∧ u.cell? ⟨P, 3, none⟩ = some (.int .i64 C)) ∧ Below w.heap.size w u)
    case first =>
      go_region_held3 (fun u => (u.cell? ⟨P, 0, none⟩ = some (.int .i64 T) ∧ u.cell? ⟨P, 1, none⟩ = some (.int .i64 R) ∧ u.cell? ⟨P, 2, none⟩ = some (.int .i64 S) ∧ u.cell? ⟨P, 3, none⟩ = some (.int .i64 C)) ∧ Below w.heap.size w u)
        (first
          | (with_reducible assumption)
          | (with_reducible exact KS.out)
          | (refine keepT5 ?_ Z.out; exact (Below.refl _ _).drew))
        (first
          | (go_at_call 13; refine (hpk _).mono ?_; rintro e w' ⟨rfl, rfl⟩)
          | (go_at_call 21; refine (servosFrom_any O a l cap 0 T R S C (m0 + 1) (by omega) hl' t0 t1 c0 c1 (by omega) _ (HD4.out.later ?_) (HRW.out _ ?_)).mono ?_; (repeat' (first | with_reducible exact Below.refl _ _ | with_reducible apply gbw_alloc | with_reducible apply gbw_drew)); (repeat' (first | with_reducible exact Below.refl _ _ | with_reducible apply gbw_alloc | with_reducible apply gbw_drew)); rintro e w5 ⟨⟨x, cp, ls, hls, rfl, hvl, hsk, _⟩, hK⟩; have KS := ahide (keepT5d hPO.out hK (by with_reducible assumption)); have HLS := ahide hls; have HVL := ahide hvl; have HSK := ahide hsk; clear hls hvl hsk hK))
      all_goals
        go_wp2_with fail
        go_meet
        (case rel => exact ⟨x, cp, ls, by rw [HLS.out], HLS.out, HVL.out, HSK.out, KS.out⟩)
    case rest =>
      obtain ⟨x, cp, ls, rfl, hls, hvl, hsk, hS⟩ := hcut
      rename World => w5
      have HOK : Hid (AllOk T R S C ls) := ahide ⟨HAR.out, hsk⟩
      have HLS := ahide hls
      have HVL := ahide hvl
      have HS := ahide hS
      clear hls hvl hsk hS S0 Z HRW HD4 HB4 HQ HO HO2 hPO hpk
      have hk5 := refClip_any sum (-5000) 5000 (by omega)
      have b5 := clip_bd (v := sum) (show (-5000 : Int) ≤ 5000 by omega)
      generalize clipI sum (-5000) 5000 = sm at *
      obtain ⟨q0, q1, q2, q3⟩ := HS.out.1
      have v1 : IntKind.i64.wrap (-T) = -T := swrap_id (by omega) (by omega)
      go_upto_region 7 with (go_at_call 14; refine (hk5 _).mono ?_; rintro e w' ⟨rfl, hq⟩; have hq := hq.symm; subst hq)
      clear hk5
      have hlen : Hid (ls.length ≤ 9) := ahide (by rw [HLS.out]; omega)
      have htl := fun v cp u hu => total_any T R S C ls v x cp HOK.out hlen.out u hu
      rw [HLS.out] at htl
      have tb0 := tot_bd HOK.out hlen.out (-T)
      have tb1 := tot_bd HOK.out hlen.out T
      have HM := ahide (tot_mono T R ls (show -T ≤ T by omega))
      have HSUM : Hid (∀ ls', Fr T R S C sm ls ls' → smU ls' ls'.length = clipI sm (tot T R ls (-T)) (tot T R ls T)) := ahide (fun ls' f => by rw [f.sum', clS_clip HM.out])
      have htA : ∀ u, ((u.cell? ⟨P, 0, none⟩ = some (.int .i64 T) ∧ u.cell? ⟨P, 1, none⟩ = some (.int .i64 R) ∧ u.cell? ⟨P, 2, none⟩ = some (.int .i64 S) ∧ u.cell? ⟨P, 3, none⟩ = some (.int .i64 C)) ∧ VLs u x ls ∧ Below w.heap.size w u) → Calls Try.prog 22 #[.agg #[.int .i64 T, .int .i64 R, .int .i64 S, .int .i64 C], .slice x (m0 + 1) cp, .int .i64 (-T)] u fun e w' => e = .returned (.int .i64 (tot T R ls (-T))) ∧ Below u.heap.size u w' := fun u hu => htl _ _ u hu.2.1
      have htB : ∀ u, ((u.cell? ⟨P, 0, none⟩ = some (.int .i64 T) ∧ u.cell? ⟨P, 1, none⟩ = some (.int .i64 R) ∧ u.cell? ⟨P, 2, none⟩ = some (.int .i64 S) ∧ u.cell? ⟨P, 3, none⟩ = some (.int .i64 C)) ∧ VLs u x ls ∧ Below w.heap.size w u) → Calls Try.prog 22 #[.agg #[.int .i64 T, .int .i64 R, .int .i64 S, .int .i64 C], .slice x (m0 + 1) cp, .int .i64 T] u fun e w' => e = .returned (.int .i64 (tot T R ls T)) ∧ Below u.heap.size u w' := fun u hu => htl _ _ u hu.2.1
      have HCL := ahide (refClip_any sm (tot T R ls (-T)) (tot T R ls T) HM.out)
      generalize tot T R ls (-T) = tA at *
      generalize tot T R ls T = tB at *
      have S0 : (w5.cell? ⟨P, 0, none⟩ = some (.int .i64 T) ∧ w5.cell? ⟨P, 1, none⟩ = some (.int .i64 R) ∧ w5.cell? ⟨P, 2, none⟩ = some (.int .i64 S) ∧ w5.cell? ⟨P, 3, none⟩ = some (.int .i64 C)) ∧ VLs w5 x ls ∧ Below w.heap.size w w5 := ⟨HS.out.1, HVL.out, HS.out.2⟩
      have Z := ahide S0
      clear htl q0 q1 q2 q3
      go_cut [10, 11] (fun p q u => p = .int .i64 tA ∧ q = .int .i64 tB ∧ (u.cell? ⟨P, 0, none⟩ = some (.int .i64 T) ∧ u.cell? ⟨P, 1, none⟩ = some (.int .i64 R) ∧ u.cell? ⟨P, 2, none⟩ = some (.int .i64 S) ∧ u.cell? ⟨P, 3, none⟩ = some (.int .i64 C)) ∧ VLs u x ls ∧ Below w.heap.size w u)
      case first =>
        go_region_held3 (fun u => (u.cell? ⟨P, 0, none⟩ = some (.int .i64 T) ∧ u.cell? ⟨P, 1, none⟩ = some (.int .i64 R) ∧ u.cell? ⟨P, 2, none⟩ = some (.int .i64 S) ∧ u.cell? ⟨P, 3, none⟩ = some (.int .i64 C)) ∧ VLs u x ls ∧ Below w.heap.size w u)
          (first
            | (with_reducible assumption)
            | (with_reducible apply keepT7; with_reducible assumption; with_reducible assumption)
            | (refine keepT7 ?_ Z.out; exact (Below.refl _ _).drew))
          (first
            | (go_at_call_of 22 (Value.int .i64 (-T)); refine (htA _ (by with_reducible assumption)).mono ?_; rintro e w' ⟨rfl, hb⟩)
            | (go_at_call 22; refine (htB _ (by with_reducible assumption)).mono ?_; rintro e w' ⟨rfl, hb⟩))
        all_goals
          rename_i hH
          go_wp2_with fail
          go_meet
          (case rel => exact ⟨rfl, rfl, hH⟩)
      case rest =>
        obtain ⟨rfl, rfl, hH⟩ := hcut
        rename World => w6
        obtain ⟨K, hK1, hK2, hK3, k0, k1⟩ := ceil_is t0 r0
        have HK3 := ahide hK3
        have HT : Hid (TSh w w6 P T R S C sm K 0 x ls (m0 + 1)) := ahide ⟨hH.1, hH.2.2, hH.2.1, HOK.out, HLS.out, ev_start HOK.out (by omega)⟩
        clear hH S0 Z htA htB HS HVL HLS HOK HM hK3 hlen
        obtain ⟨q0, q1, q2, q3⟩ := HT.out.1
        have hcc : (clipI sm tA tB != clipI sm tA tB) = false := by simp
        have hcl := HCL.out
        obtain ⟨cs, HCS⟩ : ∃ cs, Hid (clipI sm tA tB = cs) := ⟨_, rfl⟩
        rw [HCS.out] at hcl hcc HSUM
        have g1 : IntKind.i64.wrap (2 * T) = 2 * T := swrap_id (by omega) (by omega)
        have g2 : IntKind.i64.wrap (2 * T + R) = 2 * T + R := swrap_id (by omega) (by omega)
        have g3 : IntKind.i64.wrap (2 * T + R - 1) = 2 * T + R - 1 := swrap_id (by omega) (by omega)
        have g4 : IntKind.i64.wrap (4 * K) = 4 * K := swrap_id (by omega) (by omega)
        have g5 : IntKind.i64.wrap (4 * K + 2) = 4 * K + 2 := swrap_id (by omega) (by omega)
        have g6 : IntKind.i64.wrap K = K := swrap_id (by omega) (by omega)
        have rz : (R == 0) = false := beq_eq_false_iff_ne.2 (by omega)
        go_wp2_with (first
          | (go_at_call 23; refine (shared_step cp HT.out (by omega) (by omega) HK3.out).mono ?_; rintro e w7 ⟨⟨x2, cp2, ls2, rfl, hT2, hF⟩, hb7⟩; have hsu := fun u hu => sumOf_any ls2 x2 cp2 (by rw [hT2.2.2.2.2.1]; omega) (ok_wide hT2.2.2.2.1) u hu; rw [HSUM.out _ hF, hT2.2.2.2.2.1] at hsu; have HSU := ahide hsu; have HT2 := ahide hT2; clear hsu hT2 hF hb7 q0 q1 q2 q3; obtain ⟨q0, q1, q2, q3⟩ := HT2.out.1)
          | (go_at_call 24; refine (HSU.out _ HT2.out.2.2.1).mono ?_; rintro e w' ⟨rfl, hq⟩; have hq := hq.symm; subst hq)
          | (go_at_call 14; refine (hcl _).mono ?_; rintro e w' ⟨rfl, hq⟩; have hq := hq.symm; subst hq))
        clear q0 q1 q2 q3 HT HSU HSUM HCS hcl hcc HCL g1 g2 g3 g4 g5 g6 rz hK1 hK2
        go_loopw [12, 13, 15] (fun nv okv iv wr => ∃ (t : Nat) (x : Option Addr) (cp : Nat) (ls : List Sv), nv = .slice x (m0 + 1) cp ∧ okv = .bool true ∧ iv = .int .i64 t ∧ t ≤ 1000 ∧ (t : Int) ≤ 4 * K + 2 ∧ TSh w wr P T R S C sm K ((t : Int) + 1) x ls (m0 + 1)) (fun _ _ iv _ => 1000 - (intOf iv).toNat)
        case atStart => exact ⟨0, x2, cp2, ls2, rfl, rfl, rfl, by omega, by simp; omega, HT2.out⟩
        case round =>
          clear HT2
          obtain ⟨t, x3, cp3, ls3, rfl, rfl, rfl, h1k, hfr, hT3⟩ := hrel
          have HT3 := ahide hT3
          clear hT3
          obtain ⟨q0, q1, q2, q3⟩ := HT3.out.1
          by_cases hgo : (t : Int) < 4 * K + 2 ∧ (t : Int) < 1000
          · obtain ⟨g1, g2⟩ := hgo
            go_wp2_with (go_at_call 23; refine (shared_step cp3 HT3.out (by omega) (by omega) HK3.out).mono ?_; rintro e w8 ⟨⟨x4, cp4, ls4, rfl, hT4, _⟩, _⟩; have HT4 := ahide hT4; clear hT4 q0 q1 q2 q3)
            go_roundw
            case rel => exact ⟨t + 1, x4, cp4, ls4, rfl, rfl, by go_num, by omega, by omega, by rw [show (((t + 1 : Nat) : Int)) + 1 = (t : Int) + 1 + 1 by omega]; exact HT4.out⟩
            case measure => simp [intOf]; omega
          · by_cases hbig : (1000 : Int) < 4 * K + 2
            · have ht : (t : Int) = 1000 := by omega
              have g1 : (t : Int) < 4 * K + 2 := by omega
              have g2 : ¬ (t : Int) < 1000 := by omega
              clear hgo ht
              go_wp2
              go_ret
              exact ⟨rfl, HT3.out.2.1⟩
            · have ht : (t : Int) = 4 * K + 2 := by omega
              have g1 : ¬ (t : Int) < 4 * K + 2 := by omega
              have HEN := ahide (ev_end HT3.out.2.2.2.1 HK3.out (show 2 * K ≤ (t : Int) + 1 by omega) (by omega) HT3.out.2.2.2.2.2)
              have HOK3 := ahide HT3.out.2.2.2.1
              have HLN := ahide HT3.out.2.2.2.2.1
              clear hgo ht
              go_wp2
              clear q0 q1 q2 q3
              go_loopw [16, 17, 18, 19] (fun nv lv mv iv wr => ∃ k : Nat, k ≤ m0 + 1 ∧ iv = .int .i64 k ∧ nv = .int .i64 (inN ls3 k : Nat) ∧ lv = .int .i64 (leU ls3 k) ∧ mv = .int .i64 (moU ls3 k) ∧ TSh w wr P T R S C sm K ((t : Int) + 1) x3 ls3 (m0 + 1)) (fun _ _ _ iv _ => m0 + 1 - (intOf iv).toNat)
              case atStart => exact ⟨0, by omega, rfl, rfl, rfl, rfl, HT3.out⟩
              case round =>
                clear HT3
                obtain ⟨k, hk, rfl, rfl, rfl, rfl, hT⟩ := hrel
                rename World => wr
                have HT := ahide hT
                clear hT
                have hib := inN_le ls3 k
                have hib' : ((inN ls3 k : Nat) : Int) ≤ 4 := by omega
                have hlb := lm_bd k (by rw [HLN.out]; exact hk) (ok_bd HOK3.out)
                by_cases hlt : k < m0 + 1
                · obtain ⟨bl, ol, rfl, d0, d1, d2⟩ := HT.out.2.2.1.at (k := k) (by rw [HLN.out]; exact hlt)
                  have HE1 : Hid (((inN ls3 (k + 1) : Nat) : Int) = if (svAt ls3 k).2.2 then ((inN ls3 k : Nat) : Int) else ((inN ls3 k : Nat) : Int) + 1) := ahide (by simp only [inN]; split <;> simp)
                  have HE2 : Hid (leU ls3 (k + 1) = if (svAt ls3 k).2.2 then leU ls3 k else mnA (leU ls3 k) (svAt ls3 k).1) := rfl
                  have HE3 : Hid (moU ls3 (k + 1) = if (svAt ls3 k).2.2 then moU ls3 k else mxA (moU ls3 k) (svAt ls3 k).1) := rfl
                  have hi0 : (0 : Int) ≤ ((inN ls3 k : Nat) : Int) := by omega
                  clear hlb hib
                  generalize ((inN ls3 k : Nat) : Int) = nn at *
                  generalize leU ls3 k = le at *
                  generalize moU ls3 k = mo at *
                  generalize (svAt ls3 k).1 = i at *
                  generalize (svAt ls3 k).2.1 = b at *
                  generalize (svAt ls3 k).2.2 = o at *
                  have j0 : (0 : Int) ≤ (k : Int) := by omega
                  have j1 : (k : Int) < ((m0 + 1 : Nat) : Int) := by omega
                  have m2 := fun ts t p q w => run_minA ts t p q w
                  have x2 := fun ts t p q w => run_maxA ts t p q w
                  cases o
                  · go_upto_region 24 with fail
                    go_quiet (fail)
                    go_wp2
                    go_roundw
                    case rel => exact ⟨k + 1, by omega, by go_num, by rw [HE1.out]; rfl, by rw [HE2.out]; rfl, by rw [HE3.out]; rfl, HT.out.later (below_drewN (Below.refl _ _) _)⟩
                    case measure => simp [intOf]; omega
                  · go_wp2
                    go_roundw
                    case rel => exact ⟨k + 1, by omega, by go_num, by rw [HE1.out]; rfl, by rw [HE2.out]; rfl, by rw [HE3.out]; rfl, HT.out⟩
                    case measure => simp [intOf]; omega
                · have ek : k = m0 + 1 := by omega
                  subst ek
                  obtain ⟨q0, q1, q2, q3⟩ := HT.out.1
                  by_cases hin : inN ls3 (m0 + 1) = 0
                  · have h0 : (((inN ls3 (m0 + 1) : Nat) : Int) == 0) = true := by rw [hin]; rfl
                    clear hin
                    generalize ((inN ls3 (m0 + 1) : Nat) : Int) = nn at *
                    generalize leU ls3 (m0 + 1) = le at *
                    generalize moU ls3 (m0 + 1) = mo at *
                    go_upto_region 25 with fail
                    go_quiet (fail)
                    go_wp2
                    go_ret
                    exact ⟨rfl, (HT.out.later (below_drewN (Below.refl _ _) _)).2.1⟩
                  · have h0 : (((inN ls3 (m0 + 1) : Nat) : Int) == 0) = false := beq_eq_false_iff_ne.2 (by omega)
                    have hmo := lm_end HOK3.out HEN.out.2 (by rw [HLN.out]; exact hin)
                    rw [HLN.out] at hmo
                    have hsu := fun u hu => sumOf_any ls3 x3 cp3 (by rw [HLN.out]; omega) (ok_wide HOK3.out) u hu
                    have hai := HEN.out.1
                    have hab : -4000 ≤ inT T ls3 (m0 + 1) ∧ inT T ls3 (m0 + 1) ≤ 4000 := by
                      rw [inT_is]
                      have h2 := Int.mul_le_mul_of_nonneg_left t1 (show (0 : Int) ≤ ((inN ls3 (m0 + 1) : Nat) : Int) by omega)
                      have h3 := Int.mul_nonneg (show (0 : Int) ≤ ((inN ls3 (m0 + 1) : Nat) : Int) by omega) (show 0 ≤ T by omega)
                      omega
                    have hin0 : 0 ≤ inT T ls3 (m0 + 1) := by rw [inT_is]; exact Int.mul_nonneg (by omega) (by omega)
                    unfold aimS at hai
                    rw [← clS_clip (by rw [HLN.out]; omega)] at hai
                    rw [hai, HLN.out] at hsu
                    have hcl := refClip_any sm (-inT T ls3 (m0 + 1)) (inT T ls3 (m0 + 1)) (by omega)
                    have ee : (clipI sm (-inT T ls3 (m0 + 1)) (inT T ls3 (m0 + 1)) == clipI sm (-inT T ls3 (m0 + 1)) (inT T ls3 (m0 + 1))) = true := by simp
                    have w0 : IntKind.i64.wrap (moU ls3 (m0 + 1) - leU ls3 (m0 + 1)) = moU ls3 (m0 + 1) - leU ls3 (m0 + 1) := swrap_id (by omega) (by omega)
                    have w1' : IntKind.i64.wrap (-((inN ls3 (m0 + 1) : Nat) : Int)) = -((inN ls3 (m0 + 1) : Nat) : Int) := swrap_id (by omega) (by omega)
                    have w2' : IntKind.i64.wrap (-((inN ls3 (m0 + 1) : Nat) : Int) * T) = -inT T ls3 (m0 + 1) := by rw [Int.neg_mul, ← inT_is]; exact swrap_id (by omega) (by omega)
                    have w3' : IntKind.i64.wrap (((inN ls3 (m0 + 1) : Nat) : Int) * T) = inT T ls3 (m0 + 1) := by rw [← inT_is]; exact swrap_id (by omega) (by omega)
                    have HSU2 := ahide hsu
                    clear hin hai hin0 hsu
                    generalize clipI sm (-inT T ls3 (m0 + 1)) (inT T ls3 (m0 + 1)) = cs at *
                    generalize inT T ls3 (m0 + 1) = iT at *
                    generalize ((inN ls3 (m0 + 1) : Nat) : Int) = nn at *
                    generalize leU ls3 (m0 + 1) = le at *
                    generalize moU ls3 (m0 + 1) = mo at *
                    go_upto_region 25 with fail
                    go_quiet (first
                      | (go_at_call 24; exact Calls.quiet_of_same (HSU2.out _ (HT.out.2.2.1.later (below_drewN (Below.refl _ _) _))))
                      | (go_at_call 14; exact Calls.quiet_of_same (hcl _)))
                    go_wp2
                    go_ret
                    exact ⟨rfl, (HT.out.later (below_drewN (Below.refl _ _) _)).2.1⟩

end Go.Proofs.Ythijegfacnjooaa
