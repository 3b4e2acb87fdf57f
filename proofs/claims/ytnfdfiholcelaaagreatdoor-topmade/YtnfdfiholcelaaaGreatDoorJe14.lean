
import Derived.Test.YtnfdfiholcelaaaGreatDoorJe00
import Derived.Test.YtnfdfiholcelaaaGreatDoorJe01
import Derived.Test.YtnfdfiholcelaaaGreatDoorJe13
set_option maxRecDepth 100000
set_option maxHeartbeats 20000000
namespace Go.Proofs.YtnfdfiholcelaaaGreatDoor
open Go.RowKit Plain Tryz
theorem along_any (ba oa ca bz oz cz : Nat) (a z : List Int) (x : Int) (w : World) (p : Places a) (hz : Zbe z = 0) (hlen : a.length = z.length)
 (ha : ∀ k, k < a.length → w.cell? (Ad ba (oa + k)) = some (Vi (at0 a k))) (hi : ∀ k, k < z.length → w.cell? (Ad bz (oz + k)) = some (Vi (at0 z k))) :
 Calls prog 263 #[.agg #[.slice (some (Ad ba oa)) a.length ca, .slice (some (Ad bz oz)) z.length cz], Vi x] w fun r w' => r = .returned (Vi (lookI a z x)) ∧ Below w.heap.size w w' := by
 have hl2 := p.lo; have hl8 := p.hi; have HP : Hid (Places a ∧ Zbe z = 0 ∧ a.length = z.length) := ⟨p, hz, hlen⟩; have hA : ∀ o, Below w.heap.size w (w.alloc o) := fun o => (Below.refl _ _).alloc (Nat.le_refl _) o; have HI : Hid (∀ k, k < z.length → w.cell? (Ad bz (oz + k)) = some (Vi (at0 z k))) := hi; have hs : ∀ o, Calls prog 281 #[.slice (some (Ad ba oa)) a.length ca, Vi x] (w.alloc o) _ := fun o => stand_any ba oa ca a x (w.alloc o) p (fun k hk => cell_later (hA o) (ha k hk)); clear ha hi p hz hlen
 go_enter func263, ntmps263
 go_upto_region 2 with (go_at_call 281; refine (hs _).mono ?_; rintro e w' ⟨i, rfl, st, n, rfl⟩); have i1 := st.lt
 have i2 : i + 1 < z.length := by have := HP.out.2.2; omega
 have HL : Hid (lookI a z x = heightI a z (Zep a x) i) := look_stands HP.out.1 st; have q0 := Zcu HP.out.1.worth i (by omega); have q1 := Zcu HP.out.1.worth (i + 1) (by omega); have r0 := Zcu HP.out.2.1 i (by omega); have r1 := Zcu HP.out.2.1 (i + 1) (by omega); have u := HP.out.1.up i (by omega); have s0 := st.past; have s1 := st.left; obtain ⟨w1, hw1⟩ : ∃ w1, (w.alloc (.cells #[.slice (some (Ad ba oa)) a.length ca, .slice (some (Ad bz oz)) z.length cz] 24)).drewN n = w1 := ⟨_, rfl⟩
 have b1 : w1.cell? (Ad w.heap.size 1) = some (.slice (some (Ad bz oz)) z.length cz) := by rw [← hw1]; simp [go_sem]
 have hB : Below w.heap.size w w1 := by rw [← hw1]; exact below_drewN (hA _) _
 rw [hw1]; clear hw1; have c0 := cell_later hB (HI.out i (by omega)); have c1 := cell_later hB (HI.out (i + 1) (by omega))
 unfold heightI at HL
 clear st hs; generalize Zep a x = c at *; generalize at0 a i = a0 at *; generalize at0 a (i + 1) = a1 at *; generalize at0 z i = z0 at *; generalize at0 z (i + 1) = z1 at *
 have t1 : ((i : Int) + 1).toNat = i + 1 := by omega
 obtain ⟨f, hf⟩ : ∃ f, f = a1 - c := ⟨_, rfl⟩; obtain ⟨g, hg⟩ : ∃ g, g = c - a0 := ⟨_, rfl⟩
 have f0 : 0 ≤ f := by omega
 have g0 : 0 ≤ g := by omega
 have fg : 0 < f + g := by omega
 have fg' : f + g ≤ 2000000 := by omega
 have m0 := mul_bdT (a := z0) (b := f) (A := 1000000) (B := 2000000) (by omega) (by omega) (by omega) (by omega); have m1 := mul_bdT (a := z1) (b := g) (A := 1000000) (B := 2000000) (by omega) (by omega) (by omega) (by omega)
 have ew : a1 - a0 = g + f := by omega
 rw [← hf, ← hg, ew] at HL; rw [← hf, ← hg]; clear hf hg ew; have hn : ∀ w, Calls prog 282 #[Vi (z0 * f + z1 * g), Vi (g + f)] w _ := fun w => nearest_any (z0 * f + z1 * g) (g + f) (by omega) (by omega) (by omega) (by omega) w; go_quiet ((go_at_call 282; exact Calls.quiet_of (hn _))); go_wp2; go_ret; exact ⟨by rw [HL.out]; rfl, below_drewN hB _⟩
theorem tcheck_any (a z : Option Addr) (ca cz : Nat) (al zl : List Int) (w : World) (hm : al.length ≤ 9223372036854775807) (hn : zl.length ≤ 9223372036854775807) (hca : al.length ≤ ca) (ha : Lst w a al) (hz : Lst w z zl) :
 Calls prog 229 #[.agg #[.slice a al.length ca, .slice z zl.length cz]] w fun r w' => r = .returned (errV (Zda al zl)) ∧ Below w.heap.size w w' := by
 have hA := Zaa w (.cells #[.slice a al.length ca, .slice z zl.length cz] 24)
 have b1 : (w.alloc (.cells #[.slice a al.length ca, .slice z zl.length cz] 24)).cell? (Ad w.heap.size 1) = some (.slice z zl.length cz) := by simp [go_sem]
 by_cases h1 : al.length = zl.length
 · have h1' : ((al.length : Int) != (zl.length : Int)) = false := by simp; omega
   have e : Zda al zl = if Zbl al = 0 then Zbe zl else Zbl al := by unfold Zda; rw [if_pos h1]
   have cp := checkPlaces_any a ca al (w.alloc (.cells #[.slice a al.length ca, .slice z zl.length cz] 24)) hm hca (ha.later hA); clear h1
   by_cases h2 : Zbl al = 0
   · rw [if_pos h2] at e; have E : Hid (Zda al zl = Zbe zl) := e; rw [h2] at cp; have B1 : Hid (∀ u, Below (w.alloc (.cells #[.slice a al.length ca, .slice z zl.length cz] 24)).heap.size (w.alloc (.cells #[.slice a al.length ca, .slice z zl.length cz] 24)) u → u.cell? (Ad w.heap.size 1) = some (.slice z zl.length cz) ∧ Below w.heap.size w u) := fun u hb => ⟨cell_later hb b1, Zac hA hb⟩; have HZ : Hid (Lst w z zl) := hz; clear e h2 ha hz b1; have cp' : Calls prog 248 #[.slice a al.length ca] (w.alloc (.cells #[.slice a al.length ca, .slice z zl.length cz] 24)) fun r w' => r = .returned .nilIface ∧ w'.cell? (Ad w.heap.size 1) = some (.slice z zl.length cz) ∧ Below w.heap.size w w' := cp.mono fun _ u ⟨h, hb⟩ => ⟨h, B1.out u hb⟩; clear cp hA B1
     go_enter func229, ntmps229
     go_wp2_with (first
      | (go_at_call 248; refine cp'.mono ?_; rintro e w1 ⟨rfl, hc1, hb1⟩)
      | (go_at_call 249; refine (Zfm z cz zl _ hn (HZ.out.later hb1)).mono ?_; rintro e w' ⟨rfl, rfl⟩))
     go_ret; exact ⟨by rw [E.out]; rfl, hb1⟩
   · rw [if_neg h2] at e; rw [e]; clear e; rw [Zbc h2] at cp ⊢; clear ha hz b1 h2
     go_enter func229, ntmps229
     go_wp2_with (go_at_call 248; refine cp.mono ?_; rintro e w1 ⟨rfl, hb⟩); go_ret; exact ⟨rfl, Zac hA hb⟩
 · have h1' : ((al.length : Int) != (zl.length : Int)) = true := by simp; omega
   have e : Zda al zl = 3 := by unfold Zda; rw [if_neg h1]
   rw [e]; clear e h1 ha hz
   go_enter func229, ntmps229
   go_wp2_with fail; go_ret; exact ⟨rfl, hA⟩
structure Line (w : World) (ba oa bz oz : Nat) (a z : List Int) : Prop where
 may : Zda a z = 0
 at' : ∀ k, k < a.length → w.cell? (Ad ba (oa + k)) = some (Vi (at0 a k))
 is' : ∀ k, k < z.length → w.cell? (Ad bz (oz + k)) = some (Vi (at0 z k))
theorem Line.later {w w' : World} {ba oa bz oz : Nat} {a z : List Int} (h : Line w ba oa bz oz a z) (hb : Below w.heap.size w w') : Line w' ba oa bz oz a z :=
 ⟨h.may, fun k hk => cell_later hb (h.at' k hk), fun k hk => cell_later hb (h.is' k hk)⟩
theorem Line.lstA {w : World} {ba oa bz oz : Nat} {a z : List Int} (h : Line w ba oa bz oz a z) : Lst w (some (Ad ba oa)) a := .inr ⟨ba, oa, rfl, h.at'⟩
theorem Line.lstZ {w : World} {ba oa bz oz : Nat} {a z : List Int} (h : Line w ba oa bz oz a z) : Lst w (some (Ad bz oz)) z := .inr ⟨bz, oz, rfl, h.is'⟩
theorem Line.len {w : World} {ba oa bz oz : Nat} {a z : List Int} (h : Line w ba oa bz oz a z) : 2 ≤ a.length ∧ a.length ≤ 8 ∧ a.length = z.length := by
 obtain ⟨h1, h2, _⟩ := line_of h.may; exact ⟨h2.lo, h2.hi, h1⟩
theorem check_ok (ba oa ca bz oz cz : Nat) (a z : List Int) (w : World) (hca : a.length ≤ ca) (h : Line w ba oa bz oz a z) :
 Calls prog 229 #[.agg #[.slice (some (Ad ba oa)) a.length ca, .slice (some (Ad bz oz)) z.length cz]] w fun r w' => r = .returned .nilIface ∧ Below w.heap.size w w' := by
 have := tcheck_any (some (Ad ba oa)) (some (Ad bz oz)) ca cz a z w (by have := h.len; omega) (by have := h.len; omega) hca h.lstA h.lstZ
 rwa [h.may] at this
theorem along_ok (ba oa ca bz oz cz : Nat) (a z : List Int) (x : Int) (w : World) (h : Line w ba oa bz oz a z) :
 Calls prog 263 #[.agg #[.slice (some (Ad ba oa)) a.length ca, .slice (some (Ad bz oz)) z.length cz], Vi x] w fun r w' => r = .returned (Vi (lookI a z x)) ∧ Below w.heap.size w w' := by
 obtain ⟨h1, h2, h3⟩ := line_of h.may; exact along_any ba oa ca bz oz cz a z x w h2 h3 h1 h.at' h.is'
theorem look_ok (ba oa ca bz oz cz : Nat) (a z : List Int) (x : Int) (w : World) (hca : a.length ≤ ca) (h : Line w ba oa bz oz a z) :
 Calls prog 240 #[.agg #[.slice (some (Ad ba oa)) a.length ca, .slice (some (Ad bz oz)) z.length cz], Vi x] w fun r w' => r = .returned (.tuple #[Vi (lookI a z x), .nilIface]) ∧ Below w.heap.size w w' := by
 have hA := Zaa w (.cells #[.slice (some (Ad ba oa)) a.length ca, .slice (some (Ad bz oz)) z.length cz] 24); have ck := check_ok ba oa ca bz oz cz a z _ hca (h.later hA); have ck' : Calls prog 229 #[.agg #[.slice (some (Ad ba oa)) a.length ca, .slice (some (Ad bz oz)) z.length cz]] (w.alloc (.cells #[.slice (some (Ad ba oa)) a.length ca, .slice (some (Ad bz oz)) z.length cz] 24))
  fun r w' => r = .returned .nilIface ∧ w'.cell? (Ad w.heap.size 0) = some (.slice (some (Ad ba oa)) a.length ca) ∧ w'.cell? (Ad w.heap.size 1) = some (.slice (some (Ad bz oz)) z.length cz) ∧ Below w.heap.size w w' :=
  ck.mono fun _ u ⟨h1, hb⟩ => ⟨h1, cell_later hb (by simp [go_sem]), cell_later hb (by simp [go_sem]), Zac hA hb⟩
 have H : Hid (Line w ba oa bz oz a z) := h; clear h ck hA
 go_enter func240, ntmps240
 go_wp2_with (first
  | (go_at_call 229; refine ck'.mono ?_; rintro e w1 ⟨rfl, hc0, hc1, hb1⟩)
  | (go_at_call 263; refine Sb (along_ok ba oa ca bz oz cz a z x _ (H.out.later hb1)) fun w2 hb2 => ?_))
 go_ret2; exact ⟨rfl, Zac hb1 hb2⟩
theorem keepL {B ca cz la lz : Nat} {W u u' : World} {a z : Option Addr} {al zl : List Int} (hb : Below u.heap.size u u')
 (h : (u.cell? (Ad B 0) = some (.slice a la ca) ∧ u.cell? (Ad B 1) = some (.slice z lz cz)) ∧ Lst u a al ∧ Lst u z zl ∧ Below B W u) :
 (u'.cell? (Ad B 0) = some (.slice a la ca) ∧ u'.cell? (Ad B 1) = some (.slice z lz cz)) ∧ Lst u' a al ∧ Lst u' z zl ∧ Below B W u' := by
 obtain ⟨⟨h1, h2⟩, h3, h4, h5⟩ := h; have hs := World.block_lt_of_cell? u ⟨B, 0, none⟩ h1; exact ⟨⟨cell_later hb h1, cell_later hb h2⟩, h3.later hb, h4.later hb, h5.trans (hb.mono (Nat.le_of_lt hs))⟩
theorem line_first (al zl : List Int) (x : Int) (hx : x = if ((al.length : Int) != (zl.length : Int)) = true then 3 else 0) : Zan [x, Zbl al, Zbe zl] = Zda al zl := by
 subst hx
 unfold Zda
 by_cases h : al.length = zl.length
 · have e : ((al.length : Int) != (zl.length : Int)) = false := by simp; omega
   rw [e, if_pos h]; simp only [Zan]; simp
   rcases Zdz zl with q | q <;> simp [q]
 · have e : ((al.length : Int) != (zl.length : Int)) = true := by simp; omega
   rw [e, if_neg h]; rfl
theorem lineMay_any (a z : Option Addr) (ca cz : Nat) (al zl : List Int) (w : World) (hm : al.length ≤ 9223372036854775807) (hn : zl.length ≤ 9223372036854775807) (ha : Lst w a al) (hz : Lst w z zl) :
 Calls prog 140 #[.agg #[.slice a al.length ca, .slice z zl.length cz]] w fun r w' => r = .returned (Vi (Zda al zl)) ∧ Below w.heap.size w w' := by
 have hA := Zaa w (.cells #[.slice a al.length ca, .slice z zl.length cz] 24)
 have ST : Hid (∀ u, Below (w.alloc (.cells #[.slice a al.length ca, .slice z zl.length cz] 24)).heap.size (w.alloc (.cells #[.slice a al.length ca, .slice z zl.length cz] 24)) u →
  (u.cell? (Ad w.heap.size 0) = some (.slice a al.length ca) ∧ u.cell? (Ad w.heap.size 1) = some (.slice z zl.length cz)) ∧ Lst u a al ∧ Lst u z zl ∧ Below w.heap.size w u) := fun u hb =>
  keepL hb ⟨⟨by simp [go_sem], by simp [go_sem]⟩, ha.later hA, hz.later hA, hA⟩
 have hr : ∀ u, (u.cell? (Ad w.heap.size 0) = some (.slice a al.length ca) ∧ u.cell? (Ad w.heap.size 1) = some (.slice z zl.length cz)) ∧ Lst u a al ∧ Lst u z zl ∧ Below w.heap.size w u →
  Calls prog 196 #[.slice a al.length ca] u fun r w' => r = .returned (Vi (Zbl al)) ∧ Below u.heap.size u w' := fun u h => rising_any a ca al u hm h.2.1
 have hw : ∀ u, (u.cell? (Ad w.heap.size 0) = some (.slice a al.length ca) ∧ u.cell? (Ad w.heap.size 1) = some (.slice z zl.length cz)) ∧ Lst u a al ∧ Lst u z zl ∧ Below w.heap.size w u →
  Calls prog 197 #[.slice z zl.length cz] u fun r w' => r = .returned (Vi (Zbe zl)) ∧ w' = u := fun u h => worth_any z cz zl u hn h.2.2.1
 clear ha hz hA
 go_enter func140, ntmps140
 go_upto_region 1 with fail
 go_region_held3 (fun u => (u.cell? (Ad w.heap.size 0) = some (.slice a al.length ca) ∧ u.cell? (Ad w.heap.size 1) = some (.slice z zl.length cz)) ∧ Lst u a al ∧ Lst u z zl ∧ Below w.heap.size w u)
  (first
   | (with_reducible assumption)
   | (with_reducible refine keepL (Zaa _ _) ?_; with_reducible assumption)
   | (with_reducible apply keepL; with_reducible assumption; with_reducible assumption)
   | (refine ST.out _ ?_; exact (Below.refl _ _).drew))
  (first
   | (go_at_call 14; refine (when_named _ _ _).mono ?_; rintro e w' ⟨x, rfl, hx, rfl⟩)
   | (go_at_call 196; refine (hr _ ?_).mono ?_; (with_reducible assumption); rintro e w' ⟨rfl, hb⟩)
   | (go_at_call 197; refine (hw _ ?_).mono ?_; (with_reducible assumption); rintro e w' ⟨rfl, rfl⟩)
   | (go_at_call 13; refine (first_new3 _ _ _ _ _).mono ?_; rintro e w' ⟨rfl, rfl⟩))
 all_goals (
  rename_i hH
  have hBf := hH.2.2.2; clear hH ST; go_wp2; go_ret
  exact ⟨by rw [line_first al zl _ hx.out]; rfl, hBf⟩)
def hunI (s n : Int) : Int := (s * n).tdiv 100
def pullI (g aim p : Int) : Int := mulI g (Zar (aim - Zar p (-2000000) 2000000) (-1000000) 1000000)
theorem Zdo (x : Int) {lo hi : Int} (h : lo ≤ hi) : lo ≤ Zar x lo hi ∧ Zar x lo hi ≤ hi := by
 unfold Zar; split
 · omega
 · split
   · omega
   · split <;> omega
theorem pullI_bd (g aim p : Int) : -2147483647 ≤ pullI g aim p ∧ pullI g aim p ≤ 2147483647 := by
 unfold pullI mulI; exact ⟨ofI_lo _, ofI_hi _⟩
theorem hun_mul {s n : Int} (s0 : -100 ≤ s) (s1 : s ≤ 100) (n0 : 0 ≤ n) (n1 : n ≤ 4000) : -400000 ≤ s * n ∧ s * n ≤ 400000 := by
 have := mul_bdT (a := s) (b := n) (A := 100) (B := 4000) (by omega) (by omega) (by omega) (by omega)
 omega
theorem hunI_bd {s n : Int} (s0 : -100 ≤ s) (s1 : s ≤ 100) (n0 : 0 ≤ n) (n1 : n ≤ 4000) : -400000 ≤ hunI s n ∧ hunI s n ≤ 400000 := by
 obtain ⟨a, b⟩ := hun_mul s0 s1 n0 n1; exact tdiv_bd _ _ _ a b
theorem holdHun_any (s n : Int) (s0 : -100 ≤ s) (s1 : s ≤ 100) (n0 : 0 ≤ n) (n1 : n ≤ 4000) (w : World) :
 Calls prog 218 #[Vi s, Vi n] w fun e w' => e = .returned (Vi (hunI s n)) ∧ w' = w := by
 obtain ⟨m0, m1⟩ := hun_mul s0 s1 n0 n1
 unfold hunI
 go_enter func218, ntmps218
 go_wp2; go_ret; exact ⟨rfl, rfl⟩
theorem holdPull_any (aim p g : Int) (a0 : -100000 ≤ aim) (a1 : aim ≤ 100000) (w : World) :
 Calls prog 225 #[Vi aim, Vi p, Vi g] w fun e w' => e = .returned (Vi (pullI g aim p)) ∧ Below w.heap.size w w' := by
 have c1 := Zat p (-2000000) 2000000; have b1 := Zdo p (lo := -2000000) (hi := 2000000) (by omega); have c2 := Zat (aim - Zar p (-2000000) 2000000) (-1000000) 1000000; have c3 := fixMul_any g (Zar (aim - Zar p (-2000000) 2000000) (-1000000) 1000000); obtain ⟨b2, b3⟩ := b1
 unfold pullI
 generalize mulI g (Zar (aim - Zar p (-2000000) 2000000) (-1000000) 1000000) = m at *; generalize Zar (aim - Zar p (-2000000) 2000000) (-1000000) 1000000 = y at *; generalize Zar p (-2000000) 2000000 = x at *
 go_enter func225, ntmps225
 go_wp2_with (first
  | ((first | go_at_call_of 172 (Vi p) | go_at_call_of 172 (Value.int .i64 p)); refine Sm (c1 _) ?_)
  | ((first | go_at_call_of 172 (Vi (aim - x)) | go_at_call_of 172 (Value.int .i64 (aim - x))); refine Sm (c2 _) ?_)
  | (go_at_call 85; refine Sm (c3 _) ?_))
 go_ret; exact ⟨rfl, (Below.refl _ _).drew⟩
theorem Zfl (L H U B M : Int) (a z : Option Addr) (al zl ca cz : Nat) (x : Int) (m0 : 1 ≤ M) (m1 : M ≤ 4000) (w : World) :
 Calls prog 224 #[.agg #[Vi L, Vi H, Vi U, Vi B, Vi M, .slice a al ca, .slice z zl cz], Vi x] w fun e w' => e = .returned (Vi (Zar x (-M) M)) ∧ Below w.heap.size w w' := by
 have c1 := Zat x (-M) M; generalize Zar x (-M) M = m at *
 go_enter func224, ntmps224
 go_wp2_with (go_at_call 172; refine Sm (c1 _) ?_); go_ret; exact ⟨rfl, Zaa _ _⟩
def ruB (L H U B M : Int) : Bool := betw L (-100000) 100000 && betw H (-100000) 100000 && betw U 0 1000 && betw B 0 65536 && betw M 1 4000
theorem Zee {L H U B M : Int} (h : ruB L H U B M = true) : (-100000 ≤ L ∧ L ≤ 100000) ∧ (-100000 ≤ H ∧ H ≤ 100000) ∧ (0 ≤ U ∧ U ≤ 1000) ∧ (0 ≤ B ∧ B ≤ 65536) ∧ 1 ≤ M ∧ M ≤ 4000 := by
 simp only [ruB, Bool.and_eq_true] at h; exact ⟨Zal h.1.1.1.1, Zal h.1.1.1.2, Zal h.1.1.2, Zal h.1.2, Zal h.2⟩
theorem inRange_any (L H U B M : Int) (a z : Option Addr) (al zl ca cz : Nat) (w : World) :
 Calls prog 228 #[.agg #[Vi L, Vi H, Vi U, Vi B, Vi M, .slice a al ca, .slice z zl cz]] w fun e w' => e = .returned (.bool (ruB L H U B M)) ∧ Below w.heap.size w w' := by
 have f1 := Zav L (-100000) 100000; have f2 := Zav H (-100000) 100000; have f3 := Zav U 0 1000; have f4 := Zav B 0 65536; have f5 := Zav M 1 4000
 unfold ruB
 generalize betw L (-100000) 100000 = x1 at *; generalize betw H (-100000) 100000 = x2 at *; generalize betw U 0 1000 = x3 at *; generalize betw B 0 65536 = x4 at *; generalize betw M 1 4000 = x5 at *
 rcases (show x1 = false ∨ (x1 = true ∧ x2 = false) ∨ (x1 = true ∧ x2 = true ∧ x3 = false) ∨ (x1 = true ∧ x2 = true ∧ x3 = true ∧ x4 = false) ∨ (x1 = true ∧ x2 = true ∧ x3 = true ∧ x4 = true) by cases x1 <;> cases x2 <;> cases x3 <;> cases x4 <;> simp) with rfl | ⟨rfl, rfl⟩ | ⟨rfl, rfl, rfl⟩ | ⟨rfl, rfl, rfl, rfl⟩ | ⟨rfl, rfl, rfl, rfl⟩
 all_goals
  go_enter func228, ntmps228
  go_wp2_with (first
   | ((first | go_at_call_of 76 (Vi L) | go_at_call_of 76 (Value.int .i64 L)); refine (f1 _).mono ?_; rintro e w' ⟨rfl, rfl⟩)
   | ((first | go_at_call_of 76 (Vi H) | go_at_call_of 76 (Value.int .i64 H)); refine (f2 _).mono ?_; rintro e w' ⟨rfl, rfl⟩)
   | ((first | go_at_call_of 76 (Vi U) | go_at_call_of 76 (Value.int .i64 U)); refine (f3 _).mono ?_; rintro e w' ⟨rfl, rfl⟩)
   | ((first | go_at_call_of 76 (Vi B) | go_at_call_of 76 (Value.int .i64 B)); refine (f4 _).mono ?_; rintro e w' ⟨rfl, rfl⟩)
   | ((first | go_at_call_of 76 (Vi M) | go_at_call_of 76 (Value.int .i64 M)); refine (f5 _).mono ?_; rintro e w' ⟨rfl, rfl⟩))
  go_ret; exact ⟨by simp, by repeat (first | exact Zaa _ _ | refine Zac ?_ (Zaa _ _))⟩
def gaU (z : List Int) : Nat → Int
 | 0 => 0
 | k + 1 => Zan [gaU z k, if betw (at0 z k) 0 65536 then 0 else 1]
theorem firstI_two (x y : Int) : Zan [x, y] = if x = 0 then y else x := by
 simp only [Zan]
 by_cases h : y = 0
 · rw [if_pos h, h]
 · rw [if_neg h]
theorem gaU_step (z : List Int) (k : Nat) : gaU z (k + 1) = if gaU z k = 0 then (if betw (at0 z k) 0 65536 then 0 else 1) else gaU z k := firstI_two _ _
theorem gaU_stay {z : List Int} {k : Nat} (h : gaU z k ≠ 0) : ∀ m, k ≤ m → gaU z m = gaU z k := by
 intro m hm
 induction m with
 | zero =>
  have : k = 0 := by omega
  subst this; rfl
 | succ m ih =>
  by_cases e : k = m + 1
  · subst e; rfl
  · have i := ih (by omega); rw [gaU_step, i, if_neg h]
def r0E (L H U B M : Int) (al zl : List Int) : Int := Zan [if ruB L H U B M then 0 else 1, if H < L then 3 else 0, Zda al zl]
def ruE (L H U B M : Int) (al zl : List Int) : Int := if r0E L H U B M al zl = 0 then gaU zl zl.length else r0E L H U B M al zl
def rkE (L H U B M : Int) (al zl : List Int) (k : Nat) : Int := if r0E L H U B M al zl = 0 then gaU zl k else r0E L H U B M al zl
theorem rkE_zero (L H U B M : Int) (al zl : List Int) : rkE L H U B M al zl 0 = r0E L H U B M al zl := by
 unfold rkE; split
 · rename_i h; rw [h]; rfl
 · rfl
theorem rkE_step (L H U B M : Int) (al zl : List Int) (k : Nat) : rkE L H U B M al zl (k + 1) = Zan [rkE L H U B M al zl k, if betw (at0 zl k) 0 65536 then 0 else 1] := by
 unfold rkE; split
 · rfl
 · rename_i h; simp only [Zan]; rw [if_neg h]
theorem r0E_zero {L H U B M : Int} {al zl : List Int} (h : r0E L H U B M al zl = 0) : ruB L H U B M = true ∧ L ≤ H ∧ Zda al zl = 0 := by
 unfold r0E at h
 by_cases h1 : ruB L H U B M = true
 · rw [if_pos h1] at h
   by_cases h2 : H < L
   · rw [if_pos h2] at h; cases h
   · rw [if_neg h2] at h; refine ⟨h1, by omega, ?_⟩; simp only [Zan] at h; simp at h; exact Classical.byContradiction fun q => q (h q)
 · rw [if_neg h1] at h; cases h
theorem Zed {L H U B M : Int} {al zl : List Int} (h : ruE L H U B M al zl = 0) : ruB L H U B M = true ∧ L ≤ H ∧ Zda al zl = 0 ∧ gaU zl zl.length = 0 := by
 unfold ruE at h
 split at h
 · rename_i h0; obtain ⟨a, b, c⟩ := r0E_zero h0; exact ⟨a, b, c, h⟩
 · rename_i h0; exact absurd h h0
theorem Zew {Q : Nat} {W u u' : World} {L H U B M : Int} {a z : Option Addr} {ca cz : Nat} {al zl : List Int} (hb : Below u.heap.size u u') (h : (u.cell? (Ad Q 0) = some (Vi L) ∧ u.cell? (Ad Q 1) = some (Vi H) ∧ u.cell? (Ad Q 2) = some (Vi U) ∧ u.cell? (Ad Q 3) = some (Vi B) ∧ u.cell? (Ad Q 4) = some (Vi M) ∧ u.cell? (Ad Q 5) = some (.slice a al.length ca) ∧ u.cell? (Ad Q 6) = some (.slice z zl.length cz)) ∧ Lst u a al ∧ Lst u z zl ∧ Below Q W u) : (u'.cell? (Ad Q 0) = some (Vi L) ∧ u'.cell? (Ad Q 1) = some (Vi H) ∧ u'.cell? (Ad Q 2) = some (Vi U) ∧ u'.cell? (Ad Q 3) = some (Vi B) ∧ u'.cell? (Ad Q 4) = some (Vi M) ∧ u'.cell? (Ad Q 5) = some (.slice a al.length ca) ∧ u'.cell? (Ad Q 6) = some (.slice z zl.length cz)) ∧ Lst u' a al ∧ Lst u' z zl ∧ Below Q W u' := by
 obtain ⟨⟨h0, h1, h2, h3, h4, h5, h6⟩, k1, k2, k3⟩ := h; have hs := World.block_lt_of_cell? u ⟨Q, 0, none⟩ h0; exact ⟨⟨cell_later hb h0, cell_later hb h1, cell_later hb h2, cell_later hb h3, cell_later hb h4, cell_later hb h5, cell_later hb h6⟩, k1.later hb, k2.later hb, k3.trans (hb.mono (Nat.le_of_lt hs))⟩
theorem newHR (L H U B M : Int) (a z : Option Addr) (ca cz : Nat) (al zl : List Int) (w : World) (ha : Lst w a al) (hz : Lst w z zl) : (fun u => (u.cell? (Ad w.heap.size 0) = some (Vi L) ∧ u.cell? (Ad w.heap.size 1) = some (Vi H) ∧ u.cell? (Ad w.heap.size 2) = some (Vi U) ∧ u.cell? (Ad w.heap.size 3) = some (Vi B) ∧ u.cell? (Ad w.heap.size 4) = some (Vi M) ∧ u.cell? (Ad w.heap.size 5) = some (.slice a al.length ca) ∧ u.cell? (Ad w.heap.size 6) = some (.slice z zl.length cz)) ∧ Lst u a al ∧ Lst u z zl ∧ Below w.heap.size w u) (w.alloc (.cells #[Vi L, Vi H, Vi U, Vi B, Vi M, .slice a al.length ca, .slice z zl.length cz] 107)) :=
 ⟨by refine ⟨?_, ?_, ?_, ?_, ?_, ?_, ?_⟩ <;> simp [go_sem], ha.later (Zaa _ _), hz.later (Zaa _ _), Zaa _ _⟩
theorem Zhl (L H U B M : Int) (a z : Option Addr) (ca cz : Nat) (al zl : List Int) (hm : al.length ≤ 9223372036854775807) (hn : zl.length ≤ 9223372036854775807) (hca : al.length ≤ ca) (w : World) (ha : Lst w a al) (hz : Lst w z zl) :
 Calls prog 184 #[.agg #[Vi L, Vi H, Vi U, Vi B, Vi M, .slice a al.length ca, .slice z zl.length cz]] w fun e w' => e = .returned (errV (ruE L H U B M al zl)) ∧ Below w.heap.size w w' := by
 have hir := inRange_any L H U B M a z al.length zl.length ca cz; have hck := fun u (h1 : Lst u a al) (h2 : Lst u z zl) => tcheck_any a z ca cz al zl u hm hn hca h1 h2; have HX := Zab (newHR L H U B M a z ca cz al zl w ha hz)
 dsimp only at HX
 clear ha hz
 by_cases h1 : ruB L H U B M = true
 · rw [h1] at hir
   by_cases h2 : H < L
   · have HE := Zab (show ruE L H U B M al zl = 3 by unfold ruE r0E; rw [if_pos h1, if_pos h2]; rfl); clear h1 hck
     go_enter func184, ntmps184
     go_wp2_with (first
      | (go_at_call 228; refine Sb (hir _) fun w1 hb1 => ?_; have HX := Zab (Zew hb1 HX.out); obtain ⟨⟨q0, q1, q2, q3, q4, q5, q6⟩, _⟩ := HX.out; clear hb1)
      | (go_at_call 229; refine Sb (hck _ HX.out.2.1 HX.out.2.2.1) fun w2 hb2 => ?_; have HX := Zab (Zew hb2 HX.out); obtain ⟨⟨q0, q1, q2, q3, q4, q5, q6⟩, _⟩ := HX.out; clear hb2))
     go_ret; exact ⟨by rw [HE.out]; rfl, HX.out.2.2.2⟩
   · by_cases h3 : Zda al zl = 0
     · have H0 := Zab (show ruE L H U B M al zl = gaU zl zl.length by unfold ruE; rw [if_pos]; unfold r0E; rw [if_pos h1, if_neg h2, h3]; rfl); simp only [h3, Zaq] at hck; clear h1 h3
       go_enter func184, ntmps184
       go_wp2_with (first
        | (go_at_call 228; refine Sb (hir _) fun w1 hb1 => ?_; have HX := Zab (Zew hb1 HX.out); obtain ⟨⟨q0, q1, q2, q3, q4, q5, q6⟩, _⟩ := HX.out; clear hb1)
        | (go_at_call 229; refine Sb (hck _ HX.out.2.1 HX.out.2.2.1) fun w2 hb2 => ?_; have HX := Zab (Zew hb2 HX.out); obtain ⟨⟨q0, q1, q2, q3, q4, q5, q6⟩, _⟩ := HX.out; clear hb2))
       go_loopw [28] (fun i wr => ∃ k : Nat, k ≤ zl.length ∧ i = Vi k ∧ Hid (gaU zl k = 0) ∧ Lst wr z zl ∧ Below w.heap.size w wr) (fun i _ => zl.length - (intOf i).toNat)
       case atStart => exact ⟨0, Nat.zero_le _, rfl, rfl, HX.out.2.2.1, HX.out.2.2.2⟩
       case round =>
        clear HX q0 q1 q2 q3 q4 q5 q6; obtain ⟨k, hk, rfl, hg, hl, hb⟩ := hrel
        by_cases hlt : k < zl.length
        · obtain ⟨bz, oz, rfl, hcs⟩ := hl.at (Zbt hlt); have hc := hcs k hlt; have HL := Zab hl; have HB := Zab hb; have HT := Zab (gaU_step zl k); have hfr := Zca (at0 zl k) 0 65536
          have j0 : (0 : Int) ≤ (k : Int) := by omega
          have j1 : (k : Int) < (zl.length : Int) := by omega
          clear hcs hl hb
          by_cases hq : betw (at0 zl k) 0 65536 = true
          · have HS := Zab (show gaU zl (k + 1) = 0 by rw [HT.out, if_pos hg.out, if_pos hq]); rw [hq] at hfr; clear hq HT; generalize at0 zl k = x at *
            go_wp2_with (go_at_call 76; refine Sb (hfr _) fun w3 hb3 => ?_); go_roundw
            case rel => exact ⟨k + 1, by omega, by go_num, HS, HL.out.later hb3, Zac HB.out hb3⟩
            case measure => simp [intOf]; omega
          · have hs1 : gaU zl (k + 1) = 1 := by rw [HT.out, if_pos hg.out, if_neg hq]
            have HF := Zab (show ruE L H U B M al zl = 1 by rw [H0.out, gaU_stay (k := k + 1) (by rw [hs1]; decide) _ (by omega), hs1]); rw [show betw (at0 zl k) 0 65536 = false by simpa using hq] at hfr; clear hq hs1 HT; generalize at0 zl k = x at *
            go_wp2_with (go_at_call 76; refine Sb (hfr _) fun w3 hb3 => ?_); go_ret; exact ⟨by rw [HF.out]; rfl, Zac HB.out hb3⟩
        · have e : k = zl.length := by omega
          subst e; go_wp2; go_ret; exact ⟨by rw [H0.out, hg.out]; rfl, hb⟩
     · have HE := Zab (show ruE L H U B M al zl = Zda al zl by
        have e : r0E L H U B M al zl = Zda al zl := by unfold r0E; rw [if_pos h1, if_neg h2]; simp only [Zan]; simp [h3]
        unfold ruE; rw [e, if_neg h3])
       rw [HE.out]; simp only [Zbc h3] at hck ⊢; clear h1 h3 HE; generalize Zda al zl = E at *
       go_enter func184, ntmps184
       go_wp2_with (first
        | (go_at_call 228; refine Sb (hir _) fun w1 hb1 => ?_; have HX := Zab (Zew hb1 HX.out); obtain ⟨⟨q0, q1, q2, q3, q4, q5, q6⟩, _⟩ := HX.out; clear hb1)
        | (go_at_call 229; refine Sb (hck _ HX.out.2.1 HX.out.2.2.1) fun w2 hb2 => ?_; have HX := Zab (Zew hb2 HX.out); obtain ⟨⟨q0, q1, q2, q3, q4, q5, q6⟩, _⟩ := HX.out; clear hb2))
       go_ret; exact ⟨rfl, HX.out.2.2.2⟩
 · have HE := Zab (show ruE L H U B M al zl = 1 by unfold ruE r0E; rw [if_neg h1]; rfl); rw [show ruB L H U B M = false by simpa using h1] at hir; clear h1 hck
   go_enter func184, ntmps184
   go_wp2_with (first
    | (go_at_call 228; refine Sb (hir _) fun w1 hb1 => ?_; have HX := Zab (Zew hb1 HX.out); obtain ⟨⟨q0, q1, q2, q3, q4, q5, q6⟩, _⟩ := HX.out; clear hb1)
    | (go_at_call 229; refine Sb (hck _ HX.out.2.1 HX.out.2.2.1) fun w2 hb2 => ?_; have HX := Zab (Zew hb2 HX.out); obtain ⟨⟨q0, q1, q2, q3, q4, q5, q6⟩, _⟩ := HX.out; clear hb2))
   go_ret; exact ⟨by rw [HE.out]; rfl, HX.out.2.2.2⟩
theorem holdRuleMay_any (L H U B M : Int) (a z : Option Addr) (ca cz : Nat) (al zl : List Int) (hm : al.length ≤ 9223372036854775807) (hn : zl.length ≤ 9223372036854775807) (w : World) (ha : Lst w a al) (hz : Lst w z zl) :
 Calls prog 88 #[.agg #[Vi L, Vi H, Vi U, Vi B, Vi M, .slice a al.length ca, .slice z zl.length cz]] w fun e w' => e = .returned (Vi (ruE L H U B M al zl)) ∧ Below w.heap.size w w' := by
 have HX := Zab (newHR L H U B M a z ca cz al zl w ha hz)
 dsimp only at HX
 have hlm : ∀ u, (u.cell? (Ad w.heap.size 0) = some (Vi L) ∧ u.cell? (Ad w.heap.size 1) = some (Vi H) ∧ u.cell? (Ad w.heap.size 2) = some (Vi U) ∧ u.cell? (Ad w.heap.size 3) = some (Vi B) ∧ u.cell? (Ad w.heap.size 4) = some (Vi M) ∧ u.cell? (Ad w.heap.size 5) = some (.slice a al.length ca) ∧ u.cell? (Ad w.heap.size 6) = some (.slice z zl.length cz)) ∧ Lst u a al ∧ Lst u z zl ∧ Below w.heap.size w u → Calls prog 140 #[.agg #[.slice a al.length ca, .slice z zl.length cz]] u fun r w' => r = .returned (Vi (Zda al zl)) ∧ Below u.heap.size u w' := fun u h => lineMay_any a z ca cz al zl u hm hn h.2.1 h.2.2.1; have h0E := Zab (show r0E L H U B M al zl = Zan [if ruB L H U B M then 0 else 1, if H < L then 3 else 0, Zda al zl] from rfl)
 have hw2 : ∀ w, Calls prog 14 #[.bool (decide (H < L)), Vi 3] w fun r w' => r = .returned (Vi (if H < L then 3 else 0)) ∧ w' = w := by
  intro w
  by_cases h : H < L
  · rw [decide_eq_true h, if_pos h]; exact Zaz 3 w
  · rw [decide_eq_false h, if_neg h]; exact Zbo 3 w
 have HZ := Zab (rkE_zero L H U B M al zl); have HF := Zab (show ruE L H U B M al zl = rkE L H U B M al zl zl.length from rfl); have HS := Zab (rkE_step L H U B M al zl); have hy : ∃ y : Int, y = if H < L then 3 else 0 := ⟨_, rfl⟩; obtain ⟨y, hy⟩ := hy; rw [← hy] at hw2 h0E; clear hy ha hz; have f1 := Zai L (-100000) 100000; have f2 := Zai H (-100000) 100000; have f3 := Zai U 0 1000; have f4 := Zai B 0 65536; have f5 := Zai M 1 4000
 unfold ruB at h0E
 generalize betw L (-100000) 100000 = x1 at *; generalize betw H (-100000) 100000 = x2 at *; generalize betw U 0 1000 = x3 at *; generalize betw B 0 65536 = x4 at *; generalize betw M 1 4000 = x5 at *
 rcases (show x1 = false ∨ (x1 = true ∧ x2 = false) ∨ (x1 = true ∧ x2 = true ∧ x3 = false) ∨ (x1 = true ∧ x2 = true ∧ x3 = true ∧ x4 = false) ∨ (x1 = true ∧ x2 = true ∧ x3 = true ∧ x4 = true ∧ x5 = false) ∨ (x1 = true ∧ x2 = true ∧ x3 = true ∧ x4 = true ∧ x5 = true) by cases x1 <;> cases x2 <;> cases x3 <;> cases x4 <;> cases x5 <;> simp) with rfl | ⟨rfl, rfl⟩ | ⟨rfl, rfl, rfl⟩ | ⟨rfl, rfl, rfl, rfl⟩ | ⟨rfl, rfl, rfl, rfl, rfl⟩ | ⟨rfl, rfl, rfl, rfl, rfl⟩
 all_goals
  simp only [Bool.and_false, Bool.false_and, Bool.and_self, Bool.false_eq_true, if_false, if_true] at h0E; generalize Zda al zl = E at *; generalize r0E L H U B M al zl = e0 at *
  go_enter func88, ntmps88
  go_upto_region 2 with (first
   | ((first | go_at_call_of 38 (Vi L) | go_at_call_of 38 (Value.int .i64 L)); refine Sm (f1 _) ?_)
   | ((first | go_at_call_of 38 (Vi H) | go_at_call_of 38 (Value.int .i64 H)); refine Sm (f2 _) ?_)
   | ((first | go_at_call_of 38 (Vi U) | go_at_call_of 38 (Value.int .i64 U)); refine Sm (f3 _) ?_)
   | ((first | go_at_call_of 38 (Vi B) | go_at_call_of 38 (Value.int .i64 B)); refine Sm (f4 _) ?_)
   | ((first | go_at_call_of 38 (Vi M) | go_at_call_of 38 (Value.int .i64 M)); refine Sm (f5 _) ?_))
  obtain ⟨w0, hw0⟩ : ∃ w0, w.alloc (.cells #[Vi L, Vi H, Vi U, Vi B, Vi M, .slice a al.length ca, .slice z zl.length cz] 107) = w0 := ⟨_, rfl⟩; rw [hw0] at HX ⊢; clear hw0; have S0 : (w0.cell? (Ad w.heap.size 0) = some (Vi L) ∧ w0.cell? (Ad w.heap.size 1) = some (Vi H) ∧ w0.cell? (Ad w.heap.size 2) = some (Vi U) ∧ w0.cell? (Ad w.heap.size 3) = some (Vi B) ∧ w0.cell? (Ad w.heap.size 4) = some (Vi M) ∧ w0.cell? (Ad w.heap.size 5) = some (.slice a al.length ca) ∧ w0.cell? (Ad w.heap.size 6) = some (.slice z zl.length cz)) ∧ Lst w0 a al ∧ Lst w0 z zl ∧ Below w.heap.size w w0 := HX.out
  go_region_held3 (fun u => (u.cell? (Ad w.heap.size 0) = some (Vi L) ∧ u.cell? (Ad w.heap.size 1) = some (Vi H) ∧ u.cell? (Ad w.heap.size 2) = some (Vi U) ∧ u.cell? (Ad w.heap.size 3) = some (Vi B) ∧ u.cell? (Ad w.heap.size 4) = some (Vi M) ∧ u.cell? (Ad w.heap.size 5) = some (.slice a al.length ca) ∧ u.cell? (Ad w.heap.size 6) = some (.slice z zl.length cz)) ∧ Lst u a al ∧ Lst u z zl ∧ Below w.heap.size w u)
   (first
    | (with_reducible assumption)
    | (with_reducible refine Zew (Zaa _ _) ?_; with_reducible assumption)
    | (with_reducible apply Zew; with_reducible assumption; with_reducible assumption)
    | (refine Zew ?_ HX.out; exact (Below.refl _ _).drew))
   (first
    | ((first | go_at_call_of 14 (Vi 3) | go_at_call_of 14 (Value.int .i64 3)); refine (hw2 _).mono ?_; rintro e w' ⟨rfl, rfl⟩)
    | (go_at_call_of 14 (Value.bool true); refine (Zaz _ _).mono ?_; rintro e w' ⟨rfl, rfl⟩)
    | (go_at_call_of 14 (Value.bool false); refine (Zbo _ _).mono ?_; rintro e w' ⟨rfl, rfl⟩)
    | (go_at_call 140; refine (hlm _ ?_).mono ?_; (with_reducible assumption); rintro e w' ⟨rfl, hb⟩)
    | (go_at_call 13; refine (first_new3 _ _ _ _ _).mono ?_; rintro e w' ⟨rfl, rfl⟩))
  all_goals
   rename_i hH
   have HX := Zab hH; obtain ⟨⟨_, _, _, _, _, _, q6⟩, _⟩ := hH; clear hlm; go_wp2_with fail
   go_loopw [4, 5] (fun e i wr => ∃ k : Nat, k ≤ zl.length ∧ i = Vi k ∧ e = Vi (rkE L H U B M al zl k) ∧ ((wr.cell? (Ad w.heap.size 0) = some (Vi L) ∧ wr.cell? (Ad w.heap.size 1) = some (Vi H) ∧ wr.cell? (Ad w.heap.size 2) = some (Vi U) ∧ wr.cell? (Ad w.heap.size 3) = some (Vi B) ∧ wr.cell? (Ad w.heap.size 4) = some (Vi M) ∧ wr.cell? (Ad w.heap.size 5) = some (.slice a al.length ca) ∧ wr.cell? (Ad w.heap.size 6) = some (.slice z zl.length cz)) ∧ Lst wr a al ∧ Lst wr z zl ∧ Below w.heap.size w wr)) (fun _ i _ => zl.length - (intOf i).toNat)
   case atStart => exact ⟨0, Nat.zero_le _, rfl, by rw [HZ.out, h0E.out], HX.out⟩
   case round =>
    clear HX q6 HZ h0E; obtain ⟨k, hk, rfl, rfl, hX⟩ := hrel; have HX := Zab hX; obtain ⟨⟨_, _, _, _, _, _, q6⟩, _⟩ := hX
    by_cases hlt : k < zl.length
    · obtain ⟨bz, oz, rfl, hcs⟩ := HX.out.2.2.1.at (Zbt hlt); have hc := hcs k hlt; have HT := Zab (HS.out k); have hbt := Zai (at0 zl k) 0 65536
      have hwh : ∀ w, Calls prog 14 #[.bool (!betw (at0 zl k) 0 65536), Vi 1] w fun r w' => r = .returned (Vi (if betw (at0 zl k) 0 65536 then 0 else 1)) ∧ w' = w := by
       intro w; cases betw (at0 zl k) 0 65536
       · exact Zaz 1 w
       · exact Zbo 1 w
      have j0 : (0 : Int) ≤ (k : Int) := by omega
      have j1 : (k : Int) < (zl.length : Int) := by omega
      clear hcs; generalize (if betw (at0 zl k) 0 65536 then (0 : Int) else 1) = t at *; generalize betw (at0 zl k) 0 65536 = b at *; generalize at0 zl k = x at *; generalize rkE L H U B M al zl k = s at *
      go_wp2_with (first
       | (go_at_call 38; refine Sm (hbt _) ?_)
       | (go_at_call 14; refine Sm (hwh _) ?_)
       | (go_at_call 13; refine Sm (first_new2 _ _ _ _) ?_))
      go_roundw
      case rel => exact ⟨k + 1, by omega, by go_num, by rw [HT.out], Zew (Zaa _ _) HX.out⟩
      case measure => simp [intOf]; omega
    · have e : k = zl.length := by omega
      subst e; go_wp2_with fail; go_ret; exact ⟨by rw [HF.out]; rfl, HX.out.2.2.2⟩
end Go.Proofs.YtnfdfiholcelaaaGreatDoor
