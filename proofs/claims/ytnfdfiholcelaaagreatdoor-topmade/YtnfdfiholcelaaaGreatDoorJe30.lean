
import Derived.Test.YtnfdfiholcelaaaGreatDoorJe00
import Derived.Test.YtnfdfiholcelaaaGreatDoorJe28
import Derived.Test.YtnfdfiholcelaaaGreatDoorJe29
set_option maxRecDepth 100000
set_option maxHeartbeats 20000000
namespace Go.Proofs.YtnfdfiholcelaaaGreatDoor
open Go.RowKit Plain Tryz
theorem sik_nx (T R : Int) (L : List Sv) (s : Int) : sik L (plI T R L s) L.length = nxL T R L (levI T R L (smI T R L s)) (smI T R L s) := by
 apply List.ext_getElem
 · simp [sik, nxL]
 · intro j h1 h2
   have hj : j < L.length := by simpa [sik] using h1
   simp only [sik, nxL, List.getElem_map, List.getElem_range, if_pos hj]
   unfold plI
   rw [dlU_get _ _ _ _ _ _ _ hj]
theorem fr_of {T R S C : Int} {L : List Sv} (hok : AllOk T R S C L) (s : Int) : Fr T R S C s L (sik L (plI T R L s) L.length) := by
 have a := Zas hok.1; have hm := Zeb T R L (show -T ≤ T by omega); rw [sik_nx]; exact fr_mk hok (levI_is (by omega) (Zbr (v := s) hm).1)
theorem Zhx {T R S C s : Int} {l l' : List Sv} (f : Fr T R S C s l l') (hd : Apart l 1) : Apart l' 1 := by
 intro j k hj hk hoj hok; rw [f.len] at hj hk; rw [f.out j hj] at hoj; rw [f.out k hk] at hok; obtain ⟨v, _, hb⟩ := f.lev; have xj := tk_in f.ok.1 (f.ok.2 j hj) hoj (v + 1); have xk := tk_in f.ok.1 (f.ok.2 k hk) hok v; have bj := (hb j hj).2; have bk := (hb k hk).1; have d1 := hd j k hj hk hoj hok; have d2 := hd k j hk hj hok hoj; have ar := Zas f.ok.1
 omega
theorem sgU_add (f g : Nat → Int) : ∀ n, sgU f n + sgU g n = sgU (fun k => f k + g k) n
 | 0 => by simp [sgU]
 | n + 1 => by have := sgU_add f g n; simp only [sgU]; omega
theorem sgU_sub (f g : Nat → Int) : ∀ n, sgU f n - sgU g n = sgU (fun k => f k - g k) n
 | 0 => by simp [sgU]
 | n + 1 => by have := sgU_sub f g n; simp only [sgU]; omega
theorem reach_hi {T R S C : Int} {l : List Sv} (hok : AllOk T R S C l) (hd : Apart l 1) : smU l l.length + inT R l l.length ≤ tot T R l T ∨ inT T l l.length ≤ tot T R l T := by
 have ar := Zas hok.1
 by_cases h : ∃ k, k < l.length ∧ (svAt l k).2.2 = false ∧ T < (svAt l k).1 + R
 · right
   obtain ⟨m, hm, hom, hv⟩ := h
   unfold tot inT
   rw [Zgn]; refine Zhf _ fun k hk => ?_
   cases ho : (svAt l k).2.2
   · have := hd m k hm hk hom ho; have := tk_in hok.1 (hok.2 k hk) ho T; simp only [Bool.false_eq_true, if_false]
     omega
   · rw [Zge ho]; simp
 · left
   rw [Zex]
   unfold tot inT
   rw [Zgn, sgU_add]; refine Zhf _ fun k hk => ?_; have sv := Zbg (hok.2 k hk)
   cases ho : (svAt l k).2.2
   · have := tk_in hok.1 (hok.2 k hk) ho T; have : ¬ T < (svAt l k).1 + R := fun e => h ⟨k, hk, ho, e⟩; simp only [Bool.false_eq_true, if_false]
     omega
   · rw [Zge ho, sv.2.2.1 ho]; simp
theorem reach_lo {T R S C : Int} {l : List Sv} (hok : AllOk T R S C l) (hd : Apart l 1) : tot T R l (-T) ≤ smU l l.length - inT R l l.length ∨ tot T R l (-T) ≤ -inT T l l.length := by
 have ar := Zas hok.1
 by_cases h : ∃ k, k < l.length ∧ (svAt l k).2.2 = false ∧ (svAt l k).1 - R < -T
 · right
   obtain ⟨m, hm, hom, hv⟩ := h
   have e : -inT T l l.length = sgU (fun k => 0 - if (svAt l k).2.2 then 0 else T) l.length := by
    unfold inT
    rw [← sgU_sub]
    have : ∀ n, sgU (fun _ => 0) n = 0 := fun n => by induction n with | zero => rfl | succ n ih => simp [sgU, ih]
    rw [this]; omega
   rw [e]
   unfold tot
   rw [Zgn]; refine Zhf _ fun k hk => ?_
   cases ho : (svAt l k).2.2
   · have := hd k m hk hm ho hom; have := tk_in hok.1 (hok.2 k hk) ho (-T); simp only [Bool.false_eq_true, if_false]
     omega
   · rw [Zge ho]; simp
 · left
   rw [Zex]
   unfold tot inT
   rw [Zgn, sgU_sub]; refine Zhf _ fun k hk => ?_; have sv := Zbg (hok.2 k hk)
   cases ho : (svAt l k).2.2
   · have := tk_in hok.1 (hok.2 k hk) ho (-T); have : ¬ (svAt l k).1 - R < -T := fun e => h ⟨k, hk, ho, e⟩; simp only [Bool.false_eq_true, if_false]
     omega
   · rw [Zge ho, sv.2.2.1 ho]; simp
theorem inN_ge {l : List Sv} {u : Nat} : ∀ n, (∀ k, k < n → k ≠ u → (svAt l k).2.2 = false) → (n ≤ u → inN l n = n) ∧ n ≤ inN l n + 1
 | 0, _ => ⟨fun _ => rfl, by simp [inN]⟩
 | n + 1, h => by
  obtain ⟨a, b⟩ := inN_ge n fun k hk hu => h k (by omega) hu; simp only [inN]
  by_cases e : n = u
  · subst e; refine ⟨fun x => by omega, ?_⟩; rw [a (Nat.le_refl _)]
    split <;> omega
  · rw [h n (by omega) e]; simp only [Bool.false_eq_true, if_false]; exact ⟨fun x => by rw [a (by omega)], by omega⟩
theorem inN_all {l : List Sv} : ∀ n, (∀ k, k < n → (svAt l k).2.2 = false) → inN l n = n
 | 0, _ => rfl
 | n + 1, h => by
  have := inN_all n fun k hk => h k (by omega); simp only [inN]; rw [h n (by omega), this]
  simp
theorem inN_lt {l : List Sv} {u : Nat} : ∀ n, u < n → (svAt l u).2.2 = true → inN l n + 1 ≤ n
 | 0, h, _ => by omega
 | n + 1, h, ho => by
  simp only [inN]
  by_cases e : u = n
  · subst e; rw [ho]; have := inN_le l u; simp; omega
  · have := inN_lt n (by omega) ho
    split <;> omega
theorem reach_all {T R S C n c : Int} {l : List Sv} {u : Nat} (hok : AllOk T R S C l) (hd : Apart l 1) (hn : (l.length : Int) = n) (hr : ∀ k, k < l.length → k ≠ u → (svAt l k).2.2 = false)
 (h0 : -((n - 1) * T) ≤ c) (h1 : c ≤ (n - 1) * T) (h2 : smU l l.length - (n - 1) * R ≤ c) (h3 : c ≤ smU l l.length + (n - 1) * R) : tot T R l (-T) ≤ c ∧ c ≤ tot T R l T := by
 have ar := Zas hok.1; have g := (inN_ge (l := l) (u := u) l.length hr).2; have a := Int.mul_le_mul_of_nonneg_right (show n - 1 ≤ (inN l l.length : Int) by omega) (show 0 ≤ T by omega); have b := Int.mul_le_mul_of_nonneg_right (show n - 1 ≤ (inN l l.length : Int) by omega) (show 0 ≤ R by omega); rw [← inT_is] at a b; have p := reach_hi hok hd; have q := reach_lo hok hd
 omega
theorem kept_move {L H N P M R x q y E s u a b : Int} (g : GOK L H N P M R) (_hE : 0 ≤ E) (k : Kept (L - E) (H + E) P M R x q) (hy : x - N ≤ y) (hy' : y ≤ x + N) (hu : -P ≤ u) (hu' : u ≤ P)
 (A : IsHi R P (-Zdk M R q) (-Zdj M R q) (y - N - L) a) (B : IsHi R P (Zdj M R q) (Zdk M R q) (H - N - y) b) (hs : -a ≤ s) (hs' : s ≤ b) :
 Kept (L - E) (H + E) P M R (x + s + u) s ∧ -R ≤ s - q ∧ s - q ≤ R := by
 have c := can_le g.r0 g.m0 k.q0 k.q1; have U := one_side (H := H + E) (N := N + E) (u := u) (s := s) g.r0 g.pm (canLo_or M R q) k.hi k.up (y := y) (by omega)
  (by rw [show H + E - (N + E) - y = H - N - y by omega]; exact B) hs' (by have := A.2.1; omega) hu'
 have D := one_side (H := -(L - E)) (N := N + E) (x := -x) (y := -y) (u := -u) (s := -s) (q := -q) g.r0 g.pm (canHi_or M R q) (by have := k.lo; omega) k.dn (by omega)
  (by rw [show -(L - E) - (N + E) - -y = y - N - L by omega]; exact A) (by omega) (by have := B.2.1; omega) (by omega)
 have a2 := A.2.1; have b2 := B.2.1; exact ⟨⟨by omega, U.1, by omega, by omega, U.2, by omega⟩, by omega, by omega⟩
theorem kept_wide {L H P M R x q d e : Int} (k : Kept L H P M R x q) (h0 : -e ≤ d) (h1 : d ≤ e) : Kept (L - e) (H + e) P M R (x + d) q := by
 obtain ⟨a, b, c, f, g, h⟩ := k; exact ⟨by omega, by omega, c, f, by omega, by omega⟩
theorem kept_turn {L H P M R x q p : Int} (k : Kept L H P M R x q) (hR : 1 ≤ R) (h0 : -M ≤ p) (h1 : p ≤ M) : Kept (L - bk R (M + P)) (H + bk R (M + P)) P M R x p := by
 obtain ⟨a, b, c, f, g, h⟩ := k; have n := Zbm R (M + P); have m1 := Zes (R := R) (f := p - R + P) (g := M + P) (by omega) (by omega); have m2 := Zes (R := R) (f := -p - R + P) (g := M + P) (by omega) (by omega); exact ⟨by omega, by omega, h0, h1, by omega, by omega⟩
theorem chR_lab {l : List Ft} {now ax k lab x : Int} : ∀ r ∈ chR l now ax k lab x, r.1 = lab ∧ r.2.1 = k := by
 intro r hr
 unfold chR sdL at hr
 split at hr
 · obtain rfl := List.mem_singleton.1 hr; exact ⟨rfl, rfl⟩
 · split at hr
   · cases hr
   · obtain rfl := List.mem_singleton.1 hr
     unfold spo
     split
     · exact ⟨rfl, rfl⟩
     · split
       · exact ⟨rfl, rfl⟩
       · split <;> exact ⟨rfl, rfl⟩
theorem chU_lab {l : List Ft} {now : Int} {i : Nat} {N x z : Int} : ∀ k, ∀ r ∈ chU l now i N x z k, r.1 = 1 + i ∧ r.2.1 < k ∧ 0 ≤ r.2.1
 | 0, r, hr => by cases hr
 | k + 1, r, hr => by
  rw [chU] at hr
  rcases List.mem_append.1 hr with hr | hr
  · have := chU_lab k r hr; omega
  · have := chR_lab r hr; omega
theorem suU_lab {i : Nat} {at' : Nat → Int} : ∀ k, ∀ r ∈ suU i at' k, 16 + 4 * (i : Int) ≤ r.1 ∧ r.1 < 16 + 4 * (i : Int) + k ∧ r.2.1 = 3
 | 0, r, hr => by cases hr
 | k + 1, r, hr => by
  rw [suU] at hr
  rcases List.mem_append.1 hr with hr | hr
  · have := suU_lab k r hr; omega
  · obtain rfl := List.mem_singleton.1 hr
    dsimp only
    omega
theorem spR_lab {l : List Ft} {now v : Int} : ∀ k, ∀ r ∈ spR l now v k, r.1 = 8
 | 0, r, hr => by cases hr
 | k + 1, r, hr => by
  rw [spR] at hr
  rcases List.mem_append.1 hr with hr | hr
  · exact spR_lab k r hr
  · exact (chR_lab r hr).1
theorem gr_lab {g : Bool} : ∀ r ∈ (if g then [((40 : Int), (3 : Int), (3 : Int), (1 : Int))] else []), r.1 = 40 := by
 intro r hr
 split at hr
 · obtain rfl := List.mem_singleton.1 hr; rfl
 · cases hr
section
variable {C : CR} {l : List Ft} {now : Int} {x : Nat → Int} {at' : Nat → Nat → Int} {s : Stp}
theorem Zdm {a b : Int} {l m : List Rd} (h : ∀ r ∈ m, ¬ (r.1 = a ∧ r.2.1 = b)) : lst a b (l ++ m) = lst a b l := by
 rw [Zfv, lst_none h]; rfl
theorem Zhj {a b : Int} {l m : List Rd} (h : ∀ r ∈ l, ¬ (r.1 = a ∧ r.2.1 = b)) : lst a b (l ++ m) = lst a b m := by
 rw [Zfv, lst_none h, Option.or_none]
theorem chU_lst {i k : Nat} {N y z : Int} : ∀ n, k < n → lst (1 + (i : Int)) k (chU l now i N y z n) = lst (1 + (i : Int)) k (chR l now i k (1 + i) (y + noi N z k))
 | 0, h => by omega
 | n + 1, h => by
  rw [chU]
  by_cases e : k = n
  · subst e; rw [Zhj]; intro r hr; have := chU_lab k r hr
    omega
  · rw [Zdm]
    · exact chU_lst n (by omega)
    · intro r hr; have := chR_lab r hr
      omega
theorem suU_lst {i k : Nat} {a : Nat → Int} : ∀ n, k < n → lst (16 + 4 * (i : Int) + k) 3 (suU i a n) = some (16 + 4 * (i : Int) + k, 3, 3, a k)
 | 0, h => by omega
 | n + 1, h => by
  rw [suU]
  by_cases e : k = n
  · subst e; rw [Zhj]
    · rw [lst_one, if_pos ⟨rfl, rfl⟩]
    · intro r hr; have := suU_lab k r hr
      omega
  · rw [Zdm]
    · exact suU_lst n (by omega)
    · intro r hr; obtain rfl := List.mem_singleton.1 hr
      dsimp only
      omega
theorem axR_lab {i : Nat} {y : Int} {a : Nat → Int} (h4 : C.a i 4 ≤ 4) : ∀ r ∈ axR C l now i y a s, (r.1 = 1 + i ∧ r.2.1 < 3) ∨ (16 + 4 * (i : Int) ≤ r.1 ∧ r.1 < 20 + 4 * (i : Int) ∧ r.2.1 = 3) ∨ (r.1 = 32 + i ∧ r.2.1 = 3) := by
 intro r hr
 unfold axR at hr
 rcases List.mem_append.1 hr with hr | hr
 · rcases List.mem_append.1 hr with hr | hr
   · have := chU_lab _ r hr; exact .inl (by omega)
   · have := suU_lab _ r hr; exact .inr (.inl (by omega))
 · obtain rfl := List.mem_singleton.1 hr; exact .inr (.inr ⟨rfl, rfl⟩)
theorem axU_two : axU C l now x at' s 2 = axR C l now 0 (x 0) (at' 0) s ++ axR C l now 1 (x 1) (at' 1) s := by simp [axU]
theorem saR_ax {i : Nat} (hi : i < 2) (h4 : ∀ i, i < 2 → C.a i 4 ≤ 4) {a b : Int} (h : (a = 1 + (i : Int)) ∨ (16 + 4 * (i : Int) ≤ a ∧ a < 20 + 4 * (i : Int)) ∨ a = 32 + (i : Int)) : lst a b (saR C l now x at' s) = lst a b (axR C l now i (x i) (at' i) s) := by
 unfold saR
 rw [Zdm (fun r hr => by have := gr_lab r hr; omega), Zdm (fun r hr => by have := spR_lab 3 r hr; omega), axU_two]
 rcases (show i = 0 ∨ i = 1 by omega) with rfl | rfl
 · rw [Zdm]; intro r hr; have := axR_lab (h4 1 (by omega)) r hr
   omega
 · rw [Zhj]; intro r hr; have := axR_lab (h4 0 (by omega)) r hr
   omega
theorem saR_ch {i k : Nat} (hi : i < 2) (hk : k < 3) (h4 : ∀ i, i < 2 → C.a i 4 ≤ 4) : lst (1 + (i : Int)) k (saR C l now x at' s) = lst (1 + (i : Int)) k (chR l now i k (1 + i) (x i + noi (C.a i 2) (s.z i) k)) := by
 rw [saR_ax hi h4 (.inl rfl)]
 unfold axR
 rw [Zdm (fun r hr => by obtain rfl := List.mem_singleton.1 hr; dsimp only; omega), Zdm (fun r hr => by have := suU_lab _ r hr; omega), chU_lst 3 hk]
theorem saR_pl {i k : Nat} (hi : i < 2) (hk : (k : Int) < C.a i 4) (h4 : ∀ i, i < 2 → C.a i 4 ≤ 4) : lst (16 + 4 * (i : Int) + k) 3 (saR C l now x at' s) = some (16 + 4 * (i : Int) + k, 3, 3, at' i k) := by
 have := h4 i hi; rw [saR_ax hi h4 (.inr (.inl (by omega)))]
 unfold axR
 rw [Zdm (fun r hr => by obtain rfl := List.mem_singleton.1 hr; dsimp only; omega), Zhj (fun r hr => by have := chU_lab _ r hr; omega), suU_lst _ (by omega)]
end
def smO (o : Option Rd) : Bool × Int := match o with
 | some r => if r.2.2.1 = 3 then (true, r.2.2.2) else (false, 0)
 | none => (false, 0)
section
variable {C : CR} {l : List Ft} {now : Int} {q : FT} {s : Stp}
theorem smp_ws (hm : ∀ r ∈ saR C l now q.x q.at' s, Zcw r = true) (a b : Int) : smp (wsF C l now q s) a b = smO (lst a b (saR C l now q.x q.at' s)) := by
 unfold smp wsF
 rw [fnd_gat _ _ _ _ _ (fun r hr => rdOf_pk (hm r hr))]
 rfl
theorem smp_hon (hm : ∀ r ∈ saR C l now q.x q.at' s, Zcw r = true) {i k : Nat} (hi : i < 2) (hk : k < 3) (h4 : ∀ i, i < 2 → C.a i 4 ≤ 4) (ha : ail l now i k false = none) : smp (wsF C l now q s) (1 + (i : Int)) k = (true, cW (q.x i + noi (C.a i 2) (s.z i) k)) := by
 rw [smp_ws hm, saR_ch hi hk h4]
 unfold chR
 rw [ha]
 unfold sdL
 dsimp only
 rw [lst_one, if_pos ⟨rfl, rfl⟩]
 rfl
theorem smp_pl (hm : ∀ r ∈ saR C l now q.x q.at' s, Zcw r = true) {i k : Nat} (hi : i < 2) (hk : (k : Int) < C.a i 4) (h4 : ∀ i, i < 2 → C.a i 4 ≤ 4) : smp (wsF C l now q s) (16 + 4 * (i : Int) + k) 3 = (true, q.at' i k) := by
 rw [smp_ws hm, saR_pl hi hk h4]
 rfl
end
def pnd (S : Int) (s : Sv) (a : Int) : Int := if s.1 - S ≤ a ∧ a ≤ s.1 + S then 0 else 1
structure EB (C : CR) (i u : Nat) (L : List Sv) (b E : Int) : Prop where
 e0 : 0 ≤ E
 ein : u < L.length → (svAt L u).2.2 = false → E ≤ 2 * C.a i 5 * b
 eout : u < L.length → (svAt L u).2.2 = true → E ≤ 2 * C.a i 5 * C.a i 10 + bk (raI C i) (moI C i + puI C i)
 enone : L.length ≤ u → E = 0
structure AI (C : CR) (i u : Nat) (L : List Sv) (at' : Nat → Int) (x E : Int) : Prop where
 ok : AllOk (C.a i 5) (C.a i 6) (C.a i 7) (C.a i 10) L
 len : (L.length : Int) = C.a i 4
 ap : Apart L 1
 rest : ∀ k, k < L.length → k ≠ u → ((svAt L k).2.2 = false ∧ (svAt L k).2.1 = 0) ∧ at' k = (svAt L k).1
 lo : u < L.length → (svAt L u).2.2 = true → at' u = 0
 eb : EB C i u L ((svAt L u).2.1 + pnd (C.a i 7) (svAt L u) (at' u)) E
 kept : Kept (C.a i 0 - E) (C.a i 1 + E) (puI C i) (moI C i) (raI C i) x (smU L L.length)
structure AW (C : CR) (i u : Nat) (L : List Sv) (x E : Int) : Prop where
 ok : AllOk (C.a i 5) (C.a i 6) (C.a i 7) (C.a i 10) L
 len : (L.length : Int) = C.a i 4
 ap : Apart L 1
 rest : ∀ k, k < L.length → k ≠ u → (svAt L k).2.2 = false ∧ (svAt L k).2.1 = 0
 eb : EB C i u L (svAt L u).2.1 E
 kept : Kept (C.a i 0 - E) (C.a i 1 + E) (puI C i) (moI C i) (raI C i) x (smU L L.length)
theorem atB_pnd {S a : Int} {s : Sv} (ho : s.2.2 = false) : Zgv S s.1 a s.2.2 true = decide (pnd S s a = 0) := by
 unfold Zgv atB pnd
 rw [ho]
 by_cases h : s.1 - S ≤ a ∧ a ≤ s.1 + S
 · rw [if_pos h]; simp [betw, h]
 · rw [if_neg h]; have : ¬ (s.1 - S ≤ a ∧ a ≤ s.1 + S) := h
   simp [betw]
   omega
theorem pnd_bd (S : Int) (s : Sv) (a : Int) : pnd S s a = 0 ∨ pnd S s a = 1 := by unfold pnd; split <;> simp
theorem pnd_self {S : Int} (h : 0 ≤ S) (s : Sv) : pnd S s s.1 = 0 := by unfold pnd; rw [if_pos (by omega)]
section
variable {C : CR} {i u : Nat} {L : List Sv} {at' : Nat → Int} {x E : Int} {ws : List Rd}
theorem wv_fine {k : Nat} {s : Sv} (h : Zgv (C.a i 7) s.1 (smp ws (16 + 4 * (i : Int) + (k : Int)) 3).2 s.2.2 (smp ws (16 + 4 * (i : Int) + (k : Int)) 3).1 = true) : wv C ws i k s = s := by
 unfold wv
 obtain ⟨a, b, c⟩ := w_fine (C := C.a i 10) (b := s.2.1) h; rw [a, b, c]
theorem AI.watch (h : AI C i u L at' x E) (g : crE C = 0) (hi : i < 2) (hs : ∀ k, k < L.length → smp ws (16 + 4 * (i : Int) + (k : Int)) 3 = (true, at' k)) (hok : AllOk (C.a i 5) (C.a i 6) (C.a i 7) (C.a i 10) (wml C ws i L L.length)) : ∃ E', AW C i u (wml C ws i L L.length) x E' := by
 have ar := Zas h.ok.1; have gok : GOK (C.a i 0) (C.a i 1) (C.a i 2) (puI C i) (moI C i) (raI C i) := grE_ok (Zcl g hi (k := 3) (by omega))
 have hlen : (wml C ws i L L.length).length = L.length := by simp [wml]
 have hrest : ∀ k, k < L.length → k ≠ u → svAt (wml C ws i L L.length) k = svAt L k := fun k hk hu => by
  obtain ⟨⟨h1, h2⟩, h3⟩ := h.rest k hk hu; rw [wml_get C ws i L hk]; refine wv_fine ?_; rw [hs k hk, h3]; have := atB_pnd (S := C.a i 7) (a := (svAt L k).1) h1; rw [this, pnd_self (by omega)]
  rfl
 have hr2 : ∀ k, k < (wml C ws i L L.length).length → k ≠ u → (svAt (wml C ws i L L.length) k).2.2 = false ∧ (svAt (wml C ws i L L.length) k).2.1 = 0 := fun k hk hu => by
  rw [hrest k (by omega) hu]; exact (h.rest k (by omega) hu).1
 by_cases hu : u < L.length
 · -- it may be loose
   by_cases hf : Zgv (C.a i 7) (svAt L u).1 (at' u) (svAt L u).2.2 true = true
   · -- nothing is found
     have hall : ∀ k, k < L.length → svAt (wml C ws i L L.length) k = svAt L k := fun k hk => by
      by_cases e : k = u
      · subst e; rw [wml_get C ws i L hk]; exact wv_fine (by rw [hs k hk]; exact hf)
      · exact hrest k hk e
     have hsum : smU (wml C ws i L L.length) (wml C ws i L L.length).length = smU L L.length := by
      rw [Zex, Zex, hlen]
      exact sgU_eq _ fun k hk => by rw [hall k hk]
     refine ⟨E, hok, by rw [hlen]; exact h.len, fun j k hj hk hoj hok => ?_, hr2, ⟨h.eb.e0, fun _ ho => ?_, fun _ ho => ?_, fun e => by omega⟩, by rw [hsum]; exact h.kept⟩
     · rw [hlen] at hj hk; rw [hall j hj] at hoj ⊢; rw [hall k hk] at hok ⊢; exact h.ap j k hj hk hoj hok
     · rw [hall u hu] at ho ⊢; have e := h.eb.ein hu ho; rw [atB_pnd ho] at hf; rw [of_decide_eq_true hf, Int.add_zero] at e; exact e
     · rw [hall u hu] at ho; exact h.eb.eout hu ho
   · have hf : Zgv (C.a i 7) (svAt L u).1 (at' u) (svAt L u).2.2 true = false := by simpa using hf
     have ho : (svAt L u).2.2 = false := by
      cases e : (svAt L u).2.2
      · rfl
      · rw [e] at hf; simp [Zgv] at hf
     have hp : pnd (C.a i 7) (svAt L u) (at' u) = 1 := by
      rw [atB_pnd ho] at hf
      rcases pnd_bd (C.a i 7) (svAt L u) (at' u) with e | e
      · rw [e] at hf; cases hf
      · exact e
     have he := h.eb.ein hu ho; rw [hp] at he
     by_cases hc : (svAt L u).2.1 + 1 = C.a i 10
     · -- it is out
       have hw : svAt (wml C ws i L L.length) u = (0, (svAt L u).2.1 + 1, true) := by
        rw [wml_get C ws i L hu]
        unfold wv
        rw [hs u hu]; obtain ⟨a, b, c⟩ := w_last (C := C.a i 10) hf hc
        dsimp only
        rw [a, b, c]
       have hin := inN_lt (wml C ws i L L.length).length (by omega) (show (svAt (wml C ws i L L.length) u).2.2 = true by rw [hw]); have hmul := Int.mul_le_mul_of_nonneg_right (show (inN (wml C ws i L L.length) (wml C ws i L L.length).length : Int) ≤ C.a i 4 - 1 by have := h.len; omega) (show 0 ≤ C.a i 5 by omega); rw [← inT_is] at hmul; have te := tot_ends hok
       have hq : -moI C i ≤ smU (wml C ws i L L.length) (wml C ws i L L.length).length ∧ smU (wml C ws i L L.length) (wml C ws i L L.length).length ≤ moI C i := by unfold moI; omega
       have kt := kept_turn h.kept gok.r0 hq.1 hq.2; have bn := Zbm (raI C i) (moI C i + puI C i); refine ⟨E + bk (raI C i) (moI C i + puI C i), hok, by rw [hlen]; exact h.len, fun j k hj hk hoj hok => ?_, hr2, ⟨by have := h.eb.e0; omega, fun _ e => ?_, fun _ _ => ?_, fun e => by omega⟩, ?_⟩
       · rw [hlen] at hj hk
         have hju : j ≠ u := fun e => by subst e; rw [hw] at hoj; cases hoj
         have hku : k ≠ u := fun e => by subst e; rw [hw] at hok; cases hok
         rw [hrest j hj hju] at hoj ⊢; rw [hrest k hk hku] at hok ⊢; exact h.ap j k hj hk hoj hok
       · rw [hw] at e; cases e
       · rw [hc] at he; omega
       · rw [show C.a i 0 - (E + bk (raI C i) (moI C i + puI C i)) = C.a i 0 - E - bk (raI C i) (moI C i + puI C i) by omega, show C.a i 1 + (E + bk (raI C i) (moI C i + puI C i)) = C.a i 1 + E + bk (raI C i) (moI C i + puI C i) by omega]; exact kt
     · -- it is counted
       have hw : svAt (wml C ws i L L.length) u = ((svAt L u).1, (svAt L u).2.1 + 1, false) := by
        rw [wml_get C ws i L hu]
        unfold wv
        rw [hs u hu]; obtain ⟨a, b, c⟩ := w_more (C := C.a i 10) hf hc
        dsimp only
        rw [a, b, c]
       have h1 : ∀ k, k < L.length → (svAt (wml C ws i L L.length) k).1 = (svAt L k).1 ∧ (svAt (wml C ws i L L.length) k).2.2 = (svAt L k).2.2 := fun k hk => by
        by_cases e : k = u
        · subst e; rw [hw, ho]; exact ⟨rfl, rfl⟩
        · rw [hrest k hk e]; exact ⟨rfl, rfl⟩
       have hsum : smU (wml C ws i L L.length) (wml C ws i L L.length).length = smU L L.length := by
        rw [Zex, Zex, hlen]; exact sgU_eq _ fun k hk => (h1 k hk).1
       refine ⟨E, hok, by rw [hlen]; exact h.len, fun j k hj hk hoj hok => ?_, hr2, ⟨h.eb.e0, fun _ _ => ?_, fun _ e => ?_, fun e => by omega⟩, by rw [hsum]; exact h.kept⟩
       · rw [hlen] at hj hk; rw [(h1 j hj).2] at hoj; rw [(h1 k hk).2] at hok; rw [(h1 j hj).1, (h1 k hk).1]; exact h.ap j k hj hk hoj hok
       · rw [hw]; exact he
       · rw [hw] at e; cases e
 · -- nothing is loose
   have hall : ∀ k, k < L.length → svAt (wml C ws i L L.length) k = svAt L k := fun k hk => hrest k hk (by omega)
   have hsum : smU (wml C ws i L L.length) (wml C ws i L L.length).length = smU L L.length := by
    rw [Zex, Zex, hlen]
    exact sgU_eq _ fun k hk => by rw [hall k hk]
   refine ⟨E, hok, by rw [hlen]; exact h.len, fun j k hj hk hoj hok => ?_, hr2, ⟨h.eb.e0, fun e => by omega, fun e => by omega, fun _ => h.eb.enone (by omega)⟩, by rw [hsum]; exact h.kept⟩; rw [hlen] at hj hk; rw [hall j hj] at hoj ⊢; rw [hall k hk] at hok ⊢; exact h.ap j k hj hk hoj hok
end
theorem hiI_hi {R p lo hi room : Int} (h : lo ≤ hi) : IsHi R p lo hi room (hiI R p lo hi room) := hiF_is _ (by omega) (fun s h3 h4 => by omega)
theorem clip_id {x lo hi : Int} (h0 : lo ≤ x) (h1 : x ≤ hi) : Zar x lo hi = x := by
 unfold Zar
 rw [if_neg (by omega), if_neg (by omega), if_neg (by omega)]
theorem plU_dev {C : CR} {l : List Ft} {now : Int} {i u : Nat} {L : List Sv} : ∀ n, (∀ k, k < n → k ≠ u → plc C l now i k (svAt L k) = (svAt L k).1) →
 plU C l now i L n = smU L n + if u < n then plc C l now i u (svAt L u) - (svAt L u).1 else 0
 | 0, _ => by simp [plU, smU]
 | n + 1, h => by
  rw [plU, smU, plU_dev n fun k hk hu => h k (by omega) hu]
  by_cases e : u = n
  · subst e; rw [if_neg (by omega), if_pos (by omega)]
    omega
  · rw [h n (by omega) (fun e' => e e'.symm)]
    by_cases h2 : u < n
    · rw [if_pos h2, if_pos (by omega)]; omega
    · rw [if_neg h2, if_neg (by omega)]; omega
section
variable {C : CR} {i u : Nat} {L : List Sv} {x E y v n k p now : Int} {h : Int × Int × Int} {l : List Ft}
theorem go_in (hc : crE C = 0) (hi : i < 2) (w : AW C i u L x E) (hy : x - C.a i 2 ≤ y) (hy' : y ≤ x + C.a i 2) (y0 : -1000000 ≤ y) (y1 : y ≤ 1000000) (hn : betw n 0 1 = true) :
 ∀ d, -puI C i ≤ d → d ≤ puI C i → Kept (C.a i 0 - E) (C.a i 1 + E) (puI C i) (moI C i) (raI C i) (x + goM C i h k y v n L + d) (goM C i h k y v n L) ∧ -raI C i ≤ goM C i h k y v n L - smU L L.length ∧ goM C i h k y v n L - smU L L.length ≤ raI C i := by
 intro d hd hd'; have gok : GOK (C.a i 0) (C.a i 1) (C.a i 2) (puI C i) (moI C i) (raI C i) := grE_ok (Zcl hc hi (k := 3) (by omega)); have c := can_le gok.r0 gok.m0 w.kept.q0 w.kept.q1; have hp : pvI C i L = smU L L.length := clip_id w.kept.q0 w.kept.q1; have A := hiI_hi (R := raI C i) (p := puI C i) (lo := -Zdk (moI C i) (raI C i) (smU L L.length)) (hi := -Zdj (moI C i) (raI C i) (smU L L.length)) (room := y - C.a i 2 - C.a i 0) (by omega); have B := hiI_hi (R := raI C i) (p := puI C i) (lo := Zdj (moI C i) (raI C i) (smU L L.length)) (hi := Zdk (moI C i) (raI C i) (smU L L.length)) (room := C.a i 1 - C.a i 2 - y) (by omega); have x1 := no_cross gok c.2.1 c.2.2.1 A B
 have e1 : bdL C i y n (smU L L.length) = -hiI (raI C i) (puI C i) (-Zdk (moI C i) (raI C i) (smU L L.length)) (-Zdj (moI C i) (raI C i) (smU L L.length)) (y - C.a i 2 - C.a i 0) := by
  unfold bdL; rw [if_pos hn, clip_id (by omega) (by omega)]
 have e2 : bdH C i y n (smU L L.length) = hiI (raI C i) (puI C i) (Zdj (moI C i) (raI C i) (smU L L.length)) (Zdk (moI C i) (raI C i) (smU L L.length)) (C.a i 1 - C.a i 2 - y) := by
  unfold bdH; rw [if_pos hn, clip_id (by omega) (by omega)]
 have s := Zbr (v := wtM C i h k y v n L) x1
 unfold goM
 rw [hp, e1, e2]; exact kept_move gok w.eb.e0 w.kept hy hy' hd hd' A B s.1 s.2
theorem AW.move (hc : crE C = 0) (hi : i < 2) (w : AW C i u L x E) (hy : x - C.a i 2 ≤ y) (hy' : y ≤ x + C.a i 2) (y0 : -1000000 ≤ y) (y1 : y ≤ 1000000) (hn : betw n 0 1 = true)
 (hl : ∀ k : Nat, k < L.length → k ≠ u → ail l now i k true = none) (hp : -C.a i 3 ≤ p) (hp' : p ≤ C.a i 3) {m : Nat} (hm : m = L.length) (a0 : Nat → Int) :
 ∃ E', AI C i u (svM C i h k y v n L) (fun j => if j < m then plc C l now i j (svAt (svM C i h k y v n L) j) else a0 j) (x + plU C l now i (svM C i h k y v n L) m + p) E' := by
 subst hm; have ar := Zas w.ok.1; have ra := Zdd (show rgE (C.a i 4) (C.a i 3) = 0 from Zcl hc hi (k := 0) (by omega)); have K := go_in (h := h) (k := k) (v := v) hc hi w hy hy' y0 y1 hn; have pu : puI C i = C.a i 3 + C.a i 7 := rfl; obtain ⟨k0, r0, r1⟩ := K 0 (by omega) (by omega); have hgo := reach_all w.ok w.ap w.len (fun k hk hu => (w.rest k hk hu).1) (c := goM C i h k y v n L) k0.q0 k0.q1 (by unfold raI at r0; omega) (by unfold raI at r1; omega); have f := fr_of w.ok (goM C i h k y v n L); rw [show sik L (plI (C.a i 5) (C.a i 6) L (goM C i h k y v n L)) L.length = svM C i h k y v n L from rfl] at f
 have hsum : smU (svM C i h k y v n L) (svM C i h k y v n L).length = goM C i h k y v n L := by
  rw [f.sum']; unfold clS; omega
 have hat : ∀ j, j < L.length → (svAt (svM C i h k y v n L) j).2 = (svAt L j).2 := fun j hj => by
  unfold svM; rw [sik_end _ _ hj]
 generalize svM C i h k y v n L = L3 at *; generalize goM C i h k y v n L = go at *; have hlen := f.len; have hok := f.ok'
 have hrest : ∀ j, j < L.length → j ≠ u → plc C l now i j (svAt L3 j) = (svAt L3 j).1 := fun j hj hu => by
  unfold plc
  rw [hat j hj, (w.rest j hj hu).1, hl j hj hu]
  rfl
 have hdev := plU_dev L.length hrest
 have hr3 : ∀ j, j < L3.length → j ≠ u → ((svAt L3 j).2.2 = false ∧ (svAt L3 j).2.1 = 0) ∧ (if j < L.length then plc C l now i j (svAt L3 j) else a0 j) = (svAt L3 j).1 := fun j hj hu => by
  rw [hat j (by omega), if_pos (by omega)]; exact ⟨w.rest j (by omega) hu, hrest j (by omega) hu⟩
 rw [hlen] at hsum; rw [hdev, hsum]
 by_cases hu : u < L.length
 · rw [if_pos hu]; have su := Zbg (hok.2 u (by omega))
   cases ho : (svAt L u).2.2
   · have ho3 : (svAt L3 u).2.2 = false := by rw [hat u hu]; exact ho
     have hb3 : (svAt L3 u).2.1 = (svAt L u).2.1 := by rw [hat u hu]
     have hpl : -C.a i 5 ≤ plc C l now i u (svAt L3 u) ∧ plc C l now i u (svAt L3 u) ≤ C.a i 5 := by
      unfold plc
      rw [ho3]; simp only [Bool.false_eq_true, if_false]
      split
      · exact Zbr (by omega)
      · exact su.1
     have he := w.eb.ein hu ho; generalize hd : plc C l now i u (svAt L3 u) = at2 at *
     by_cases hs : (svAt L3 u).1 - C.a i 7 ≤ at2 ∧ at2 ≤ (svAt L3 u).1 + C.a i 7
     · have hpn : pnd (C.a i 7) (svAt L3 u) at2 = 0 := if_pos hs; refine ⟨E, hok, by rw [hlen]; exact w.len, Zhx f w.ap, hr3, fun _ e => (by rw [ho3] at e; cases e), ⟨w.eb.e0, fun _ _ => ?_, fun _ e => (by rw [ho3] at e; cases e), fun e => by omega⟩, ?_⟩
       · rw [if_pos hu, hd, hpn, hb3, Int.add_zero]; exact he
       · rw [hlen, hsum, show x + (go + (at2 - (svAt L3 u).1)) + p = x + go + (at2 - (svAt L3 u).1 + p) by omega]; exact (K _ (by omega) (by omega)).1
     · have hpn : pnd (C.a i 7) (svAt L3 u) at2 = 1 := if_neg hs; refine ⟨E + 2 * C.a i 5, hok, by rw [hlen]; exact w.len, Zhx f w.ap, hr3, fun _ e => (by rw [ho3] at e; cases e), ⟨by have := w.eb.e0; omega, fun _ _ => ?_, fun _ e => (by rw [ho3] at e; cases e), fun e => by omega⟩, ?_⟩
       · rw [if_pos hu, hd, hpn, hb3, Int.mul_add, Int.mul_one]; omega
       · have := kept_wide (d := at2 - (svAt L3 u).1) (e := 2 * C.a i 5) (K p (by omega) (by omega)).1 (by omega) (by omega); rw [hlen, hsum, show x + (go + (at2 - (svAt L3 u).1)) + p = x + go + p + (at2 - (svAt L3 u).1) by omega, show C.a i 0 - (E + 2 * C.a i 5) = C.a i 0 - E - 2 * C.a i 5 by omega, show C.a i 1 + (E + 2 * C.a i 5) = C.a i 1 + E + 2 * C.a i 5 by omega]; exact this
   · have ho3 : (svAt L3 u).2.2 = true := by rw [hat u hu]; exact ho
     have hz : plc C l now i u (svAt L3 u) = 0 := by unfold plc; rw [ho3]; rfl
     have hz3 := su.2.2.1 ho3; refine ⟨E, hok, by rw [hlen]; exact w.len, Zhx f w.ap, hr3, fun _ _ => by rw [if_pos hu]; exact hz, ⟨w.eb.e0, fun _ e => (by rw [ho3] at e; cases e), fun _ _ => w.eb.eout hu ho, fun e => by omega⟩, ?_⟩; rw [hlen, hsum, hz, hz3, show x + (go + (0 - 0)) + p = x + go + p by omega]; exact (K p (by omega) (by omega)).1
 · rw [if_neg hu]; refine ⟨E, hok, by rw [hlen]; exact w.len, Zhx f w.ap, hr3, fun e => by omega, ⟨w.eb.e0, fun e => by omega, fun e => by omega, fun _ => w.eb.enone (by omega)⟩, ?_⟩; rw [hlen, hsum, show x + (go + 0) + p = x + go + p by omega]; exact (K p (by omega) (by omega)).1
theorem AI.most {at' : Nat → Int} (h : AI C i u L at' x E) : C.a i 0 - (2 * C.a i 5 * C.a i 10 + bk (raI C i) (moI C i + puI C i)) ≤ x ∧ x ≤ C.a i 1 + (2 * C.a i 5 * C.a i 10 + bk (raI C i) (moI C i + puI C i)) := by
 have k := h.kept; have k0 := k.lo; have k1 := k.hi; have ar := Zas h.ok.1; have bn := Zbm (raI C i) (moI C i + puI C i); have hp := Int.mul_nonneg (show 0 ≤ 2 * C.a i 5 by omega) (show 0 ≤ C.a i 10 by omega)
 by_cases hu : u < L.length
 · cases ho : (svAt L u).2.2
   · have he := h.eb.ein hu ho; have su := (Zbg (h.ok.2 u hu)).2.2.2 ho; have hq := pnd_bd (C.a i 7) (svAt L u) (at' u); have := Int.mul_le_mul_of_nonneg_left (show (svAt L u).2.1 + pnd (C.a i 7) (svAt L u) (at' u) ≤ C.a i 10 by omega) (show 0 ≤ 2 * C.a i 5 by omega)
     omega
   · have he := h.eb.eout hu ho
     omega
 · have := h.eb.enone (by omega)
   omega
theorem AI.bd {at' : Nat → Int} (h : AI C i u L at' x E) (hc : crE C = 0) (hi : i < 2) : -221000 ≤ x ∧ x ≤ 221000 := by
 have gok : GOK (C.a i 0) (C.a i 1) (C.a i 2) (puI C i) (moI C i) (raI C i) := grE_ok (Zcl hc hi (k := 3) (by omega)); have m := h.most; have ar := Zas h.ok.1; have h0 := gok.l0; have h1 := gok.h1; have h2 := gok.h0; have h3 := gok.l1; have h4 := gok.room; have h5 := gok.n0; have p := Int.mul_le_mul_of_nonneg_left (show C.a i 10 ≤ 10 by omega) (show 0 ≤ 2 * C.a i 5 by omega)
 omega
end
structure SA (C : CR) (s : Stp) : Prop where
 k : ∀ i, i < 2 → -100 ≤ s.k i ∧ s.k i ≤ 100
 p : ∀ i, i < 2 → -C.a i 3 ≤ s.p i ∧ s.p i ≤ C.a i 3
 z : ∀ i, i < 2 → 0 ≤ s.z i ∧ s.z i ≤ 8589934591
 v : 0 ≤ s.v ∧ s.v ≤ 262143
structure GI (C : CR) (n : Int) (q : FT) : Prop where
 st : stE C q.S q.sv = 0
 at4 : ∀ i, i < 2 → ∀ k, k < 4 → -1000 ≤ q.at' i k ∧ q.at' i k ≤ 1000
 x : ∀ i, i < 2 → -(5000 * n) ≤ q.x i ∧ q.x i ≤ 5000 * n
theorem Zbf {m k : Nat} : svAt (List.replicate m svD) k = svD := by
 unfold svAt
 rw [List.getD_eq_getElem?_getD, List.getElem?_replicate]
 split <;> rfl
theorem cr_ar {C : CR} (h : crE C = 0) {i : Nat} (hi : i < 2) : arB (C.a i 5) (C.a i 6) (C.a i 7) (C.a i 10) = true := arE_arB (show arE (C.a i 5) (C.a i 6) (C.a i 7) (C.a i 10) = 0 from Zcl h hi (k := 2) (by omega))
theorem Zdi {C : CR} (h : crE C = 0) {i : Nat} (hi : i < 2) : (2 ≤ C.a i 4 ∧ C.a i 4 ≤ 4) ∧ 0 ≤ C.a i 3 ∧ C.a i 3 ≤ 1000 := Zdd (show rgE (C.a i 4) (C.a i 3) = 0 from Zcl h hi (k := 0) (by omega))
theorem cr_gok {C : CR} (h : crE C = 0) {i : Nat} (hi : i < 2) : GOK (C.a i 0) (C.a i 1) (C.a i 2) (puI C i) (moI C i) (raI C i) := grE_ok (Zcl h hi (k := 3) (by omega))
theorem cr_fm {C : CR} (h : crE C = 0) {i : Nat} (hi : i < 2) : 2 * C.a i 2 ≤ C.a i 8 ∧ C.a i 0 ≤ 0 ∧ 0 ≤ C.a i 1 := by
 have := (show fmE (C.a i 8) (C.a i 2) (C.a i 0) (C.a i 1) = 0 from Zcl h hi (k := 5) (by omega))
 unfold fmE at this
 split at this
 · cases this
 · omega
theorem GI.new {C : CR} (h : crE C = 0) : GI C 0 (q0 C) := by
 have hcs : ∀ i, i < 2 → csE C i (List.replicate (C.a i 4).toNat svD) = 0 := fun i hi => by
  have r := Zdi h hi; have a := cr_ar h hi; have ar := Zas a
  unfold csE
  rw [List.length_replicate, if_pos (by omega)]; refine seU_mk _ fun k hk => svE_mk a ?_; rw [Zbf]; exact sv_mk (show -C.a i 5 ≤ (0 : Int) ∧ (0 : Int) ≤ C.a i 5 by omega) (show (0 : Int) ≤ 0 ∧ (0 : Int) ≤ C.a i 10 by omega) (fun h => by cases h) (fun _ => show (0 : Int) < C.a i 10 by omega)
 have hch : ∀ i, i < 2 → chE C i (0, 0, 0) = 0 := fun i hi => by
  have hr : ruE (C.a i 0) (C.a i 1) (C.a i 11) (C.a i 14) (moI C i) (C.al i) (C.zl i) = 0 := Zcl h hi (k := 4) (by omega); have hm := mo_pos h hi; have hf := cr_fm h hi
  unfold chE hoE
  rw [if_pos hr, if_pos, if_pos]
  · simp only [asB, betw, Bool.and_eq_true, decide_eq_true_eq]; omega
  · simp only [stB, betw, Bool.and_eq_true, decide_eq_true_eq]; omega
 refine ⟨stE_mk h fun k hk => ?_, fun _ _ _ _ => by show -1000 ≤ (0 : Int) ∧ (0 : Int) ≤ 1000; omega, fun _ _ => by show -(5000 * 0) ≤ (0 : Int) ∧ (0 : Int) ≤ 5000 * 0; omega⟩
 rcases (show k = 0 ∨ k = 1 ∨ k = 2 ∨ k = 3 ∨ k = 4 ∨ k = 5 ∨ k = 6 ∨ k = 7 by omega) with rfl | rfl | rfl | rfl | rfl | rfl | rfl | rfl
 · rfl
 · rfl
 · rfl
 · rfl
 · exact hcs 0 (by omega)
 · exact hch 0 (by omega)
 · exact hcs 1 (by omega)
 · exact hch 1 (by omega)
theorem plc_bd {C : CR} {l : List Ft} {now : Int} {i k : Nat} {s : Sv} (h0 : 0 ≤ C.a i 5) (h : -C.a i 5 ≤ s.1 ∧ s.1 ≤ C.a i 5) : -C.a i 5 ≤ plc C l now i k s ∧ plc C l now i k s ≤ C.a i 5 := by
 unfold plc
 split
 · omega
 · split
   · exact Zbr (by omega)
   · exact h
theorem plU_bd {C : CR} {l : List Ft} {now : Int} {i : Nat} {L : List Sv} (h : ∀ k, k < L.length → -1000 ≤ plc C l now i k (svAt L k) ∧ plc C l now i k (svAt L k) ≤ 1000) : ∀ n : Nat, n ≤ L.length → -(1000 * (n : Int)) ≤ plU C l now i L n ∧ plU C l now i L n ≤ 1000 * (n : Int)
 | 0, _ => by simp [plU]
 | n + 1, hn => by
  have a := plU_bd h n (by omega); have b := h n (by omega); rw [plU]; omega
section
variable {C : CR} {l : List Ft} {now n : Int} {q : FT} {s : Stp}
theorem GI.len (h : GI C n q) {i : Nat} (hi : i < 2) : ((q.sv i).length : Int) = C.a i 4 := (Zci h.st hi).1
theorem GI.cr (h : GI C n q) : crE C = 0 := (Zax h.st).1
theorem GI.may (h : GI C n q) (hs : SA C s) : ∀ r ∈ saR C l now q.x q.at' s, Zcw r = true := saR_may (fun _ hi => (Zdi h.cr hi).1.2) h.at4 hs.k
theorem GI.step (h : GI C n q) (hs : SA C s) : GI C (n + 1) (stpF C l now q s) := by
 have st := stE_step (ws := (saR C l now q.x q.at' s).map pk1) h.st
 have hb : ∀ i, i < 2 → ∀ k, k < (vS3 C q.S (wsF C l now q s) q.sv i).length → -C.a i 5 ≤ plc C l now i k (svAt (vS3 C q.S (wsF C l now q s) q.sv i) k) ∧ plc C l now i k (svAt (vS3 C q.S (wsF C l now q s) q.sv i) k) ≤ C.a i 5 := fun i hi k hk => by
  have sl := Zci st hi; have ar := Zas (cr_ar h.cr hi); have := Zbg (Zfp (seU_all _ sl.2 k hk)).2; exact plc_bd (by omega) this.1
 have ht : ∀ i, i < 2 → C.a i 5 ≤ 1000 ∧ 0 ≤ C.a i 5 := fun i hi => by have := Zas (cr_ar h.cr hi); omega
 have hlen : ∀ i, i < 2 → ((vS3 C q.S (wsF C l now q s) q.sv i).length : Int) = C.a i 4 := fun i hi => (Zci st hi).1; refine ⟨st, fun i hi k hk => ?_, fun i hi => ?_⟩
 · show -1000 ≤ (if k < (C.a i 4).toNat then _ else _) ∧ (if k < (C.a i 4).toNat then _ else _) ≤ 1000
   have hl := hlen i hi
   split
   · have := hb i hi k (by omega); have := ht i hi; omega
   · exact h.at4 i hi k hk
 · show -(5000 * (n + 1)) ≤ q.x i + plU C l now i (vS3 C q.S (wsF C l now q s) q.sv i) (C.a i 4).toNat + s.p i ∧ q.x i + plU C l now i (vS3 C q.S (wsF C l now q s) q.sv i) (C.a i 4).toNat + s.p i ≤ 5000 * (n + 1)
   have hl := hlen i hi; have r := Zdi h.cr hi; have := plU_bd (C := C) (l := l) (now := now) (i := i) (L := vS3 C q.S (wsF C l now q s) q.sv i) (fun k hk => by have := hb i hi k hk; have := ht i hi; omega) (C.a i 4).toNat (by omega); have := h.x i hi; have := hs.p i hi
   omega
end
theorem flU_gi {C : CR} {l : List Ft} {ss : List Stp} (h : crE C = 0) (hs : ∀ k, k < ss.length → SA C (stAt ss k)) : ∀ n : Nat, n ≤ ss.length → GI C n (flU C l ss n)
 | 0, _ => GI.new h
 | n + 1, hn => by
  have := (flU_gi (l := l) h hs n (by omega)).step (l := l) (now := (n : Int)) (hs n (by omega)); rw [flU]; rw [show ((n + 1 : Nat) : Int) = (n : Int) + 1 by omega]; exact this
section
variable {C : CR} {l : List Ft} {now n : Int} {q : FT} {s : Stp}
theorem bk_at (S : FS) (ws : List Rd) (sv : Nat → List Sv) {i : Nat} (hi : i < 2) : (sS3 C S ws sv).bk i = vbk (S.bk i) (C.a i 8) (C.a i 9) (tS ws (1 + (i : Int))) (sS ws (1 + (i : Int))) := by
 rcases (show i = 0 ∨ i = 1 by omega) with rfl | rfl <;> rfl
end
def xkF (q Q : FT) (i : Nat) : Nat → Int := fun j => if j < i then Q.x j else q.x j
def akF (q Q : FT) (i : Nat) : Nat → Nat → Int := fun j => if j < i then Q.at' j else q.at' j
theorem akF_self (q Q : FT) (i : Nat) : akF q Q i i = q.at' i := if_neg (Nat.lt_irrefl i)
theorem akF_next (q Q : FT) (i : Nat) : akF q Q (i + 1) i = Q.at' i := if_pos (Nat.lt_succ_self i)
theorem akF_else (q Q : FT) {i j : Nat} (h : j ≠ i) : akF q Q (i + 1) j = akF q Q i j := by
 unfold akF
 by_cases h1 : j < i
 · rw [if_pos h1, if_pos (by omega)]
 · rw [if_neg h1, if_neg (by omega)]
theorem xkF_zero (q Q : FT) : xkF q Q 0 = q.x := by funext j; unfold xkF; rw [if_neg (by omega)]
theorem akF_zero (q Q : FT) : akF q Q 0 = q.at' := by funext j; unfold akF; rw [if_neg (by omega)]
theorem fl_two (C : CR) (pf : Option Addr) (nf cf : Nat) (S : FS) (now : Int) (q Q : FT) : flL C pf nf cf S now (xkF q Q 2) (akF q Q 2) = flL C pf nf cf S now Q.x Q.at' :=
 fl_congr (fun j hj => by unfold xkF; rw [if_pos hj]) (fun j hj k _ => by unfold akF; rw [if_pos hj])
theorem own_ne {K B : Nat} {w : World} {a : Option Addr} {n c : Nat} {l : List Rd} (h : OwnL K (.slice a n c) l w) (hK : B < K) : ∀ g, a = some (Ad g 0) → g ≠ B := by
 rintro g rfl rfl; have := (h.1.lt g rfl).1
 omega
section
variable {C : CR} {l : List Ft} {now : Int} {q : FT} {s : Stp}
theorem stpF_st (h0 : stE C q.S q.sv = 0) : stE C (stpF C l now q s).S (stpF C l now q s).sv = 0 := stE_step (ws := (saR C l now q.x q.at' s).map pk1) h0
theorem told_may (h0 : stE C q.S q.sv = 0) : ∀ r ∈ rdA (stpF C l now q s).sv (stpF C l now q s).S.n, Zcw r = true := by
 have st := stpF_st (l := l) (now := now) (s := s) h0; refine rdA_mem (rdA_may (fun i hi => ?_) (fun i hi k hk => ?_) ?_)
 · have := (Zci st hi).1; have := (Zdi (Zax st).1 hi).1; omega
 · have sl := Zci st hi; have ar := Zas (cr_ar (Zax st).1 hi); have := Zbg (Zfp (seU_all _ sl.2 k hk)).2
   omega
 · exact Zal (clE_zero ((Zax st).2 0 (by omega)))
theorem move_f (B : Nat) (pf : Option Addr) (cf : Nat) (T : FS) {i : Nat} (hi : i < 2) (ta : Option Addr) (tc : Nat) (h0 : stE C q.S q.sv = 0) (u : World)
 (hb : Blk 173 u B (flL C pf l.length cf T now (xkF q (stpF C l now q s) i) (akF q (stpF C l now q s) i))) (hf : Fts u pf l) (hl : l.length ≤ 1000) (hr : Rds u ta (gat rdOf ((rdA (stpF C l now q s).sv (stpF C l now q s).S.n).map pk1)))
 (hnr : ∀ g, ta = some (Ad g 0) → g ≠ B) (hnf : l ≠ [] → ∀ g o, pf = some (Ad g o) → g ≠ B) (hx : -10000000 ≤ q.x i ∧ q.x i ≤ 10000000) (hpu : -1000 ≤ s.p i ∧ s.p i ≤ 1000) :
 Calls prog 130 #[.pointer (some (Ad B 0)), Vi i, .slice ta (gat rdOf ((rdA (stpF C l now q s).sv (stpF C l now q s).S.n).map pk1)).length tc, Vi (s.p i)] u fun e w' => e = .returned (.tuple #[]) ∧ Blk 173 w' B (flL C pf l.length cf T now (xkF q (stpF C l now q s) (i + 1)) (akF q (stpF C l now q s) (i + 1))) ∧ Oth u w' B := by
 have st := stpF_st (l := l) (now := now) (s := s) h0; have hcr := (Zax h0).1; have ar := Zas (cr_ar hcr hi); have rg := Zdi hcr hi; have hm := told_may (l := l) (now := now) (s := s) h0; have hlen : ∀ i, i < 2 → (((stpF C l now q s).sv i).length : Int) = C.a i 4 := fun i hi => (Zci st hi).1
 have h4 : ∀ i, i < 2 → ((stpF C l now q s).sv i).length ≤ 4 := fun i hi => by have := hlen i hi; have := (Zdi hcr hi).1; omega
 have hp : ∀ k : Nat, k < (C.a i 4).toNat → plR (C.a i 5) (fnd (64 + 4 * (i : Int) + (k : Int)) 3 (gat rdOf ((rdA (stpF C l now q s).sv (stpF C l now q s).S.n).map pk1))) (ail l now i k true) = plc C l now i k (svAt ((stpF C l now q s).sv i) k) := fun k hk => by
  rw [told_fnd hm hi h4 (by have := hlen i hi; omega), plR_plc]
 have hgl : (gat rdOf ((rdA (stpF C l now q s).sv (stpF C l now q s).S.n).map pk1)).length ≤ 1000 := by
  have a := gat_length rdOf ((rdA (stpF C l now q s).sv (stpF C l now q s).S.n).map pk1); have b := h4 0 (by omega); have c := h4 1 (by omega); rw [List.length_map, rdA_len] at a
  omega
 have m := move_any B C pf cf l T now _ _ i hi ta tc _ (s.p i) _ rfl hgl u hb hf hl (by omega) (by omega) hr hnr hnf (fun k => plR_bd (by omega)) (by unfold xkF; rw [if_neg (by omega)]; exact hx) hpu; refine m.mono ?_; rintro e w' ⟨rfl, hb', ho⟩; refine ⟨rfl, ?_, ho⟩; rw [mvX_plU _ hp] at hb'; rw [fl_congr (x' := xkF q (stpF C l now q s) (i + 1)) (a' := akF q (stpF C l now q s) (i + 1))] at hb'
 · exact hb'
 · intro j hj
   unfold upd xkF
   by_cases e : j = i
   · subst e; rw [if_pos rfl, if_neg (by omega), if_pos (by omega)]
     rfl
   · rw [if_neg e]
     by_cases h1 : j < i
     · rw [if_pos h1, if_pos (by omega)]
     · rw [if_neg h1, if_neg (by omega)]
 · intro j hj k hk; rw [mvA_if hp]
   by_cases e : j = i
   · subst e; rw [akF_self, akF_next]
     show _ = if k < (C.a j 4).toNat then plc C l now j k (svAt (vS3 C q.S (wsF C l now q s) q.sv j) k) else q.at' j k
     by_cases h1 : k < (C.a j 4).toNat
     · rw [if_pos ⟨rfl, h1⟩, if_pos h1]; rfl
     · rw [if_neg (fun h => h1 h.2), if_neg h1]
   · rw [if_neg (fun h => e h.1), akF_else _ _ e]
end
end Go.Proofs.YtnfdfiholcelaaaGreatDoor
