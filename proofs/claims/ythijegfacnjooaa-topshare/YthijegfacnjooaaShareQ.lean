/-
  How surfaces come to be even, in plain words: a frame, the sum, how far they are apart.
-/
import Derived.Test.YthijegfacnjooaaShareB
import Derived.Test.YthijegfacnjooaaServoA
namespace Go.Proofs.Ythijegfacnjooaa
open Go.RowKit Plain

/-- A sum of the first k of a row. -/
def sgU (f : Nat → Int) : Nat → Int
  | 0 => 0
  | k + 1 => sgU f k + f k
theorem sgU_le {f g : Nat → Int} : ∀ n, (∀ k, k < n → f k ≤ g k) → sgU f n ≤ sgU g n
  | 0, _ => Int.le_refl _
  | n + 1, h => by have a := sgU_le n (fun k hk => h k (by omega)); have c := h n (by omega); simp only [sgU]; omega
theorem sgU_eq {f g : Nat → Int} : ∀ n, (∀ k, k < n → f k = g k) → sgU f n = sgU g n
  | 0, _ => rfl
  | n + 1, h => by have a := sgU_eq n (fun k hk => h k (by omega)); have c := h n (by omega); simp only [sgU]; omega
/-- Where the sums are the same and no part is above, the parts are the same. -/
theorem sgU_same {f g : Nat → Int} : ∀ n, (∀ k, k < n → f k ≤ g k) → sgU g n ≤ sgU f n → ∀ k, k < n → f k = g k
  | 0, _, _, k, hk => by omega
  | n + 1, h, e, k, hk => by
    have a := sgU_le n (fun k hk => h k (by omega))
    have c := h n (by omega)
    simp only [sgU] at e
    by_cases hn : k = n
    · subst hn; omega
    · exact sgU_same n (fun k hk => h k (by omega)) (by omega) k (by omega)

theorem totU_sg (T R : Int) (l : List Sv) (v : Int) : ∀ n, totU T R l v n = sgU (fun k => tk T R (svAt l k) v) n
  | 0 => rfl
  | n + 1 => by simp only [totU, sgU, totU_sg T R l v n]
theorem smU_sg (l : List Sv) : ∀ n, smU l n = sgU (fun k => (svAt l k).1) n
  | 0 => rfl
  | n + 1 => by simp only [smU, sgU, smU_sg l n]

/-- What one takes, by the ends of its reach. -/
theorem tk_in {T R S C : Int} {s : Sv} (hr : arB T R S C = true) (hs : svB T C s.1 s.2.1 s.2.2 = true) (ho : s.2.2 = false) (v : Int) :
    (-T ≤ tk T R s v ∧ tk T R s v ≤ T) ∧ (s.1 - R ≤ tk T R s v ∧ tk T R s v ≤ s.1 + R) ∧ (tk T R s v = v ∨ (tk T R s v < v ∧ (tk T R s v = s.1 + R ∨ tk T R s v = T)) ∨ (v < tk T R s v ∧ (tk T R s v = s.1 - R ∨ tk T R s v = -T))) := by
  have a := arB_true hr
  have c := svB_true hs
  unfold tk clipI loR hiR mxA mnA
  rw [ho]
  simp only [Bool.false_eq_true, if_false]
  split
  · omega
  · split
    · omega
    · split <;> omega
theorem tk_out {T R : Int} {s : Sv} (ho : s.2.2 = true) (v : Int) : tk T R s v = 0 := by
  unfold tk clipI loR hiR
  rw [ho]
  simp only [if_true]
  split
  · rfl
  · split
    · rfl
    · split <;> omega
theorem tk_next {T R S C : Int} {s : Sv} (hr : arB T R S C = true) (hs : svB T C s.1 s.2.1 s.2.2 = true) (v : Int) : tk T R s v ≤ tk T R s (v + 1) ∧ tk T R s (v + 1) ≤ tk T R s v + 1 := by
  cases ho : s.2.2
  · have a := tk_in hr hs ho v
    have c := tk_in hr hs ho (v + 1)
    omega
  · rw [tk_out ho, tk_out ho]; omega

/-- What is left behind the first k. -/
theorem lf_is {T R S C : Int} {l : List Sv} (hok : AllOk T R S C l) (v s : Int) (hs : 0 ≤ s) : ∀ n, n ≤ l.length → lfU T R l v s n = max 0 (s - (totU T R l (v + 1) n - totU T R l v n)) ∧ sgU (dlI T R l v s) n = totU T R l v n + s - lfU T R l v s n
  | 0, _ => by simp only [lfU, totU, sgU]; omega
  | n + 1, hn => by
    have i := lf_is hok v s hs n (by omega)
    have a := tk_next hok.1 (hok.2 n (by omega)) v
    simp only [lfU, totU, sgU, dlI]
    split <;> omega
/-- What each is dealt is between what it takes at the level and at the next. -/
theorem dl_in {T R S C : Int} {l : List Sv} (hok : AllOk T R S C l) (v s : Int) {k : Nat} (hk : k < l.length) : tk T R (svAt l k) v ≤ dlI T R l v s k ∧ dlI T R l v s k ≤ tk T R (svAt l k) (v + 1) := by
  have a := tk_next hok.1 (hok.2 k hk) v
  unfold dlI
  split <;> omega
/-- At the greatest level nobody takes more at the next one. -/
theorem tk_top {T R S C : Int} {s : Sv} (hr : arB T R S C = true) (hs : svB T C s.1 s.2.1 s.2.2 = true) : tk T R s (T + 1) = tk T R s T := by
  cases ho : s.2.2
  · have a := tk_in hr hs ho T
    have c := tk_in hr hs ho (T + 1)
    omega
  · rw [tk_out ho, tk_out ho]
/-- Together they are dealt the very sum. -/
theorem dl_sum {T R S C : Int} {l : List Sv} (hok : AllOk T R S C l) {v c : Int} (hv : IsLev T R l c v) (hc : c ≤ tot T R l T) : sgU (dlI T R l v (c - tot T R l v)) l.length = c := by
  obtain ⟨h1, h2, h3, h4⟩ := hv
  have i := lf_is hok v (c - tot T R l v) (by omega) l.length (Nat.le_refl _)
  by_cases h : v < T
  · have := h4 h
    unfold tot at *
    omega
  · have e : v = T := by omega
    subst e
    have := tot_mono v R l (show v ≤ v + 1 by omega)
    unfold tot at *
    omega

/-- Who is in, and how far they go together. -/
def inT (T : Int) (l : List Sv) (n : Nat) : Int := sgU (fun k => if (svAt l k).2.2 then 0 else T) n
def inN (l : List Sv) : Nat → Nat
  | 0 => 0
  | k + 1 => if (svAt l k).2.2 then inN l k else inN l k + 1
theorem inN_le (l : List Sv) : ∀ n, inN l n ≤ n
  | 0 => Nat.le_refl _
  | n + 1 => by have := inN_le l n; simp only [inN]; split <;> omega
theorem inT_is (T : Int) (l : List Sv) : ∀ n, inT T l n = (inN l n : Int) * T
  | 0 => by simp [inT, inN, sgU]
  | n + 1 => by
    have i := inT_is T l n
    unfold inT at *
    simp only [sgU, inN]
    split
    · omega
    · rw [i, show ((inN l n + 1 : Nat) : Int) = (inN l n : Int) + 1 by omega, Int.add_mul]; omega
def clS (s lo hi : Int) : Int := min (max s lo) hi
/-- The sum that they come to. -/
def aimS (T : Int) (l : List Sv) (s : Int) : Int := clS s (-inT T l l.length) (inT T l l.length)

/-- The servos behind a frame. -/
def nxL (T R : Int) (l : List Sv) (v c : Int) : List Sv := (List.range l.length).map fun k => (dlI T R l v (c - tot T R l v) k, (svAt l k).2.1, (svAt l k).2.2)
theorem nx_len (T R : Int) (l : List Sv) (v c : Int) : (nxL T R l v c).length = l.length := by simp [nxL]
theorem nx_at (T R : Int) (l : List Sv) (v c : Int) {k : Nat} (hk : k < l.length) : svAt (nxL T R l v c) k = (dlI T R l v (c - tot T R l v) k, (svAt l k).2.1, (svAt l k).2.2) := by
  simp [svAt, nxL, hk, List.getD]

/-- One frame: who is where. -/
structure Fr (T R S C sum : Int) (l l' : List Sv) : Prop where
  ok : AllOk T R S C l
  ok' : AllOk T R S C l'
  len : l'.length = l.length
  out : ∀ k, k < l.length → (svAt l' k).2.2 = (svAt l k).2.2
  near : ∀ k, k < l.length → (svAt l k).2.2 = false → (svAt l k).1 - R ≤ (svAt l' k).1 ∧ (svAt l' k).1 ≤ (svAt l k).1 + R
  sum' : smU l' l'.length = clS sum (tot T R l (-T)) (tot T R l T)
  lev : ∃ v, IsLev T R l (clS sum (tot T R l (-T)) (tot T R l T)) v ∧ ∀ k, k < l.length → tk T R (svAt l k) v ≤ (svAt l' k).1 ∧ (svAt l' k).1 ≤ tk T R (svAt l k) (v + 1)

theorem clS_clip {s lo hi : Int} (h : lo ≤ hi) : clipI s lo hi = clS s lo hi := by
  unfold clipI clS; split
  · omega
  · split
    · omega
    · split <;> omega
theorem fr_mk {T R S C sum v : Int} {l : List Sv} (hok : AllOk T R S C l) (hv : IsLev T R l (clipI sum (tot T R l (-T)) (tot T R l T)) v) :
    Fr T R S C sum l (nxL T R l v (clipI sum (tot T R l (-T)) (tot T R l T))) := by
  have a := arB_true hok.1
  have hm := tot_mono T R l (show -T ≤ T by omega)
  rw [clS_clip hm] at hv ⊢
  generalize hc : clS sum (tot T R l (-T)) (tot T R l T) = c at *
  have hb : tot T R l (-T) ≤ c ∧ c ≤ tot T R l T := by unfold clS at hc; omega
  have hsv : ∀ k, k < l.length → svB T C (dlI T R l v (c - tot T R l v) k) (svAt l k).2.1 (svAt l k).2.2 = true ∧ ((svAt l k).2.2 = false → (svAt l k).1 - R ≤ dlI T R l v (c - tot T R l v) k ∧ dlI T R l v (c - tot T R l v) k ≤ (svAt l k).1 + R) := fun k hk => by
    have d := dl_in hok v (c - tot T R l v) hk
    have s := svB_true (hok.2 k hk)
    cases ho : (svAt l k).2.2
    · have x := tk_in hok.1 (hok.2 k hk) ho v
      have y := tk_in hok.1 (hok.2 k hk) ho (v + 1)
      rw [ho] at s
      exact ⟨sv_mk (by omega) s.2.1 (fun h => by cases h) s.2.2.2, fun _ => by omega⟩
    · rw [tk_out ho, tk_out ho] at d
      rw [ho] at s
      exact ⟨sv_mk (by omega) s.2.1 (fun _ => by omega) (fun h => by cases h), fun h => by cases h⟩
  refine ⟨hok, ⟨hok.1, fun k hk => ?_⟩, nx_len _ _ _ _ _, fun k hk => by rw [nx_at _ _ _ _ _ hk], fun k hk ho => ?_, ?_, v, hc ▸ hv, fun k hk => ?_⟩
  · rw [nx_len] at hk
    rw [nx_at _ _ _ _ _ hk]
    exact (hsv k hk).1
  · rw [nx_at _ _ _ _ _ hk]
    exact (hsv k hk).2 ho
  · rw [smU_sg, nx_len, sgU_eq (g := dlI T R l v (c - tot T R l v)) l.length (fun k hk => by rw [nx_at _ _ _ _ _ hk]), dl_sum hok hv hb.2, hc]
  · rw [nx_at _ _ _ _ _ hk]
    exact dl_in hok v _ hk

/-- How far they can come at all. -/
theorem tot_ends {T R S C : Int} {l : List Sv} (hok : AllOk T R S C l) :
    (-inT T l l.length ≤ tot T R l (-T) ∧ tot T R l (-T) ≤ smU l l.length) ∧ (smU l l.length ≤ tot T R l T ∧ tot T R l T ≤ inT T l l.length) := by
  have neg : ∀ n, -inT T l n = sgU (fun k => if (svAt l k).2.2 then 0 else -T) n := fun n => by
    induction n with
    | zero => simp [inT, sgU]
    | succ n i => unfold inT at *; simp only [sgU]; split <;> omega
  have pt : ∀ k, k < l.length → ((if (svAt l k).2.2 then 0 else -T) ≤ tk T R (svAt l k) (-T) ∧ tk T R (svAt l k) (-T) ≤ (svAt l k).1) ∧ ((svAt l k).1 ≤ tk T R (svAt l k) T ∧ tk T R (svAt l k) T ≤ if (svAt l k).2.2 then 0 else T) := fun k hk => by
    have a := arB_true hok.1
    have s := svB_true (hok.2 k hk)
    cases ho : (svAt l k).2.2
    · have x := tk_in hok.1 (hok.2 k hk) ho (-T)
      have y := tk_in hok.1 (hok.2 k hk) ho T
      simp only [Bool.false_eq_true, if_false]
      omega
    · rw [ho] at s
      have := s.2.2.1 rfl
      rw [tk_out ho, tk_out ho]
      simp only [if_true]
      omega
  rw [neg, smU_sg]
  unfold tot
  rw [totU_sg, totU_sg]
  unfold inT
  exact ⟨⟨sgU_le _ fun k hk => (pt k hk).1.1, sgU_le _ fun k hk => (pt k hk).1.2⟩, sgU_le _ fun k hk => (pt k hk).2.1, sgU_le _ fun k hk => (pt k hk).2.2⟩
theorem inT_same {T : Int} {l l' : List Sv} (hl : l'.length = l.length) (ho : ∀ k, k < l.length → (svAt l' k).2.2 = (svAt l k).2.2) : inT T l' l'.length = inT T l l.length := by
  rw [hl]; unfold inT
  exact sgU_eq _ fun k hk => by rw [ho k hk]

/-- How near they are to the sum behind t frames: there, or all as far as they could go. -/
def Ph1 (T R sum : Int) (t : Int) (l : List Sv) : Prop :=
  smU l l.length = aimS T l sum ∨ (smU l l.length < aimS T l sum ∧ ∀ k, k < l.length → (svAt l k).2.2 = false → (svAt l k).1 = T ∨ -T + t * R ≤ (svAt l k).1) ∨ (aimS T l sum < smU l l.length ∧ ∀ k, k < l.length → (svAt l k).2.2 = false → (svAt l k).1 = -T ∨ (svAt l k).1 ≤ T - t * R)
theorem ph1_start {T R S C sum : Int} {l : List Sv} (hok : AllOk T R S C l) : Ph1 T R sum 0 l := by
  rcases Int.lt_trichotomy (smU l l.length) (aimS T l sum) with h | h | h
  · exact .inr (.inl ⟨h, fun k hk _ => .inr (by have := svB_true (hok.2 k hk); omega)⟩)
  · exact .inl h
  · exact .inr (.inr ⟨h, fun k hk _ => .inr (by have := svB_true (hok.2 k hk); omega)⟩)
/-- Where together they take all they can, each does. -/
theorem all_most {T R S C sum : Int} {l l' : List Sv} (f : Fr T R S C sum l l') (h : smU l' l'.length = tot T R l T) : ∀ k, k < l.length → (svAt l' k).1 = tk T R (svAt l k) T := by
  obtain ⟨v, hv, hb⟩ := f.lev
  have e : smU l' l.length = tot T R l T := f.len ▸ h
  rw [smU_sg] at e
  unfold tot at e
  rw [totU_sg] at e
  refine sgU_same l.length (fun k hk => ?_) (by omega)
  have c := (hb k hk).2
  have s := f.ok.2 k hk
  cases ho : (svAt l k).2.2
  · have x := tk_in f.ok.1 s ho (v + 1)
    have y := tk_in f.ok.1 s ho T
    have z := hv.2.1
    have sv := svB_true s
    have a := arB_true f.ok.1
    show (svAt l' k).1 ≤ tk T R (svAt l k) T
    omega
  · show (svAt l' k).1 ≤ tk T R (svAt l k) T
    rw [tk_out ho] at c ⊢
    exact c
theorem all_least {T R S C sum : Int} {l l' : List Sv} (f : Fr T R S C sum l l') (h : smU l' l'.length = tot T R l (-T)) : ∀ k, k < l.length → (svAt l' k).1 = tk T R (svAt l k) (-T) := by
  obtain ⟨v, hv, hb⟩ := f.lev
  have e : smU l' l.length = tot T R l (-T) := f.len ▸ h
  rw [smU_sg] at e
  unfold tot at e
  rw [totU_sg] at e
  have q := sgU_same (f := fun k => tk T R (svAt l k) (-T)) (g := fun k => (svAt l' k).1) l.length (fun k hk => ?_) (by omega)
  · exact fun k hk => (q k hk).symm
  have c := (hb k hk).1
  have s := f.ok.2 k hk
  cases ho : (svAt l k).2.2
  · have x := tk_in f.ok.1 s ho v
    have y := tk_in f.ok.1 s ho (-T)
    have z := hv.1
    have sv := svB_true s
    have a := arB_true f.ok.1
    show tk T R (svAt l k) (-T) ≤ (svAt l' k).1
    omega
  · show tk T R (svAt l k) (-T) ≤ (svAt l' k).1
    rw [tk_out ho] at c ⊢
    exact c
theorem ph1_step {T R S C sum t : Int} {l l' : List Sv} (f : Fr T R S C sum l l') (h : Ph1 T R sum t l) : Ph1 T R sum (t + 1) l' := by
  have e := tot_ends f.ok
  have e' := tot_ends f.ok'
  have hi := inT_same (T := T) f.len f.out
  have ha : aimS T l' sum = aimS T l sum := by unfold aimS; rw [hi]
  have hs := f.sum'
  have hc : aimS T l sum = clS sum (-inT T l l.length) (inT T l l.length) := rfl
  have ar := arB_true f.ok.1
  unfold Ph1
  rw [ha]
  by_cases hq : smU l' l'.length = aimS T l sum
  · exact .inl hq
  right
  rcases h with h | ⟨h, g⟩ | ⟨h, g⟩
  · exact absurd (by unfold clS at *; omega) hq
  · have hm : smU l' l'.length = tot T R l T := by unfold clS at *; omega
    refine .inl ⟨by unfold clS at *; omega, fun k hk ho => ?_⟩
    rw [f.len] at hk
    rw [f.out k hk] at ho
    rw [all_most f hm k hk]
    have x := tk_in f.ok.1 (f.ok.2 k hk) ho T
    have y := g k hk ho
    have s := svB_true (f.ok.2 k hk)
    rw [Int.add_mul]
    omega
  · have hm : smU l' l'.length = tot T R l (-T) := by unfold clS at *; omega
    refine .inr ⟨by unfold clS at *; omega, fun k hk ho => ?_⟩
    rw [f.len] at hk
    rw [f.out k hk] at ho
    rw [all_least f hm k hk]
    have x := tk_in f.ok.1 (f.ok.2 k hk) ho (-T)
    have y := g k hk ho
    have s := svB_true (f.ok.2 k hk)
    rw [Int.add_mul]
    omega
theorem ph1_end {T R S C sum t : Int} {l : List Sv} (hok : AllOk T R S C l) (ht : 2 * T ≤ t * R) (h : Ph1 T R sum t l) : smU l l.length = aimS T l sum := by
  have e := tot_ends hok
  have neg : ∀ n, sgU (fun k => if (svAt l k).2.2 then 0 else -T) n = -inT T l n := fun n => by
    induction n with
    | zero => simp [inT, sgU]
    | succ n i => unfold inT at *; simp only [sgU]; split <;> omega
  have ar := arB_true hok.1
  rcases h with h | ⟨h, g⟩ | ⟨h, g⟩
  · exact h
  · have : inT T l l.length ≤ smU l l.length := by
      rw [smU_sg]; unfold inT
      refine sgU_le _ fun k hk => ?_
      have s := svB_true (hok.2 k hk)
      cases ho : (svAt l k).2.2
      · have := g k hk ho; simp only [Bool.false_eq_true, if_false]; omega
      · rw [ho] at s; simp only [if_true]; have := s.2.2.1 rfl; omega
    unfold aimS clS at *; omega
  · have : smU l l.length ≤ -inT T l l.length := by
      rw [smU_sg, ← neg]
      refine sgU_le _ fun k hk => ?_
      have s := svB_true (hok.2 k hk)
      cases ho : (svAt l k).2.2
      · have := g k hk ho; simp only [Bool.false_eq_true, if_false]; omega
      · rw [ho] at s; simp only [if_true]; have := s.2.2.1 rfl; omega
    unfold aimS clS at *; omega

/-- How far apart they are at most. -/
def Apart (l : List Sv) (d : Int) : Prop := ∀ j k, j < l.length → k < l.length → (svAt l j).2.2 = false → (svAt l k).2.2 = false → (svAt l j).1 - (svAt l k).1 ≤ d
/-- Where the sum stays, they come nearer to each other. -/
theorem apart_step {T R S C sum d : Int} {l l' : List Sv} (f : Fr T R S C sum l l') (hs : smU l' l'.length = smU l l.length) (hd : Apart l d) : Apart l' (max 1 (d - R)) := by
  intro j k hj hk hoj hok
  rw [f.len] at hj hk
  rw [f.out j hj] at hoj
  rw [f.out k hk] at hok
  obtain ⟨v, ⟨v1, v2, v3, v4⟩, hb⟩ := f.lev
  rw [← f.sum', hs] at v3 v4
  have ar := arB_true f.ok.1
  have xj := tk_in f.ok.1 (f.ok.2 j hj) hoj (v + 1)
  have xk := tk_in f.ok.1 (f.ok.2 k hk) hok v
  have bj := (hb j hj).2
  have bk := (hb k hk).1
  have sj := svB_true (f.ok.2 j hj)
  have sk := svB_true (f.ok.2 k hk)
  by_cases c1 : tk T R (svAt l j) (v + 1) ≤ v + 1
  · by_cases c2 : v ≤ tk T R (svAt l k) v
    · omega
    · by_cases hm : ∃ m, m < l.length ∧ (svAt l m).2.2 = false ∧ v + 1 ≤ (svAt l m).1
      · obtain ⟨m, hm, hom, hv⟩ := hm
        have := hd m k hm hk hom hok
        omega
      · exfalso
        have pt : ∀ i, i < l.length → (svAt l i).1 ≤ tk T R (svAt l i) v := fun i hi => by
          have s := svB_true (f.ok.2 i hi)
          cases ho : (svAt l i).2.2
          · have x := tk_in f.ok.1 (f.ok.2 i hi) ho v
            have : ¬ v + 1 ≤ (svAt l i).1 := fun h => hm ⟨i, hi, ho, h⟩
            omega
          · rw [ho] at s; rw [tk_out ho, s.2.2.1 rfl]; omega
        unfold tot at v3
        rw [smU_sg, totU_sg] at v3
        have := sgU_same l.length pt v3 k hk
        have : (svAt l k).1 = tk T R (svAt l k) v := this
        omega
  · by_cases hm : ∃ m, m < l.length ∧ (svAt l m).2.2 = false ∧ (svAt l m).1 ≤ v
    · obtain ⟨m, hm, hom, hv⟩ := hm
      have := hd j m hj hm hoj hom
      have := hd j k hj hk hoj hok
      omega
    · exfalso
      have pt : ∀ i, i < l.length → tk T R (svAt l i) (v + 1) ≤ (svAt l i).1 := fun i hi => by
        have s := svB_true (f.ok.2 i hi)
        cases ho : (svAt l i).2.2
        · have x := tk_in f.ok.1 (f.ok.2 i hi) ho (v + 1)
          have : ¬ (svAt l i).1 ≤ v := fun h => hm ⟨i, hi, ho, h⟩
          omega
        · rw [ho] at s; rw [tk_out ho, s.2.2.1 rfl]; omega
      have hlt : v < T := by
        have : ¬ (svAt l j).1 ≤ v := fun h => hm ⟨j, hj, hoj, h⟩
        omega
      have := v4 hlt
      unfold tot at this
      rw [smU_sg, totU_sg] at this
      have := sgU_le l.length pt
      omega

/-- Behind t frames, with K enough to go all the way. -/
def Ev (T R sum : Int) (K t : Int) (l : List Sv) : Prop := Ph1 T R sum t l ∧ (K ≤ t → smU l l.length = aimS T l sum ∧ Apart l (max 1 (2 * T - (t - K) * R)))
theorem ev_start {T R S C sum K : Int} {l : List Sv} (hok : AllOk T R S C l) (hK : 0 < K) : Ev T R sum K 0 l := ⟨ph1_start hok, fun h => by omega⟩
theorem ev_step {T R S C sum K t : Int} {l l' : List Sv} (f : Fr T R S C sum l l') (hK : 2 * T ≤ K * R) (h : Ev T R sum K t l) : Ev T R sum K (t + 1) l' := by
  have p := ph1_step f h.1
  have ar := arB_true f.ok.1
  refine ⟨p, fun ht => ?_⟩
  have r : 2 * T ≤ (t + 1) * R := by
    have := Int.mul_le_mul_of_nonneg_right ht (show 0 ≤ R by omega)
    omega
  have e := ph1_end f.ok' r p
  refine ⟨e, ?_⟩
  by_cases hq : K ≤ t
  · obtain ⟨e0, a0⟩ := h.2 hq
    have ha : aimS T l' sum = aimS T l sum := by unfold aimS; rw [inT_same (T := T) f.len f.out]
    have a1 := apart_step f (by omega) a0
    intro j k hj hk oj ok
    have := a1 j k hj hk oj ok
    rw [show (t + 1 - K) * R = (t - K) * R + R by rw [show t + 1 - K = (t - K) + 1 by omega, Int.add_mul]; omega]
    omega
  · rw [show t + 1 - K = 0 by omega]
    intro j k hj hk oj ok
    have := svB_true (f.ok'.2 j hj)
    have := svB_true (f.ok'.2 k hk)
    omega
theorem ev_end {T R S C sum K t : Int} {l : List Sv} (hok : AllOk T R S C l) (hK : 2 * T ≤ K * R) (ht : 2 * K ≤ t) (k0 : 0 ≤ K) (h : Ev T R sum K t l) : smU l l.length = aimS T l sum ∧ Apart l 1 := by
  have ar := arB_true hok.1
  obtain ⟨e, a⟩ := h.2 (by omega)
  refine ⟨e, ?_⟩
  intro j k hj hk oj ok
  have := a j k hj hk oj ok
  have := Int.mul_le_mul_of_nonneg_right (show K ≤ t - K by omega) (show 0 ≤ R by omega)
  omega

end Go.Proofs.Ythijegfacnjooaa
