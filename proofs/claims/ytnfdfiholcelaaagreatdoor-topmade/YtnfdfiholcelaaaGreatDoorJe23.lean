import Derived.Shelf.SlIter.Collect
import Derived.Test.YtnfdfiholcelaaaGreatDoorJe00
import Derived.Test.YtnfdfiholcelaaaGreatDoorJe06
import Derived.Test.YtnfdfiholcelaaaGreatDoorJe12
import Derived.Test.YtnfdfiholcelaaaGreatDoorJe17
import Derived.Test.YtnfdfiholcelaaaGreatDoorJe22
set_option maxRecDepth 100000
set_option maxHeartbeats 20000000
namespace Go.Proofs.YtnfdfiholcelaaaGreatDoor
open Go.RowKit Plain Tryz
theorem Blk.grown {t e : TypeId} {u u' : World} {B base k : Nat} {v : Value} {xs cs : List Value} (h : Blk t u B cs) (ho : u.ownsRow base e 1 v k xs) (hne : t ≠ e) (hg : u.grownBy u' v.ownBlock) : Blk t u' B cs := by
 refine (hg.block B h.lt ?_).trans h
 rcases ownsRow_ne_a ho h (fun cur e => absurd (Obj.cells.inj e).2.1 hne) with e | e
 · rw [e]; simp
 · exact fun e' => e e'.symm
theorem own_new {u : World} {e : TypeId} {base : Nat} (xs : List Value) (hb : base ≤ u.heap.size) (hm : xs.length ≤ 1000) : (u.alloc (.cells xs.toArray e)).ownsRow base e 1 (.slice (some (Ad u.heap.size 0)) xs.length xs.length) xs.length xs :=
 ⟨by omega, .inr ⟨u.heap.size, xs.length, xs.toArray, rfl, hb, World.alloc_heap_new u _, Nat.le_refl _, by unfold maxLen; omega, by simp, by simp⟩⟩
theorem infoB21 : (prog.info? 34).map (·.size) = some 21 := by kernel_rfl
def bk3 (S : FS) : List Value := bkL (S.bk 0) ++ bkL (S.bk 1) ++ bkL (S.bk 2)
theorem st_banks (S : FS) : ((stL S).drop 0).take 21 = bk3 S := rfl
theorem bkidx0 (S : FS) (w : World) : (Instr.index 34 (.agg (bk3 S).toArray) (Vi 0)).run prog w = .ok (.agg (bkL (S.bk 0)).toArray) w := by kernel_rfl
theorem bkidx1 (S : FS) (w : World) : (Instr.index 34 (.agg (bk3 S).toArray) (Vi 1)).run prog w = .ok (.agg (bkL (S.bk 1)).toArray) w := by kernel_rfl
theorem bkidx2 (S : FS) (w : World) : (Instr.index 34 (.agg (bk3 S).toArray) (Vi 2)).run prog w = .ok (.agg (bkL (S.bk 2)).toArray) w := by kernel_rfl
theorem cr_axes (C : CR) : ((crL C).drop 0).take 30 = axL C 0 ++ axL C 1 := rfl
theorem f1new (w1 : World) (X : Value) (t : TypeId) : ∀ j u, [X][j]? = some u → (w1.alloc (.cells #[X] t)).cell? ((⟨w1.heap.size, 0, none⟩ : Addr).add j) = some u := by
 intro j u hu
 cases j with
 | zero => simp at hu; subst hu; simp [go_sem, Addr.add]
 | succ j => simp at hu
theorem f2new (w1 : World) (X Y : Value) (t : TypeId) : ∀ j u, [X, Y][j]? = some u → (w1.alloc (.cells #[X, Y] t)).cell? ((⟨w1.heap.size, 0, none⟩ : Addr).add j) = some u := by
 intro j u hu
 match j with
 | 0 => simp at hu; subst hu; simp [go_sem, Addr.add]
 | 1 => simp at hu; subst hu; simp [go_sem, Addr.add]
 | j + 2 => simp at hu
theorem Zgl {ops : Array Oper} {rest : List Oper} {op : Oper} {a : Act} {w : World} {Q : Exit → Act → World → Prop} {c c' : Array Value} (x y : Operand) (hgd : op.guard = none) (ho : op.op = .store 33 x y)
 (hx : a.eval x = .pointer (some (Ad w.heap.size 0))) (hy : a.eval y = .agg c') (hs : c'.size = 7) (hc : c.size = c'.size) (h1 : c'.all (·.oneCell') = true)
 (h : wpList prog ops Q rest (a.put op.dst undef) (w.alloc (.cells c' 33))) : wpList prog ops Q (op :: rest) a (w.alloc (.cells c 33)) :=
 wpList_plain hgd fun _ hK => by
  unfold Oper.wp execOp
  simp only [ho, hx, hy, Sem.run_bind, Sem.run_pure, Result.andThen_ok, run_storeAt_new w 33 c c' (by rw [infoB7, hs]) hc h1]; exact hK _ _ h
def gSt (k : Nat) : Nat := [118, 120, 120, 120, 122, 124, 122, 124].getD k 0
def cbSt (Bs : Nat) (b x y : Nat → Nat) (k : Nat) : Array Value := [#[.pointer (some (Ad Bs 0))], #[.pointer (some (Ad (b 0) 0))], #[.pointer (some (Ad (b 1) 0))], #[.pointer (some (Ad (b 2) 0))], #[.pointer (some (Ad (x 0) 0)), .pointer (some (Ad Bs 0)), .pointer (some (Ad (y 0) 0))], #[.pointer (some (Ad (x 0) 0)), .pointer (some (Ad Bs 0)), .pointer (some (Ad (y 0) 0))], #[.pointer (some (Ad (x 1) 0)), .pointer (some (Ad Bs 0)), .pointer (some (Ad (y 1) 0))], #[.pointer (some (Ad (x 1) 0)), .pointer (some (Ad Bs 0)), .pointer (some (Ad (y 1) 0))]].getD k #[]
def stV (Bs : Nat) (b x y : Nat → Nat) : List Value := (List.range 8).map fun k => .func (.func (gSt k)) #[] (cbSt Bs b x y k)
theorem clos8 {u : World} {base g cap : Nat} {e : TypeId} (Bs : Nat) (b x y : Nat → Nat) (h : u.ownsRow base e 1 (.slice (some (Ad g 0)) 8 cap) 8 (stV Bs b x y)) : Clos u (some (Ad g 0)) 8 gSt (cbSt Bs b x y) :=
 .inr ⟨g, 0, rfl, fun k hk => by
  rw [Nat.zero_add, h.cellAt k (by omega)]
  simp [stV, hk]⟩
structure SkH (u : World) (C : CR) (S : FS) (Bs : Nat) (b x y : Nat → Nat) : Prop where
 st : Blk 41 u Bs (stL S)
 bk : ∀ j, j < 3 → Blk 33 u (b j) (bkL (S.bk j))
 ax : ∀ i, i < 2 → Blk 26 u (x i) (axL C i)
 ix : ∀ i, i < 2 → Blk 3 u (y i) [Vi (i : Int)]
theorem SkH.later {u u' : World} {C : CR} {S : FS} {Bs : Nat} {b x y : Nat → Nat} (h : SkH u C S Bs b x y) (hb : Below u.heap.size u u') : SkH u' C S Bs b x y := ⟨h.st.later hb, fun j hj => (h.bk j hj).later hb, fun i hi => (h.ax i hi).later hb, fun i hi => (h.ix i hi).later hb⟩
theorem stateChecks_ok (C : CR) (S : FS) (w : World) :
 Calls prog 65 #[.agg (crL C).toArray, .agg (stL S).toArray] w fun e w' => ∃ g cap Bs b x y, e = .returned (.slice (some (Ad g 0)) 8 cap) ∧ Clos w' (some (Ad g 0)) 8 gSt (cbSt Bs b x y) ∧ SkH w' C S Bs b x y ∧ Below w.heap.size w w' := by
 have hk0 := bkidx0 S; have hk1 := bkidx1 S; have hk2 := bkidx2 S; have hx0 := axidx0 C; have hx1 := axidx1 C; have HS : Hid (Blk 41 ((w.alloc (.cells (crL C).toArray 29)).alloc (.cells (stL S).toArray 41)) (w.heap.size + 1) (stL S)) := Zab (by have := Blk.new (w.alloc (.cells (crL C).toArray 29)) 41 (stL S); rw [World.size_alloc] at this; exact this); have HC := Zab ((Blk.new w 29 (crL C)).later (Zaa _ (.cells (stL S).toArray 41))); have HB := Zab (Zac (Zaa w (.cells (crL C).toArray 29)) (Zaa _ (.cells (stL S).toArray 41))); have HO : Hid ((((w.alloc (.cells (crL C).toArray 29)).alloc (.cells (stL S).toArray 41)).alloc (.cells #[.func (.func 118) #[] #[.pointer (some (Ad (w.heap.size + 1) 0))]] 142)).ownsRow w.heap.size 142 1 (.slice (some (Ad (w.heap.size + 1 + 1) 0)) 1 1) 1 [.func (.func 118) #[] #[.pointer (some (Ad (w.heap.size + 1) 0))]]) := Zab (by have := own_new (e := 142) [.func (.func 118) #[] #[.pointer (some (Ad (w.heap.size + 1) 0))]] HB.out.size (by show 1 ≤ 1000; omega); rw [World.size_alloc, World.size_alloc] at this; exact this); have HS := Zab (HS.out.later (Zaa _ (.cells #[.func (.func 118) #[] #[.pointer (some (Ad (w.heap.size + 1) 0))]] 142))); have HC := Zab (HC.out.later (Zaa _ (.cells #[.func (.func 118) #[] #[.pointer (some (Ad (w.heap.size + 1) 0))]] 142))); have HB := Zab (Zac HB.out (Zaa _ (.cells #[.func (.func 118) #[] #[.pointer (some (Ad (w.heap.size + 1) 0))]] 142))); obtain ⟨i0, hi, hz0, hz1, hz2⟩ := infoF'
 go_enter func65, ntmps65
 go_upto_region 2 with fail; generalize ((w.alloc (.cells (crL C).toArray 29)).alloc (.cells (stL S).toArray 41)).alloc (.cells #[.func (.func 118) #[] #[.pointer (some (Ad (w.heap.size + 1) 0))]] 142) = v0 at *; generalize w.heap.size + 1 + 1 = Bg at *; generalize w.heap.size + 1 = Bs at *; have HX := Zab (HS.out.sub 0 21); rw [st_banks] at HX
 go_upto_region 3 with (refine Lq 34 _ rfl ?_; refine wpList_load_mid rfl 34 (.tmp 12) rfl Bs 0 rfl (bk3 S) _ HX.out underlying34 rfl infoB21 ?_); clear HX; refine wp_loop_rounds 4 ?_; rw [rounds_succ]; have HK0 : Hid (Blk 33 (v0.alloc (.cells (bkL (S.bk 0)).toArray 33)) v0.heap.size (bkL (S.bk 0))) := Zab (Blk.new v0 _ _); have HS := Zab (HS.out.later (Zaa v0 (.cells (bkL (S.bk 0)).toArray 33))); have HC := Zab (HC.out.later (Zaa v0 (.cells (bkL (S.bk 0)).toArray 33))); have HO := Zab (HO.out.alloc (.cells (bkL (S.bk 0)).toArray 33)); have HB := Zab (Zac HB.out (Zaa v0 (.cells (bkL (S.bk 0)).toArray 33)))
 go_upto_region 5 with (refine Sq 33 _ _ rfl ?_; refine Zgl (c' := (bkL (S.bk 0)).toArray) (.tmp 7) (.tmp 16) rfl rfl rfl rfl rfl rfl (Zau _ rfl) ?_); generalize v0.alloc (.cells (bkL (S.bk 0)).toArray 33) = x0 at *; generalize v0.heap.size = b0 at HK0 ⊢
 go_wp2_with (at_builtin; refine wpList_append_lies _ rfl _ _ 149 rfl w.heap.size 142 i0 Value.nilFunc 1 8 underlying149 hi hz0 hz1 hz2 rfl (by decide) _ _ _ rfl (HO.out.alloc _) ⟨x0.heap.size, 0, none⟩ 1 1 [.func (.func 120) #[] #[.pointer (some (Ad b0 0))]] rfl rfl (f1new x0 _ _) (fun x hx => by simp at hx; subst hx; rfl) (by omega) (by unfold maxLen; omega) (by omega) (Zac HB.out (Zaa _ _)).size _ rfl ?_; intro g0 c0 v1 hown hgrow hat hlt; have HS := Zab ((HS.out.later (Zaa _ _)).grown (HO.out.alloc _) (by decide) hgrow); have HC := Zab ((HC.out.later (Zaa _ _)).grown (HO.out.alloc _) (by decide) hgrow); have HK0 := Zab ((HK0.out.later (Zaa _ _)).grown (HO.out.alloc _) (by decide) hgrow); have HB := Zab ((Zac HB.out (Zaa _ _)).grown hgrow (Zac HB.out (Zaa _ _)).size (fun q hq => (HO.out.lt q hq).1)); have HO := Zab hown; clear hown hgrow hat hlt); rw [rounds_succ]; have HK1 : Hid (Blk 33 (v1.alloc (.cells (bkL (S.bk 1)).toArray 33)) v1.heap.size (bkL (S.bk 1))) := Zab (Blk.new v1 _ _); have HS := Zab (HS.out.later (Zaa v1 (.cells (bkL (S.bk 1)).toArray 33))); have HC := Zab (HC.out.later (Zaa v1 (.cells (bkL (S.bk 1)).toArray 33))); have HK0 := Zab (HK0.out.later (Zaa v1 (.cells (bkL (S.bk 1)).toArray 33))); have HO := Zab (HO.out.alloc (.cells (bkL (S.bk 1)).toArray 33)); have HB := Zab (Zac HB.out (Zaa v1 (.cells (bkL (S.bk 1)).toArray 33)))
 go_upto_region 5 with (refine Sq 33 _ _ rfl ?_; refine Zgl (c' := (bkL (S.bk 1)).toArray) (.tmp 7) (.tmp 16) rfl rfl rfl rfl rfl rfl (Zau _ rfl) ?_); generalize v1.alloc (.cells (bkL (S.bk 1)).toArray 33) = x1 at *; generalize v1.heap.size = b1 at HK1 ⊢
 go_wp2_with (at_builtin; refine wpList_append_lies _ rfl _ _ 149 rfl w.heap.size 142 i0 Value.nilFunc 1 8 underlying149 hi hz0 hz1 hz2 rfl (by decide) _ _ _ rfl (HO.out.alloc _) ⟨x1.heap.size, 0, none⟩ 1 1 [.func (.func 120) #[] #[.pointer (some (Ad b1 0))]] rfl rfl (f1new x1 _ _) (fun x hx => by simp at hx; subst hx; rfl) (by omega) (by unfold maxLen; omega) (by omega) (Zac HB.out (Zaa _ _)).size _ rfl ?_; intro g1 c1 v2 hown hgrow hat hlt; have HS := Zab ((HS.out.later (Zaa _ _)).grown (HO.out.alloc _) (by decide) hgrow); have HC := Zab ((HC.out.later (Zaa _ _)).grown (HO.out.alloc _) (by decide) hgrow); have HK0 := Zab ((HK0.out.later (Zaa _ _)).grown (HO.out.alloc _) (by decide) hgrow); have HK1 := Zab ((HK1.out.later (Zaa _ _)).grown (HO.out.alloc _) (by decide) hgrow); have HB := Zab ((Zac HB.out (Zaa _ _)).grown hgrow (Zac HB.out (Zaa _ _)).size (fun q hq => (HO.out.lt q hq).1)); have HO := Zab hown; clear hown hgrow hat hlt); rw [rounds_succ]; have HK2 : Hid (Blk 33 (v2.alloc (.cells (bkL (S.bk 2)).toArray 33)) v2.heap.size (bkL (S.bk 2))) := Zab (Blk.new v2 _ _); have HS := Zab (HS.out.later (Zaa v2 (.cells (bkL (S.bk 2)).toArray 33))); have HC := Zab (HC.out.later (Zaa v2 (.cells (bkL (S.bk 2)).toArray 33))); have HK0 := Zab (HK0.out.later (Zaa v2 (.cells (bkL (S.bk 2)).toArray 33))); have HK1 := Zab (HK1.out.later (Zaa v2 (.cells (bkL (S.bk 2)).toArray 33))); have HO := Zab (HO.out.alloc (.cells (bkL (S.bk 2)).toArray 33)); have HB := Zab (Zac HB.out (Zaa v2 (.cells (bkL (S.bk 2)).toArray 33)))
 go_upto_region 5 with (refine Sq 33 _ _ rfl ?_; refine Zgl (c' := (bkL (S.bk 2)).toArray) (.tmp 7) (.tmp 16) rfl rfl rfl rfl rfl rfl (Zau _ rfl) ?_); generalize v2.alloc (.cells (bkL (S.bk 2)).toArray 33) = x2 at *; generalize v2.heap.size = b2 at HK2 ⊢
 go_wp2_with (at_builtin; refine wpList_append_lies _ rfl _ _ 149 rfl w.heap.size 142 i0 Value.nilFunc 1 8 underlying149 hi hz0 hz1 hz2 rfl (by decide) _ _ _ rfl (HO.out.alloc _) ⟨x2.heap.size, 0, none⟩ 1 1 [.func (.func 120) #[] #[.pointer (some (Ad b2 0))]] rfl rfl (f1new x2 _ _) (fun x hx => by simp at hx; subst hx; rfl) (by omega) (by unfold maxLen; omega) (by omega) (Zac HB.out (Zaa _ _)).size _ rfl ?_; intro g2 c2 v3 hown hgrow hat hlt; have HS := Zab ((HS.out.later (Zaa _ _)).grown (HO.out.alloc _) (by decide) hgrow); have HC := Zab ((HC.out.later (Zaa _ _)).grown (HO.out.alloc _) (by decide) hgrow); have HK0 := Zab ((HK0.out.later (Zaa _ _)).grown (HO.out.alloc _) (by decide) hgrow); have HK1 := Zab ((HK1.out.later (Zaa _ _)).grown (HO.out.alloc _) (by decide) hgrow); have HK2 := Zab ((HK2.out.later (Zaa _ _)).grown (HO.out.alloc _) (by decide) hgrow); have HB := Zab ((Zac HB.out (Zaa _ _)).grown hgrow (Zac HB.out (Zaa _ _)).size (fun q hq => (HO.out.lt q hq).1)); have HO := Zab hown; clear hown hgrow hat hlt); rw [rounds_succ]; have HX := Zab (HC.out.sub 0 30); rw [cr_axes] at HX
 go_upto_region 8 with (refine Lq 27 _ rfl ?_; refine wpList_load_mid rfl 27 (.tmp 22) rfl w.heap.size 0 rfl (axL C 0 ++ axL C 1) _ HX.out underlying27 rfl Zgq ?_); clear HX; refine wp_loop_rounds 3 ?_; rw [rounds_succ]; have HA0 : Hid (Blk 26 ((v3.alloc (.cells #[Vi 0] 3)).alloc (.cells (axL C 0).toArray 26)) (v3.heap.size + 1) (axL C 0)) := Zab (by have := Blk.new (v3.alloc (.cells #[Vi 0] 3)) 26 (axL C 0); rw [World.size_alloc] at this; exact this); have HI0 : Hid (Blk 3 ((v3.alloc (.cells #[Vi 0] 3)).alloc (.cells (axL C 0).toArray 26)) v3.heap.size [Vi 0]) := Zab ((Blk.new v3 _ _).later (Zaa _ _)); have HS := Zab (HS.out.later (Zac (Zaa v3 (.cells #[Vi 0] 3)) (Zaa _ (.cells (axL C 0).toArray 26)))); have HC := Zab (HC.out.later (Zac (Zaa v3 (.cells #[Vi 0] 3)) (Zaa _ (.cells (axL C 0).toArray 26)))); have HK0 := Zab (HK0.out.later (Zac (Zaa v3 (.cells #[Vi 0] 3)) (Zaa _ (.cells (axL C 0).toArray 26)))); have HK1 := Zab (HK1.out.later (Zac (Zaa v3 (.cells #[Vi 0] 3)) (Zaa _ (.cells (axL C 0).toArray 26)))); have HK2 := Zab (HK2.out.later (Zac (Zaa v3 (.cells #[Vi 0] 3)) (Zaa _ (.cells (axL C 0).toArray 26)))); have HO := Zab (Zcv HO.out (Zac (Zaa v3 (.cells #[Vi 0] 3)) (Zaa _ (.cells (axL C 0).toArray 26)))); have HB := Zab (Zac HB.out (Zac (Zaa v3 (.cells #[Vi 0] 3)) (Zaa _ (.cells (axL C 0).toArray 26))))
 go_upto_region 10 with (refine Sq 26 _ _ rfl ?_; refine Zbh (c' := (axL C 0).toArray) (.tmp 9) (.tmp 27) rfl rfl (by rw [World.size_alloc]; rfl) rfl rfl rfl (Zau _ rfl) ?_); generalize ((v3.alloc (.cells #[Vi 0] 3)).alloc (.cells (axL C 0).toArray 26)) = y0 at *; generalize v3.heap.size + 1 = a0 at HA0 ⊢; generalize v3.heap.size = q0 at HI0 ⊢
 go_wp2_with (at_builtin; refine wpList_append_lies _ rfl _ _ 149 rfl w.heap.size 142 i0 Value.nilFunc 1 8 underlying149 hi hz0 hz1 hz2 rfl (by decide) _ _ _ rfl (HO.out.alloc _) ⟨y0.heap.size, 0, none⟩ 2 2 [.func (.func 122) #[] #[.pointer (some (Ad a0 0)), .pointer (some (Ad Bs 0)), .pointer (some (Ad q0 0))], .func (.func 124) #[] #[.pointer (some (Ad a0 0)), .pointer (some (Ad Bs 0)), .pointer (some (Ad q0 0))]] rfl rfl (f2new y0 _ _ _) (fun x hx => by simp at hx; rcases hx with rfl | rfl <;> rfl) (by omega) (by unfold maxLen; omega) (by omega) (Zac HB.out (Zaa _ _)).size _ rfl ?_; intro g3 c3 v4 hown hgrow hat hlt; have HS := Zab ((HS.out.later (Zaa _ _)).grown (HO.out.alloc _) (by decide) hgrow); have HC := Zab ((HC.out.later (Zaa _ _)).grown (HO.out.alloc _) (by decide) hgrow); have HK0 := Zab ((HK0.out.later (Zaa _ _)).grown (HO.out.alloc _) (by decide) hgrow); have HK1 := Zab ((HK1.out.later (Zaa _ _)).grown (HO.out.alloc _) (by decide) hgrow); have HK2 := Zab ((HK2.out.later (Zaa _ _)).grown (HO.out.alloc _) (by decide) hgrow); have HA0 := Zab ((HA0.out.later (Zaa _ _)).grown (HO.out.alloc _) (by decide) hgrow); have HI0 := Zab ((HI0.out.later (Zaa _ _)).grown (HO.out.alloc _) (by decide) hgrow); have HB := Zab ((Zac HB.out (Zaa _ _)).grown hgrow (Zac HB.out (Zaa _ _)).size (fun q hq => (HO.out.lt q hq).1)); have HO := Zab hown; clear hown hgrow hat hlt); rw [rounds_succ]; have HA1 : Hid (Blk 26 ((v4.alloc (.cells #[Vi 1] 3)).alloc (.cells (axL C 1).toArray 26)) (v4.heap.size + 1) (axL C 1)) := Zab (by have := Blk.new (v4.alloc (.cells #[Vi 1] 3)) 26 (axL C 1); rw [World.size_alloc] at this; exact this); have HI1 : Hid (Blk 3 ((v4.alloc (.cells #[Vi 1] 3)).alloc (.cells (axL C 1).toArray 26)) v4.heap.size [Vi 1]) := Zab ((Blk.new v4 _ _).later (Zaa _ _))
 have HS := Zab (HS.out.later (Zac (Zaa v4 (.cells #[Vi 1] 3)) (Zaa _ (.cells (axL C 1).toArray 26)))); have HC := Zab (HC.out.later (Zac (Zaa v4 (.cells #[Vi 1] 3)) (Zaa _ (.cells (axL C 1).toArray 26)))); have HK0 := Zab (HK0.out.later (Zac (Zaa v4 (.cells #[Vi 1] 3)) (Zaa _ (.cells (axL C 1).toArray 26)))); have HK1 := Zab (HK1.out.later (Zac (Zaa v4 (.cells #[Vi 1] 3)) (Zaa _ (.cells (axL C 1).toArray 26)))); have HK2 := Zab (HK2.out.later (Zac (Zaa v4 (.cells #[Vi 1] 3)) (Zaa _ (.cells (axL C 1).toArray 26)))); have HA0 := Zab (HA0.out.later (Zac (Zaa v4 (.cells #[Vi 1] 3)) (Zaa _ (.cells (axL C 1).toArray 26)))); have HI0 := Zab (HI0.out.later (Zac (Zaa v4 (.cells #[Vi 1] 3)) (Zaa _ (.cells (axL C 1).toArray 26)))); have HO := Zab (Zcv HO.out (Zac (Zaa v4 (.cells #[Vi 1] 3)) (Zaa _ (.cells (axL C 1).toArray 26)))); have HB := Zab (Zac HB.out (Zac (Zaa v4 (.cells #[Vi 1] 3)) (Zaa _ (.cells (axL C 1).toArray 26))))
 go_upto_region 10 with (refine Sq 26 _ _ rfl ?_; refine Zbh (c' := (axL C 1).toArray) (.tmp 9) (.tmp 27) rfl rfl (by rw [World.size_alloc]; rfl) rfl rfl rfl (Zau _ rfl) ?_); generalize ((v4.alloc (.cells #[Vi 1] 3)).alloc (.cells (axL C 1).toArray 26)) = y1 at *; generalize v4.heap.size + 1 = a1 at HA1 ⊢; generalize v4.heap.size = q1 at HI1 ⊢
 go_wp2_with (at_builtin; refine wpList_append_lies _ rfl _ _ 149 rfl w.heap.size 142 i0 Value.nilFunc 1 8 underlying149 hi hz0 hz1 hz2 rfl (by decide) _ _ _ rfl (HO.out.alloc _) ⟨y1.heap.size, 0, none⟩ 2 2 [.func (.func 122) #[] #[.pointer (some (Ad a1 0)), .pointer (some (Ad Bs 0)), .pointer (some (Ad q1 0))], .func (.func 124) #[] #[.pointer (some (Ad a1 0)), .pointer (some (Ad Bs 0)), .pointer (some (Ad q1 0))]] rfl rfl (f2new y1 _ _ _) (fun x hx => by simp at hx; rcases hx with rfl | rfl <;> rfl) (by omega) (by unfold maxLen; omega) (by omega) (Zac HB.out (Zaa _ _)).size _ rfl ?_; intro g4 c4 v5 hown hgrow hat hlt; have HS := Zab ((HS.out.later (Zaa _ _)).grown (HO.out.alloc _) (by decide) hgrow); have HC := Zab ((HC.out.later (Zaa _ _)).grown (HO.out.alloc _) (by decide) hgrow); have HK0 := Zab ((HK0.out.later (Zaa _ _)).grown (HO.out.alloc _) (by decide) hgrow); have HK1 := Zab ((HK1.out.later (Zaa _ _)).grown (HO.out.alloc _) (by decide) hgrow); have HK2 := Zab ((HK2.out.later (Zaa _ _)).grown (HO.out.alloc _) (by decide) hgrow); have HA0 := Zab ((HA0.out.later (Zaa _ _)).grown (HO.out.alloc _) (by decide) hgrow); have HI0 := Zab ((HI0.out.later (Zaa _ _)).grown (HO.out.alloc _) (by decide) hgrow); have HA1 := Zab ((HA1.out.later (Zaa _ _)).grown (HO.out.alloc _) (by decide) hgrow); have HI1 := Zab ((HI1.out.later (Zaa _ _)).grown (HO.out.alloc _) (by decide) hgrow); have HB := Zab ((Zac HB.out (Zaa _ _)).grown hgrow (Zac HB.out (Zaa _ _)).size (fun q hq => (HO.out.lt q hq).1)); have HO := Zab hown; clear hown hgrow hat hlt); rw [rounds_succ]; go_wp2_with fail; go_ret; refine ⟨g4, c4, Bs, fun j => if j = 0 then b0 else if j = 1 then b1 else b2, fun j => if j = 0 then a0 else a1, fun j => if j = 0 then q0 else q1, rfl, clos8 _ _ _ _ HO.out, ⟨HS.out, fun j hj => ?_, fun j hj => ?_, fun j hj => ?_⟩, HB.out⟩
 · rcases (show j = 0 ∨ j = 1 ∨ j = 2 by omega) with rfl | rfl | rfl
   · exact HK0.out
   · exact HK1.out
   · exact HK2.out
 · rcases (show j = 0 ∨ j = 1 by omega) with rfl | rfl
   · exact HA0.out
   · exact HA1.out
 · rcases (show j = 0 ∨ j = 1 by omega) with rfl | rfl
   · exact HI0.out
   · exact HI1.out
theorem Zce : (prog.info? 41).map (·.size) = some 30 := by kernel_rfl
def crE (C : CR) : Int := fstN (eCr (C.a 0 0) (C.a 0 1) (C.a 0 2) (C.a 0 3) (C.a 0 4) (C.a 0 5) (C.a 0 6) (C.a 0 7) (C.a 0 8) (C.a 0 9) (C.a 0 10) (C.a 0 11) (C.a 0 14) (C.al 0) (C.zl 0) (C.a 1 0) (C.a 1 1) (C.a 1 2) (C.a 1 3) (C.a 1 4) (C.a 1 5) (C.a 1 6) (C.a 1 7) (C.a 1 8) (C.a 1 9) (C.a 1 10) (C.a 1 11) (C.a 1 14) (C.al 1) (C.zl 1) C.c0 C.c1) 13
def eSt (C : CR) (S : FS) (sv : Nat → List Sv) (k : Nat) : Int := [clE S.n, Zdb (S.bk 0).b (S.bk 0).l, Zdb (S.bk 1).b (S.bk 1).l, Zdb (S.bk 2).b (S.bk 2).l, csE C 0 (sv 0), chE C 0 (S.hd 0), csE C 1 (sv 1), chE C 1 (S.hd 1)].getD k 0
def stE (C : CR) (S : FS) (sv : Nat → List Sv) : Int := if crE C = 0 then (if fstN (eSt C S sv) 8 = 0 then 0 else 3) else crE C
def CrL (u : World) (C : CR) : Prop := ∀ i, i < 2 → (C.al i).length ≤ 9223372036854775807 ∧ (C.zl i).length ≤ 9223372036854775807 ∧ (C.al i).length ≤ C.cn i ∧ Lst u (C.p i) (C.al i) ∧ Lst u (C.q i) (C.zl i)
theorem CrL.later {u u' : World} {C : CR} (h : CrL u C) (hb : Below u.heap.size u u') : CrL u' C := fun i hi => ⟨(h i hi).1, (h i hi).2.1, (h i hi).2.2.1, (h i hi).2.2.2.1.later hb, (h i hi).2.2.2.2.later hb⟩
def SvL (u : World) (S : FS) (sv : Nat → List Sv) : Prop := ∀ i, i < 2 → S.sn i = (sv i).length ∧ (sv i).length ≤ 9 ∧ VLs u (S.sp i) (sv i)
theorem SvL.later {u u' : World} {S : FS} {sv : Nat → List Sv} (h : SvL u S sv) (hb : Below u.heap.size u u') : SvL u' S sv := fun i hi => ⟨(h i hi).1, (h i hi).2.1, (h i hi).2.2.later hb⟩
def axE (C : CR) (i : Nat) : Nat → Int := eAx (C.a i 0) (C.a i 1) (C.a i 2) (C.a i 3) (C.a i 4) (C.a i 5) (C.a i 6) (C.a i 7) (C.a i 8) (C.a i 9) (C.a i 10) (C.a i 11) (C.a i 14) (C.al i) (C.zl i)
theorem Zcl {C : CR} (h : crE C = 0) {i : Nat} (hi : i < 2) {k : Nat} (hk : k < 6) : axE C i k = 0 := by
 have a := fstN_all h
 rcases (show i = 0 ∨ i = 1 by omega) with rfl | rfl
 · have := a k (by omega)
   unfold eCr at this
   rwa [if_pos hk] at this
 · have := a (k + 6) (by omega)
   unfold eCr at this
   rwa [if_neg (by omega), if_pos (by omega), Nat.add_sub_cancel] at this
theorem crE_speed {C : CR} (h : crE C = 0) : Zcc C.c0 C.c1 = 0 := fstN_all h 12 (by omega)
theorem arE_arB {T R S C : Int} (h : arE T R S C = 0) : arB T R S C = true := by
 unfold arE at h
 split at h
 · assumption
 · cases h
theorem axC_of {C : CR} {u : World} (h : crE C = 0) (hl : CrL u C) {i : Nat} (hi : i < 2) : AxC u C i := by
 have h0 := Zdd (show rgE (C.a i 4) (C.a i 3) = 0 from Zcl h hi (k := 0) (by omega)); have h2 := Zas (arE_arB (show arE (C.a i 5) (C.a i 6) (C.a i 7) (C.a i 10) = 0 from Zcl h hi (k := 2) (by omega))); exact ⟨h0.1, h2.1, h0.2, ⟨h2.2.2.1.1, by omega⟩, ⟨h2.2.1.1, by omega⟩, (hl i hi).1, (hl i hi).2.1, (hl i hi).2.2.1, (hl i hi).2.2.2.1, (hl i hi).2.2.2.2⟩
theorem hent8 (k : Nat) (hk : k < 8) (args : Array Value) (w : World) : (callFunc (gSt k) args).run prog w = .ok (.enter (gSt k) args) w := by
 rcases (show k = 0 ∨ k = 1 ∨ k = 2 ∨ k = 3 ∨ k = 4 ∨ k = 5 ∨ k = 6 ∨ k = 7 by omega) with rfl | rfl | rfl | rfl | rfl | rfl | rfl | rfl <;> kernel_rfl
theorem checks_say {C : CR} {S : FS} {sv : Nat → List Sv} {Bs : Nat} {b x y : Nat → Nat} (h0 : crE C = 0) {w : World} (hs : SkH w C S Bs b x y) (hl : CrL w C) (hv : SvL w S sv) : ∀ k, k < 8 → ∀ u, Below w.heap.size w u → Calls prog (gSt k) (cbSt Bs b x y k) u fun r u' => r = .returned (errV (eSt C S sv k)) ∧ Below u.heap.size u u' := by
 intro k hk u hb; have hs := hs.later hb; have hl := hl.later hb; have hv := hv.later hb
 rcases (show k = 0 ∨ k = 1 ∨ k = 2 ∨ k = 3 ∨ k = 4 ∨ k = 5 ∨ k = 6 ∨ k = 7 by omega) with rfl | rfl | rfl | rfl | rfl | rfl | rfl | rfl
 · exact sc1_any hs.st
 · exact sc2_any (S.bk 0) (hs.bk 0 (by omega))
 · exact sc2_any (S.bk 1) (hs.bk 1 (by omega))
 · exact sc2_any (S.bk 2) (hs.bk 2 (by omega))
 · exact sc3_any (i := 0) (by omega) (hs.ax 0 (by omega)) hs.st (hs.ix 0 (by omega)) (hv 0 (by omega)).1 (hv 0 (by omega)).2.1 (hv 0 (by omega)).2.2
 · exact sc4_any (i := 0) (by omega) (hs.ax 0 (by omega)) hs.st (hs.ix 0 (by omega)) (axC_of h0 hl (by omega))
 · exact sc3_any (i := 1) (by omega) (hs.ax 1 (by omega)) hs.st (hs.ix 1 (by omega)) (hv 1 (by omega)).1 (hv 1 (by omega)).2.1 (hv 1 (by omega)).2.2
 · exact sc4_any (i := 1) (by omega) (hs.ax 1 (by omega)) hs.st (hs.ix 1 (by omega)) (axC_of h0 hl (by omega))
theorem craftCheck_c (C : CR) (w : World) (hg : GV w) (hl : CrL w C) : Calls prog 64 #[.agg (crL C).toArray] w fun e w' => e = .returned (errV (crE C)) ∧ Below w.heap.size w w' :=
 Zgj (C.a 0 0) (C.a 0 1) (C.a 0 2) (C.a 0 3) (C.a 0 4) (C.a 0 5) (C.a 0 6) (C.a 0 7) (C.a 0 8) (C.a 0 9) (C.a 0 10) (C.a 0 11) (C.a 0 14) (C.p 0) (C.q 0) (C.al 0) (C.zl 0) (C.cn 0) (C.cm 0) (C.a 1 0) (C.a 1 1) (C.a 1 2) (C.a 1 3) (C.a 1 4) (C.a 1 5) (C.a 1 6) (C.a 1 7) (C.a 1 8) (C.a 1 9) (C.a 1 10) (C.a 1 11) (C.a 1 14) (C.p 1) (C.q 1) (C.al 1) (C.zl 1) (C.cn 1) (C.cm 1) C.c0 C.c1 w hg (hl 0 (by omega)) (hl 1 (by omega))
theorem checkState_any (C : CR) (S : FS) (sv : Nat → List Sv) (w : World) (hg : GV w) (hl : CrL w C) (hv : SvL w S sv) :
 Calls prog 18 #[.agg (crL C).toArray, .agg (stL S).toArray] w fun e w' => e = .returned (errV (stE C S sv)) ∧ Below w.heap.size w w' := by
 have hck := fun u (h : Below w.heap.size w u) => craftCheck_c C u (hg.later h) (hl.later h); have HS : Hid (Blk 41 ((w.alloc (.cells (crL C).toArray 29)).alloc (.cells (stL S).toArray 41)) (w.heap.size + 1) (stL S)) := Zab (by have := Blk.new (w.alloc (.cells (crL C).toArray 29)) 41 (stL S); rw [World.size_alloc] at this; exact this); have HC := Zab ((Blk.new w 29 (crL C)).later (Zaa _ (.cells (stL S).toArray 41))); have HB := Zab (Zac (Zaa w (.cells (crL C).toArray 29)) (Zaa _ (.cells (stL S).toArray 41))); have HCr : Hid (World.rangeAt ((w.alloc (.cells (crL C).toArray 29)).alloc (.cells (stL S).toArray 41)) w.heap.size 0 (crL C)) := Zab HC.out.range
 by_cases h0 : crE C = 0
 · have hsc := stateChecks_ok C S; have HE : Hid (stE C S sv = if fstN (eSt C S sv) 8 = 0 then 0 else 3) := Zab (by unfold stE; rw [if_pos h0]); rw [HE.out]; simp only [h0, Zaq] at hck; have HFE := Zab (fun (u v : World) (h : Below w.heap.size w u) (g cap Bs : Nat) (b x y : Nat → Nat) (hc : Clos u (some (Ad g 0)) 8 gSt (cbSt Bs b x y)) (hs : SkH u C S Bs b x y) => Zgi (some (Ad g 0)) 8 cap gSt (cbSt Bs b x y) (eSt C S sv) (by decide) u hc (hg.later h) hent8 (fun k hk _ => checks_say h0 hs (hl.later h) (hv.later h) k hk)); clear hg hl hv
   by_cases hf : fstN (eSt C S sv) 8 = 0
   · rw [if_pos hf, Zaq]; simp only [hf, Zaq] at HFE
     go_enter func18, ntmps18
     go_upto_region 4 with (first
      | (refine Lq 29 _ rfl ?_; refine wpList_load_mid rfl 29 (.tmp 2) rfl w.heap.size 0 rfl (crL C) _ HCr.out underlying29 rfl Zam ?_)
      | (go_at_call 64; refine Sb (hck _ HB.out) fun w1 hb => ?_; have HB := Zab (Zac HB.out hb); have HCr := Zab (HC.out.later hb).range; have HSr := Zab (HS.out.later hb).range; clear hb))
     go_wp2_with (first
      | (refine Lq 29 _ rfl ?_; refine wpList_load_mid rfl 29 (.tmp 2) rfl w.heap.size 0 rfl (crL C) _ HCr.out underlying29 rfl Zam ?_)
      | (refine Lq 41 _ rfl ?_; refine wpList_load_mid rfl 41 (.tmp 3) rfl (w.heap.size + 1) 0 rfl (stL S) _ HSr.out underlying41 rfl Zce ?_)
      | (go_at_call 65; refine (hsc _).mono ?_; rintro e w2 ⟨g, cap, Bs, b, x, y, rfl, hc, hs, hb⟩; have HB := Zab (Zac HB.out hb); have HX := Zab (And.intro hc hs); clear hb hc hs)
      | (go_at_call 57; refine Sb (HFE.out _ w HB.out _ _ _ _ _ _ HX.out.1 HX.out.2) fun w3 hb => ?_; have HB := Zab (Zac HB.out hb); clear hb))
     go_ret; exact ⟨rfl, HB.out⟩
   · rw [if_neg hf, Zbc (by decide)]; simp only [Zbc hf] at HFE; generalize fstN (eSt C S sv) 8 = fe at *
     go_enter func18, ntmps18
     go_upto_region 4 with (first
      | (refine Lq 29 _ rfl ?_; refine wpList_load_mid rfl 29 (.tmp 2) rfl w.heap.size 0 rfl (crL C) _ HCr.out underlying29 rfl Zam ?_)
      | (go_at_call 64; refine Sb (hck _ HB.out) fun w1 hb => ?_; have HB := Zab (Zac HB.out hb); have HCr := Zab (HC.out.later hb).range; have HSr := Zab (HS.out.later hb).range; clear hb))
     go_wp2_with (first
      | (refine Lq 29 _ rfl ?_; refine wpList_load_mid rfl 29 (.tmp 2) rfl w.heap.size 0 rfl (crL C) _ HCr.out underlying29 rfl Zam ?_)
      | (refine Lq 41 _ rfl ?_; refine wpList_load_mid rfl 41 (.tmp 3) rfl (w.heap.size + 1) 0 rfl (stL S) _ HSr.out underlying41 rfl Zce ?_)
      | (go_at_call 65; refine (hsc _).mono ?_; rintro e w2 ⟨g, cap, Bs, b, x, y, rfl, hc, hs, hb⟩; have HB := Zab (Zac HB.out hb); have HX := Zab (And.intro hc hs); clear hb hc hs)
      | (go_at_call 57; refine Sb (HFE.out _ w HB.out _ _ _ _ _ _ HX.out.1 HX.out.2) fun w3 hb => ?_; have HB := Zab (Zac HB.out hb); clear hb))
     go_ret; exact ⟨rfl, HB.out⟩
 · have HE : Hid (stE C S sv = crE C) := Zab (by unfold stE; rw [if_neg h0]); rw [HE.out, Zbc h0]; simp only [Zbc h0] at hck; generalize crE C = ce at *; clear hg hl hv
   go_enter func18, ntmps18
   go_wp2_with (first
    | (refine Lq 29 _ rfl ?_; refine wpList_load_mid rfl 29 (.tmp 2) rfl w.heap.size 0 rfl (crL C) _ HCr.out underlying29 rfl Zam ?_)
    | (go_at_call 64; refine Sb (hck _ HB.out) fun w1 hb => ?_; have HB := Zab (Zac HB.out hb); clear hb))
   go_ret; exact ⟨rfl, HB.out⟩
theorem infoVs2 : (prog.info? 36).map (·.size) = some 2 := by kernel_rfl
def spL (S : FS) : List Value := [.slice (S.sp 0) (S.sn 0) (S.sc 0), .slice (S.sp 1) (S.sn 1) (S.sc 1)]
theorem fr_servos (S : FS) (C : CR) (x : Value) : ((frL S C x).drop 21).take 2 = spL S := rfl
theorem svidx (S : FS) (i : Nat) (hi : i < 2) (w : World) : (Instr.index 36 (.agg (spL S).toArray) (Vi (i : Int))).run prog w = .ok (.slice (S.sp i) (S.sn i) (S.sc i)) w := by
 rcases (show i = 0 ∨ i = 1 by omega) with rfl | rfl <;> kernel_rfl
def rd1 (i : Nat) (L : List Sv) (k : Nat) : Rd := (64 + 4 * (i : Int) + (k : Int), 3, (if (svAt L k).2.2 then 0 else 3), (svAt L k).1)
def rdU (i : Nat) (L : List Sv) : Nat → List Rd
 | 0 => []
 | k + 1 => rdU i L k ++ [rd1 i L k]
def rdX (sv : Nat → List Sv) : Nat → List Rd
 | 0 => []
 | i + 1 => rdX sv i ++ rdU i (sv i) (sv i).length
def rdA (sv : Nat → List Sv) (n : Int) : List Rd := rdX sv 2 ++ [(80, 3, 3, n)]
theorem Zfc (i : Nat) (L : List Sv) : ∀ k, (rdU i L k).length = k
 | 0 => rfl
 | k + 1 => by rw [rdU, List.length_append, Zfc i L k]; rfl
theorem rdX_len (sv : Nat → List Sv) (h : ∀ i, i < 2 → (sv i).length ≤ 9) : ∀ i, i ≤ 2 → (rdX sv i).length ≤ 9 * i
 | 0, _ => by simp [rdX]
 | i + 1, hi => by
  have a := rdX_len sv h i (by omega); have b := h i (by omega); rw [rdX, List.length_append, Zfc]; omega
theorem encL_four : ∀ (l : List Rd) (k : Nat), k < l.length → (encL l)[k * 4]? = some (Vi (rat l k).1) ∧ (encL l)[k * 4 + 1]? = some (Vi (rat l k).2.1) ∧ (encL l)[k * 4 + 2]? = some (Vi (rat l k).2.2.1) ∧ (encL l)[k * 4 + 3]? = some (Vi (rat l k).2.2.2)
 | [], _, h => by simp at h
 | r :: l, 0, _ => ⟨rfl, rfl, rfl, rfl⟩
 | r :: l, k + 1, h => by
  have := encL_four l k (by simpa using h); have e : encL (r :: l) = Vi r.1 :: Vi r.2.1 :: Vi r.2.2.1 :: Vi r.2.2.2 :: encL l := rfl; rw [e, show (k + 1) * 4 = k * 4 + 1 + 1 + 1 + 1 by omega]
  simpa [rat, Nat.add_right_comm] using this
theorem rds_of_row {w : World} {B g cap n : Nat} {e : TypeId} {l : List Rd} (hn : n = l.length) (h : w.ownsRow B e 4 (.slice (some (Ad g 0)) n cap) n (encL l)) : Rds w (some (Ad g 0)) l := by
 subst hn; refine .inr ⟨g, rfl, fun k hk => ?_⟩; have f := encL_four l k hk; exact ⟨(h.cellAt (k * 4) (by omega)).trans f.1, (h.cellAt (k * 4 + 1) (by omega)).trans f.2.1, (h.cellAt (k * 4 + 2) (by omega)).trans f.2.2.1, (h.cellAt (k * 4 + 3) (by omega)).trans f.2.2.2⟩
theorem own_apart {w : World} {base : Nat} {e : TypeId} {size : Nat} {v : Value} {n : Nat} {xs : List Value} (h : w.ownsRow base e size v n xs) : some w.heap.size ≠ v.ownBlock := fun e => by have := (h.lt _ e.symm).2; omega
theorem rS_later {w u u' : World} {P : Nat} {cs : List Value} (hb : Below u.heap.size u u') (h : Below w.heap.size w u ∧ u.rangeAt P 0 cs) : Below w.heap.size w u' ∧ u'.rangeAt P 0 cs := ⟨Zac h.1 hb, Zae h.2 hb⟩
theorem rS_grown {w u u' : World} {P : Nat} {cs : List Value} {row : Option Nat} (hg : u.grownBy u' row) (hr : ∀ k, row = some k → w.heap.size ≤ k) (hP : some P ≠ row) (h : Below w.heap.size w u ∧ u.rangeAt P 0 cs) : Below w.heap.size w u' ∧ u'.rangeAt P 0 cs := ⟨h.1.grown hg h.1.size hr, fun j v hj => hg.cell (h.2 j v hj) hP⟩
theorem readings_ok {K : Nat} {wz w : World} {B : Nat} {S : FS} {C : CR} {a : Option Addr} {cap : Nat} {l : List Rd} {sv : Nat → List Sv} {G : Nat → Nat} (hf : FR K wz w B S C a cap l sv G) (hl : ∀ i, i < 2 → (sv i).length ≤ 9) :
 Calls prog 114 #[.pointer (some (Ad B 0))] w fun e w' => (∃ g c, e = .returned (.slice (some (Ad g 0)) (rdA sv S.n).length c) ∧ Rds w' (some (Ad g 0)) (rdA sv S.n)) ∧ Below w.heap.size w w' := by
 obtain ⟨i0, hi4, hz0, hz1, hz2⟩ := info_parts rd_info; have HF := Zab hf; have HL := Zab hl; have HR := Zab (hf.blk.sub 21 2); rw [fr_servos] at HR; have HXL := Zab (rdX_len sv hl); clear hf hl
 go_enter func114, ntmps114
 go_upto_region 3 with (refine Lq 36 _ rfl ?_; refine wpList_load_mid rfl 36 (.tmp 11) rfl B 21 rfl (spL S) _ HR.out underlying36 rfl infoVs2 ?_); clear HR
 go_loopw [3, 13] (fun s0 ix wr => ∃ i : Nat, i ≤ 2 ∧ ix = Vi i ∧ wr.ownsRow w.heap.size 161 4 s0 (rdX sv i).length (encL (rdX sv i)) ∧ Below w.heap.size w wr) (fun _ ix _ => 2 - (intOf ix).toNat)
 case atStart => exact ⟨0, by omega, rfl, World.ownsRow_nil _ _ _ _, Below.refl _ _⟩
 case round =>
  obtain ⟨i, hi2, rfl, hown, hbw⟩ := hrel
  by_cases hi : i < 2
  · have hidx := svidx S i hi
    have i1 : (0 : Int) ≤ (i : Int) := by omega
    have i2 : (i : Int) < 2 := by omega
    have hsp : S.sp i = some (Ad (G i) 0) := (HF.out.servo i hi).1; obtain ⟨n, hn⟩ : ∃ n, n = (sv i).length := ⟨_, rfl⟩
    have hsn : S.sn i = n := by rw [hn]; exact (HF.out.servo i hi).2.1
    rw [hsp, hsn] at hidx
    have hn9 : n ≤ 9 := by rw [hn]; exact HL.out i hi
    go_upto_region 6 with fail
    go_loopw [3, 19] (fun s1 ix wr => ∃ k : Nat, k ≤ n ∧ ix = Vi k ∧ wr.ownsRow w.heap.size 161 4 s1 ((rdX sv i).length + k) (encL (rdX sv i ++ rdU i (sv i) k)) ∧ Below w.heap.size w wr) (fun _ ix _ => n - (intOf ix).toNat)
    case atStart => exact ⟨0, Nat.zero_le _, rfl, by rw [rdU, List.append_nil]; exact hown, hbw⟩
    case round =>
     clear hown hbw; obtain ⟨k, hk, rfl, hown, hbw⟩ := hrel
     by_cases hlt : k < n
     · have g := ((HF.out.later hbw).servo i hi).2.2.1.sub (k * 3) 3; rw [svL_at _ k (by omega)] at g; have c0 : wr.cell? (Ad (G i) (k * 3)) = some (Vi (svAt (sv i) k).1) := g 0 _ rfl; have c1 : wr.cell? (Ad (G i) (k * 3 + 1)) = some (Vi (svAt (sv i) k).2.1) := g 1 _ rfl; have c2 : wr.cell? (Ad (G i) (k * 3 + 2)) = some (.bool (svAt (sv i) k).2.2) := g 2 _ rfl; have HRD : Hid (rd1 i (sv i) k = (64 + 4 * (i : Int) + (k : Int), 3, (if (svAt (sv i) k).2.2 then 0 else 3), (svAt (sv i) k).1)) := Zab rfl; have hul := fun u => (Zdc 64 (i : Int) (k : Int) (by omega) (by omega) (by omega) u).mono (fun _ w' h => And.intro h.1 (show Below u.heap.size u w' by rw [h.2]; exact Below.refl _ _)); have hst := status_any (svAt (sv i) k).1 (svAt (sv i) k).2.1 (svAt (sv i) k).2.2; generalize (if (svAt (sv i) k).2.2 then (0 : Int) else 3) = st at *; generalize (svAt (sv i) k).1 = si at *; generalize (svAt (sv i) k).2.1 = sb at *; generalize (svAt (sv i) k).2.2 = so at *; generalize 64 + 4 * (i : Int) + (k : Int) = lb at *
       have k0 : (0 : Int) ≤ (k : Int) := by omega
       have k1 : (k : Int) < (n : Int) := by omega
       have hxl := HXL.out i (by omega); have HB0 := Zab (Zac hbw (Zaa wr (.cells #[Vi si, Vi sb, .bool so] 116))); have HOW := Zab (hown.alloc (.cells #[Vi si, Vi sb, .bool so] 116)); have HP : Hid (Blk 116 (wr.alloc (.cells #[Vi si, Vi sb, .bool so] 116)) wr.heap.size [Vi si, Vi sb, .bool so]) := Zab (Blk.new wr _ [Vi si, Vi sb, .bool so]); have HPR := Zab (own_apart hown); clear g hown hbw
       go_upto_region 8 with fail; clear c0 c1 c2; generalize wr.alloc (.cells #[Vi si, Vi sb, .bool so] 116) = v7 at *; generalize wr.heap.size = P7 at HP HPR ⊢; have HOW := Zab (Zbp HOW.out (Below.refl _ _).drew); have HX0 : Hid (Below w.heap.size w v7.drew ∧ v7.drew.rangeAt P7 0 [Vi si, Vi sb, .bool so]) := Zab ⟨Zac HB0.out (Below.refl _ _).drew, (HP.out.later (Below.refl _ _).drew).range⟩; clear HB0 HP; refine wp_region_held_drew (S := fun u => (Below w.heap.size w u ∧ u.rangeAt P7 0 [Vi si, Vi sb, .bool so])) (by kernel_rfl) (HX0.out) (fun _ => ?_); have HS0 : Hid ((Below w.heap.size w v7.drew ∧ v7.drew.rangeAt P7 0 [Vi si, Vi sb, .bool so])) := Zab (HX0.out); refine Tq 0 HS0.out ?_; simp only [Act.put, Ly]; refine Tq 1 HS0.out ?_; simp only [Act.put, Ly]; refine Tq 2 HS0.out ?_; simp only [Act.put, Ly]; refine Tk 4 rfl (yieldsIf_load_mid (by rfl) 116 (.tmp 7) rfl P7 0 rfl [Vi si, Vi sb, .bool so] _ (fun w hSw => hSw.2) underlying116 rfl infoS3) HS0.out ?_; simp only [Act.put, Ly]; refine Tq 6 HS0.out ?_; simp only [Act.put, Ly]; refine Th 7 rfl (by intro w hSw; (try dsimp only at hSw); have y : w.cell? (Ad P7 0) = _ := hSw.2 0 _ rfl; clear hSw; go_simp; (try with_reducible rfl)) HS0.out ?_; simp only [Act.put, Ly]; refine Ra 3 (fun K hK => ?_); go_simp; refine Sb (hul _) fun u1 hb => ?_; have HS1 := Zab (rS_later hb HS0.out); have HOW := Zab (Zbp HOW.out hb); clear hb; go_wp2_with fail; refine hK.out _ _ HS1.out (fun _ => ?_); clear hK K; (try simp only [Act.put]); refine Ra 5 (fun K hK => ?_); go_simp; refine Sb (hst _) fun u2 hb => ?_; have HS2 := Zab (rS_later hb HS1.out); have HOW := Zab (Zbp HOW.out hb); clear hb; go_wp2_with fail; refine hK.out _ _ HS2.out (fun _ => ?_); clear hK K; (try simp only [Act.put]); clear HS1; refine Tq 8 HS2.out ?_; simp only [Act.put, Ly]; refine Ra 9 (fun K hK => ?_); go_simp; have HS3 := Zab (rS_later (Zaa u2 (.cells #[Vi lb, Vi 3, Vi st, Vi si] 161)) HS2.out); have HOW := Zab (HOW.out.alloc (.cells #[Vi lb, Vi 3, Vi st, Vi si] 161)); have HNW := Zab (Zgw u2 (lb, 3, st, si)); generalize u2.alloc (.cells #[Vi lb, Vi 3, Vi st, Vi si] 161) = u3 at HS3 HOW HNW ⊢; generalize u2.heap.size = X9 at HNW ⊢; refine hK.out _ _ HS3.out (fun _ => ?_); clear hK K; (try simp only [Act.put]); clear HS2; refine Ra 10 (fun K hK => ?_); simp only [Ly]; rw [if_pos (by rfl)]
       refine wp_append_lies _ (.tmp 24) (.tmp 33) 118 rfl w.heap.size 161 i0 (.agg #[Vi 0, Vi 0, Vi 0, Vi 0]) 4 32 Zhh hi4 hz0 hz1 hz2 rfl (by decide) _ _ _ rfl HOW.out ⟨X9, 0, none⟩ 1 1 (encR (lb, 3, st, si)) rfl rfl HNW.out (encR_one _) (by omega) (by unfold maxLen; omega) (by omega) HS3.out.1.size _ rfl ?_; intro g9 c9 u4 hown hgrow hat hlt9; have HS4 := Zab (rS_grown hgrow (fun q hq => (HOW.out.lt q hq).1) HPR.out HS3.out); have HOW := Zab hown; clear hown hgrow hat hlt9; refine hK.out _ _ HS4.out (fun _ => ?_); clear hK K; (try simp only [Act.put]); clear HS3; refine Tq 11 HS4.out ?_; simp only [Act.put, Ly]; refine wpAnyH_done (by kernel_rfl) ?_ _; go_simp; have hB := HS4.out.1; clear HS4; generalize u4 = v8 at hB HOW ⊢; refine Zbd (by assumption) ?_; go_wp2_with fail; go_roundw
       case rel => exact ⟨k + 1, by omega, by go_num, by rw [rdU, ← List.append_assoc, encL_snoc, HRD.out]; exact HOW.out, hB⟩
       case measure => simp [intOf]; omega
     · obtain rfl : k = n := by omega
       go_wp2_with fail; go_roundw
       case rel => exact ⟨i + 1, by omega, by go_num, by rw [rdX, List.length_append, Zfc, ← hn]; exact hown, hbw⟩
       case measure => simp [intOf]; omega
  · obtain rfl : i = 2 := by omega
    have hlw := ((HF.out.later hbw).blk.cell (fr_law S C _)).1; have hxl := HXL.out 2 (by omega); have HOW := Zab hown; have HB := Zab hbw; clear hown hbw
    go_wp2_with (at_builtin; refine wpList_append_lies _ rfl _ _ 118 rfl w.heap.size 161 i0 (.agg #[Vi 0, Vi 0, Vi 0, Vi 0]) 4 32 Zhh hi4 hz0 hz1 hz2 rfl (by decide) _ _ _ rfl (HOW.out.alloc _) ⟨wr.heap.size, 0, none⟩ 1 1 (encR (80, 3, 3, S.n)) rfl rfl (Zgw wr (80, 3, 3, S.n)) (encR_one _) (by omega) (by unfold maxLen; omega) (by omega) (Zac HB.out (Zaa _ _)).size _ rfl ?_; intro g9 c9 v9 hown hgrow hat hlt9); have HE := Zab hown; have HB9 := Zab ((Zac HB.out (Zaa _ _)).grown hgrow (Zac HB.out (Zaa _ _)).size (fun q hq => (HOW.out.lt q hq).1)); clear hown hgrow hat hlt9; go_ret; refine ⟨⟨g9, c9, ?_, ?_⟩, HB9.out⟩
    · rw [rdA, List.length_append]; rfl
    · exact rds_of_row (n := (rdX sv 2).length + 1) (by simp [rdA]) (by rw [rdA, encL_snoc]; exact HE.out)
end Go.Proofs.YtnfdfiholcelaaaGreatDoor
