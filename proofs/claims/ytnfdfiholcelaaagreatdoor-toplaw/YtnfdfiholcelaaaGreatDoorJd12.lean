
import Derived.Test.YtnfdfiholcelaaaGreatDoorJd00
import Derived.Test.YtnfdfiholcelaaaGreatDoorJd04
import Derived.Test.YtnfdfiholcelaaaGreatDoorJd05
import Derived.Test.YtnfdfiholcelaaaGreatDoorJd08
import Derived.Test.YtnfdfiholcelaaaGreatDoorJd11
set_option maxRecDepth 100000
set_option maxHeartbeats 20000000
namespace Go.Proofs.YtnfdfiholcelaaaGreatDoor
open Go.RowKit Plain
theorem Zbg : (Tryz.prog.info? 26).map (·.size) = some 15 := by kernel_rfl
theorem infoA30 : (Tryz.prog.info? 27).map (·.size) = some 30 := by kernel_rfl
theorem Zbd : (Tryz.prog.info? 29).map (·.size) = some 32 := by kernel_rfl
theorem Zda {P : Program} {ops : Array Oper} {rest : List Oper} {op : Oper} {a : Act} {w : World} {Q : Exit → Act → World → Prop} (x y : Operand) (_ho : op.op = .store 26 x y) (h : wpList P ops Q (op :: rest) a w) : wpList P ops Q (op :: rest) a w := h
theorem Zft {P : Program} {ops : Array Oper} {rest : List Oper} {op : Oper} {a : Act} {w : World} {Q : Exit → Act → World → Prop} (x : Operand) (_ho : op.op = .load 26 x) (h : wpList P ops Q (op :: rest) a w) : wpList P ops Q (op :: rest) a w := h
theorem Zhv {P : Program} {ops : Array Oper} {rest : List Oper} {op : Oper} {a : Act} {w : World} {Q : Exit → Act → World → Prop} (x : Operand) (_ho : op.op = .load 27 x) (h : wpList P ops Q (op :: rest) a w) : wpList P ops Q (op :: rest) a w := h
theorem Zew {P : Program} {ops : Array Oper} {rest : List Oper} {op : Oper} {a : Act} {w : World} {Q : Exit → Act → World → Prop} (x : Operand) (_ho : op.op = .load 29 x) (h : wpList P ops Q (op :: rest) a w) : wpList P ops Q (op :: rest) a w := h
theorem Zbn {ops : Array Oper} {rest : List Oper} {op : Oper} {a : Act} {w : World} {Q : Exit → Act → World → Prop} {c c' : Array Value} (x y : Operand) (hgd : op.guard = none) (ho : op.op = .store 26 x y)
 (hx : a.eval x = .pointer (some (Ad w.heap.size 0))) (hy : a.eval y = .agg c') (hs : c'.size = 15) (hc : c.size = c'.size) (h1 : c'.all (·.oneCell') = true)
 (h : wpList Tryz.prog ops Q rest (a.put op.dst undef) (w.alloc (.cells c' 26))) : wpList Tryz.prog ops Q (op :: rest) a (w.alloc (.cells c 26)) :=
 wpList_plain hgd fun _ hK => by
  unfold Oper.wp execOp
  simp only [ho, hx, hy, Sem.run_bind, Sem.run_pure, Result.andThen_ok, run_storeAt_new w 26 c c' (by rw [Zbg, hs]) hc h1]; exact hK _ _ h
theorem axidx0 (C : CR) (w : World) : (Instr.index 27 (.agg (axL C 0 ++ axL C 1).toArray) (Vi 0)).run Tryz.prog w = .ok (.agg (axL C 0).toArray) w := by kernel_rfl
theorem axidx1 (C : CR) (w : World) : (Instr.index 27 (.agg (axL C 0 ++ axL C 1).toArray) (Vi 1)).run Tryz.prog w = .ok (.agg (axL C 1).toArray) w := by kernel_rfl
theorem speedRule_c (C : CR) (w : World) : Calls Tryz.prog 103 #[.agg (crL C).toArray] w fun e w' => e = .returned (.agg #[Vi C.c0, Vi C.c1]) ∧ Below w.heap.size w w' := Zhn _ _ _ _ _ _ _ _ _ _ _ _ _ _ _ _ _ _ _ _ _ _ _ _ _ _ _ _ _ _ C.c0 C.c1 w
theorem voteBanks_ok {K : Nat} {wz w : World} {B : Nat} {S : FS} {C : CR} {a : Option Addr} {cap : Nat} {l : List Rd} {sv : Nat → List Sv} {G : Nat → Nat} (hf : FR K wz w B S C a cap l sv G)
 (h2 : Zcs (S.bk 2).b (S.bk 2).l C.c0 C.c1 (tS l 8) (sS l 8) = 0) (h0 : Zcs (S.bk 0).b (S.bk 0).l (C.a 0 8) (C.a 0 9) (tS l 1) (sS l 1) = 0) (h1 : Zcs (S.bk 1).b (S.bk 1).l (C.a 1 8) (C.a 1 9) (tS l 2) (sS l 2) = 0) :
 Calls Tryz.prog 58 #[.pointer (some (Ad B 0))] w fun e w' => e = .returned .nilIface ∧ FR K wz w' B ({ S with bk := upd (upd (upd S.bk 2 (vbk (S.bk 2) C.c0 C.c1 (tS l 8) (sS l 8))) 0 (vbk (S.bk 0) (C.a 0 8) (C.a 0 9) (tS l 1) (sS l 1))) 1 (vbk (S.bk 1) (C.a 1 8) (C.a 1 9) (tS l 2) (sS l 2)) } : FS) C a cap l sv G := by
 have HF := Zab hf; have HC := Zab (hf.blk.sub 30 32); rw [fr_craft] at HC; have hia := axidx0 C; have hib := axidx1 C; clear hf
 go_enter Tryz.func58, Tryz.ntmps58
 go_upto_region 2 with (first
  | (refine Zew _ rfl ?_; refine wpList_load_mid rfl 29 (.tmp 10) rfl B 30 rfl (crL C) _ HC.out Tryz.underlying29 rfl Zbd ?_)
  | (go_at_call 103; refine Sb (speedRule_c C _) fun r hb => ?_; have HFr := Zab (HF.out.later hb); clear hb HF HC)
  | (go_at_call 102; refine Sb (Zgz HFr.out 2 (by omega) 8 C.c0 C.c1 h2) fun z hf => ?_; have HF0 : Hid (FR K wz z B ({ S with bk := upd S.bk 2 (vbk (S.bk 2) C.c0 C.c1 (tS l 8) (sS l 8)) } : FS) C a cap l sv G) := Zab hf; clear hf HFr))
 have HX := Zab (HF0.out.blk.sub 30 30); rw [fr_axes] at HX
 go_upto_region 5 with (first
  | (refine Zhv _ rfl ?_; refine wpList_load_mid rfl 27 (.tmp 20) rfl B 30 rfl (axL C 0 ++ axL C 1) _ HX.out Tryz.underlying27 rfl infoA30 ?_))
 clear HX; refine wp_loop_rounds 3 ?_; rw [rounds_succ]; have HA0 : Hid (Blk 26 (z.alloc (.cells (axL C 0).toArray 26)) z.heap.size (axL C 0)) := Zab (Blk.new z _ (axL C 0)); have HFa0 := Zab (HF0.out.later (Zaa z (.cells (axL C 0).toArray 26)))
 go_upto_region 7 with (first
  | (refine Zda _ _ rfl ?_; refine Zbn (c' := (axL C 0).toArray) (.tmp 5) (.tmp 25) rfl rfl rfl rfl rfl rfl (Zat _ rfl) ?_))
 generalize z.alloc (.cells (axL C 0).toArray 26) = v0 at *; generalize z.heap.size = Q0 at HA0 ⊢; clear HF0
 go_wp2_with (first
  | (refine Zft _ rfl ?_; refine wpList_load_mid rfl 26 (.tmp 5) rfl Q0 0 rfl (axL C 0) _ HA0.out.range Tryz.underlying26 rfl Zbg ?_)
  | (go_at_call 104; refine Sb (Zdy (C.a 0 0) (C.a 0 1) (C.a 0 2) (C.a 0 3) (C.a 0 4) (C.a 0 5) (C.a 0 6) (C.a 0 7) (C.a 0 8) (C.a 0 9) (C.a 0 10) (C.a 0 11) (C.a 0 14) (C.p 0) (C.q 0) (C.al 0).length (C.zl 0).length (C.cn 0) (C.cm 0) _) fun r0 hb => ?_; have HFb0 := Zab (HFa0.out.later hb); clear hb HFa0)
  | (go_at_call 102; refine Sb (Zgz HFb0.out 0 (by omega) 1 _ _ h0) fun z0 hf => ?_; have HF1 : Hid (FR K wz z0 B ({ S with bk := upd (upd S.bk 2 (vbk (S.bk 2) C.c0 C.c1 (tS l 8) (sS l 8))) 0 (vbk (S.bk 0) (C.a 0 8) (C.a 0 9) (tS l 1) (sS l 1)) } : FS) C a cap l sv G) := Zab hf; clear hf HFb0))
 clear HA0; rw [rounds_succ]; have HA1 : Hid (Blk 26 (z0.alloc (.cells (axL C 1).toArray 26)) z0.heap.size (axL C 1)) := Zab (Blk.new z0 _ (axL C 1)); have HFa1 := Zab (HF1.out.later (Zaa z0 (.cells (axL C 1).toArray 26)))
 go_upto_region 7 with (first
  | (refine Zda _ _ rfl ?_; refine Zbn (c' := (axL C 1).toArray) (.tmp 5) (.tmp 25) rfl rfl rfl rfl rfl rfl (Zat _ rfl) ?_))
 generalize z0.alloc (.cells (axL C 1).toArray 26) = v1 at *; generalize z0.heap.size = Q1 at HA1 ⊢; clear HF1
 go_wp2_with (first
  | (refine Zft _ rfl ?_; refine wpList_load_mid rfl 26 (.tmp 5) rfl Q1 0 rfl (axL C 1) _ HA1.out.range Tryz.underlying26 rfl Zbg ?_)
  | (go_at_call 104; refine Sb (Zdy (C.a 1 0) (C.a 1 1) (C.a 1 2) (C.a 1 3) (C.a 1 4) (C.a 1 5) (C.a 1 6) (C.a 1 7) (C.a 1 8) (C.a 1 9) (C.a 1 10) (C.a 1 11) (C.a 1 14) (C.p 1) (C.q 1) (C.al 1).length (C.zl 1).length (C.cn 1) (C.cm 1) _) fun r1 hb => ?_; have HFb1 := Zab (HFa1.out.later hb); clear hb HFa1)
  | (go_at_call 102; refine Sb (Zgz HFb1.out 1 (by omega) 2 _ _ h1) fun z1 hf => ?_; have HF2 : Hid (FR K wz z1 B ({ S with bk := upd (upd (upd S.bk 2 (vbk (S.bk 2) C.c0 C.c1 (tS l 8) (sS l 8))) 0 (vbk (S.bk 0) (C.a 0 8) (C.a 0 9) (tS l 1) (sS l 1))) 1 (vbk (S.bk 1) (C.a 1 8) (C.a 1 9) (tS l 2) (sS l 2)) } : FS) C a cap l sv G) := Zab hf; clear hf HFb1))
 clear HA1; rw [rounds_succ]; go_wp2_with fail; go_ret; exact ⟨rfl, HF2.out⟩
theorem Zet (v : Int) (w : World) :
 Calls Tryz.prog 322 #[.agg #[], Vi v] w fun e w' => e = .returned (Vi 0) ∧ Below w.heap.size w w' := by
 go_enter Tryz.func322, Tryz.ntmps322
 go_wp2; go_ret; exact ⟨rfl, Zaa _ _⟩
theorem Zez (lo hi v : Int) (w : World) :
 Calls Tryz.prog 323 #[.agg #[Vi lo, Vi hi], Vi v] w fun e w' => e = .returned (Vi (Zar v lo hi)) ∧ Below w.heap.size w w' := by
 go_enter Tryz.func323, Tryz.ntmps323
 go_wp2_with (go_at_call 172; refine Sm (Zav _ _ _ _) ?_); go_ret; exact ⟨rfl, Zaa _ _⟩
theorem Zhf (x x' : Value) (w : World) : Sem.run Tryz.prog (method 521 343 (.agg #[x, x']) "fulmar/share.takes") w = .ok (323, .agg #[x, x']) w := by kernel_rfl
theorem lost_method (w : World) : Sem.run Tryz.prog (method 521 342 (.agg #[]) "fulmar/share.takes") w = .ok (322, .agg #[]) w := by kernel_rfl
def tv (T R : Int) (s : Sv) : Value := if s.2.2 then .iface 342 (.agg #[]) else .iface 343 (.agg #[Vi (loR T R s.1 s.2.2), Vi (hiR T R s.1 s.2.2)])
theorem tk_lost {T R v : Int} {s : Sv} (h : s.2.2 = true) : tk T R s v = 0 := by
 unfold tk loR hiR Zar; rw [h]; simp only [if_true]; split
 · rfl
 · split
   · rfl
   · split <;> omega
def WLs (w : World) (a : Option Addr) (T R : Int) (l : List Sv) : Prop := l = [] ∨ ∃ b off, a = some (Ad b off) ∧ ∀ k, k < l.length → w.cell? (Ad b (off + k)) = some (tv T R (svAt l k))
theorem WLs.later {w w' : World} {a : Option Addr} {T R : Int} {l : List Sv} (h : WLs w a T R l) (hb : Below w.heap.size w w') : WLs w' a T R l := by
 rcases h with h | ⟨b, off, h, hc⟩
 · exact .inl h
 · exact .inr ⟨b, off, h, fun k hk => cell_later hb (hc k hk)⟩
theorem WLs.at {w : World} {a : Option Addr} {T R : Int} {l : List Sv} (h : WLs w a T R l) {k : Nat} (hk : k < l.length) : ∃ b off, a = some (Ad b off) ∧ w.cell? (Ad b (off + k)) = some (tv T R (svAt l k)) := by
 rcases h with h | ⟨b, off, h, hc⟩
 · subst h; simp at hk
 · exact ⟨b, off, h, hc k hk⟩
theorem Zdt (T R S C : Int) (l : List Sv) (v : Int) (a : Option Addr) (cap : Nat) (hok : AllOk T R S C l) (hl : l.length ≤ 9) (w : World) (hw : WLs w a T R l) :
 Calls Tryz.prog 221 #[.slice a l.length cap, Vi v] w fun e w' => e = .returned (Vi (tot T R l v)) ∧ Below w.heap.size w w' := by
 have HW := Zab hw; have HOK := Zab hok; have hme := Zhf; have hml := lost_method; clear hw hok
 go_enter Tryz.func221, Tryz.ntmps221
 go_wp2
 go_loopw [5, 10] (fun s i wr => ∃ k : Nat, k ≤ l.length ∧ i = Vi k ∧ s = Vi (totU T R l v k) ∧ Below w.heap.size w wr) (fun _ i _ => l.length - (intOf i).toNat)
 case atStart => exact ⟨0, Nat.zero_le _, rfl, rfl, Below.refl _ _⟩
 case round =>
  obtain ⟨k, hk, rfl, rfl, hb⟩ := hrel; have HB := Zab hb; have hbd := totU_bd HOK.out v k hk; clear hb
  by_cases hlt : k < l.length
  · obtain ⟨bb, off, rfl, hc⟩ := (HW.out.later HB.out).at hlt; have htb := tk_bd HOK.out hlt v; have HS := Zab (show totU T R l v (k + 1) = totU T R l v k + tk T R (svAt l k) v from rfl); have htk : tk T R (svAt l k) v = Zar v (loR T R (svAt l k).1 (svAt l k).2.2) (hiR T R (svAt l k).1 (svAt l k).2.2) := rfl
    have j0 : (0 : Int) ≤ (k : Int) := by omega
    have j1 : (k : Int) < (l.length : Int) := by omega
    generalize totU T R l v k = s at *
    cases ho : (svAt l k).2.2
    · have hf := Zez (loR T R (svAt l k).1 (svAt l k).2.2) (hiR T R (svAt l k).1 (svAt l k).2.2) v; rw [← htk] at hf
      unfold tv at hc
      rw [if_neg (by simp [ho])] at hc; clear htk ho; generalize tk T R (svAt l k) v = t at *; generalize loR T R (svAt l k).1 (svAt l k).2.2 = lo at *; generalize hiR T R (svAt l k).1 (svAt l k).2.2 = hi at *
      go_wp2_with (go_at_call 323; refine Sb (hf _) fun w1 hb1 => ?_); go_roundw
      case rel => exact ⟨k + 1, by omega, by go_num, by rw [HS.out], Zac HB.out hb1⟩
      case measure => simp [intOf]; omega
    · have hf := Zet v; rw [← tk_lost (T := T) (R := R) (v := v) ho] at hf
      unfold tv at hc
      rw [if_pos ho] at hc; clear htk ho; generalize tk T R (svAt l k) v = t at *
      go_wp2_with (go_at_call 322; refine Sb (hf _) fun w1 hb1 => ?_); go_roundw
      case rel => exact ⟨k + 1, by omega, by go_num, by rw [HS.out], Zac HB.out hb1⟩
      case measure => simp [intOf]; omega
  · have e : k = l.length := by omega
    subst e; go_wp2; go_ret; exact ⟨rfl, HB.out⟩
theorem scell_other {w : World} {a c : Addr} {v u : Value} (h : w.cell? a = some u) (hc : c ≠ a) : (w.setCell c v).cell? a = some u := (World.cell?_setCell_other _ _ _ _ hc).trans h
theorem scell_same {w : World} {a : Addr} {v u : Value} (h : w.cell? a = some u) : (w.setCell a v).cell? a = some v := by simp [go_sem, h]
theorem sne_off {B q j : Nat} (hc : q ≠ j) : (⟨B, q, none⟩ : Addr) ≠ ⟨B, j, none⟩ := fun e => hc (congrArg Addr.off e)
def ILs (w : World) (a : Option Addr) (l : List Int) : Prop := l = [] ∨ ∃ b off, a = some (Ad b off) ∧ ∀ k, k < l.length → w.cell? (Ad b (off + k)) = some (Vi (l.getD k 0))
theorem ILs.later {w w' : World} {a : Option Addr} {l : List Int} (h : ILs w a l) (hb : Below w.heap.size w w') : ILs w' a l := by
 rcases h with h | ⟨b, off, h, hc⟩
 · exact .inl h
 · exact .inr ⟨b, off, h, fun k hk => cell_later hb (hc k hk)⟩
theorem ILs.at {w : World} {a : Option Addr} {l : List Int} (h : ILs w a l) {k : Nat} (hk : k < l.length) : ∃ b off, a = some (Ad b off) ∧ w.cell? (Ad b (off + k)) = some (Vi (l.getD k 0)) := by
 rcases h with h | ⟨b, off, h, hc⟩
 · subst h; simp at hk
 · exact ⟨b, off, h, hc k hk⟩
def SLs (w : World) (a : Option Addr) (l : List (Bool × Int)) : Prop := l = [] ∨ ∃ b off, a = some (Ad b off) ∧ ∀ k, k < l.length → w.cell? (Ad b (off + k * 2)) = some (.bool (l.getD k (false, 0)).1) ∧ w.cell? (Ad b (off + k * 2 + 1)) = some (Vi (l.getD k (false, 0)).2)
theorem SLs.later {w w' : World} {a : Option Addr} {l : List (Bool × Int)} (h : SLs w a l) (hb : Below w.heap.size w w') : SLs w' a l := by
 rcases h with h | ⟨b, off, h, hc⟩
 · exact .inl h
 · exact .inr ⟨b, off, h, fun k hk => ⟨cell_later hb (hc k hk).1, cell_later hb (hc k hk).2⟩⟩
theorem SLs.at {w : World} {a : Option Addr} {l : List (Bool × Int)} (h : SLs w a l) {k : Nat} (hk : k < l.length) : ∃ b off, a = some (Ad b off) ∧ w.cell? (Ad b (off + k * 2)) = some (.bool (l.getD k (false, 0)).1) ∧ w.cell? (Ad b (off + k * 2 + 1)) = some (Vi (l.getD k (false, 0)).2) := by
 rcases h with h | ⟨b, off, h, hc⟩
 · subst h; simp at hk
 · exact ⟨b, off, h, hc k hk⟩
theorem sv_mk {T C i b : Int} {o : Bool} (h1 : -T ≤ i ∧ i ≤ T) (h2 : 0 ≤ b ∧ b ≤ C) (h3 : o = true → i = 0) (h4 : o = false → b < C) : svB T C i b o = true := by
 simp only [svB, Bool.and_eq_true, Bool.or_eq_true, Bool.not_eq_true', beq_iff_eq, decide_eq_true_eq]; refine ⟨⟨⟨Zec h1.1 h1.2, Zec h2.1 h2.2⟩, ?_⟩, ?_⟩
 · cases o
   · exact .inl rfl
   · exact .inr (h3 rfl)
 · cases o
   · exact .inr (h4 rfl)
   · exact .inl rfl
theorem Zdh {x : Int} (h0 : -9223372036854775808 ≤ x) (h1 : x ≤ 9223372036854775807) : IntKind.i64.wrap x = x := by
 rw [IntKind.wrap_i64]; omega
def VLs (w : World) (a : Option Addr) (l : List Sv) : Prop := l = [] ∨ ∃ b off, a = some (Ad b off) ∧ ∀ k, k < l.length → w.cell? (Ad b (off + k * 3)) = some (Vi (svAt l k).1) ∧ w.cell? (Ad b (off + k * 3 + 1)) = some (Vi (svAt l k).2.1) ∧ w.cell? (Ad b (off + k * 3 + 2)) = some (.bool (svAt l k).2.2)
theorem VLs.later {w w' : World} {a : Option Addr} {l : List Sv} (h : VLs w a l) (hb : Below w.heap.size w w') : VLs w' a l := by
 rcases h with h | ⟨b, off, h, hc⟩
 · exact .inl h
 · exact .inr ⟨b, off, h, fun k hk => ⟨cell_later hb (hc k hk).1, cell_later hb (hc k hk).2.1, cell_later hb (hc k hk).2.2⟩⟩
theorem VLs.at {w : World} {a : Option Addr} {l : List Sv} (h : VLs w a l) {k : Nat} (hk : k < l.length) : ∃ b off, a = some (Ad b off) ∧ w.cell? (Ad b (off + k * 3)) = some (Vi (svAt l k).1) ∧ w.cell? (Ad b (off + k * 3 + 1)) = some (Vi (svAt l k).2.1) ∧ w.cell? (Ad b (off + k * 3 + 2)) = some (.bool (svAt l k).2.2) := by
 rcases h with h | ⟨b, off, h, hc⟩
 · subst h; simp at hk
 · exact ⟨b, off, h, hc k hk⟩
def RB (w0 w : World) (T R S C : Int) : Prop := B4 w w0.heap.size (Vi T) (Vi R) (Vi S) (Vi C) ∧ Below w0.heap.size w0 w
theorem RB.later {w0 w w' : World} {T R S C : Int} (h : RB w0 w T R S C) (hb : Below w.heap.size w w') : RB w0 w' T R S C := ⟨h.1.later hb, Zac h.2 hb⟩
theorem RB.new (w : World) (T R S C : Int) : RB w (w.alloc (.cells #[Vi T, Vi R, Vi S, Vi C] 113)) T R S C := ⟨B4.new _ _ _ _ _ _, Zaa _ _⟩
def smU (l : List Sv) : Nat → Int
 | 0 => 0
 | k + 1 => smU l k + (svAt l k).1
theorem smU_bd {l : List Sv} (h : ∀ k, k < l.length → -2147483647 ≤ (svAt l k).1 ∧ (svAt l k).1 ≤ 2147483647) : ∀ k : Nat, k ≤ l.length → -2147483647 * (k : Int) ≤ smU l k ∧ smU l k ≤ 2147483647 * (k : Int)
 | 0, _ => by simp [smU]
 | k + 1, hk => by
  have a := smU_bd h k (by omega); have c := h k (by omega); simp only [smU]; omega
theorem shareSum_any (l : List Sv) (a : Option Addr) (cap : Nat) (hl : l.length ≤ 9) (hi : ∀ k, k < l.length → -2147483647 ≤ (svAt l k).1 ∧ (svAt l k).1 ≤ 2147483647) (w : World) (hv : VLs w a l) :
 Calls Tryz.prog 174 #[.slice a l.length cap] w fun e w' => e = .returned (Vi (smU l l.length)) ∧ Below w.heap.size w w' := by
 have HV := Zab hv; have HI := Zab hi; clear hv hi
 go_enter Tryz.func174, Tryz.ntmps174
 go_wp2
 go_loopw [3, 8] (fun s i wr => ∃ k : Nat, k ≤ l.length ∧ i = Vi k ∧ s = Vi (smU l k) ∧ Below w.heap.size w wr) (fun _ i _ => l.length - (intOf i).toNat)
 case atStart => exact ⟨0, Nat.zero_le _, rfl, rfl, Below.refl _ _⟩
 case round =>
  obtain ⟨k, hk, rfl, rfl, hb⟩ := hrel; have hbd := smU_bd HI.out k hk
  by_cases hlt : k < l.length
  · obtain ⟨bl, ol, rfl, d0, d1, d2⟩ := (HV.out.later hb).at hlt; have hb1 := HI.out k hlt; have HS := Zab (show smU l (k + 1) = smU l k + (svAt l k).1 from rfl); have HB := Zab hb
    have j0 : (0 : Int) ≤ (k : Int) := by omega
    have j1 : (k : Int) < (l.length : Int) := by omega
    clear hb; generalize smU l k = s at *; generalize (svAt l k).1 = i at *; go_wp2; go_roundw
    case rel => exact ⟨k + 1, by omega, by go_num, by rw [HS.out], Zac HB.out (Zaa _ _)⟩
    case measure => simp [intOf]; omega
  · have e : k = l.length := by omega
    subst e; go_wp2; go_ret; exact ⟨rfl, hb⟩
def sndU (l : List Sv) : Nat → Int
 | 0 => 0
 | k + 1 => if (svAt l k).2.2 then sndU l k else sndU l k + 1
theorem sndU_bd (l : List Sv) : ∀ k : Nat, 0 ≤ sndU l k ∧ sndU l k ≤ k
 | 0 => by simp [sndU]
 | k + 1 => by have := sndU_bd l k; simp only [sndU]; split <;> omega
theorem sound_any (l : List Sv) (a : Option Addr) (cap : Nat) (hl : l.length ≤ 1000) (w : World) (hv : VLs w a l) :
 Calls Tryz.prog 132 #[.slice a l.length cap] w fun e w' => e = .returned (Vi (sndU l l.length)) ∧ Below w.heap.size w w' := by
 have HV := Zab hv; clear hv
 go_enter Tryz.func132, Tryz.ntmps132
 go_wp2
 go_loopw [3, 8] (fun s i wr => ∃ k : Nat, k ≤ l.length ∧ i = Vi k ∧ s = Vi (sndU l k) ∧ Below w.heap.size w wr) (fun _ i _ => l.length - (intOf i).toNat)
 case atStart => exact ⟨0, Nat.zero_le _, rfl, rfl, Below.refl _ _⟩
 case round =>
  obtain ⟨k, hk, rfl, rfl, hb⟩ := hrel; have hbd := sndU_bd l k
  by_cases hlt : k < l.length
  · obtain ⟨bl, ol, rfl, d0, d1, d2⟩ := (HV.out.later hb).at hlt; have HS := Zab (show sndU l (k + 1) = if (svAt l k).2.2 then sndU l k else sndU l k + 1 from rfl); have HB := Zab hb
    have j0 : (0 : Int) ≤ (k : Int) := by omega
    have j1 : (k : Int) < (l.length : Int) := by omega
    clear hb; generalize sndU l k = s at *; generalize (svAt l k).1 = i at *; generalize (svAt l k).2.1 = b at *; generalize (svAt l k).2.2 = o at *
    cases o
    · go_wp2; go_roundw
      case rel => exact ⟨k + 1, by omega, by go_num, by rw [HS.out]; rfl, Zac HB.out (Zaa _ _)⟩
      case measure => simp [intOf]; omega
    · go_wp2; go_roundw
      case rel => exact ⟨k + 1, by omega, by go_num, by rw [HS.out]; rfl, Zac HB.out (Zaa _ _)⟩
      case measure => simp [intOf]; omega
  · have e : k = l.length := by omega
    subst e; go_wp2; go_ret; exact ⟨rfl, hb⟩
theorem Zdg (f i k : Int) (hf : 0 ≤ f ∧ f ≤ 1000) (hi : 0 ≤ i ∧ i ≤ 10) (hk : 0 ≤ k ∧ k ≤ 1000) (w : World) :
 Calls Tryz.prog 108 #[Vi f, Vi i, Vi k] w fun e w' => e = .returned (Vi (f + 4 * i + k)) ∧ w' = w := by
 obtain ⟨f0, f1⟩ := hf; obtain ⟨i0, i1⟩ := hi; obtain ⟨k0, k1⟩ := hk
 go_enter Tryz.func108, Tryz.ntmps108
 go_wp2; go_ret; exact ⟨rfl, rfl⟩
theorem status_any (i b : Int) (o : Bool) (w : World) :
 Calls Tryz.prog 175 #[.agg #[Vi i, Vi b, .bool o]] w fun e w' => e = .returned (Vi (if o then 0 else 3)) ∧ Below w.heap.size w w' := by
 cases o
 · go_enter Tryz.func175, Tryz.ntmps175
   go_wp2; go_ret; exact ⟨rfl, Zaa _ _⟩
 · go_enter Tryz.func175, Tryz.ntmps175
   go_wp2; go_ret; exact ⟨rfl, Zaa _ _⟩
theorem putL_cons (a : Value) : ∀ (vs : List Value) (cs : List Value) (o : Nat), putL (a :: cs) (o + 1) vs = a :: putL cs o vs
 | [], _, _ => rfl
 | v :: r, cs, o => by
  show putL ((a :: cs).set (o + 1) v) (o + 1 + 1) r = a :: putL (cs.set o v) (o + 1) r
  rw [List.set_cons_succ]; exact putL_cons a r (cs.set o v) (o + 1)
theorem Zem : ∀ L : List Sv, (svL L).length = L.length * 3
 | [] => rfl
 | s :: r => by simp only [svL, List.length_cons, Zem r]; omega
theorem svL_at : ∀ (L : List Sv) (k : Nat), k < L.length → ((svL L).drop (k * 3)).take 3 = [Vi (svAt L k).1, Vi (svAt L k).2.1, .bool (svAt L k).2.2]
 | [], _, h => by simp at h
 | s :: r, 0, _ => rfl
 | s :: r, k + 1, h => by
  have := svL_at r k (by simpa using h); rw [show (k + 1) * 3 = k * 3 + 1 + 1 + 1 by omega]
  simpa [svL, svAt] using this
theorem svL_put (s : Sv) : ∀ (L : List Sv) (k : Nat), k < L.length → putL (svL L) (k * 3) [Vi s.1, Vi s.2.1, .bool s.2.2] = svL (L.set k s)
 | [], _, h => by simp at h
 | x :: r, 0, _ => rfl
 | x :: r, k + 1, h => by
  have := svL_put s r k (by simpa using h); rw [show (k + 1) * 3 = k * 3 + 1 + 1 + 1 by omega]; simp only [svL, putL_cons, this, List.set_cons_succ]
theorem blk_vls {t : TypeId} {u : World} {g : Nat} {L : List Sv} (h : Blk t u g (svL L)) : VLs u (some (Ad g 0)) L := by
 refine .inr ⟨g, 0, rfl, fun k hk => ?_⟩; have r := h.sub (k * 3) 3; rw [svL_at L k hk] at r; have r0 := r 0 _ rfl; have r1 := r 1 _ rfl; have r2 := r 2 _ rfl; simp only [Nat.zero_add]; exact ⟨r0, r1, r2⟩
section
variable {K : Nat} {w0 u : World} {B : Nat} {S : FS} {C : CR} {a : Option Addr} {cap : Nat} {l : List Rd} {sv : Nat → List Sv} {G : Nat → Nat}
theorem FR.vls (h : FR K w0 u B S C a cap l sv G) {i : Nat} (hi : i < 2) : VLs u (S.sp i) (sv i) := by
 have := h.servo i hi; rw [this.1]; exact blk_vls this.2.2.1
theorem FR.putServo (h : FR K w0 u B S C a cap l sv G) {i k : Nat} (hi : i < 2) (hk : k < (sv i).length) (s : Sv) : FR K w0 (u.setCells (G i) (k * 3) [Vi s.1, Vi s.2.1, .bool s.2.2]) B S C a cap l (upd sv i ((sv i).set k s)) G := by
 have hs := h.servo i hi; refine ⟨Blk.farCells hs.2.2.2.2.1.symm _ _ _ h.blk, Zbs hs.2.2.2.2.2 _ _ _ h.rds, Zah _ _ _ h.low hs.2.2.2.1, h.base, h.far, fun j hj => ?_, h.two, h.many, fun b h1 h2 h3 h4 => (heap_far (show b ≠ G i by rcases (show i = 0 ∨ i = 1 by omega) with rfl | rfl <;> assumption) _ _ _).trans (h.oth b h1 h2 h3 h4)⟩; have hsj := h.servo j hj
 by_cases e : j = i
 · subst e; rw [Zbv]; exact ⟨hsj.1, by rw [List.length_set]; exact hsj.2.1, svL_put s (sv j) k hk ▸ Blk.setCells _ _ _ _ hsj.2.2.1, hsj.2.2.2⟩
 · rw [Zhk sv _ e]
   have hG : G j ≠ G i := by
    have := h.two
    rcases (show (j = 0 ∧ i = 1) ∨ (j = 1 ∧ i = 0) by omega) with ⟨rfl, rfl⟩ | ⟨rfl, rfl⟩
    · exact this
    · exact this.symm
   exact ⟨hsj.1, hsj.2.1, Blk.farCells hG _ _ _ hsj.2.2.1, hsj.2.2.2⟩
end
def wv (C : CR) (l : List Rd) (i k : Nat) (s : Sv) : Sv :=
 (wI (C.a i 7) (C.a i 10) s.1 s.2.1 (smp l (16 + 4 * (i : Int) + (k : Int)) 3).2 s.2.2 (smp l (16 + 4 * (i : Int) + (k : Int)) 3).1, wB (C.a i 7) s.1 s.2.1 (smp l (16 + 4 * (i : Int) + (k : Int)) 3).2 s.2.2 (smp l (16 + 4 * (i : Int) + (k : Int)) 3).1, wO (C.a i 7) (C.a i 10) s.1 s.2.1 (smp l (16 + 4 * (i : Int) + (k : Int)) 3).2 s.2.2 (smp l (16 + 4 * (i : Int) + (k : Int)) 3).1)
def wml (C : CR) (l : List Rd) (i : Nat) (L : List Sv) (k : Nat) : List Sv := (List.range L.length).map fun j => if j < k then wv C l i j (svAt L j) else svAt L j
theorem wml_len (C : CR) (l : List Rd) (i : Nat) (L : List Sv) (k : Nat) : (wml C l i L k).length = L.length := by simp [wml]
theorem wml_zero (C : CR) (l : List Rd) (i : Nat) (L : List Sv) : wml C l i L 0 = L := by
 apply List.ext_getElem
 · simp [wml]
 · intro j h1 h2
   simp [wml, svAt, h2]
theorem wml_at (C : CR) (l : List Rd) (i : Nat) (L : List Sv) {k : Nat} (hk : k < L.length) : svAt (wml C l i L k) k = svAt L k := by
 simp [wml, svAt, hk]
theorem wml_step (C : CR) (l : List Rd) (i : Nat) (L : List Sv) {k : Nat} : (wml C l i L k).set k (wv C l i k (svAt L k)) = wml C l i L (k + 1) := by
 apply List.ext_getElem
 · simp [wml]
 · intro j h1 h2; simp only [wml, List.length_set, List.length_map, List.length_range] at h1; rw [List.getElem_set]
   by_cases e : k = j
   · subst e
     simp [wml]
   · rw [if_neg e]; simp only [wml, List.getElem_map, List.getElem_range]
     by_cases h3 : j < k
     · rw [if_pos h3, if_pos (by omega)]
     · rw [if_neg h3, if_neg (by omega)]
theorem infoS3 : (Tryz.prog.info? 116).map (·.size) = some 3 := by kernel_rfl
theorem axidx (C : CR) (i : Nat) (hi : i < 2) (w : World) : (Instr.index 27 (.agg (axL C 0 ++ axL C 1).toArray) (Vi (i : Int))).run Tryz.prog w = .ok (.agg (axL C i).toArray) w := by
 rcases (show i = 0 ∨ i = 1 by omega) with rfl | rfl
 · exact axidx0 C w
 · exact axidx1 C w
def wsx (C : CR) (l : List Rd) (sv : Nat → List Sv) (i : Nat) (j : Nat) : List Sv := if j < i then wml C l j (sv j) (sv j).length else sv j
theorem wsx_zero (C : CR) (l : List Rd) (sv : Nat → List Sv) : wsx C l sv 0 = sv := by funext j; simp [wsx]
theorem wsx_start (C : CR) (l : List Rd) (sv : Nat → List Sv) (i : Nat) : upd (wsx C l sv i) i (wml C l i (sv i) 0) = wsx C l sv i := by
 funext j
 by_cases e : j = i
 · subst e; rw [Zbv, wml_zero]; simp [wsx]
 · rw [Zhk _ _ e]
theorem wsx_end (C : CR) (l : List Rd) (sv : Nat → List Sv) (i : Nat) : upd (wsx C l sv i) i (wml C l i (sv i) (sv i).length) = wsx C l sv (i + 1) := by
 funext j
 by_cases e : j = i
 · subst e; rw [Zbv]; simp [wsx]
 · rw [Zhk _ _ e]
   unfold wsx
   by_cases h : j < i
   · rw [if_pos h, if_pos (by omega)]
   · rw [if_neg h, if_neg (by omega)]
theorem upd_upd {α : Type} (f : Nat → α) (i : Nat) (x y : α) : upd (upd f i x) i y = upd f i y := by
 funext j; unfold upd; split <;> rfl
theorem watchServos_ok {K : Nat} {wz w : World} {B : Nat} {S : FS} {C : CR} {a : Option Addr} {cap : Nat} {l : List Rd} {sv : Nat → List Sv} {G : Nat → Nat} (hf : FR K wz w B S C a cap l (sv) G)
 (hl : ∀ i, i < 2 → (sv i).length ≤ 9) (hs : ∀ i, i < 2 → ∀ k, k < (sv i).length → svE (C.a i 5) (C.a i 6) (C.a i 7) (C.a i 10) (svAt (sv i) k).1 (svAt (sv i) k).2.1 (svAt (sv i) k).2.2 = 0) :
 Calls Tryz.prog 59 #[.pointer (some (Ad B 0))] w fun e w' => e = .returned .nilIface ∧ FR K wz w' B S C a cap l (wsx C l sv 2) G := by
 have HF := Zab hf; have HL := Zab hl; have HSV := Zab hs; have HX := Zab (hf.blk.sub 30 30); rw [fr_axes] at HX; clear hf hl hs
 go_enter Tryz.func59, Tryz.ntmps59
 go_upto_region 2 with (first
  | (refine Zhv _ rfl ?_; refine wpList_load_mid rfl 27 (.tmp 12) rfl B 30 rfl (axL C 0 ++ axL C 1) _ HX.out Tryz.underlying27 rfl infoA30 ?_))
 clear HX
 go_loopw [14] (fun ix wr => ∃ i : Nat, i ≤ 2 ∧ ix = Vi i ∧ FR K wz wr B S C a cap l (wsx C l sv i) G) (fun ix _ => 2 - (intOf ix).toNat)
 case atStart => exact ⟨0, by omega, rfl, by rw [wsx_zero]; exact HF.out⟩
 case round =>
  obtain ⟨i, hi2, rfl, hfr⟩ := hrel; clear HF
  by_cases hi : i < 2
  · have HFR := Zab hfr; have hidx := axidx C i hi
    have i0 : (0 : Int) ≤ (i : Int) := by omega
    have i1 : (i : Int) < 2 := by omega
    obtain ⟨n, hn⟩ : ∃ n, n = (sv i).length := ⟨_, rfl⟩; have HA0 : Hid (Blk 26 (wr.alloc (.cells (axL C i).toArray 26)) wr.heap.size (axL C i)) := Zab (Blk.new wr _ (axL C i)); have HF0 := Zab (hfr.later (Zaa wr (.cells (axL C i).toArray 26))); clear hfr
    go_upto_region 4 with (first
     | (refine Zda _ _ rfl ?_; refine Zbn (c' := (axL C i).toArray) (.tmp 4) (.tmp 17) rfl rfl rfl rfl rfl rfl (Zat _ rfl) ?_))
    generalize wr.alloc (.cells (axL C i).toArray 26) = v0 at *; generalize wr.heap.size = QA at HA0 ⊢; clear HFR; have hsv := (HF0.out.blk.cell (Zhz S C _ hi)).1; have hsp : S.sp i = some (Ad (G i) 0) := (HF0.out.servo i hi).1
    have hsn : S.sn i = n := by rw [hn]; have := (HF0.out.servo i hi).2.1; simpa [wsx] using this
    rw [hsp, hsn] at hsv; clear hsp hsn
    go_upto_region 5 with fail; clear hsv
    go_loopw [26] (fun ix wr => ∃ k : Nat, k ≤ n ∧ ix = Vi k ∧ FR K wz wr B S C a cap l (upd (wsx C l sv i) i (wml C l i (sv i) k)) G ∧ Blk 26 wr QA (axL C i)) (fun ix _ => n - (intOf ix).toNat)
    case atStart => exact ⟨0, Nat.zero_le _, rfl, by rw [wsx_start]; exact HF0.out, HA0.out⟩
    case round =>
     obtain ⟨k, hk, rfl, hfr, hax⟩ := hrel; clear HF0 HA0; have hsp : S.sp i = some (Ad (G i) 0) := (hfr.servo i hi).1
     have hsn : S.sn i = n := by have := (hfr.servo i hi).2.1; rwa [Zbv, wml_len, ← hn] at this
     have hn9 : n ≤ 9 := by rw [hn]; exact HL.out i hi
     by_cases hlt : k < n
     · have g := (hfr.servo i hi).2.2.1.sub (k * 3) 3; rw [Zbv, svL_at _ k (by rw [wml_len]; omega), wml_at _ _ _ _ (by omega)] at g; have c0 : wr.cell? (Ad (G i) (k * 3)) = some (Vi (svAt (sv i) k).1) := g 0 _ rfl; have c1 : wr.cell? (Ad (G i) (k * 3 + 1)) = some (Vi (svAt (sv i) k).2.1) := g 1 _ rfl; have c2 : wr.cell? (Ad (G i) (k * 3 + 2)) = some (.bool (svAt (sv i) k).2.2) := g 2 _ rfl; have h0 := HSV.out i hi k (by omega); have HWV := Zab (rfl : wv C l i k (svAt (sv i) k) = wv C l i k (svAt (sv i) k)); have hul := Zdg 16 (i : Int) (k : Int) (by omega) (by omega) (by omega); have HLB : Hid (0 ≤ (16 + 4 * (i : Int) + (k : Int))) := Zab (by omega)
       unfold wv at HWV
       have hwa0 := fun st sz => watch_ok (C.a i 5) (C.a i 6) (C.a i 7) (C.a i 10) (svAt (sv i) k).1 (svAt (sv i) k).2.1 (svAt (sv i) k).2.2 st sz h0; have hwa := hwa0 (smp l (16 + 4 * (i : Int) + (k : Int)) 3).1 (smp l (16 + 4 * (i : Int) + (k : Int)) 3).2; obtain ⟨ni, nb, no, HNI⟩ : ∃ ni nb no, Hid (wv C l i k (svAt (sv i) k) = (ni, nb, no)) := ⟨_, _, _, Zab rfl⟩; have e1 : wI (C.a i 7) (C.a i 10) (svAt (sv i) k).1 (svAt (sv i) k).2.1 (smp l (16 + 4 * (i : Int) + (k : Int)) 3).2 (svAt (sv i) k).2.2 (smp l (16 + 4 * (i : Int) + (k : Int)) 3).1 = ni := congrArg (·.1) HNI.out; have e2 : wB (C.a i 7) (svAt (sv i) k).1 (svAt (sv i) k).2.1 (smp l (16 + 4 * (i : Int) + (k : Int)) 3).2 (svAt (sv i) k).2.2 (smp l (16 + 4 * (i : Int) + (k : Int)) 3).1 = nb := congrArg (·.2.1) HNI.out; have e3 : wO (C.a i 7) (C.a i 10) (svAt (sv i) k).1 (svAt (sv i) k).2.1 (smp l (16 + 4 * (i : Int) + (k : Int)) 3).2 (svAt (sv i) k).2.2 (smp l (16 + 4 * (i : Int) + (k : Int)) 3).1 = no := congrArg (·.2.2) HNI.out; rw [e1, e2, e3] at hwa; clear e1 e2 e3 hwa0 HWV h0 g HLB; obtain ⟨si, sb, so, HSI⟩ : ∃ si sb so, Hid ((svAt (sv i) k).1 = si ∧ (svAt (sv i) k).2.1 = sb ∧ (svAt (sv i) k).2.2 = so) := ⟨_, _, _, Zab ⟨rfl, rfl, rfl⟩⟩; rw [HSI.out.1] at c0; rw [HSI.out.2.1] at c1; rw [HSI.out.2.2] at c2; simp only [HSI.out.1, HSI.out.2.1, HSI.out.2.2] at hwa; obtain ⟨st, sz, HST⟩ : ∃ st sz, Hid ((smp l (16 + 4 * (i : Int) + (k : Int)) 3).1 = st ∧ (smp l (16 + 4 * (i : Int) + (k : Int)) 3).2 = sz) := ⟨_, _, Zab ⟨rfl, rfl⟩⟩; simp only [HST.out.1, HST.out.2] at hwa
       have k0 : (0 : Int) ≤ (k : Int) := by omega
       have k1 : (k : Int) < (n : Int) := by omega
       have HFQ := Zab (hfr.later (Zaa wr (.cells #[Vi si, Vi sb, .bool so] 116))); have HAXB := Zab (hax.later (Zaa wr (.cells #[Vi si, Vi sb, .bool so] 116))); have HP : Hid (Blk 116 (wr.alloc (.cells #[Vi si, Vi sb, .bool so] 116)) wr.heap.size [Vi si, Vi sb, .bool so]) := Zab (Blk.new wr _ [Vi si, Vi sb, .bool so]); clear hfr hax
       go_upto_region 7 with fail; clear c0 c1 c2; generalize wr.alloc (.cells #[Vi si, Vi sb, .bool so] 116) = w0 at *; generalize wr.heap.size = P6 at HP ⊢; have d0 := (HP.out.cell (j := 0) rfl).1; have d1 := (HP.out.cell (j := 1) rfl).1; have d2 := (HP.out.cell (j := 2) rfl).1; have HAX := Zab HAXB.out.range; have hru := Zdk (C.a i 0) (C.a i 1) (C.a i 2) (C.a i 3) (C.a i 4) (C.a i 5) (C.a i 6) (C.a i 7) (C.a i 8) (C.a i 9) (C.a i 10) (C.a i 11) (C.a i 14) (C.p i) (C.q i) (C.al i).length (C.zl i).length (C.cn i) (C.cm i)
       have hsy : ∀ u, Below w0.heap.size w0 u → Calls Tryz.prog 107 #[.pointer (some (Ad B 0)), Vi (16 + 4 * (i : Int) + (k : Int)), Vi 3] u fun e w' => e = .returned (.agg #[.bool st, Vi sz]) ∧ Below u.heap.size u w' := fun u h => by
        have := Zgd B a cap l (16 + 4 * (i : Int) + (k : Int)) 3 HFQ.out.many u (cell_later h HFQ.out.said) (HFQ.out.rds.later h)
        rwa [HST.out.1, HST.out.2] at this
       clear HP; refine Cs [32, 33, 34, 35, 36, 37, 38, 39, 40, 31, 41, 42, 7] ?_; refine Cl (x := .tmp 4) 0 32 [] (fun y w _ u hSw => ⟨Zae HAX.out hSw, rfl⟩) Tryz.underlying26 Zbg ?_; refine Cc 1 33 [0] (fun y w h _ => hru _) ?_; refine Cq (fun _ h => And.intro (cell_later h d0) (And.intro (cell_later h d1) (cell_later h d2))) 2 34 [] ?_; refine Cp 3 35 [] ?_; refine Cp 4 36 [] ?_; refine Cp 5 37 [] ?_; refine Cc 6 38 [4, 5] (fun y w h _ => Zgp (hul _)) ?_; refine Cc 7 39 [3, 6] (fun y w h _ => hsy _ h) ?_; refine Cc 8 40 [1, 2, 7] (fun y w h _ => hwa _) ?_; refine Cp 9 31 [8] ?_; refine Cp 10 41 [9] ?_; refine Cp 11 42 [9] ?_; refine Ca 12 7 ?_; refine Cn 2 15 [13, 14] (fun y u1 hB hf => ?_); obtain ⟨XA, e, hA⟩ := hf.1; have HAA1 : Hid (NB _ _ _ XA [Vi 0, Vi 0, .bool false]) := Zab hA; (try simp only [e]); clear e hA; have HS1 := Zab hB; clear hB hf; refine Ra 13 (fun K hK => ?_); rw [if_pos (by rfl)]; refine Zan 116 (.tmp 7) (.tmp 41) rfl XA 0 #[Vi ni, Vi nb, .bool no] rfl rfl (HAA1.out.1.there (Nat.le_of_ble_eq_true rfl)) infoS3 (Zat _ rfl) rfl ?_; have HS2 := Zab (Zah [Vi ni, Vi nb, .bool no] 0 u1 HS1.out (NB.le HAA1.out)); have HAA2 : Hid (NB 116 w0.heap.size (u1.setCells XA 0 [Vi ni, Vi nb, .bool no]) XA [Vi ni, Vi nb, .bool no]) := Zab ⟨Blk.setCells [Vi ni, Vi nb, .bool no] 0 u1 [Vi 0, Vi 0, .bool false] HAA1.out.1, NB.le HAA1.out⟩; generalize hU : World.setCells _ XA 0 _ = u2 at *; clear hU; refine hK.out _ _ HS2.out (fun _ => ?_); clear hK K; clear HS1 HAA1; refine Tq 14 HS2.out ?_; (try simp only [Act.put]); refine wpAnyH_done (by kernel_rfl) ?_ _; go_simp; have hA := HAA2.out; have hB := HS2.out; clear HAA2 HS2; generalize u2 = v at hA hB ⊢; clear d0 d1 d2 hru hul hsy hwa; refine Zbh (by assumption) ?_; have HFv := Zab (HFQ.out.later hB)
       have HXB : Hid (XA ≠ G i ∧ B ≠ G i ∧ QA ≠ G i) := Zab ⟨by
        have h1 := NB.le hA; have h2 := (HFQ.out.servo i hi).2.2.1.lt
        omega, (HFQ.out.servo i hi).2.2.2.2.1.symm, fun e => by
        have h1 := HAXB.out; have h2 := (HFQ.out.servo i hi).2.2.1; rw [e] at h1
        unfold Blk at h1 h2
        rw [h1] at h2
        simp at h2⟩
       have HXA := Zab hA.1; have HAV := Zab (HAXB.out.later hB); clear hA hB HFQ HAXB HAX
       go_upto_region 10 with fail; have HFd := Zab (HFv.out.later (Below.refl _ _).drew); have HT : Hid (World.there v.drew (G i) (k * 3) 3) := Zab ((HFd.out.servo i hi).2.2.1.there (by rw [Zem, Zbv, wml_len]; omega))
       have HX0 : Hid (World.rangeAt v.drew XA 0 [Vi ni, Vi nb, .bool no] ∧ World.cell? v.drew ⟨B, 21 + i, none⟩ = some (.slice (some (Ad (G i) 0)) n (S.sc i))) := Zab ⟨(HXA.out.later (Below.refl _ _).drew).range, by
        have := (HFd.out.blk.cell (Zhz S C _ hi)).1
        rwa [hsp, hsn] at this⟩
       have HX := Zab (And.intro HXB.out.1 HXB.out.2.1)
       have HFin : Hid (FR K wz (World.setCells v.drew (G i) (k * 3) [Vi ni, Vi nb, .bool no]) B S C a cap l (upd (wsx C l sv i) i (wml C l i (sv i) (k + 1))) G) := by
        have h := HFd.out.putServo hi (k := k) (by rw [Zbv, wml_len]; omega) (ni, nb, no); rw [Zbv, upd_upd, ← HNI.out, wml_step, HNI.out] at h; exact Zab h
       have HAF := Zab (Blk.farCells HXB.out.2.2 [Vi ni, Vi nb, .bool no] (k * 3) _ (HAV.out.later (Below.refl _ _).drew)); clear HFv HXA HFd HAV HXB; refine wp_region_held_drew (S := fun u => (u.rangeAt XA 0 [Vi ni, Vi nb, .bool no] ∧ u.cell? (Ad B (21 + i)) = some (.slice (some (Ad (G i) 0)) n (S.sc i)))) (by kernel_rfl) (HX0.out) (fun _ => ?_); have HS0 : Hid ((v.drew.rangeAt XA 0 [Vi ni, Vi nb, .bool no] ∧ v.drew.cell? (Ad B (21 + i)) = some (.slice (some (Ad (G i) 0)) n (S.sc i)))) := Zab (HX0.out); refine Tq 0 HS0.out ?_; simp only [Act.put, Ly]; refine Tq 1 HS0.out ?_; simp only [Act.put, Ly]; refine Tq 2 HS0.out ?_; simp only [Act.put, Ly]; refine Tq 3 HS0.out ?_; simp only [Act.put, Ly]; refine Tq 4 HS0.out ?_; simp only [Act.put, Ly]; refine Tq 5 HS0.out ?_; simp only [Act.put, Ly]; refine Th 6 rfl (by intro w hSw; (try dsimp only at hSw); have y := hSw.2; clear hSw; go_simp; (try with_reducible rfl)) HS0.out ?_; simp only [Act.put, Ly]; refine Tq 7 HS0.out ?_; simp only [Act.put, Ly]; refine Tk 8 rfl (yieldsIf_load_mid (by rfl) 116 (.tmp 7) rfl XA 0 rfl [Vi ni, Vi nb, .bool no] _ (fun w hSw => hSw.1) Tryz.underlying116 rfl infoS3) HS0.out ?_; simp only [Act.put, Ly]; refine Tq 9 HS0.out ?_; simp only [Act.put, Ly]; refine Ra 10 (fun K hK => ?_); rw [if_pos (by rfl)]; refine Zan 116 (.tmp 55) (.tmp 54) rfl (G i) (k * 3) #[Vi ni, Vi nb, .bool no] rfl rfl (HT.out) infoS3 (Zat _ rfl) rfl ?_; have HS1 := Zab (And.intro (World.rangeAt_setCells_apart HS0.out.1 (G i) (k * 3) [Vi ni, Vi nb, .bool no] (.inl HX.out.1)) (fcells_far HX.out.2 [Vi ni, Vi nb, .bool no] (k * 3) _ HS0.out.2)); refine hK.out _ _ HS1.out (fun _ => ?_); clear hK K; refine wpAnyH_done (by kernel_rfl) ?_ _; go_simp; refine Zbh (by assumption) ?_; go_wp2_with fail; go_roundw
       case rel => exact ⟨k + 1, by omega, by go_num, HFin.out, HAF.out⟩
       case measure => simp [intOf]; omega
     · obtain rfl : k = n := by omega
       clear hsp hsn; go_wp2_with fail; go_roundw
       case rel => exact ⟨i + 1, by omega, by go_num, by rw [← wsx_end, ← hn]; exact hfr⟩
       case measure => simp [intOf]; omega
  · obtain rfl : i = 2 := by omega
    go_wp2_with fail; go_ret; exact ⟨rfl, hfr⟩
end Go.Proofs.YtnfdfiholcelaaaGreatDoor
