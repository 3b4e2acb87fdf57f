import Derived.BigQuiet
import Derived.OwnWalk
import Derived.Laws.IdiomCopy
import Derived.Tactics
import Derived.Test.YtnfdfiholcelaaaGreatDoorJe00
import Derived.Test.YtnfdfiholcelaaaGreatDoorJe05
import Derived.Test.YtnfdfiholcelaaaGreatDoorJe07
import Derived.Test.YtnfdfiholcelaaaGreatDoorJe22
import Derived.Test.YtnfdfiholcelaaaGreatDoorJe23
set_option maxRecDepth 100000
set_option maxHeartbeats 20000000
namespace Go.Proofs.YtnfdfiholcelaaaGreatDoor
open Go.RowKit Plain Tryz
def U32s (w : World) (a : Option Addr) (zs : List Int) : Prop := zs = [] ∨ ∃ g, a = some (Ad g 0) ∧ ∀ k, k < zs.length → w.cell? (Ad g k) = some (.int .u32 (zs.getD k 0))
theorem U32s.later {w w' : World} {a : Option Addr} {zs : List Int} (h : U32s w a zs) (hb : Below w.heap.size w w') : U32s w' a zs := by
 rcases h with h | ⟨g, h, hc⟩
 · exact .inl h
 · exact .inr ⟨g, h, fun k hk => cell_later hb (hc k hk)⟩
theorem infoU32 : (prog.info? 136).map (fun i => (i.zero, i.size, i.bytes)) = some (some (.int .u32 0), 1, 4) := by kernel_rfl
def pk1 (r : Rd) : Int := Zfe r.1 r.2.1 r.2.2.1 r.2.2.2
def pkU (l : List Rd) : Nat → List Int
 | 0 => []
 | k + 1 => pkU l k ++ [pk1 (rat l k)]
theorem pkU_len (l : List Rd) : ∀ k, (pkU l k).length = k
 | 0 => rfl
 | k + 1 => by rw [pkU, List.length_append, pkU_len l k]; rfl
def Zcw (r : Rd) : Bool := mayR r.1 r.2.1 r.2.2.1 r.2.2.2
theorem u32_of_row {w : World} {B g cap n : Nat} {e : TypeId} {zs : List Int} (hn : n = zs.length) (h : w.ownsRow B e 1 (.slice (some (Ad g 0)) n cap) n (zs.map (Value.int .u32))) : U32s w (some (Ad g 0)) zs := by
 subst hn; refine .inr ⟨g, rfl, fun k hk => ?_⟩; rw [h.cellAt k (by omega), List.getElem?_map, List.getD_eq_getElem?_getD, List.getElem?_eq_getElem hk]
 rfl
theorem packAll_ok (a : Option Addr) (cap : Nat) (l : List Rd) (h1 : 1 ≤ l.length) (hl : l.length ≤ 1000) (hm : ∀ k, k < l.length → Zcw (rat l k) = true) (w : World) (hr : Rds w a l) :
 Calls prog 113 #[.slice a l.length cap] w fun e w' => (∃ g c, e = .returned (.tuple #[.slice (some (Ad g 0)) l.length c, .nilIface]) ∧ w.heap.size ≤ g ∧ U32s w' (some (Ad g 0)) (pkU l l.length)) ∧ Below w.heap.size w w' := by
 obtain ⟨i0, hi4, hz0, hz1, hz2⟩ := info_parts infoU32; have HR := Zab hr; have HM := Zab hm; clear hr hm
 go_enter func113, ntmps113
 go_upto_region 3 with fail
 go_loopw [4, 11] (fun s0 ix wr => ∃ k : Nat, k ≤ l.length ∧ ix = Vi k ∧ wr.ownsRow w.heap.size 136 1 s0 k ((pkU l k).map (Value.int .u32)) ∧ Below w.heap.size w wr) (fun _ ix _ => l.length - (intOf ix).toNat)
 case atStart => exact ⟨0, by omega, rfl, World.ownsRow_nil _ _ _ _, Below.refl _ _⟩
 case round =>
  obtain ⟨k, hk, rfl, hown, hbw⟩ := hrel
  by_cases hlt : k < l.length
  · obtain ⟨g, rfl, c0, c1, c2, c3⟩ := (HR.out.later hbw).at hlt; have hpk := pack_yes (rat l k).1 (rat l k).2.1 (rat l k).2.2.1 (rat l k).2.2.2 (HM.out k hlt); have HPE : Hid (Zfe (rat l k).1 (rat l k).2.1 (rat l k).2.2.1 (rat l k).2.2.2 = pk1 (rat l k)) := Zab rfl; rw [HPE.out] at hpk; generalize hz : pk1 (rat l k) = z at *; generalize (rat l k).1 = r0 at *; generalize (rat l k).2.1 = r1 at *; generalize (rat l k).2.2.1 = r2 at *; generalize (rat l k).2.2.2 = r3 at *
    have k0 : (0 : Int) ≤ (k : Int) := by omega
    have k1 : (k : Int) < (l.length : Int) := by omega
    have HOW := Zab hown; have HB := Zab hbw; clear hown hbw HPE
    go_wp2_with (first
     | (go_at_call 84; refine Sb (hpk _) fun u1 hb => ?_; have HB := Zab (Zac (Zac HB.out (Zaa _ _)) hb); have HOW := Zab (Zbp (HOW.out.alloc _) hb); clear hb)
     | (at_builtin; refine wpList_append_lies _ rfl _ _ 42 rfl w.heap.size 136 i0 (.int .u32 0) 1 4 underlying42 hi4 hz0 hz1 hz2 rfl (by decide) _ _ _ rfl (HOW.out.alloc _) ⟨u1.heap.size, 0, none⟩ 1 1 [.int .u32 z] rfl rfl (f1new u1 _ _) (fun x hx => by simp at hx; subst hx; rfl) (by omega) (by unfold maxLen; omega) (by omega) (Zac HB.out (Zaa _ _)).size _ rfl ?_; intro g9 c9 v9 hown hgrow hat hlt9; have HE := Zab hown; have HB9 := Zab ((Zac HB.out (Zaa _ _)).grown hgrow (Zac HB.out (Zaa _ _)).size (fun q hq => (HOW.out.lt q hq).1)); clear hown hgrow hat hlt9))
    go_roundw
    case rel => exact ⟨k + 1, by omega, by go_num, by rw [pkU, List.map_append, hz]; exact HE.out, HB9.out⟩
    case measure => simp [intOf]; omega
  · obtain rfl : k = l.length := by omega
    obtain ⟨g, c, hv, hg0, hg1⟩ := hown.form (by omega); subst hv; have HW := Zab (u32_of_row (pkU_len l _).symm hown); clear hown; go_wp2_with fail; go_ret2; exact ⟨⟨g, c, rfl, hg0, HW.out⟩, hbw⟩
theorem tell_ok {K : Nat} {wz w : World} {B : Nat} {S : FS} {C : CR} {a : Option Addr} {cap : Nat} {l : List Rd} {sv : Nat → List Sv} {G : Nat → Nat} (hf : FR K wz w B S C a cap l sv G) (hl : ∀ i, i < 2 → (sv i).length ≤ 9) (hm : ∀ k, k < (rdA sv S.n).length → Zcw (rat (rdA sv S.n) k) = true) :
 Calls prog 62 #[.pointer (some (Ad B 0))] w fun e w' => (∃ g c, e = .returned (.tuple #[.slice (some (Ad g 0)) (rdA sv S.n).length c, .nilIface]) ∧ w.heap.size ≤ g ∧ U32s w' (some (Ad g 0)) (pkU (rdA sv S.n) (rdA sv S.n).length)) ∧ Below w.heap.size w w' := by
 have hrd := readings_ok hf hl
 have h1 : 1 ≤ (rdA sv S.n).length := by simp [rdA]
 have h2 : (rdA sv S.n).length ≤ 1000 := by have := rdX_len sv hl 2 (by omega); simp [rdA]; omega
 have hpa := fun g c u h => packAll_ok (some (Ad g 0)) c (rdA sv S.n) h1 h2 hm u h; clear hf
 go_enter func62, ntmps62
 go_wp2_with (first
  | (go_at_call 114; refine hrd.mono ?_; rintro e u ⟨⟨g, c, rfl, hr⟩, hb⟩; have HR := Zab hr; have HB := Zab hb; clear hr hb)
  | (go_at_call 113; refine (hpa _ _ _ HR.out).mono ?_; rintro e v ⟨⟨x, d, rfl, hx, hw⟩, hb⟩; have HW := Zab hw; have HX := Zab (Nat.le_trans HB.out.size hx); have HB2 := Zab (Zac HB.out hb); clear hx hw hb))
 go_ret2; exact ⟨⟨_, _, rfl, HX.out, HW.out⟩, HB2.out⟩
def ZS (w : World) (a : Option Addr) (n : Nat) : Prop := n = 0 ∨ ∃ b off, a = some (Ad b off) ∧ ∀ k, k < n → w.cell? (Ad b (off + k * 3)) = some (Vi 0) ∧ w.cell? (Ad b (off + k * 3 + 1)) = some (Vi 0) ∧ w.cell? (Ad b (off + k * 3 + 2)) = some (.bool false)
theorem ZS.later {w w' : World} {a : Option Addr} {n : Nat} (h : ZS w a n) (hb : Below w.heap.size w w') : ZS w' a n := by
 rcases h with h | ⟨b, off, h, hc⟩
 · exact .inl h
 · exact .inr ⟨b, off, h, fun k hk => ⟨cell_later hb (hc k hk).1, cell_later hb (hc k hk).2.1, cell_later hb (hc k hk).2.2⟩⟩
def StH (u : World) (B : Nat) (cs : List Value) : Prop := u.heap[B]? = some (.cells cs.toArray 41 (0, 0))
theorem StH.lt {u : World} {B : Nat} {cs : List Value} (h : StH u B cs) : B < u.heap.size := (Array.getElem?_eq_some_iff.1 h).1
theorem StH.later {u u' : World} {B : Nat} {cs : List Value} (h : StH u B cs) (hb : Below u.heap.size u u') : StH u' B cs := (hb.block B h.lt).trans h
theorem StH.cell {u : World} {B : Nat} {cs : List Value} (h : StH u B cs) {j : Nat} {v : Value} (hv : cs[j]? = some v) : u.cell? (Ad B j) = some v ∧ u.frozen? (Ad B j) = false := by
 unfold StH at h
 constructor
 · simp only [World.cell?, h]; simp only [Option.isSome_none, Bool.false_eq_true, if_false]
   simpa using hv
 · simp [World.frozen?, h]
theorem StH.range {u : World} {B : Nat} {cs : List Value} (h : StH u B cs) : u.rangeAt B 0 cs := fun j v hv => by rw [Nat.zero_add]; exact (h.cell hv).1
theorem StH.there {u : World} {B : Nat} {cs : List Value} (h : StH u B cs) {n : Nat} (hn : n = cs.length) : u.there B 0 n := fun j hj => by
 subst hn; have := h.cell (List.getElem?_eq_getElem hj); rw [Nat.zero_add]; exact ⟨by rw [this.1]; rfl, this.2⟩
theorem StH.set {u : World} {B : Nat} {cs : List Value} (h : StH u B cs) (j : Nat) (v : Value) : StH (u.setCell (Ad B j) v) B (cs.set j v) := by
 unfold StH at h ⊢
 rw [heap_setCell_same u B j cs.toArray 41 v h]
 simp
theorem StH.far {u : World} {B V : Nat} {cs : List Value} (h : StH u B cs) (hV : B ≠ V) (j : Nat) (v : Value) : StH (u.setCell (Ad V j) v) B cs := (heap_setCell_other u ⟨V, j, none⟩ B v hV).trans h
theorem ZS.far {u : World} {a : Option Addr} {n V j : Nat} {v : Value} (h : ZS u a n) (hV : ∀ b off, a = some (Ad b off) → b ≠ V) : ZS (u.setCell (Ad V j) v) a n := by
 rcases h with h | ⟨b, off, h, hc⟩
 · exact .inl h
 · have f : ∀ o y, u.cell? (Ad b o) = some y → (u.setCell (Ad V j) v).cell? (Ad b o) = some y := fun o y hy => (World.cell?_setCell_other _ _ _ _ (fun e => hV b off h (congrArg Addr.block e).symm)).trans hy; exact .inr ⟨b, off, h, fun k hk => ⟨f _ _ (hc k hk).1, f _ _ (hc k hk).2.1, f _ _ (hc k hk).2.2⟩⟩
theorem wpList_newS {ops : Array Oper} {rest : List Oper} {op : Oper} {a : Act} {w : World} {Q : Exit → Act → World → Prop} {c c' : Array Value} (x y : Operand) (hgd : op.guard = none) (ho : op.op = .store 41 x y)
 (hx : a.eval x = .pointer (some (Ad w.heap.size 0))) (hy : a.eval y = .agg c') (hs : c'.size = 30) (hc : c.size = c'.size) (h1 : c'.all (·.oneCell') = true)
 (h : wpList prog ops Q rest (a.put op.dst undef) (w.alloc (.cells c' 41))) : wpList prog ops Q (op :: rest) a (w.alloc (.cells c 41)) :=
 wpList_plain hgd fun _ hK => by
  unfold Oper.wp execOp
  simp only [ho, hx, hy, Sem.run_bind, Sem.run_pure, Result.andThen_ok, run_storeAt_new w 41 c c' (by rw [Zce, hs]) hc h1]; exact hK _ _ h
theorem infoV : (prog.info? 116).map (fun i => (i.zero, i.size, i.bytes)) = some (some (.agg #[Vi 0, Vi 0, .bool false]), 3, 24) := by kernel_rfl
theorem Zej (n : Nat) (hn : n ≤ 9) (w : World) : (Instr.makeSlice 35 (Vi (n : Int)) (Vi (n : Int))).run prog w = .ok (.slice (some (Ad w.heap.size 0)) n n) (w.alloc (.cells (madeCells #[Vi 0, Vi 0, .bool false] (n * 3)) 116)) := by
 cases hh : prog.info? 116 with
 | none => have h := infoV; rw [hh] at h; cases h
 | some i0 =>
  have h := infoV; rw [hh] at h; simp only [Option.map_some, Option.some.injEq, Prod.mk.injEq] at h; have g := run_make (P := prog) (w := w) 35 116 i0 (.agg #[Vi 0, Vi 0, .bool false]) underlying35 hh h.1 .i64 .i64 (n : Int) (n : Int) (by omega) (by omega) (by rw [h.2.2]; omega) (by omega); rw [h.2.1, Int.toNat_natCast] at g; exact g
theorem made_at (n k j : Nat) (hk : k < n) (hj : j < 3) : (madeCells #[Vi 0, Vi 0, .bool false] (n * 3))[k * 3 + j]? = (#[Vi 0, Vi 0, .bool false] : Array Value)[j]? := by
 have h : k * 3 + j < n * 3 := by omega
 unfold madeCells
 rw [Array.getElem?_map, Array.getElem?_eq_getElem (by simpa using h)]; simp only [Array.getElem_range, Option.map_some]
 have e : (k * 3 + j) % 3 = j := by omega
 show some ((#[Vi 0, Vi 0, .bool false] : Array Value)[(k * 3 + j) % 3]!) = _
 rw [e]
 rcases (show j = 0 ∨ j = 1 ∨ j = 2 by omega) with rfl | rfl | rfl <;> rfl
theorem zs_made (n : Nat) (w : World) : ZS (w.alloc (.cells (madeCells #[Vi 0, Vi 0, .bool false] (n * 3)) 116)) (some (Ad w.heap.size 0)) n := by
 refine .inr ⟨w.heap.size, 0, rfl, fun k hk => ?_⟩; have hh := World.alloc_heap_new w (.cells (madeCells #[Vi 0, Vi 0, .bool false] (n * 3)) 116)
 have f : ∀ j v, j < 3 → (#[Vi 0, Vi 0, .bool false] : Array Value)[j]? = some v → (w.alloc (.cells (madeCells #[Vi 0, Vi 0, .bool false] (n * 3)) 116)).cell? (Ad w.heap.size (0 + k * 3 + j)) = some v := fun j v hj hv => by
  simp only [World.cell?, hh, Nat.zero_add]; simp only [Option.isSome_none, Bool.false_eq_true, if_false]; rw [made_at n k j hk hj]; exact hv
 exact ⟨f 0 _ (by omega) rfl, f 1 _ (by omega) rfl, f 2 _ (by omega) rfl⟩
theorem Zfg {K b : Nat} {w0 : World} : ∀ (vs : List Value) (o : Nat) (w : World), Below K w0 w → K ≤ b → Below K w0 (w.setCells b o vs)
 | [], _, _, h, _ => h
 | v :: r, o, w, h, hb => Zfg r (o + 1) (w.setCell ⟨b, o, none⟩ v) (h.setCell (by simpa using hb) v) hb
theorem Zff {a : Option Addr} {n V : Nat} (hV : ∀ b off, a = some (Ad b off) → b ≠ V) : ∀ (vs : List Value) (o : Nat) (w : World), ZS w a n → ZS (w.setCells V o vs) a n
 | [], _, _, h => h
 | v :: r, o, w, h => Zff hV r (o + 1) (w.setCell ⟨V, o, none⟩ v) (h.far hV)
theorem run_copy_wide {P : Program} (w : World) (dT sT ty elem : TypeId) (b o n dCap : Nat) (a : Addr) (sCap sz : Nat) (cs : List Value)
 (hu : P.underlying dT = some (.slice elem)) (hs : (P.info? elem).map (·.size) = some sz) (hn : cs.length = n * sz)
 (hsrc : ∀ j v, cs[j]? = some v → w.cell? (a.add j) = some v) (hc : ∀ j, j < cs.length → (w.cell? (Ad b (o + j))).isSome = true) (hf : ∀ j, j < cs.length → w.frozen? (Ad b (o + j)) = false) (h1 : ∀ v ∈ cs, v.oneCell' = true) :
 (Builtin.copy_ #[dT, sT] ty #[.slice (some (Ad b o)) n dCap, .slice (some a) n sCap]).run P w = .ok (goInt n) (w.setCells b o cs) := by
 have hl := run_loadCells_list (P := P) w a cs hsrc; have hst := run_storeCells_cells (P := P) b o cs 0 w (by simpa using hc) (by simpa using hf) h1
 cases hq : P.info? elem with
 | none => simp [hq] at hs
 | some i =>
  have hi : i.size = sz := by simpa [hq] using hs
  simp [Builtin.copy_, run_underlying hu, Builtin.lenOf, Builtin.firstCells, sizeOf, typeInfo, hq, hi, ← hn, hl, hst]
theorem Zev {P : Program} {w : World} {ops : Array Oper} {rest : List Oper} {o : Oper} {a : Act} {Q : Exit → Act → World → Prop} (hgd : o.guard = none) (d s : Operand) (dT sT : TypeId)
 (ho : o.op = .call { callee := .builtin .copy, args := #[d, s], argTypes := #[dT, sT] }) (elem : TypeId) (hu : P.underlying dT = some (.slice elem)) (sz : Nat) (hsz : (P.info? elem).map (·.size) = some sz)
 (g off n dCap : Nat) (ad : Addr) (sCap : Nat) (hd : a.eval d = .slice (some (Ad g off)) n dCap) (hs : a.eval s = .slice (some ad) n sCap)
 (cs : List Value) (hn : cs.length = n * sz) (hsrc : ∀ j v, cs[j]? = some v → w.cell? (ad.add j) = some v) (ht : w.there g off cs.length) (h1 : ∀ v ∈ cs, v.oneCell' = true)
 (h : wpList P ops Q rest (a.put o.dst (goInt n)) (w.setCells g off cs)) : wpList P ops Q (o :: rest) a w := by
 refine wpList_plain hgd fun K hK => ?_; have hrun := run_copy_wide (P := P) w dT sT o.type elem g off n dCap ad sCap sz cs hu hsz hn hsrc (fun j hj => (ht j hj).1) (fun j hj => (ht j hj).2) h1
 unfold Oper.wp
 simp [execOp, ho, resolve, invoke, builtin, hd, hs, hrun, Result.andThen]
 exact hK _ _ h
theorem svL_three (L : List Sv) {k r : Nat} (hk : k < L.length) (hr : r < 3) : (svL L)[k * 3 + r]? = [Vi (svAt L k).1, Vi (svAt L k).2.1, .bool (svAt L k).2.2][r]? := by
 rw [← svL_at L k hk, List.getElem?_take, if_pos hr, List.getElem?_drop]
theorem vls_src {u : World} {ad : Addr} {L : List Sv} (h1 : 1 ≤ L.length) (h : VLs u (some ad) L) : ∀ j v, (svL L)[j]? = some v → u.cell? (ad.add j) = some v := by
 intro j v hj
 rcases h with h | ⟨b, off, h, hc⟩
 · subst h; simp at h1
 · simp only [Option.some.injEq] at h; subst h
   have hlt : j < L.length * 3 := by
    have := (List.getElem?_eq_some_iff.1 hj).1
    rwa [Zec] at this
   have hk : j / 3 < L.length := by omega
   have hr : j % 3 < 3 := by omega
   have e : j = j / 3 * 3 + j % 3 := by omega
   rw [e, svL_three L hk hr] at hj; have c := hc (j / 3) hk; rw [Addr.add_lit]
   rcases (show j % 3 = 0 ∨ j % 3 = 1 ∨ j % 3 = 2 by omega) with h3 | h3 | h3
   · rw [h3] at hj
     have : v = Vi (svAt L (j / 3)).1 := by simpa using hj.symm
     rw [this, show off + j = off + j / 3 * 3 by omega]; exact c.1
   · rw [h3] at hj
     have : v = Vi (svAt L (j / 3)).2.1 := by simpa using hj.symm
     rw [this, show off + j = off + j / 3 * 3 + 1 by omega]; exact c.2.1
   · rw [h3] at hj
     have : v = .bool (svAt L (j / 3)).2.2 := by simpa using hj.symm
     rw [this, show off + j = off + j / 3 * 3 + 2 by omega]; exact c.2.2
theorem svL_one : ∀ (L : List Sv), ∀ v ∈ svL L, v.oneCell' = true
 | [], _, h => by cases h
 | s :: r, v, h => by
  simp only [svL, List.mem_cons] at h
  rcases h with rfl | rfl | rfl | h
  · rfl
  · rfl
  · rfl
  · exact svL_one r v h
theorem putL_all : ∀ (vs cs : List Value), cs.length = vs.length → putL cs 0 vs = vs := by
 have key : ∀ (vs pre cs : List Value), cs.length = vs.length → putL (pre ++ cs) pre.length vs = pre ++ vs := by
  intro vs
  induction vs with
  | nil => intro pre cs h; have : cs = [] := List.eq_nil_of_length_eq_zero (by simpa using h); subst this; rfl
  | cons v r ih =>
   intro pre cs h
   cases cs with
   | nil => simp at h
   | cons c cs =>
    show putL ((pre ++ c :: cs).set pre.length v) (pre.length + 1) r = pre ++ v :: r
    have e : (pre ++ c :: cs).set pre.length v = (pre ++ [v]) ++ cs := by simp
    rw [e]; have := ih (pre ++ [v]) cs (by simpa using h)
    simpa using this
 intro vs cs h
 simpa using key vs [] cs h
theorem blk_arr (w : World) (t : TypeId) (x : Array Value) : Blk t (w.alloc (.cells x t)) w.heap.size x.toList := by
 have := Blk.new w t x.toList
 rwa [Array.toArray_toList] at this
theorem st_servos (S : FS) : ((stL S).drop 21).take 2 = spL S := rfl
theorem Zax {C : CR} {S : FS} {sv : Nat → List Sv} (h : stE C S sv = 0) : crE C = 0 ∧ ∀ k, k < 8 → eSt C S sv k = 0 := by
 unfold stE at h
 split at h
 · rename_i h0
   split at h
   · rename_i h1; exact ⟨h0, fstN_all h1⟩
   · cases h
 · rename_i h0; exact absurd h h0
theorem Zci {C : CR} {S : FS} {sv : Nat → List Sv} (h : stE C S sv = 0) {i : Nat} (hi : i < 2) : ((sv i).length : Int) = C.a i 4 ∧ seU C i (sv i) (sv i).length = 0 := by
 have : csE C i (sv i) = 0 := by
  rcases (show i = 0 ∨ i = 1 by omega) with rfl | rfl
  · exact (Zax h).2 4 (by omega)
  · exact (Zax h).2 6 (by omega)
 unfold csE at this
 split at this
 · rename_i e; exact ⟨e, this⟩
 · cases this
theorem seU_all {C : CR} {i : Nat} {L : List Sv} : ∀ n, seU C i L n = 0 → ∀ k, k < n → svE (C.a i 5) (C.a i 6) (C.a i 7) (C.a i 10) (svAt L k).1 (svAt L k).2.1 (svAt L k).2.2 = 0
 | 0, _, k, hk => by omega
 | n + 1, h, k, hk => by
  rw [seU] at h
  split at h
  · rename_i h0
    by_cases e : k = n
    · subst e; exact h
    · exact seU_all n h0 k (by omega)
  · rename_i h0; exact absurd h h0
theorem stE_sv {C : CR} {S : FS} {sv : Nat → List Sv} (h : stE C S sv = 0) {i : Nat} (hi : i < 2) : 2 ≤ (sv i).length ∧ (sv i).length ≤ 4 := by
 have a := (Zci h hi).1; have b := Zdd (show rgE (C.a i 4) (C.a i 3) = 0 from Zcl (Zax h).1 hi (k := 0) (by omega))
 omega
theorem rds_lt {u : World} {a : Option Addr} {l : List Rd} (h : Rds u a l) : ∀ g, a = some (Ad g 0) → l ≠ [] → g < u.heap.size := by
 intro g e hl
 rcases h with h | ⟨b, rfl, hc⟩
 · exact absurd h hl
 · simp only [Option.some.injEq, Addr.mk.injEq] at e; obtain ⟨rfl, _⟩ := e; exact World.block_lt_of_cell? u ⟨b, _, none⟩ (hc 0 (List.length_pos_iff.2 hl)).1
theorem isCopy {P : Program} {ops : Array Oper} {rest : List Oper} {op : Oper} {a : Act} {w : World} {Q : Exit → Act → World → Prop} (d s : Operand) (dT sT : TypeId) (_ho : op.op = .call { callee := .builtin .copy, args := #[d, s], argTypes := #[dT, sT] }) (h : wpList P ops Q (op :: rest) a w) : wpList P ops Q (op :: rest) a w := h
theorem svidx0 (S : FS) (w : World) : (Instr.index 36 (.agg (spL S).toArray) (Vi 0)).run prog w = .ok (.slice (S.sp 0) (S.sn 0) (S.sc 0)) w := by kernel_rfl
theorem svidx1 (S : FS) (w : World) : (Instr.index 36 (.agg (spL S).toArray) (Vi 1)).run prog w = .ok (.slice (S.sp 1) (S.sn 1) (S.sc 1)) w := by kernel_rfl
theorem vls_some {u : World} {a : Option Addr} {L : List Sv} (h1 : 1 ≤ L.length) (h : VLs u a L) : ∃ p, a = some p := by
 rcases h with h | ⟨b, off, h, _⟩
 · subst h; simp at h1
 · exact ⟨_, h⟩
theorem made_len (n : Nat) : (madeCells #[Vi 0, Vi 0, .bool false] (n * 3)).toList.length = n * 3 := by simp [madeCells]
theorem buildFr2 (S : FS) (C : CR) (p : Option Addr) (n c : Nat) (w : World) : (Instr.build 146 #[(0, .agg (stL S).toArray), (1, .agg (crL C).toArray), (2, .slice p n c)]).run prog w = .ok (.agg (frL S C (.slice p n c)).toArray) w := by kernel_rfl
theorem wpList_buildFr {ops : Array Oper} {rest : List Oper} {op : Oper} {a : Act} {w : World} {Q : Exit → Act → World → Prop} (S : FS) (C : CR) (p : Option Addr) (n c : Nat) (x y z : Operand) (hgd : op.guard = none) (ho : op.op = .build 146 #[(0, x), (1, y), (2, z)])
 (hx : a.eval x = .agg (stL S).toArray) (hy : a.eval y = .agg (crL C).toArray) (hz : a.eval z = .slice p n c)
 (h : wpList prog ops Q rest (a.put op.dst (.agg (frL S C (.slice p n c)).toArray)) w) : wpList prog ops Q (op :: rest) a w :=
 wpList_plain hgd fun _ hK => by
  unfold Oper.wp execOp
  simp only [ho, List.map_toArray, List.map_cons, List.map_nil, hx, hy, hz, Sem.run_bind, buildFr2, Result.andThen_ok]; exact hK _ _ h
theorem newFrame_ok (C : CR) (S : FS) (sv : Nat → List Sv) (ws : List Int) (aw : Option Addr) (cw : Nat) (w : World) (hg : GV w) (hl : CrL w C) (hv : SvL w S sv) (hw : Wds w aw ws) (h64 : ws.length ≤ 64) (hmany : (gat rdOf ws).length ≤ 1000) (h0 : stE C S sv = 0) :
 Calls prog 56 #[.agg (crL C).toArray, .agg (stL S).toArray, .slice aw ws.length cw] w fun e w' => ∃ B S' a cap G, e = .returned (.tuple #[.pointer (some (Ad B 0)), .nilIface]) ∧ (S'.bk = S.bk ∧ S'.hd = S.hd ∧ S'.n = S.n) ∧ FR w.heap.size w w' B S' C a cap (gat rdOf ws) sv G := by
 have hck := fun u (h : Below w.heap.size w u) => checkState_any C S sv u (hg.later h) (hl.later h) (hv.later h); simp only [h0, Zaq] at hck; have hga := fun u (h : Below w.heap.size w u) => gather_any aw cw ws h64 u (hw.later h); have HS : Hid (Blk 41 ((w.alloc (.cells (crL C).toArray 29)).alloc (.cells (stL S).toArray 41)) (w.heap.size + 1) (stL S)) := Zab (by have := Blk.new (w.alloc (.cells (crL C).toArray 29)) 41 (stL S); rw [World.size_alloc] at this; exact this); have HC := Zab ((Blk.new w 29 (crL C)).later (Zaa _ (.cells (stL S).toArray 41))); have HB := Zab (Zac (Zaa w (.cells (crL C).toArray 29)) (Zaa _ (.cells (stL S).toArray 41))); have HCr : Hid (World.rangeAt ((w.alloc (.cells (crL C).toArray 29)).alloc (.cells (stL S).toArray 41)) w.heap.size 0 (crL C)) := Zab HC.out.range; have HSr : Hid (World.rangeAt ((w.alloc (.cells (crL C).toArray 29)).alloc (.cells (stL S).toArray 41)) (w.heap.size + 1) 0 (stL S)) := Zab HS.out.range; have HSV := Zab hv; have HN := Zab (fun i hi => stE_sv h0 (i := i) hi); clear hg hl hv hw h64 h0; generalize hgl : gat rdOf ws = l at *
 go_enter func56, ntmps56
 go_upto_region 7 with (first
  | (refine Lq 29 _ rfl ?_; refine wpList_load_mid rfl 29 (.tmp 3) rfl w.heap.size 0 rfl (crL C) _ HCr.out underlying29 rfl Zam ?_)
  | (refine Lq 41 _ rfl ?_; refine wpList_load_mid rfl 41 (.tmp 4) rfl (w.heap.size + 1) 0 rfl (stL S) _ HSr.out underlying41 rfl Zce ?_)
  | (go_at_call 18; refine Sb (hck _ HB.out) fun w1 hb => ?_; have HB := Zab (Zac HB.out hb); have HC := Zab (HC.out.later hb); have HS := Zab (HS.out.later hb); clear hb)
  | (go_at_call 100; refine (hga _ HB.out).mono ?_; rintro e w2 ⟨⟨v, rfl, ho⟩, hb⟩; obtain ⟨a, cap, rfl, hrd⟩ := ho.rds; have HRD := Zab hrd; have HB := Zab (Zac HB.out hb); have HC := Zab (HC.out.later hb); have HS := Zab (HS.out.later hb); clear hb ho hrd))
 have HCr := Zab HC.out.range; have HSr := Zab HS.out.range
 go_upto_region 8 with (first
  | (refine Lq 29 _ rfl ?_; refine wpList_load_mid rfl 29 (.tmp 3) rfl w.heap.size 0 rfl (crL C) _ HCr.out underlying29 rfl Zam ?_)
  | (refine Lq 41 _ rfl ?_; refine wpList_load_mid rfl 41 (.tmp 4) rfl (w.heap.size + 1) 0 rfl (stL S) _ HSr.out underlying41 rfl Zce ?_)
  | (refine wpList_buildFr S C a l.length cap (.tmp 30) (.tmp 31) (.tmp 32) rfl rfl rfl rfl rfl ?_))
 have HRB := Zab (rds_lt HRD.out); have HFB : Hid (Blk 146 (w2.alloc (.cells (frL S C (.slice a l.length cap)).toArray 146)) w2.heap.size (frL S C (.slice a l.length cap))) := Zab (Blk.new w2 _ _); have HRD := Zab (HRD.out.later (Zaa w2 (.cells (frL S C (.slice a l.length cap)).toArray 146))); have HS := Zab (HS.out.later (Zaa w2 (.cells (frL S C (.slice a l.length cap)).toArray 146))); have hBw := HB.out.size; have HB := Zab (Zac HB.out (Zaa w2 (.cells (frL S C (.slice a l.length cap)).toArray 146))); clear HC HCr HSr; generalize w2.alloc (.cells (frL S C (.slice a l.length cap)).toArray 146) = v0 at *; generalize w2.heap.size = B at *; have HSp := Zab (HS.out.sub 21 2); rw [st_servos] at HSp; have hx0 := svidx0 S; have hx1 := svidx1 S; rw [(HSV.out 0 (by omega)).1] at hx0; rw [(HSV.out 1 (by omega)).1] at hx1; have hm0 := Zej (sv 0).length (HSV.out 0 (by omega)).2.1; have hm1 := Zej (sv 1).length (HSV.out 1 (by omega)).2.1; obtain ⟨p0, hp0⟩ := vls_some (by have := (HN.out 0 (by omega)).1; omega) (HSV.out 0 (by omega)).2.2; obtain ⟨p1, hp1⟩ := vls_some (by have := (HN.out 1 (by omega)).1; omega) (HSV.out 1 (by omega)).2.2; have HV0 := Zab (HSV.out 0 (by omega)).2.2; have HV1 := Zab (HSV.out 1 (by omega)).2.2; rw [hp0] at hx0 HV0; rw [hp1] at hx1 HV1; have hl0 : 1 ≤ (sv 0).length ∧ (sv 0).length ≤ 9 := ⟨by have := (HN.out 0 (by omega)).1; omega, (HSV.out 0 (by omega)).2.1⟩; have hl1 : 1 ≤ (sv 1).length ∧ (sv 1).length ≤ 9 := ⟨by have := (HN.out 1 (by omega)).1; omega, (HSV.out 1 (by omega)).2.1⟩; clear HSV HN hp0 hp1; generalize hn0 : (sv 0).length = n0 at *; generalize hn1 : (sv 1).length = n1 at *
 go_upto_region 9 with (refine Lq 36 _ rfl ?_; refine wpList_load_mid rfl 36 (.tmp 35) rfl (w.heap.size + 1) 21 rfl (spL S) _ HSp.out underlying36 rfl infoVs2 ?_); clear HSp HS; refine wp_loop_rounds 3 ?_; rw [rounds_succ]
 go_upto_region 11 with fail; have HFB := Zab (HFB.out.later (Below.refl _ v0).drew); have HRD := Zab (HRD.out.later (Below.refl _ v0).drew); have HX0 : Hid (Below w.heap.size w v0.drew) := Zab (Zac HB.out (Below.refl _ _).drew); clear HB; refine wp_region_held_drew (S := fun u => (Below w.heap.size w u)) (by kernel_rfl) (HX0.out) (fun _ => ?_); have HS0 : Hid ((Below w.heap.size w v0.drew)) := Zab (HX0.out); generalize v0.drew = u0 at HS0 HFB HRD ⊢; refine Tq 0 HS0.out ?_; simp only [Act.put, Ly]; refine Tq 1 HS0.out ?_; simp only [Act.put, Ly]; refine Tq 2 HS0.out ?_; simp only [Act.put, Ly]; refine Tq 3 HS0.out ?_; simp only [Act.put, Ly]; refine Tq 5 HS0.out ?_; simp only [Act.put, Ly]; refine Tq 6 HS0.out ?_; simp only [Act.put, Ly]; refine Tq 7 HS0.out ?_; simp only [Act.put, Ly]; refine Ra 4 (fun K hK => ?_); go_simp; have HFBo := HFB; have HS1 := Zab (Zac HS0.out (Zaa u0 (.cells (madeCells #[Vi 0, Vi 0, .bool false] (n0 * 3)) 116))); have HFB := Zab (HFB.out.later (Zaa u0 (.cells (madeCells #[Vi 0, Vi 0, .bool false] (n0 * 3)) 116))); have HRD := Zab (HRD.out.later (Zaa u0 (.cells (madeCells #[Vi 0, Vi 0, .bool false] (n0 * 3)) 116))); have HG0 := Zab (blk_arr u0 116 (madeCells #[Vi 0, Vi 0, .bool false] (n0 * 3))); have hlt := HFBo.out.lt; generalize u0.alloc (.cells (madeCells #[Vi 0, Vi 0, .bool false] (n0 * 3)) 116) = u1 at HS1 HFB HRD HG0 ⊢; generalize u0.heap.size = G0 at HG0 hlt  ⊢; refine hK.out _ _ HS1.out (fun _ => ?_); clear hK K; (try simp only [Act.put]); refine Tq 8 HS1.out ?_; simp only [Act.put, Ly]; refine Ra 9 (fun K hK => ?_); have f0 := (HFB.out.cell (j := 21) rfl).1; have f1 := (HFB.out.cell (j := 21) rfl).2; go_simp; clear f0 f1; have HS2 := Zab (Zah [(.slice (some (Ad G0 0)) n0 n0)] 21 u1 HS1.out hBw)
 have HFB : Hid (Blk 146 (u1.setCells B 21 [(.slice (some (Ad G0 0)) n0 n0)]) B (frL ({ S with sp := upd S.sp 0 (some (Ad G0 0)), sn := upd S.sn 0 n0, sc := upd S.sc 0 n0 } : FS) C (.slice a l.length cap))) := by
  have h := Blk.setCells [(.slice (some (Ad G0 0)) n0 n0)] 21 u1 _ HFB.out; exact Zab h
 have HRD := Zab (Zbs (V := B) (fun g e h => by have := HRB.out g e h; omega) [(.slice (some (Ad G0 0)) n0 n0)] 21 u1 HRD.out); have HG0 := Zab (Blk.farCells (show G0 ≠ B by omega) [(.slice (some (Ad G0 0)) n0 n0)] 21 u1 HG0.out); have e9 : u1.setCell (Ad B 21) (.slice (some (Ad G0 0)) n0 n0) = u1.setCells B 21 [(.slice (some (Ad G0 0)) n0 n0)] := rfl; rw [e9]; clear e9; generalize u1.setCells B 21 [(.slice (some (Ad G0 0)) n0 n0)] = u2 at HS2 HFB HRD HG0  ⊢; refine hK.out _ _ HS2.out (fun _ => ?_); clear hK K; (try simp only [Act.put]); clear HS1; refine wpAnyH_done (by kernel_rfl) ?_ _; go_simp; have HB := HS2; clear HS2; generalize u2 = x0 at HB HFB HRD HG0  ⊢; clear HX0; refine Zbd (by assumption) ?_; have f0 : x0.cell? (Ad B 21) = some (.slice (some (Ad G0 0)) n0 n0) := (HFB.out.cell (j := 21) rfl).1
 go_wp2_with (refine isCopy _ _ _ _ rfl ?_; refine Zev rfl (.tmp 56) (.tmp 57) 35 35 rfl 116 underlying35 3 infoS3 G0 0 n0 n0 p0 (S.sc 0) rfl rfl (svL (sv 0)) (by rw [Zec, hn0]) (vls_src (by omega) (HV0.out.later HB.out)) (HG0.out.there (by rw [Zec, hn0, made_len]; omega)) (svL_one _) ?_); clear f0
 have HG0 : Hid (Blk 116 (World.setCells x0 G0 0 (svL (sv 0))) G0 (svL (sv 0))) := by
  have h := Blk.setCells (svL (sv 0)) 0 x0 _ HG0.out; rw [putL_all _ _ (by rw [Zec, hn0, made_len])] at h; exact Zab h
 have HFB := Zab (Blk.farCells (show B ≠ G0 by omega) (svL (sv 0)) 0 x0 HFB.out); have HRD := Zab (Zbs (V := G0) (fun g e h => by have := HRB.out g e h; omega) (svL (sv 0)) 0 x0 HRD.out); have HB := Zab (Zah (svL (sv 0)) 0 x0 HB.out (show w.heap.size ≤ G0 by omega))
 have hBG0 : B < G0 := by omega
 clear hlt; generalize World.setCells x0 G0 0 (svL (sv 0)) = v1 at *; rw [rounds_succ]
 go_upto_region 11 with fail; have HFB := Zab (HFB.out.later (Below.refl _ v1).drew); have HRD := Zab (HRD.out.later (Below.refl _ v1).drew); have HG0 := Zab (HG0.out.later (Below.refl _ v1).drew); have HX0 : Hid (Below w.heap.size w v1.drew) := Zab (Zac HB.out (Below.refl _ _).drew); clear HB; refine wp_region_held_drew (S := fun u => (Below w.heap.size w u)) (by kernel_rfl) (HX0.out) (fun _ => ?_); have HS0 : Hid ((Below w.heap.size w v1.drew)) := Zab (HX0.out); generalize v1.drew = u0 at HS0 HFB HRD HG0 ⊢; refine Tq 0 HS0.out ?_; simp only [Act.put, Ly]; refine Tq 1 HS0.out ?_; simp only [Act.put, Ly]; refine Tq 2 HS0.out ?_; simp only [Act.put, Ly]; refine Tq 3 HS0.out ?_; simp only [Act.put, Ly]; refine Tq 5 HS0.out ?_; simp only [Act.put, Ly]; refine Tq 6 HS0.out ?_; simp only [Act.put, Ly]; refine Tq 7 HS0.out ?_; simp only [Act.put, Ly]; refine Ra 4 (fun K hK => ?_); go_simp; have HG0o := HG0; have HFBo := HFB; have HS1 := Zab (Zac HS0.out (Zaa u0 (.cells (madeCells #[Vi 0, Vi 0, .bool false] (n1 * 3)) 116))); have HFB := Zab (HFB.out.later (Zaa u0 (.cells (madeCells #[Vi 0, Vi 0, .bool false] (n1 * 3)) 116))); have HRD := Zab (HRD.out.later (Zaa u0 (.cells (madeCells #[Vi 0, Vi 0, .bool false] (n1 * 3)) 116))); have HG0 := Zab (HG0.out.later (Zaa u0 (.cells (madeCells #[Vi 0, Vi 0, .bool false] (n1 * 3)) 116))); have HG1 := Zab (blk_arr u0 116 (madeCells #[Vi 0, Vi 0, .bool false] (n1 * 3))); have hlt := HFBo.out.lt; have hG01 := HG0o.out.lt; generalize u0.alloc (.cells (madeCells #[Vi 0, Vi 0, .bool false] (n1 * 3)) 116) = u1 at HS1 HFB HRD HG0 HG1 ⊢; generalize u0.heap.size = G1 at HG1 hlt hG01 ⊢; refine hK.out _ _ HS1.out (fun _ => ?_); clear hK K; (try simp only [Act.put]); refine Tq 8 HS1.out ?_; simp only [Act.put, Ly]; refine Ra 9 (fun K hK => ?_); have f0 := (HFB.out.cell (j := 22) rfl).1; have f1 := (HFB.out.cell (j := 22) rfl).2; go_simp; clear f0 f1; have HS2 := Zab (Zah [(.slice (some (Ad G1 0)) n1 n1)] 22 u1 HS1.out hBw)
 have HFB : Hid (Blk 146 (u1.setCells B 22 [(.slice (some (Ad G1 0)) n1 n1)]) B (frL ({ S with sp := upd (upd S.sp 0 (some (Ad G0 0))) 1 (some (Ad G1 0)), sn := upd (upd S.sn 0 n0) 1 n1, sc := upd (upd S.sc 0 n0) 1 n1 } : FS) C (.slice a l.length cap))) := by
  have h := Blk.setCells [(.slice (some (Ad G1 0)) n1 n1)] 22 u1 _ HFB.out; exact Zab h
 have HRD := Zab (Zbs (V := B) (fun g e h => by have := HRB.out g e h; omega) [(.slice (some (Ad G1 0)) n1 n1)] 22 u1 HRD.out); have HG1 := Zab (Blk.farCells (show G1 ≠ B by omega) [(.slice (some (Ad G1 0)) n1 n1)] 22 u1 HG1.out); have HG0 := Zab (Blk.farCells (show G0 ≠ B by omega) [(.slice (some (Ad G1 0)) n1 n1)] 22 u1 HG0.out); have e9 : u1.setCell (Ad B 22) (.slice (some (Ad G1 0)) n1 n1) = u1.setCells B 22 [(.slice (some (Ad G1 0)) n1 n1)] := rfl; rw [e9]; clear e9; generalize u1.setCells B 22 [(.slice (some (Ad G1 0)) n1 n1)] = u2 at HS2 HFB HRD HG1 HG0 ⊢; refine hK.out _ _ HS2.out (fun _ => ?_); clear hK K; (try simp only [Act.put]); clear HS1; refine wpAnyH_done (by kernel_rfl) ?_ _; go_simp; have HB := HS2; clear HS2; generalize u2 = x1 at HB HFB HRD HG1 HG0 ⊢; clear HX0; refine Zbd (by assumption) ?_; have f0 : x1.cell? (Ad B 22) = some (.slice (some (Ad G1 0)) n1 n1) := (HFB.out.cell (j := 22) rfl).1
 go_wp2_with (refine isCopy _ _ _ _ rfl ?_; refine Zev rfl (.tmp 56) (.tmp 57) 35 35 rfl 116 underlying35 3 infoS3 G1 0 n1 n1 p1 (S.sc 1) rfl rfl (svL (sv 1)) (by rw [Zec, hn1]) (vls_src (by omega) (HV1.out.later HB.out)) (HG1.out.there (by rw [Zec, hn1, made_len]; omega)) (svL_one _) ?_); clear f0
 have HG1 : Hid (Blk 116 (World.setCells x1 G1 0 (svL (sv 1))) G1 (svL (sv 1))) := by
  have h := Blk.setCells (svL (sv 1)) 0 x1 _ HG1.out; rw [putL_all _ _ (by rw [Zec, hn1, made_len])] at h; exact Zab h
 have HFB := Zab (Blk.farCells (show B ≠ G1 by omega) (svL (sv 1)) 0 x1 HFB.out); have HRD := Zab (Zbs (V := G1) (fun g e h => by have := HRB.out g e h; omega) (svL (sv 1)) 0 x1 HRD.out); have HB := Zab (Zah (svL (sv 1)) 0 x1 HB.out (show w.heap.size ≤ G1 by omega)); have HG0 := Zab (Blk.farCells (show G0 ≠ G1 by omega) (svL (sv 1)) 0 x1 HG0.out)
 have hBG1 : B < G1 := by omega
 clear hlt; generalize World.setCells x1 G1 0 (svL (sv 1)) = v2 at *; rw [rounds_succ]; go_wp2_with fail; go_ret2; refine ⟨B, ({ S with sp := upd (upd S.sp 0 (some (Ad G0 0))) 1 (some (Ad G1 0)), sn := upd (upd S.sn 0 n0) 1 n1, sc := upd (upd S.sc 0 n0) 1 n1 } : FS), a, cap, fun i => if i = 0 then G0 else G1, rfl, ⟨rfl, rfl, rfl⟩, ⟨HFB.out, HRD.out, HB.out, hBw, fun g e h => by have := HRB.out g e h; omega, fun i hi => ?_, ?_, hmany, fun b h1 _ _ _ => HB.out.block b h1⟩⟩
 · rcases (show i = 0 ∨ i = 1 by omega) with rfl | rfl
   · exact ⟨rfl, hn0.symm, HG0.out, by show w.heap.size ≤ G0; omega, by show G0 ≠ B; omega, fun g e h => by have := HRB.out g e h; show g ≠ G0; omega⟩
   · exact ⟨rfl, hn1.symm, HG1.out, by show w.heap.size ≤ G1; omega, by show G1 ≠ B; omega, fun g e h => by have := HRB.out g e h; show g ≠ G1; omega⟩
 · show G0 ≠ G1
   omega
end Go.Proofs.YtnfdfiholcelaaaGreatDoor
