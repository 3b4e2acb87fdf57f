
import Derived.Test.YtnfdfiholcelaaaGreatDoorJa00
import Derived.Test.YtnfdfiholcelaaaGreatDoorJa25
import Derived.Test.YtnfdfiholcelaaaGreatDoorJa29
import Derived.Test.YtnfdfiholcelaaaGreatDoorJa30
import Derived.Test.YtnfdfiholcelaaaGreatDoorJa31
set_option maxRecDepth 100000
set_option maxHeartbeats 20000000
namespace Go.Proofs.YtnfdfiholcelaaaGreatDoor
open Go.RowKit Plain
def zBk : Bk := ⟨fun _ => 0, fun _ => false, 0⟩
def zS (S : FS) : FS := ⟨fun _ => zBk, fun _ => none, fun _ => 0, fun _ => 0, S.hd, S.n⟩
theorem pkU_map (l : List Rd) : pkU l l.length = l.map pk1 := by
 have key : ∀ k, k ≤ l.length → pkU l k = (l.take k).map pk1 := by
  intro k
  induction k with
  | zero => intro _; rfl
  | succ k ih => intro h; rw [pkU, ih (by omega), List.take_add_one, List.map_append, rat_eq (by omega)]; simp [show k < l.length by omega]
 rw [key _ (Nat.le_refl _), List.take_length]
def pkR (l : List Rd) : List Value := (l.map pk1).map (Value.int .u32)
theorem pkR_snoc (l : List Rd) (r : Rd) : pkR (l ++ [r]) = pkR l ++ [.int .u32 (pk1 r)] := by simp [pkR]
theorem infoH6 : (Tryz.prog.info? 39).map (·.size) = some 6 := by kernel_rfl
theorem st_holds (S : FS) : ((stL S).drop 23).take 6 = hdL (S.hd 0) ++ hdL (S.hd 1) := rfl
theorem isLoadH2 {P : Program} {ops : Array Oper} {rest : List Oper} {op : Oper} {a : Act} {w : World} {Q : Exit → Act → World → Prop} (x : Operand) (_ho : op.op = .load 39 x) (h : wpList P ops Q (op :: rest) a w) : wpList P ops Q (op :: rest) a w := h
theorem isStoreB7 {P : Program} {ops : Array Oper} {rest : List Oper} {op : Oper} {a : Act} {w : World} {Q : Exit → Act → World → Prop} (x y : Operand) (_ho : op.op = .store 33 x y) (h : wpList P ops Q (op :: rest) a w) : wpList P ops Q (op :: rest) a w := h
theorem buildSt (S : FS) (w : World) : (Instr.build 41 #[(3, Vi S.n), (2, .agg (hdL (S.hd 0) ++ hdL (S.hd 1)).toArray)]).run Tryz.prog w = .ok (.agg (stL (zS S)).toArray) w := by kernel_rfl
theorem wpList_buildSt {ops : Array Oper} {rest : List Oper} {op : Oper} {a : Act} {w : World} {Q : Exit → Act → World → Prop} (S : FS) (x y : Operand) (hgd : op.guard = none) (ho : op.op = .build 41 #[(3, x), (2, y)])
 (hx : a.eval x = Vi S.n) (hy : a.eval y = .agg (hdL (S.hd 0) ++ hdL (S.hd 1)).toArray)
 (h : wpList Tryz.prog ops Q rest (a.put op.dst (.agg (stL (zS S)).toArray)) w) : wpList Tryz.prog ops Q (op :: rest) a w :=
 wpList_plain hgd fun _ hK => by
  unfold Oper.wp execOp
  simp only [ho, List.map_toArray, List.map_cons, List.map_nil, hx, hy, Sem.run_bind, buildSt, Result.andThen_ok]; exact hK _ _ h
theorem Zin (S : FS) {i : Nat} (hi : i < 2) (p : Option Addr) (n c : Nat) : (stL S).set (21 + i) (.slice p n c) = stL { S with sp := upd S.sp i p, sn := upd S.sn i n, sc := upd S.sc i c } := by
 rcases (show i = 0 ∨ i = 1 by omega) with rfl | rfl <;> kernel_rfl
theorem at_put (f : Nat → Int) {i : Nat} (hi : i < 2) (v : Int) : [Vi (f 0), Vi (f 1)].set i (Vi v) = [Vi (upd f i v 0), Vi (upd f i v 1)] := by
 rcases (show i = 0 ∨ i = 1 by omega) with rfl | rfl <;> rfl
def bnI (C : CR) (S : FS) (l : List Rd) (i : Nat) : Bk := vbk (S.bk i) (C.a i 8) (C.a i 9) (tS l (1 + (i : Int))) (sS l (1 + (i : Int)))
def b2I (C : CR) (S : FS) (l : List Rd) : Bk := vbk (S.bk 2) C.c0 C.c1 (tS l 8) (sS l 8)
def bkX (C : CR) (S : FS) (l : List Rd) : Nat → Nat → Bk
 | 0 => upd (fun _ => zBk) 2 (b2I C S l)
 | i + 1 => upd (bkX C S l i) i (bnI C S l i)
def atX (C : CR) (S : FS) (l : List Rd) : Nat → Nat → Int
 | 0 => fun _ => 0
 | i + 1 => upd (atX C S l i) i (bnI C S l i).l
def wtU (C : CR) (l : List Rd) (i : Nat) (L : List Sv) : Nat → List Sv
 | 0 => []
 | k + 1 => wtU C l i L k ++ [wv C l i k (svAt L k)]
theorem wtU_len (C : CR) (l : List Rd) (i : Nat) (L : List Sv) : ∀ k, (wtU C l i L k).length = k
 | 0 => rfl
 | k + 1 => by rw [wtU, List.length_append, wtU_len C l i L k]; rfl
theorem wtU_wml (C : CR) (l : List Rd) (i : Nat) (L : List Sv) : wtU C l i L L.length = wml C l i L L.length := by
 have key : ∀ k, wtU C l i L k = (List.range k).map fun j => wv C l i j (svAt L j) := by
  intro k
  induction k with
  | zero => rfl
  | succ k ih => rw [wtU, ih, List.range_succ, List.map_append]; rfl
 rw [key]
 unfold wml
 apply List.map_congr_left; intro j hj; rw [if_pos (by simpa using hj)]
def sdU (C : CR) (l : List Rd) (i : Nat) (L : List Sv) : Nat → Int
 | 0 => 0
 | k + 1 => if (wv C l i k (svAt L k)).2.2 then sdU C l i L k else sdU C l i L k + 1
theorem sdU_snd (C : CR) (l : List Rd) (i : Nat) (L : List Sv) : sdU C l i L L.length = sndU (wml C l i L L.length) L.length := by
 have key : ∀ k, k ≤ L.length → sdU C l i L k = sndU (wml C l i L L.length) k := by
  intro k
  induction k with
  | zero => intro _; rfl
  | succ k ih => intro h; rw [sdU, sndU, ih (by omega), wml_get C l i L (by omega)]
 exact key _ (Nat.le_refl _)
theorem sdU_bd (C : CR) (l : List Rd) (i : Nat) (L : List Sv) : ∀ k : Nat, 0 ≤ sdU C l i L k ∧ sdU C l i L k ≤ k
 | 0 => by simp [sdU]
 | k + 1 => by have := sdU_bd C l i L k; simp only [sdU]; split <;> omega
def wsU (C : CR) (S : FS) (l : List Rd) (sv : Nat → List Sv) : Nat → Int
 | 0 => 0
 | i + 1 => mxL (wsU C S l sv i) (lawI (Zdp (bnI C S l i).o 3) (sdU C l i (sv i) (sv i).length) (C.a i 4))
theorem range3e {u : World} {b o : Nat} {x y z : Value} (h0 : u.cell? (Ad b o) = some x) (h1 : u.cell? (Ad b (o + 1)) = some y) (h2 : u.cell? (Ad b (o + 2)) = some z) : u.rangeAt b o [x, y, z] := fun j v hj => by
 match j with
 | 0 => simp at hj; subst hj; exact h0
 | 1 => simp at hj; subst hj; exact h1
 | 2 => simp at hj; subst hj; exact h2
 | j + 3 => simp at hj
theorem upd_id {α : Type} {f : Nat → α} {i : Nat} {v : α} (h : f i = v) : upd f i v = f := by
 funext j
 unfold upd
 split
 · rename_i e; rw [e, h]
 · rfl
theorem at_get (f : Nat → Int) {i : Nat} (hi : i < 2) : [Vi (f 0), Vi (f 1)][i]? = some (Vi (f i)) := by
 rcases (show i = 0 ∨ i = 1 by omega) with rfl | rfl <;> rfl
theorem Zep (S : FS) {i : Nat} (hi : i < 2) {p : Option Addr} {n c : Nat} (h : S.sp i = p ∧ S.sn i = n ∧ S.sc i = c) : (stL S)[21 + i]? = some (.slice p n c) := by rw [Zca S hi, h.1, h.2.1, h.2.2]
theorem Zeg {P : Program} {op : Oper} {a : Act} {w : World} {K : Act → World → Prop} {Q : Exit → Act → World → Prop} (ty : TypeId) (x y : Operand) (ho : op.op = .store ty x y)
 (b o : Nat) (cells : List Value) (hx : a.eval x = .pointer (some (Ad b o))) (hy : a.eval y = .agg cells.toArray)
 (ht : w.there b o cells.length) (hi : (P.info? ty).map (·.size) = some cells.length) (h1 : cells.all (·.oneCell') = true) (hd : op.dst = none)
 (h : K a (w.setCells b o cells)) : op.wp P a w K Q :=
 wp_store_mid ty x y ho b o cells.toArray hx hy (by simpa using ht) (by simpa using hi) (by simpa using h1) (by rw [hd]; exact h)
def StX (w : World) (QS oS QA : Nat) (cs ds : List Value) (u : World) : Prop := Below w.heap.size w u ∧ u.rangeAt QS oS cs ∧ u.rangeAt QA 0 ds
theorem StX.later {w u u' : World} {QS oS QA : Nat} {cs ds : List Value} (hb : Below u.heap.size u u') (h : StX w QS oS QA cs ds u) : StX w QS oS QA cs ds u' := ⟨Zac h.1 hb, Zag h.2.1 hb, Zag h.2.2 hb⟩
theorem StX.put {w u : World} {QS oS QA X : Nat} {cs ds : List Value} (hX : w.heap.size ≤ X ∧ QS ≠ X ∧ QA ≠ X) (vs : List Value) (o : Nat) (h : StX w QS oS QA cs ds u) : StX w QS oS QA cs ds (u.setCells X o vs) :=
 ⟨Zae vs o u h.1 hX.1, World.rangeAt_setCells_apart h.2.1 X o vs (.inl hX.2.1), World.rangeAt_setCells_apart h.2.2 X o vs (.inl hX.2.2)⟩
theorem StX.grew {w u u' : World} {QS oS QA : Nat} {cs ds : List Value} {row : Option Nat} (hg : u.grownBy u' row) (hr : ∀ k, row = some k → w.heap.size ≤ k ∧ QS ≠ k ∧ QA ≠ k) (h : StX w QS oS QA cs ds u) : StX w QS oS QA cs ds u' :=
 ⟨h.1.grown hg h.1.size (fun k e => (hr k e).1), fun j v hj => hg.cell (h.2.1 j v hj) (fun e => (hr _ e.symm).2.1 rfl), fun j v hj => hg.cell (h.2.2 j v hj) (fun e => (hr _ e.symm).2.2 rfl)⟩
theorem MvOK.congr {K : Nat} {wz : World} {C : CR} {S S' : FS} {l : List Rd} {sv sv' : Nat → List Sv} {i : Nat} (h : MvOK K wz C S l sv i) (h1 : S'.hd i = S.hd i) (h2 : S'.n = S.n) (h3 : sv' i = sv i) : MvOK K wz C S' l sv' i :=
 ⟨by rw [h3]; exact h.n1, by rw [h3]; exact h.n4, h.m0, h.m1, h.mc, h.line, by rw [h3]; exact h.ok, h.h4, h.h5, h.h3, h.h7, h.h6, by rw [h1, h2, h3]; exact h.ho, by rw [h3]; exact h.gm⟩
def hdX (C : CR) (S : FS) (l : List Rd) (sv : Nat → List Sv) : Nat → Nat → Int × Int × Int
 | 0 => S.hd
 | i + 1 => upd (hdX C S l sv i) i (mvH C (sS2 C S l sv) l (vS1 C l sv) i)
def svX (C : CR) (S : FS) (l : List Rd) (sv : Nat → List Sv) : Nat → Nat → List Sv
 | 0 => vS1 C l sv
 | i + 1 => upd (svX C S l sv i) i (mvS C (sS2 C S l sv) l (vS1 C l sv) i)
theorem hdX_at (C : CR) (S : FS) (l : List Rd) (sv : Nat → List Sv) {i : Nat} (hi : i < 2) : hdX C S l sv i i = S.hd i := by
 rcases (show i = 0 ∨ i = 1 by omega) with rfl | rfl
 · rfl
 · show upd S.hd 0 _ 1 = S.hd 1
   exact Zav _ _ (by omega)
theorem svX_at (C : CR) (S : FS) (l : List Rd) (sv : Nat → List Sv) {i : Nat} (hi : i < 2) : svX C S l sv i i = vS1 C l sv i := by
 rcases (show i = 0 ∨ i = 1 by omega) with rfl | rfl
 · rfl
 · show upd (vS1 C l sv) 0 _ 1 = vS1 C l sv 1
   exact Zav _ _ (by omega)
theorem vS3_at (C : CR) (S : FS) (l : List Rd) (sv : Nat → List Sv) {i : Nat} (hi : i < 2) : vS3 C S l sv i = mvS C (sS2 C S l sv) l (vS1 C l sv) i := by
 rcases (show i = 0 ∨ i = 1 by omega) with rfl | rfl
 · show upd (upd _ 0 _) 1 _ 0 = _
   rw [Zav _ _ (by omega), Zal]
 · show upd (upd _ 0 _) 1 _ 1 = _
   rw [Zal]
theorem sS1_bk (C : CR) (S : FS) (l : List Rd) {i : Nat} (hi : i < 2) : (sS1 C S l).bk i = bnI C S l i := by
 rcases (show i = 0 ∨ i = 1 by omega) with rfl | rfl <;> rfl
theorem sS2_bk (C : CR) (S : FS) (l : List Rd) (sv : Nat → List Sv) {i : Nat} (hi : i < 2) : (sS2 C S l sv).bk i = bnI C S l i := sS1_bk C S l hi
theorem sS2_bk2 (C : CR) (S : FS) (l : List Rd) (sv : Nat → List Sv) : (sS2 C S l sv).bk 2 = b2I C S l := rfl
theorem atX_two (C : CR) (S : FS) (l : List Rd) {i : Nat} (hi : i < 2) : atX C S l 2 i = (bnI C S l i).l := by
 rcases (show i = 0 ∨ i = 1 by omega) with rfl | rfl
 · show upd (upd _ 0 _) 1 _ 0 = _
   rw [Zav _ _ (by omega), Zal]
 · show upd (upd _ 0 _) 1 _ 1 = _
   rw [Zal]
theorem wsU_law (C : CR) (S : FS) (ws : List Int) (sv : Nat → List Sv) (h : stE C S sv = 0) :
 (if decide ((smp (gat rdOf ws) 40 3).2 = 1) then wsU C S (gat rdOf ws) sv 2 else mxL S.n (wsU C S (gat rdOf ws) sv 2)) = (sS2 C S (gat rdOf ws) sv).n := by
 have e0 : heM C (sS1 C S (gat rdOf ws)) (vS1 C (gat rdOf ws) sv) 0 = (Zdp (bnI C S (gat rdOf ws) 0).o 3, sdU C (gat rdOf ws) 0 (sv 0) (sv 0).length, C.a 0 4) := by
  unfold heM
  rw [sdU_snd, vS1_at C _ sv (by omega), Zgw]; have : (sS1 C S (gat rdOf ws)).bk 0 = bnI C S (gat rdOf ws) 0 := sS1_bk C S _ (by omega); rw [this]
 have e1 : heM C (sS1 C S (gat rdOf ws)) (vS1 C (gat rdOf ws) sv) 1 = (Zdp (bnI C S (gat rdOf ws) 1).o 3, sdU C (gat rdOf ws) 1 (sv 1) (sv 1).length, C.a 1 4) := by
  unfold heM
  rw [sdU_snd, vS1_at C _ sv (by omega), Zgw]; have : (sS1 C S (gat rdOf ws)).bk 1 = bnI C S (gat rdOf ws) 1 := sS1_bk C S _ (by omega); rw [this]
 have h0 := he_ok (ws := ws) h (i := 0) (by omega) (sS1 C S (gat rdOf ws)); have h1 := he_ok (ws := ws) h (i := 1) (by omega) (sS1 C S (gat rdOf ws))
 have hw : waI [heM C (sS1 C S (gat rdOf ws)) (vS1 C (gat rdOf ws) sv) 0, heM C (sS1 C S (gat rdOf ws)) (vS1 C (gat rdOf ws) sv) 1] = wsU C S (gat rdOf ws) sv 2 := by
  rw [waI_two h0 h1, e0, e1]; rfl
 have hb := waI_bd h0 h1; have hn : betw S.n 0 3 = true := clE_zero (show clE S.n = 0 from (Zbx h).2 0 (by omega))
 show _ = lwM C (sS1 C S (gat rdOf ws)) (gat rdOf ws) (vS1 C (gat rdOf ws) sv)
 unfold lwM neI
 rw [hw] at hb ⊢; rw [show (sS1 C S (gat rdOf ws)).n = S.n from rfl, hn, hb]
 rfl
theorem Zbb (b : Nat) : ∀ (vs : List Value) (o : Nat) (u : World), (u.setCells b o vs).heap.size = u.heap.size
 | [], _, _ => rfl
 | v :: r, o, u => (Zbb b r (o + 1) (u.setCell ⟨b, o, none⟩ v)).trans (World.size_setCell _ _ _)
def Av (w : World) (a : Option Addr) (l : List Rd) (QC QS QO QT QY : Nat) (T : FS) (m k : Nat) : Prop :=
 w.heap.size ≤ k ∧ QC ≠ k ∧ QS ≠ k ∧ QO ≠ k ∧ QT ≠ k ∧ QY ≠ k ∧ (∀ g, a = some (Ad g 0) → l ≠ [] → g ≠ k) ∧ ∀ j, j < m → ∀ G, T.sp j = some (Ad G 0) → G ≠ k
def zL : List Value := [Vi 0, Vi 0, Vi 0, .bool false, .bool false, .bool false, Vi 0, Vi 0, Vi 0, Vi 0, .bool false, .bool false, .bool false, Vi 0, Vi 0, Vi 0, Vi 0, .bool false, .bool false, .bool false, Vi 0, .slice none 0 0, .slice none 0 0, Vi 0, Vi 0, Vi 0, Vi 0, Vi 0, Vi 0, Vi 0]
structure SP (w u : World) (C : CR) (S : FS) (a : Option Addr) (l : List Rd) (QC QS QO QT QY : Nat) (T : FS) (av : Nat → Int) (V : Nat → List Sv) (m : Nat) : Prop where
 cr : Blk 29 u QC (crL C)
 st : Blk 41 u QS (stL S)
 out : Blk 41 u QO (stL T)
 atb : Blk 76 u QT [Vi (av 0), Vi (av 1)]
 yb : Blk 41 u QY zL
 rds : Rds u a l
 low : Below w.heap.size w u
 bd : w.heap.size ≤ QO ∧ w.heap.size ≤ QT ∧ QC ≠ QO ∧ QS ≠ QO ∧ QC ≠ QT ∧ QS ≠ QT ∧ QO ≠ QT ∧ QY ≠ QO ∧ QY ≠ QT ∧ w.heap.size ≤ QY
 far : ∀ g, a = some (Ad g 0) → l ≠ [] → g ≠ QO ∧ g ≠ QT
 sv : ∀ j, j < m → ∃ G, T.sp j = some (Ad G 0) ∧ T.sn j = (V j).length ∧ VLs u (some (Ad G 0)) (V j) ∧ G < u.heap.size ∧ G ≠ QO ∧ G ≠ QT ∧ QY < G
section
variable {w u u' : World} {C : CR} {S : FS} {a : Option Addr} {l : List Rd} {QC QS QO QT QY : Nat} {T : FS} {av : Nat → Int} {V : Nat → List Sv} {m : Nat}
theorem SP.later (h : SP w u C S a l QC QS QO QT QY T av V m) (hb : Below u.heap.size u u') : SP w u' C S a l QC QS QO QT QY T av V m :=
 ⟨h.cr.later hb, h.st.later hb, h.out.later hb, h.atb.later hb, h.yb.later hb, h.rds.later hb, Zac h.low hb, h.bd, h.far, fun j hj => (h.sv j hj).elim fun G k => ⟨G, k.1, k.2.1, k.2.2.1.later hb, Nat.lt_of_lt_of_le k.2.2.2.1 hb.size, k.2.2.2.2⟩⟩
theorem SP.avoid (h : SP w u C S a l QC QS QO QT QY T av V m) {k : Nat} (hk : u.heap.size ≤ k) : Av w a l QC QS QO QT QY T m k := by
 have h1 := h.cr.lt; have h2 := h.st.lt; have h3 := h.out.lt; have h4 := h.atb.lt; have h5 := h.low.size; have h6 := h.yb.lt; refine ⟨by omega, by omega, by omega, by omega, by omega, by omega, fun g e hl => ?_, fun j hj G e => ?_⟩
 · have := rds_lt h.rds g e hl; omega
 · obtain ⟨G', e', _, _, hG, _⟩ := h.sv j hj; rw [e'] at e; simp only [Option.some.injEq, Addr.mk.injEq] at e
   omega
theorem Av.congr {T' : FS} {k : Nat} (h : Av w a l QC QS QO QT QY T m k) (hs : ∀ j, j < m → T'.sp j = T.sp j) : Av w a l QC QS QO QT QY T' m k :=
 ⟨h.1, h.2.1, h.2.2.1, h.2.2.2.1, h.2.2.2.2.1, h.2.2.2.2.2.1, h.2.2.2.2.2.2.1, fun j hj G e => h.2.2.2.2.2.2.2 j hj G ((hs j hj).symm.trans e)⟩
theorem SP.putO (h : SP w u C S a l QC QS QO QT QY T av V m) (T' : FS) (vs : List Value) (o : Nat) (he : putL (stL T) o vs = stL T') (hs : ∀ j, j < m → T'.sp j = T.sp j ∧ T'.sn j = T.sn j) : SP w (u.setCells QO o vs) C S a l QC QS QO QT QY T' av V m :=
 ⟨Blk.farCells h.bd.2.2.1 vs o u h.cr, Blk.farCells h.bd.2.2.2.1 vs o u h.st, he ▸ Blk.setCells vs o u _ h.out, Blk.farCells (fun e => h.bd.2.2.2.2.2.2.1 e.symm) vs o u h.atb, Blk.farCells h.bd.2.2.2.2.2.2.2.1 vs o u h.yb, Zbg (fun g e hl => (h.far g e hl).1) vs o u h.rds, Zae vs o u h.low h.bd.1, h.bd, h.far,
  fun j hj => (h.sv j hj).elim fun G k => ⟨G, (hs j hj).1.trans k.1, (hs j hj).2.trans k.2.1, Zcf k.2.2.2.2.1 vs o k.2.2.1, by rw [Zbb]; exact k.2.2.2.1, k.2.2.2.2⟩⟩
theorem SP.putT (h : SP w u C S a l QC QS QO QT QY T av V m) (av' : Nat → Int) (vs : List Value) (o : Nat) (he : putL [Vi (av 0), Vi (av 1)] o vs = [Vi (av' 0), Vi (av' 1)]) : SP w (u.setCells QT o vs) C S a l QC QS QO QT QY T av' V m :=
 ⟨Blk.farCells h.bd.2.2.2.2.1 vs o u h.cr, Blk.farCells h.bd.2.2.2.2.2.1 vs o u h.st, Blk.farCells h.bd.2.2.2.2.2.2.1 vs o u h.out, he ▸ Blk.setCells vs o u _ h.atb, Blk.farCells h.bd.2.2.2.2.2.2.2.2.1 vs o u h.yb, Zbg (fun g e hl => (h.far g e hl).2) vs o u h.rds, Zae vs o u h.low h.bd.2.1, h.bd, h.far,
  fun j hj => (h.sv j hj).elim fun G k => ⟨G, k.1, k.2.1, Zcf k.2.2.2.2.2.1 vs o k.2.2.1, by rw [Zbb]; exact k.2.2.2.1, k.2.2.2.2⟩⟩
theorem SP.farCells {X : Nat} (h : SP w u C S a l QC QS QO QT QY T av V m) (hX : Av w a l QC QS QO QT QY T m X) (vs : List Value) (o : Nat) : SP w (u.setCells X o vs) C S a l QC QS QO QT QY T av V m :=
 ⟨Blk.farCells hX.2.1 vs o u h.cr, Blk.farCells hX.2.2.1 vs o u h.st, Blk.farCells hX.2.2.2.1 vs o u h.out, Blk.farCells hX.2.2.2.2.1 vs o u h.atb, Blk.farCells hX.2.2.2.2.2.1 vs o u h.yb, Zbg hX.2.2.2.2.2.2.1 vs o u h.rds, Zae vs o u h.low hX.1, h.bd, h.far,
  fun j hj => (h.sv j hj).elim fun G k => ⟨G, k.1, k.2.1, Zcf (hX.2.2.2.2.2.2.2 j hj G k.1) vs o k.2.2.1, by rw [Zbb]; exact k.2.2.2.1, k.2.2.2.2⟩⟩
theorem SP.putS (h : SP w u C S a l QC QS QO QT QY T av V m) {i : Nat} (hi : i < 2) (g n c : Nat) (L : List Sv) (hn : n = L.length) (hv : VLs u (some (Ad g 0)) L) (hg : g < u.heap.size ∧ g ≠ QO ∧ g ≠ QT ∧ QY < g) :
 SP w (u.setCells QO (21 + i) [.slice (some (Ad g 0)) n c]) C S a l QC QS QO QT QY { T with sp := upd T.sp i (some (Ad g 0)), sn := upd T.sn i n, sc := upd T.sc i c } av (upd V i L) m :=
 ⟨Blk.farCells h.bd.2.2.1 _ _ u h.cr, Blk.farCells h.bd.2.2.2.1 _ _ u h.st, Zin T hi (some (Ad g 0)) n c ▸ Blk.setCells [.slice (some (Ad g 0)) n c] (21 + i) u _ h.out, Blk.farCells (fun e => h.bd.2.2.2.2.2.2.1 e.symm) _ _ u h.atb, Blk.farCells h.bd.2.2.2.2.2.2.2.1 _ _ u h.yb, Zbg (fun g e hl => (h.far g e hl).1) _ _ u h.rds, Zae _ _ u h.low h.bd.1, h.bd, h.far,
  fun j hj => by
   by_cases e : j = i
   · subst e; refine ⟨g, Zal _ _ _, ?_, ?_, by rw [Zbb]; exact hg.1, hg.2⟩
     · show upd T.sn j n j = (upd V j L j).length
       rw [Zal, Zal, hn]
     · rw [Zal]; exact Zcf hg.2.1 _ _ hv
   · obtain ⟨G, k⟩ := h.sv j hj; refine ⟨G, ?_, ?_, ?_, by rw [Zbb]; exact k.2.2.2.1, k.2.2.2.2⟩
     · show upd T.sp i _ j = _
       rw [Zav _ _ e]; exact k.1
     · show upd T.sn i n j = (upd V i L j).length
       rw [Zav _ _ e, Zav _ _ e]; exact k.2.1
     · rw [Zav _ _ e]
       exact Zcf k.2.2.2.2.1 _ _ k.2.2.1⟩
theorem SP.servoAt (h : SP w u C S a l QC QS QO QT QY T av V m) {i g : Nat} {L : List Sv} (hi : i < m) (hp : T.sp i = some (Ad g 0)) (hL : V i = L) {k : Nat} (hk : k < L.length) : u.cell? (Ad g (k * 3)) = some (Vi (svAt L k).1) ∧ u.cell? (Ad g (k * 3 + 2)) = some (.bool (svAt L k).2.2) := by
 obtain ⟨G, g1, _, g3, _⟩ := h.sv i hi; rw [hp] at g1; rw [hL, ← g1] at g3; obtain ⟨b, off, e, c0, _, c2⟩ := g3.at hk; simp only [Option.some.injEq, Addr.mk.injEq] at e; obtain ⟨rfl, rfl, _⟩ := e; rw [Nat.zero_add] at c0 c2; exact ⟨c0, c2⟩
theorem Av.put {i g q : Nat} {p : Option Addr} (h : Av w a l QC QS QO QT QY T m q) (hp : p = some (Ad g 0)) (hg : q < g) (T' : FS) (hT : T'.sp = upd T.sp i p) : Av w a l QC QS QO QT QY T' m q :=
 ⟨h.1, h.2.1, h.2.2.1, h.2.2.2.1, h.2.2.2.2.1, h.2.2.2.2.2.1, h.2.2.2.2.2.2.1, fun j hj G e => by
  rw [hT] at e
  by_cases ej : j = i
  · subst ej; rw [Zal, hp] at e; simp only [Option.some.injEq, Addr.mk.injEq] at e
    omega
  · rw [Zav _ _ ej] at e
    exact h.2.2.2.2.2.2.2 j hj G e⟩
theorem Blk.grew {t : TypeId} {B : Nat} {cs : List Value} {row : Option Nat} (h : Blk t u B cs) (hg : u.grownBy u' row) (hr : some B ≠ row) : Blk t u' B cs := (hg.block B h.lt hr).trans h
theorem vls_lt {G : Nat} {L : List Sv} (h : VLs u (some (Ad G 0)) L) (hl : 1 ≤ L.length) : G < u.heap.size := by
 obtain ⟨b, off, e, c, _⟩ := h.at (k := 0) hl; simp only [Option.some.injEq, Addr.mk.injEq] at e; have := World.block_lt_of_cell? u _ c
 simp at this
 omega
theorem ownc_far {P base : Nat} {e : TypeId} {size : Nat} {v : Value} {n : Nat} {xs : List Value} : ∀ (vs : List Value) (o : Nat) {u : World}, u.ownsRow base e size v n xs → some P ≠ v.ownBlock → (u.setCells P o vs).ownsRow base e size v n xs
 | [], _, _, h, _ => h
 | _ :: r, o, _, h, hP => ownc_far r (o + 1) (Zio h hP) hP
theorem rds_grown {row : Option Nat} (h : Rds u a l) (hg : u.grownBy u' row) (hr : ∀ g, a = some (Ad g 0) → l ≠ [] → some g ≠ row) : Rds u' a l := by
 rcases h with h | ⟨g, e, hc⟩
 · exact .inl h
 · refine .inr ⟨g, e, fun k hk => ?_⟩; have hn := hr g e (fun h => by subst h; simp at hk); have c := hc k hk; exact ⟨hg.cell c.1 hn, hg.cell c.2.1 hn, hg.cell c.2.2.1 hn, hg.cell c.2.2.2 hn⟩
theorem vls_grown {row : Option Nat} {G : Nat} {L : List Sv} (h : VLs u (some (Ad G 0)) L) (hg : u.grownBy u' row) (hr : some G ≠ row) : VLs u' (some (Ad G 0)) L := by
 rcases h with h | ⟨b, off, e, hc⟩
 · exact .inl h
 · simp only [Option.some.injEq, Addr.mk.injEq] at e; obtain ⟨rfl, rfl, _⟩ := e; exact .inr ⟨G, 0, rfl, fun k hk => ⟨hg.cell (hc k hk).1 hr, hg.cell (hc k hk).2.1 hr, hg.cell (hc k hk).2.2 hr⟩⟩
theorem SP.grown {row : Option Nat} (h : SP w u C S a l QC QS QO QT QY T av V m) (hg : u.grownBy u' row) (hr : ∀ k, row = some k → Av w a l QC QS QO QT QY T m k) : SP w u' C S a l QC QS QO QT QY T av V m :=
 ⟨h.cr.grew hg (fun e => (hr _ e.symm).2.1 rfl), h.st.grew hg (fun e => (hr _ e.symm).2.2.1 rfl), h.out.grew hg (fun e => (hr _ e.symm).2.2.2.1 rfl), h.atb.grew hg (fun e => (hr _ e.symm).2.2.2.2.1 rfl), h.yb.grew hg (fun e => (hr _ e.symm).2.2.2.2.2.1 rfl), rds_grown h.rds hg (fun g e hl e' => (hr _ e'.symm).2.2.2.2.2.2.1 g e hl rfl), h.low.grown hg h.low.size (fun k e => (hr k e).1), h.bd, h.far,
  fun j hj => (h.sv j hj).elim fun G k => ⟨G, k.1, k.2.1, vls_grown k.2.2.1 hg (fun e => (hr _ e.symm).2.2.2.2.2.2.2 j hj G k.1 rfl), Nat.lt_of_lt_of_le k.2.2.2.1 hg.size, k.2.2.2.2⟩⟩
end
theorem res_stepped (tmps : Array Value) (U : World) (Y : Nat) (cs : List Value) (x : Value) (h6 : tmps.getD 6 undef = .pointer (some (Ad Y 0))) (h7 : tmps.getD 7 undef = x) (hR : U.rangeAt Y 0 cs) (hn : cs.length = 30) :
 (results Tryz.f15 tmps).run Tryz.prog U = .ok (.tuple #[.agg cs.toArray, x]) U := by
 have h3 : tmps[6]?.getD undef = .pointer (some (Ad Y 0)) := by simpa using h6
 have h4 : tmps[7]?.getD undef = x := by simpa using h7
 simp [results, Tryz.results15, h3, h4, asAddr, run_loadVar_mid U Y 0 41 cs _ hR Tryz.underlying41 rfl (by rw [Zbe, hn])]
end Go.Proofs.YtnfdfiholcelaaaGreatDoor
