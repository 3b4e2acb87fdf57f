/-
  fulmarlaw.CraftSays: a craft with a line that is too long.
-/
import Derived.Test.YtaonbbimnenehaaDoorFccJ
import Derived.Test.YtaonbbimnenehaaDoorFccN
namespace Go.Proofs.YtaonbbimnenehaaDoor
open Go.RowKit Plain

theorem la_later {w u : World} {p q : Option Addr} {al zl : List Int} {cn : Nat} (hb : Below w.heap.size w u) (h : al.length ≤ 9223372036854775807 ∧ zl.length ≤ 9223372036854775807 ∧ al.length ≤ cn ∧ Lst w p al ∧ Lst w q zl) :
    al.length ≤ 9223372036854775807 ∧ zl.length ≤ 9223372036854775807 ∧ al.length ≤ cn ∧ Lst u p al ∧ Lst u q zl := ⟨h.1, h.2.1, h.2.2.1, h.2.2.2.1.later hb, h.2.2.2.2.later hb⟩
theorem wpList_load_midG {P : Program} {ops : Array Oper} {rest : List Oper} {op : Oper} {a : Act} {w : World} {Q : Exit → Act → World → Prop} (hw : Region.wanted op (yielded ops a.tmps) = true) (ty : TypeId) (x : Operand) (ho : op.op = .load ty x)
    (b o : Nat) (hx : a.eval x = .pointer (some ⟨b, o, none⟩)) (cs : List Value) (d : TypeDesc) (hc : w.rangeAt b o cs)
    (hu : P.underlying ty = some d) (hd : d.isRow = true) (hi : (P.info? ty).map (·.size) = some cs.length)
    (h : wpList P ops Q rest (a.put op.dst (.agg cs.toArray)) w) : wpList P ops Q (op :: rest) a w :=
  wpList_step fun K hK => by rw [if_pos hw]; exact wp_load_mid ty x ho b o hx cs d hc hu hd hi (hK _ _ h)
theorem st_ne_zs {u : World} {T G k : Nat} {cs : List Value} (h : StH u T cs) (h2 : cs[2]? = some (.int .i64 0)) (hz : ZS u (some ⟨G, 0, none⟩) k) (hk : 0 < k) : G ≠ T := by
  intro e
  subst e
  obtain ⟨b, off, hb, _, _, h3⟩ := hz.at hk
  cases hb
  have := (h.cell h2).1
  simp at h3
  rw [this] at h3
  cases h3
set_option maxRecDepth 100000 in
set_option maxHeartbeats 4000000 in
theorem craftSays_long (a0 a1 a2 a3 a4 a5 a6 a7 a8 a9 a10 a11 a14 : Int) (p q : Option Addr) (al zl : List Int) (cn cm : Nat) (b0 b1 b2 b3 b4 b5 b6 b7 b8 b9 b10 b11 b14 : Int) (r s : Option Addr) (bl yl : List Int) (dn dm : Nat) (c0 c1 : Int) (w : World) (hlong : (decide (20 < al.length) || decide (20 < zl.length) || decide (20 < bl.length) || decide (20 < yl.length)) = true) :
    Calls Tryd.prog 3 #[.agg #[.int .i64 a0, .int .i64 a1, .int .i64 a2, .int .i64 a3, .int .i64 a4, .int .i64 a5, .int .i64 a6, .int .i64 a7, .int .i64 a8, .int .i64 a9, .int .i64 a10, .int .i64 a11, .slice p al.length cn, .slice q zl.length cm, .int .i64 a14, .int .i64 b0, .int .i64 b1, .int .i64 b2, .int .i64 b3, .int .i64 b4, .int .i64 b5, .int .i64 b6, .int .i64 b7, .int .i64 b8, .int .i64 b9, .int .i64 b10, .int .i64 b11, .slice r bl.length dn, .slice s yl.length dm, .int .i64 b14, .int .i64 c0, .int .i64 c1]] w fun e w' => e = .returned (.bool true) ∧ Below w.heap.size w w' := by
  have HC0 : Hid (CrH (w.alloc (.cells #[.int .i64 a0, .int .i64 a1, .int .i64 a2, .int .i64 a3, .int .i64 a4, .int .i64 a5, .int .i64 a6, .int .i64 a7, .int .i64 a8, .int .i64 a9, .int .i64 a10, .int .i64 a11, .slice p al.length cn, .slice q zl.length cm, .int .i64 a14, .int .i64 b0, .int .i64 b1, .int .i64 b2, .int .i64 b3, .int .i64 b4, .int .i64 b5, .int .i64 b6, .int .i64 b7, .int .i64 b8, .int .i64 b9, .int .i64 b10, .int .i64 b11, .slice r bl.length dn, .slice s yl.length dm, .int .i64 b14, .int .i64 c0, .int .i64 c1] 29)) w.heap.size [.int .i64 a0, .int .i64 a1, .int .i64 a2, .int .i64 a3, .int .i64 a4, .int .i64 a5, .int .i64 a6, .int .i64 a7, .int .i64 a8, .int .i64 a9, .int .i64 a10, .int .i64 a11, .slice p al.length cn, .slice q zl.length cm, .int .i64 a14, .int .i64 b0, .int .i64 b1, .int .i64 b2, .int .i64 b3, .int .i64 b4, .int .i64 b5, .int .i64 b6, .int .i64 b7, .int .i64 b8, .int .i64 b9, .int .i64 b10, .int .i64 b11, .slice r bl.length dn, .slice s yl.length dm, .int .i64 b14, .int .i64 c0, .int .i64 c1]) := ahide (World.alloc_heap_new w _)
  have HB0 : Hid (Below w.heap.size w (w.alloc (.cells #[.int .i64 a0, .int .i64 a1, .int .i64 a2, .int .i64 a3, .int .i64 a4, .int .i64 a5, .int .i64 a6, .int .i64 a7, .int .i64 a8, .int .i64 a9, .int .i64 a10, .int .i64 a11, .slice p al.length cn, .slice q zl.length cm, .int .i64 a14, .int .i64 b0, .int .i64 b1, .int .i64 b2, .int .i64 b3, .int .i64 b4, .int .i64 b5, .int .i64 b6, .int .i64 b7, .int .i64 b8, .int .i64 b9, .int .i64 b10, .int .i64 b11, .slice r bl.length dn, .slice s yl.length dm, .int .i64 b14, .int .i64 c0, .int .i64 c1] 29))) := ahide (abelow_alloc _ _)
  have hll := longLines_any a0 a1 a2 a3 a4 a5 a6 a7 a8 a9 a10 a11 a14 p q al.length zl.length cn cm b0 b1 b2 b3 b4 b5 b6 b7 b8 b9 b10 b11 b14 r s bl.length yl.length dn dm c0 c1
  rw [hlong] at hll
  go_enter Tryd.func3, Tryd.ntmps3
  go_upto_region 1 with fail
  generalize w.alloc (.cells #[.int .i64 a0, .int .i64 a1, .int .i64 a2, .int .i64 a3, .int .i64 a4, .int .i64 a5, .int .i64 a6, .int .i64 a7, .int .i64 a8, .int .i64 a9, .int .i64 a10, .int .i64 a11, .slice p al.length cn, .slice q zl.length cm, .int .i64 a14, .int .i64 b0, .int .i64 b1, .int .i64 b2, .int .i64 b3, .int .i64 b4, .int .i64 b5, .int .i64 b6, .int .i64 b7, .int .i64 b8, .int .i64 b9, .int .i64 b10, .int .i64 b11, .slice r bl.length dn, .slice s yl.length dm, .int .i64 b14, .int .i64 c0, .int .i64 c1] 29) = w0 at *
  go_upto_region 2 with (first
    | (refine isLoadK _ rfl ?_; refine wpList_load_mid rfl 29 (.tmp 1) rfl w.heap.size 0 rfl [.int .i64 a0, .int .i64 a1, .int .i64 a2, .int .i64 a3, .int .i64 a4, .int .i64 a5, .int .i64 a6, .int .i64 a7, .int .i64 a8, .int .i64 a9, .int .i64 a10, .int .i64 a11, .slice p al.length cn, .slice q zl.length cm, .int .i64 a14, .int .i64 b0, .int .i64 b1, .int .i64 b2, .int .i64 b3, .int .i64 b4, .int .i64 b5, .int .i64 b6, .int .i64 b7, .int .i64 b8, .int .i64 b9, .int .i64 b10, .int .i64 b11, .slice r bl.length dn, .slice s yl.length dm, .int .i64 b14, .int .i64 c0, .int .i64 c1] _ HC0.out.range Tryd.underlying29 rfl infoK ?_)
    | (go_at_call 4; refine (hll _).mono ?_; rintro e w1 ⟨rfl, hb1⟩))
  clear hll
  go_wp2_with fail
  go_ret
  exact ⟨rfl, abelow_up HB0.out hb1⟩

end Go.Proofs.YtaonbbimnenehaaDoor
