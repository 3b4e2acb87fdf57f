/-
  A craft made of raw numbers: its two axes, each of which may be.
-/
import Derived.Test.YthijegfacnjooaaCraftB
namespace Go.Proofs.Ythijegfacnjooaa
open Go.RowKit Plain

theorem craft_two (a : Option Addr) (l : List Int) (cap : Nat) (hl : l.length ≤ 100) (w : World) (hil : ILs w a l) :
    Calls Try.prog 20 #[.slice a l.length cap] w fun e w' => (∃ (a0 a1 a2 a3 a4 a5 a6 a7 a8 a9 a10 a11 a14 b0 b1 b2 b3 b4 b5 b6 b7 b8 b9 b10 b11 b14 : Int) (ga gi gb gj y z : Value), e = .returned (.agg #[.int .i64 a0, .int .i64 a1, .int .i64 a2, .int .i64 a3, .int .i64 a4, .int .i64 a5, .int .i64 a6, .int .i64 a7, .int .i64 a8, .int .i64 a9, .int .i64 a10, .int .i64 a11, ga, gi, .int .i64 a14, .int .i64 b0, .int .i64 b1, .int .i64 b2, .int .i64 b3, .int .i64 b4, .int .i64 b5, .int .i64 b6, .int .i64 b7, .int .i64 b8, .int .i64 b9, .int .i64 b10, .int .i64 b11, gb, gj, .int .i64 b14, y, z]) ∧ AxOK a0 a1 a2 a3 a4 a5 a6 a7 a10 ∧ AxOK b0 b1 b2 b3 b4 b5 b6 b7 b10) ∧ Below w.heap.size w w' := by
  refine (craftFrom_any a l cap hl w hil).mono ?_
  rintro e w' ⟨⟨v, rfl, ⟨a0, a1, a2, a3, a4, a5, a6, a7, a8, a9, a10, a11, a14, p, q, m1, m2, k1, k2, ⟨h0, h1, h2, h3, h4, h5, h6, h7, h8, h9, h10, h11, h12, h13, h14⟩, hax⟩, ⟨b0, b1, b2, b3, b4, b5, b6, b7, b8, b9, b10, b11, b14, p', q', m1', m2', k1', k2', ⟨g0, g1, g2, g3, g4, g5, g6, g7, g8, g9, g10, g11, g12, g13, g14⟩, hbx⟩, _⟩, hb⟩
  refine ⟨⟨a0, a1, a2, a3, a4, a5, a6, a7, a8, a9, a10, a11, a14, b0, b1, b2, b3, b4, b5, b6, b7, b8, b9, b10, b11, b14, v 12, v 13, v 27, v 28, v 30, v 31, ?_, hax, hbx⟩, hb⟩
  simp only [Nat.zero_add, Nat.reduceAdd] at h0 h1 h2 h3 h4 h5 h6 h7 h8 h9 h10 h11 h12 h13 h14 g0 g1 g2 g3 g4 g5 g6 g7 g8 g9 g10 g11 g12 g13 g14
  rw [h0, h1, h2, h3, h4, h5, h6, h7, h8, h9, h10, h11, h14, g0, g1, g2, g3, g4, g5, g6, g7, g8, g9, g10, g11, g14]
theorem fld_axes (x0 x1 x2 x3 x4 x5 x6 x7 x8 x9 x10 x11 x12 x13 x14 x15 x16 x17 x18 x19 x20 x21 x22 x23 x24 x25 x26 x27 x28 x29 x30 x31 : Value) (w : World) : (Instr.field 68 (.agg #[x0, x1, x2, x3, x4, x5, x6, x7, x8, x9, x10, x11, x12, x13, x14, x15, x16, x17, x18, x19, x20, x21, x22, x23, x24, x25, x26, x27, x28, x29, x30, x31]) 0).run Try.prog w = .ok (.agg #[x0, x1, x2, x3, x4, x5, x6, x7, x8, x9, x10, x11, x12, x13, x14, x15, x16, x17, x18, x19, x20, x21, x22, x23, x24, x25, x26, x27, x28, x29]) w := by kernel_rfl
theorem idx_first (x0 x1 x2 x3 x4 x5 x6 x7 x8 x9 x10 x11 x12 x13 x14 x15 x16 x17 x18 x19 x20 x21 x22 x23 x24 x25 x26 x27 x28 x29 : Value) (w : World) : (Instr.index 66 (.agg #[x0, x1, x2, x3, x4, x5, x6, x7, x8, x9, x10, x11, x12, x13, x14, x15, x16, x17, x18, x19, x20, x21, x22, x23, x24, x25, x26, x27, x28, x29]) (.int .i64 0)).run Try.prog w = .ok (.agg #[x0, x1, x2, x3, x4, x5, x6, x7, x8, x9, x10, x11, x12, x13, x14]) w := by kernel_rfl
theorem idx_second (x0 x1 x2 x3 x4 x5 x6 x7 x8 x9 x10 x11 x12 x13 x14 x15 x16 x17 x18 x19 x20 x21 x22 x23 x24 x25 x26 x27 x28 x29 : Value) (w : World) : (Instr.index 66 (.agg #[x0, x1, x2, x3, x4, x5, x6, x7, x8, x9, x10, x11, x12, x13, x14, x15, x16, x17, x18, x19, x20, x21, x22, x23, x24, x25, x26, x27, x28, x29]) (.int .i64 1)).run Try.prog w = .ok (.agg #[x15, x16, x17, x18, x19, x20, x21, x22, x23, x24, x25, x26, x27, x28, x29]) w := by kernel_rfl
/-- The surfaces' rule of an axis that may be, may be. -/
theorem ax_arB {a0 a1 a2 a3 a4 a5 a6 a7 a10 : Int} (h : AxOK a0 a1 a2 a3 a4 a5 a6 a7 a10) : arB a5 a6 a7 a10 = true := by
  have h1 := h.t0; have h2 := h.t1; have h3 := h.r0; have h4 := h.r1; have h5 := h.k0; have h6 := h.k1; have h7 := h.w0; have h8 := h.w1
  simp only [arB, Bool.and_eq_true]
  exact ⟨⟨⟨betw_mk h1 h2, betw_mk h3 h4⟩, betw_mk h5 h6⟩, betw_mk h7 h8⟩
/-- New dice. -/
theorem dice_new {w : World} {a : Option Addr} {l : List Int} {cap : Nat} (hil : ILs w a l) : Dc (w.alloc (.cells #[.slice a l.length cap, .int .i64 0] 60)) w.heap.size a l cap 0 :=
  ⟨⟨by simp [go_sem], by simp [go_sem]⟩, by simp [go_sem], hil.later (abelow_alloc _ _), fun b off e hne => Nat.ne_of_lt (raw_of hil b off e hne)⟩

end Go.Proofs.Ythijegfacnjooaa
