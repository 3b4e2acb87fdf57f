/-
  Contracts of word.Check and fulmarref.ReadingMay: whether a reading may be.
-/
import Derived.Test.YtheihcpacpoliaaWordA
import Derived.Deep.RegionHeld3
import Derived.Deep.CutRange
namespace Go.Proofs.Ytheihcpacpoliaa
open Go.RowKit Plain

theorem below_alloc (w : World) (o : Obj) : Below w.heap.size w (w.alloc o) := (Below.refl _ _).alloc (Nat.le_refl _) o
theorem below_up {w w1 w2 : World} (h : Below w.heap.size w w1) (k : Below w1.heap.size w1 w2) : Below w.heap.size w w2 := h.trans (k.mono h.size)

/-- May a reading be? -/
def mayR (a b c d : Int) : Bool := (decide (0 ≤ a) && decide (a < 256)) && (decide (0 ≤ b) && decide (b < 4)) && (decide (0 ≤ c) && decide (c < 4)) && (decide (-262144 ≤ d) && decide (d < 262144))
theorem mayR_true {a b c d : Int} (h : mayR a b c d = true) : (0 ≤ a ∧ a < 256) ∧ (0 ≤ b ∧ b < 4) ∧ (0 ≤ c ∧ c < 4) ∧ -262144 ≤ d ∧ d < 262144 := by
  simp [mayR] at h; omega

/-- The word of a reading, its highest bit aside. -/
def bodyI (a b c d : Int) : Int := Lib.rev8 a + b * 256 + d % 524288 * 1024 + c * 536870912
/-- The word of a reading. -/
def packI (a b c d : Int) : Int := if ones (bodyI a b c d) 32 % 2 = 1 then bodyI a b c d else bodyI a b c d + 2147483648

/-- A reading lies in a box of its own, whatever came behind. -/
theorem box4 {w w' : World} {a b c d : Int} {T : TypeId} (hb : Below (w.alloc (.cells #[.int .i64 a, .int .i64 b, .int .i64 c, .int .i64 d] T)).heap.size (w.alloc (.cells #[.int .i64 a, .int .i64 b, .int .i64 c, .int .i64 d] T)) w') :
    w'.cell? ⟨w.heap.size, 0, none⟩ = some (.int .i64 a) ∧ w'.cell? ⟨w.heap.size, 1, none⟩ = some (.int .i64 b) ∧ w'.cell? ⟨w.heap.size, 2, none⟩ = some (.int .i64 c) ∧ w'.cell? ⟨w.heap.size, 3, none⟩ = some (.int .i64 d) :=
  ⟨cell_later hb (by simp [go_sem]), cell_later hb (by simp [go_sem]), cell_later hb (by simp [go_sem]), cell_later hb (by simp [go_sem])⟩

end Go.Proofs.Ytheihcpacpoliaa
