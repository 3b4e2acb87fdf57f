/-
  The contract of fulmarref.AxisMay.
-/
import Derived.Test.YtaonbbimnenehaaDoorFccG1
import Derived.Test.YtaonbbimnenehaaDoorFccG2
import Derived.Test.YtaonbbimnenehaaDoorFccG3
import Derived.Test.YtaonbbimnenehaaDoorFccG4
import Derived.Test.YtaonbbimnenehaaDoorFccG5
namespace Go.Proofs.YtaonbbimnenehaaDoor
open Go.RowKit Plain

theorem axisMay_any (a0 a1 a2 a3 a4 a5 a6 a7 a8 a9 a10 a11 a14 : Int) (p q : Option Addr) (al zl : List Int) (cn cm : Nat) (hm : al.length ≤ 9223372036854775807) (hn : zl.length ≤ 9223372036854775807) (w : World) (ha : Lst w p al) (hz : Lst w q zl) :
    Calls Tryd.prog 15 #[.agg #[.int .i64 a0, .int .i64 a1, .int .i64 a2, .int .i64 a3, .int .i64 a4, .int .i64 a5, .int .i64 a6, .int .i64 a7, .int .i64 a8, .int .i64 a9, .int .i64 a10, .int .i64 a11, .slice p al.length cn, .slice q zl.length cm, .int .i64 a14]] w fun e w' => e = .returned (.int .i64 (fstN (eAx a0 a1 a2 a3 a4 a5 a6 a7 a8 a9 a10 a11 a14 al zl) 6)) ∧ Below w.heap.size w w' := by
  by_cases hr : rgE a4 a3 = 0
  · by_cases hv : firstI [ruleE a8 a9, arE a5 a6 a7 a10] = 0
    · by_cases c1 : a8 < IntKind.i64.wrap (2 * a2)
      · exact axisMay_c0 a0 a1 a2 a3 a4 a5 a6 a7 a8 a9 a10 a11 a14 p q al zl cn cm hm hn w ha hz hr hv c1
      · by_cases c2 : 0 < a0
        · exact axisMay_c1 a0 a1 a2 a3 a4 a5 a6 a7 a8 a9 a10 a11 a14 p q al zl cn cm hm hn w ha hz hr hv c1 c2
        · by_cases c3 : a1 < 0
          · exact axisMay_c2 a0 a1 a2 a3 a4 a5 a6 a7 a8 a9 a10 a11 a14 p q al zl cn cm hm hn w ha hz hr hv c1 c2 c3
          · exact axisMay_c3 a0 a1 a2 a3 a4 a5 a6 a7 a8 a9 a10 a11 a14 p q al zl cn cm hm hn w ha hz hr hv c1 c2 c3
    · exact axisMay_v a0 a1 a2 a3 a4 a5 a6 a7 a8 a9 a10 a11 a14 p q al zl cn cm hm hn w ha hz hr hv
  · exact axisMay_bad a0 a1 a2 a3 a4 a5 a6 a7 a8 a9 a10 a11 a14 p q al zl cn cm hm hn w ha hz hr

end Go.Proofs.YtaonbbimnenehaaDoor
