import Derived.Deep.WholeRow
import Derived.Test.YtnfdfiholcelaaaGreatDoorJp10
set_option maxRecDepth 100000
set_option maxHeartbeats 20000000
namespace Go.Proofs.YtnfdfiholcelaaaGreatDoor
open Go.RowKit Plain Tryz
theorem Ziv(x0 x1 x2 x3 x4 x5 x6 x7 x8 x9 x10 x11 x12 x13 x14 x15 x16 x17 x18 x19 x20 x21 x22 x23 x24 x25 x26 x27 x28 x29:Value)(c0 c1:Int)(w:World):Calls prog 103 #[.agg #[x0,x1,x2,x3,x4,x5,x6,x7,x8,x9,x10,x11,x12,x13,x14,x15,x16,x17,x18,x19,x20,x21,x22,x23,x24,x25,x26,x27,x28,x29,Vi c0,Vi c1]] w (Rt w (.agg #[Vi c0,Vi c1])):=by
 go_enter func103,ntmps103
 go_wp2;exact bodyPost_ret (v:=.agg #[Vi c0,Vi c1]) (by simp[results,results103,go_sem]) rfl ⟨rfl,Zc (Zb _ _) (Zb _ _)⟩
theorem rangeAt_later{u u':World}{B o:Nat}{cs:List Value}(h:u.rangeAt B o cs)(hb:Bw u u'):u'.rangeAt B o cs:=fun j v hv=>cell_later hb (h j v hv)
theorem Zt:(prog.info? 29).map (·.size)=some 32:=by kernel_rfl
theorem check1_any(x0 x1 x2 x3 x4 x5 x6 x7 x8 x9 x10 x11 x12 x13 x14 x15 x16 x17 x18 x19 x20 x21 x22 x23 x24 x25 x26 x27 x28 x29:Value)(c0 c1:Int)(B:Nat)(u:World)(h:u.rangeAt B 0 [x0,x1,x2,x3,x4,x5,x6,x7,x8,x9,x10,x11,x12,x13,x14,x15,x16,x17,x18,x19,x20,x21,x22,x23,x24,x25,x26,x27,x28,x29,Vi c0,Vi c1]):Calls prog 116 #[.pointer (some (Ad B 0))] u (Rt u (errV (Z7 c0 c1))):=by
 have HR:=Za h;clear h
 go_enter func116,ntmps116
 go_wp2_with (first
  |(refine Lm 29 (.tmp 0) rfl B 0 [x0,x1,x2,x3,x4,x5,x6,x7,x8,x9,x10,x11,x12,x13,x14,x15,x16,x17,x18,x19,x20,x21,x22,x23,x24,x25,x26,x27,x28,x29,Vi c0,Vi c1] HR.out underlying29 Zt ?_)
  |(go_at_call 103;refine Sb (Ziv x0 x1 x2 x3 x4 x5 x6 x7 x8 x9 x10 x11 x12 x13 x14 x15 x16 x17 x18 x19 x20 x21 x22 x23 x24 x25 x26 x27 x28 x29 c0 c1 _) fun w1 hb1=>?_)
  |(go_at_call 117;refine Sb (Ma c0 c1 _) fun w2 hb2=>?_))
 go_ret;exact⟨rfl,Zc hb1 hb2⟩
end Go.Proofs.YtnfdfiholcelaaaGreatDoor
