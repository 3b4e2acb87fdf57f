/-
  New boxes for a bank and a vote, whatever came behind: for the walks that take what vote.Step answers into variables.
-/
import Derived.Test.YtmainmldndidhaaVoteK
import Derived.Test.YtmainmldndidhaaVOpenF
namespace Go.Proofs.Ytmainmldndidhaa
open Go.RowKit Plain

def NBk (K : Nat) (w : World) (N : Nat) : Prop := BankAt w N zI zB 0 ∧ Frz w N 7 ∧ K < N
def NVt (K : Nat) (w : World) (N : Nat) : Prop := RuleAt w N 0 0 ∧ Frz w N 2 ∧ K < N
theorem NBk.later {K : Nat} {w w' : World} {N : Nat} (h : NBk K w N) (hb : Below w.heap.size w w') : NBk K w' N := ⟨h.1.later hb, h.2.1.later hb, h.2.2⟩
theorem NVt.later {K : Nat} {w w' : World} {N : Nat} (h : NVt K w N) (hb : Below w.heap.size w w') : NVt K w' N := ⟨h.1.later hb, h.2.1.later hb, h.2.2⟩
theorem nbk_new {K : Nat} {X : World} (hK : K < X.heap.size) : NBk K (X.alloc (.cells #[.int .i64 0, .int .i64 0, .int .i64 0, .bool false, .bool false, .bool false, .int .i64 0] 46)) X.heap.size :=
  ⟨⟨by simp [go_sem, zI], by simp [go_sem, zI], by simp [go_sem, zI], by simp [go_sem, zB], by simp [go_sem, zB], by simp [go_sem, zB], by simp [go_sem]⟩, Frz.new, hK⟩
theorem nvt_new {K : Nat} {X : World} (hK : K < X.heap.size) : NVt K (X.alloc (.cells #[.int .i64 0, .int .i64 0] 50)) X.heap.size :=
  ⟨⟨by simp [go_sem], by simp [go_sem]⟩, Frz.new, hK⟩

/-- What VoteRuns works on: the rule's box, the bank's, and the frames. -/
def VR (w0 w : World) (Q : Nat) (b : Nat → Int) (o : Nat → Bool) (l m c : Int) (a : Option Addr) (A : Nat → Option Addr) (L : Nat → List (Bool × Int)) (C : Nat → Nat) (len : Nat) : Prop :=
  (BankAt w Q b o l ∧ Frz w Q 7) ∧ RuleAt w w0.heap.size m c ∧ FLst w a A L C len ∧ Below w0.heap.size w0 w ∧ w0.heap.size < Q
theorem VR.later {w0 w w' : World} {Q : Nat} {b o l m c a A L C len} (h : VR w0 w Q b o l m c a A L C len) (hb : Below w.heap.size w w') : VR w0 w' Q b o l m c a A L C len :=
  ⟨⟨h.1.1.later hb, h.1.2.later hb⟩, h.2.1.later hb, h.2.2.1.later hb, vbelow_up h.2.2.2.1 hb, h.2.2.2.2⟩

end Go.Proofs.Ytmainmldndidhaa
