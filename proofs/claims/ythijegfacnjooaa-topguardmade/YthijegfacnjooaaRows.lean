/-
  No cell of these rows narrows 'for every input' (looked for: loops, veiled, ifaces, maps, wideKeys, modest, calm, conditions, laid).
  DERIVED. THE GIVEN ROWS OF THIS SEAT. 7 by the template 'for every input the law returns true; each argument reads behind the call as it read before'; 0 by the template 'total and deterministic' (their statements: YthijegfacnjooaaTotals.lean).
  GIVEN WITH THE SEED: the statements are not yours to turn. If you find one false, say at which input.
  Laid BY PROGRAM, IN A SANDBOX (cutbox-rows.mjs): the forced cells as the released guide's own fill.sh prints them over the translation d808e0565c45cd98… (all of the seat's roots in one cut). By AI agents, Wed Nov 11 2026. No macro, syntax, notation, axiom, sorry.
-/
import Derived.Test.YthijegfacnjooaaChecked
import GoSem.Claim
import GoSem.ClaimJoined
import GoSem.ClaimMapViews
import Derived.JoinedTies
import Derived.KernelRfl
namespace Go.Proofs.Ythijegfacnjooaa
/- THE CELL 'sum', in the pinned program and in every row, IS THE sha256 OF THE DUMP (.gsa) THAT YthijegfacnjooaaProg.lean LOADS. Nothing in Lean hashes anything: it is a label: what it is worth is what the hold of that sum in a sandbox is worth. -/
noncomputable def Try.pinned : Pinned := { name := "ythijegfacnjooaa", sum := "d808e0565c45cd9812c875b522ed49b8816b768836d5cf95de977e258fe0b8ea", checked := Try.checked }
namespace Rows
def none {H : Type} : Left H := { results := [], args := [] }

/-- 'fulmartop.TopVote': WHATEVER THE INPUT: true; the input reads as it did. -/
def topVoteSpec : ChangeSpec := { name := "topVote", fn := fun _ => fun
  | [d1, d2, d3, d4] => { results := [.lit (.bool true)], args := [d1, d2, d3, d4] }
  | _ => none }
def topVoteRow : OpenClaim := { program := "ythijegfacnjooaa", sum := "d808e0565c45cd9812c875b522ed49b8816b768836d5cf95de977e258fe0b8ea", func := "fulmar/fulmartop.TopVote", spec := "topVote", recurses := true, apart := false }
def TopVoteSaid : Prop := topVoteRow.holds Try.pinned (OpenSpec.ofChange topVoteSpec)

/-- ITS FALSE NEIGHBOUR: 'it returns false'. Refute it at one input. -/
def topVoteWrong : ChangeSpec := { name := "topVote", fn := fun _ => fun
  | [d1, d2, d3, d4] => { results := [.lit (.bool false)], args := [d1, d2, d3, d4] }
  | _ => none }
def TopVoteWrongFalsely : Prop := topVoteRow.holds Try.pinned (OpenSpec.ofChange topVoteWrong)

/-- 'fulmartop.TopServo': WHATEVER THE INPUT: true; the input reads as it did. -/
def topServoSpec : ChangeSpec := { name := "topServo", fn := fun _ => fun
  | [d1, d2, d3] => { results := [.lit (.bool true)], args := [d1, d2, d3] }
  | _ => none }
def topServoRow : OpenClaim := { program := "ythijegfacnjooaa", sum := "d808e0565c45cd9812c875b522ed49b8816b768836d5cf95de977e258fe0b8ea", func := "fulmar/fulmartop.TopServo", spec := "topServo", apart := false }
def TopServoSaid : Prop := topServoRow.holds Try.pinned (OpenSpec.ofChange topServoSpec)

/-- ITS FALSE NEIGHBOUR: 'it returns false'. Refute it at one input. -/
def topServoWrong : ChangeSpec := { name := "topServo", fn := fun _ => fun
  | [d1, d2, d3] => { results := [.lit (.bool false)], args := [d1, d2, d3] }
  | _ => none }
def TopServoWrongFalsely : Prop := topServoRow.holds Try.pinned (OpenSpec.ofChange topServoWrong)

/-- 'fulmartop.TopShare': WHATEVER THE INPUT: true; the input reads as it did. -/
def topShareSpec : ChangeSpec := { name := "topShare", fn := fun _ => fun
  | [d1, d2, d3] => { results := [.lit (.bool true)], args := [d1, d2, d3] }
  | _ => none }
def topShareRow : OpenClaim := { program := "ythijegfacnjooaa", sum := "d808e0565c45cd9812c875b522ed49b8816b768836d5cf95de977e258fe0b8ea", func := "fulmar/fulmartop.TopShare", spec := "topShare", unfollowed := true, recurses := true, apart := false }
def TopShareSaid : Prop := topShareRow.holds Try.pinned (OpenSpec.ofChange topShareSpec)

/-- ITS FALSE NEIGHBOUR: 'it returns false'. Refute it at one input. -/
def topShareWrong : ChangeSpec := { name := "topShare", fn := fun _ => fun
  | [d1, d2, d3] => { results := [.lit (.bool false)], args := [d1, d2, d3] }
  | _ => none }
def TopShareWrongFalsely : Prop := topShareRow.holds Try.pinned (OpenSpec.ofChange topShareWrong)

/-- 'fulmartop.TopGuard': WHATEVER THE INPUT: true; the input reads as it did. -/
def topGuardSpec : ChangeSpec := { name := "topGuard", fn := fun _ => fun
  | [d1, d2, d3] => { results := [.lit (.bool true)], args := [d1, d2, d3] }
  | _ => none }
def topGuardRow : OpenClaim := { program := "ythijegfacnjooaa", sum := "d808e0565c45cd9812c875b522ed49b8816b768836d5cf95de977e258fe0b8ea", func := "fulmar/fulmartop.TopGuard", spec := "topGuard", unfollowed := true, recurses := true, apart := false }
def TopGuardSaid : Prop := topGuardRow.holds Try.pinned (OpenSpec.ofChange topGuardSpec)

/-- ITS FALSE NEIGHBOUR: 'it returns false'. Refute it at one input. -/
def topGuardWrong : ChangeSpec := { name := "topGuard", fn := fun _ => fun
  | [d1, d2, d3] => { results := [.lit (.bool false)], args := [d1, d2, d3] }
  | _ => none }
def TopGuardWrongFalsely : Prop := topGuardRow.holds Try.pinned (OpenSpec.ofChange topGuardWrong)

/-- 'fulmartop.TopGuardMade': WHATEVER THE INPUT: true; the input reads as it did. -/
def topGuardMadeSpec : ChangeSpec := { name := "topGuardMade", fn := fun _ => fun
  | [d1, d2, d3, d4] => { results := [.lit (.bool true)], args := [d1, d2, d3, d4] }
  | _ => none }
def topGuardMadeRow : OpenClaim := { program := "ythijegfacnjooaa", sum := "d808e0565c45cd9812c875b522ed49b8816b768836d5cf95de977e258fe0b8ea", func := "fulmar/fulmartop.TopGuardMade", spec := "topGuardMade", unfollowed := true, recurses := true, apart := false }
def TopGuardMadeSaid : Prop := topGuardMadeRow.holds Try.pinned (OpenSpec.ofChange topGuardMadeSpec)

/-- ITS FALSE NEIGHBOUR: 'it returns false'. Refute it at one input. -/
def topGuardMadeWrong : ChangeSpec := { name := "topGuardMade", fn := fun _ => fun
  | [d1, d2, d3, d4] => { results := [.lit (.bool false)], args := [d1, d2, d3, d4] }
  | _ => none }
def TopGuardMadeWrongFalsely : Prop := topGuardMadeRow.holds Try.pinned (OpenSpec.ofChange topGuardMadeWrong)

/-- 'fulmartop.TopFree': WHATEVER THE INPUT: true; the input reads as it did. -/
def topFreeSpec : ChangeSpec := { name := "topFree", fn := fun _ => fun
  | [d1, d2, d3, d4] => { results := [.lit (.bool true)], args := [d1, d2, d3, d4] }
  | _ => none }
def topFreeRow : OpenClaim := { program := "ythijegfacnjooaa", sum := "d808e0565c45cd9812c875b522ed49b8816b768836d5cf95de977e258fe0b8ea", func := "fulmar/fulmartop.TopFree", spec := "topFree", unfollowed := true, recurses := true, apart := false }
def TopFreeSaid : Prop := topFreeRow.holds Try.pinned (OpenSpec.ofChange topFreeSpec)

/-- ITS FALSE NEIGHBOUR: 'it returns false'. Refute it at one input. -/
def topFreeWrong : ChangeSpec := { name := "topFree", fn := fun _ => fun
  | [d1, d2, d3, d4] => { results := [.lit (.bool false)], args := [d1, d2, d3, d4] }
  | _ => none }
def TopFreeWrongFalsely : Prop := topFreeRow.holds Try.pinned (OpenSpec.ofChange topFreeWrong)

/-- 'fulmartop.TopHold': WHATEVER THE INPUT: true; the input reads as it did. -/
def topHoldSpec : ChangeSpec := { name := "topHold", fn := fun _ => fun
  | [d1, d2, d3] => { results := [.lit (.bool true)], args := [d1, d2, d3] }
  | _ => none }
def topHoldRow : OpenClaim := { program := "ythijegfacnjooaa", sum := "d808e0565c45cd9812c875b522ed49b8816b768836d5cf95de977e258fe0b8ea", func := "fulmar/fulmartop.TopHold", spec := "topHold", unfollowed := true, recurses := true, apart := false }
def TopHoldSaid : Prop := topHoldRow.holds Try.pinned (OpenSpec.ofChange topHoldSpec)

/-- ITS FALSE NEIGHBOUR: 'it returns false'. Refute it at one input. -/
def topHoldWrong : ChangeSpec := { name := "topHold", fn := fun _ => fun
  | [d1, d2, d3] => { results := [.lit (.bool false)], args := [d1, d2, d3] }
  | _ => none }
def TopHoldWrongFalsely : Prop := topHoldRow.holds Try.pinned (OpenSpec.ofChange topHoldWrong)

/- THE SECOND FORM. 'bulk': how many values and letters a reading holds, each counted each time it is reached (what is shared counts as often as it is met; a slice's spare places count too). A statement '..UptoSaid' is the law's where the arguments, and the package variables that the reading takes, are together of bulk at most 1048576: NARROWER than '..Said'. Prove '..Said' where nothing that the law and all that it calls make is longer than what came in: it says more and counts as full. Else prove '..UptoSaid'. A law counts once. -/
mutual
def uptoBulk {H : Type} : DataW H → Nat
  | .lit (.string bytes) => bytes.length + 1
  | .lit _ => 1
  | .nil => 1
  | .ptr d => uptoBulk d + 1
  | .slice elems spare => uptoBulkAll elems + uptoBulkAll spare + 1
  | .agg parts => uptoBulkAll parts + 1
  | .iface _ d => uptoBulk d + 1
  | .map entries => uptoBulkEntries entries + 1
  | .held _ => 1
def uptoBulkAll {H : Type} : List (DataW H) → Nat
  | [] => 0
  | d :: r => uptoBulk d + uptoBulkAll r
def uptoBulkEntries {H : Type} : List (Lit × DataW H) → Nat
  | [] => 0
  | x :: r => uptoBulkEntry x + uptoBulkEntries r
def uptoBulkEntry {H : Type} : Lit × DataW H → Nat
  | (.string bytes, d) => bytes.length + uptoBulk d + 1
  | (_, d) => uptoBulk d + 1
 end
def uptoSmall : (H : Type) → List (DataW H) → Bool := fun _ ds => decide (uptoBulkAll ds ≤ 1048576)
def OpenSpec.upto (s : _root_.Go.ChangeSpec) : _root_.Go.OpenSpec := { _root_.Go.OpenSpec.ofChange s with cond := some uptoSmall }

/-- 'fulmartop.TopVote', WHERE WHAT IT READS IS OF BULK AT MOST 1048576: true; the input reads as it did. -/
def topVoteUptoRow : OpenClaim := { program := "ythijegfacnjooaa", sum := "d808e0565c45cd9812c875b522ed49b8816b768836d5cf95de977e258fe0b8ea", func := "fulmar/fulmartop.TopVote", spec := "topVote", recurses := true, apart := false, narrowed := true }
def TopVoteUptoSaid : Prop := topVoteUptoRow.holds Try.pinned (OpenSpec.upto topVoteSpec)

/-- 'fulmartop.TopServo', WHERE WHAT IT READS IS OF BULK AT MOST 1048576: true; the input reads as it did. -/
def topServoUptoRow : OpenClaim := { program := "ythijegfacnjooaa", sum := "d808e0565c45cd9812c875b522ed49b8816b768836d5cf95de977e258fe0b8ea", func := "fulmar/fulmartop.TopServo", spec := "topServo", apart := false, narrowed := true }
def TopServoUptoSaid : Prop := topServoUptoRow.holds Try.pinned (OpenSpec.upto topServoSpec)

/-- 'fulmartop.TopShare', WHERE WHAT IT READS IS OF BULK AT MOST 1048576: true; the input reads as it did. -/
def topShareUptoRow : OpenClaim := { program := "ythijegfacnjooaa", sum := "d808e0565c45cd9812c875b522ed49b8816b768836d5cf95de977e258fe0b8ea", func := "fulmar/fulmartop.TopShare", spec := "topShare", unfollowed := true, recurses := true, apart := false, narrowed := true }
def TopShareUptoSaid : Prop := topShareUptoRow.holds Try.pinned (OpenSpec.upto topShareSpec)

/-- 'fulmartop.TopGuard', WHERE WHAT IT READS IS OF BULK AT MOST 1048576: true; the input reads as it did. -/
def topGuardUptoRow : OpenClaim := { program := "ythijegfacnjooaa", sum := "d808e0565c45cd9812c875b522ed49b8816b768836d5cf95de977e258fe0b8ea", func := "fulmar/fulmartop.TopGuard", spec := "topGuard", unfollowed := true, recurses := true, apart := false, narrowed := true }
def TopGuardUptoSaid : Prop := topGuardUptoRow.holds Try.pinned (OpenSpec.upto topGuardSpec)

/-- 'fulmartop.TopGuardMade', WHERE WHAT IT READS IS OF BULK AT MOST 1048576: true; the input reads as it did. -/
def topGuardMadeUptoRow : OpenClaim := { program := "ythijegfacnjooaa", sum := "d808e0565c45cd9812c875b522ed49b8816b768836d5cf95de977e258fe0b8ea", func := "fulmar/fulmartop.TopGuardMade", spec := "topGuardMade", unfollowed := true, recurses := true, apart := false, narrowed := true }
def TopGuardMadeUptoSaid : Prop := topGuardMadeUptoRow.holds Try.pinned (OpenSpec.upto topGuardMadeSpec)

/-- 'fulmartop.TopFree', WHERE WHAT IT READS IS OF BULK AT MOST 1048576: true; the input reads as it did. -/
def topFreeUptoRow : OpenClaim := { program := "ythijegfacnjooaa", sum := "d808e0565c45cd9812c875b522ed49b8816b768836d5cf95de977e258fe0b8ea", func := "fulmar/fulmartop.TopFree", spec := "topFree", unfollowed := true, recurses := true, apart := false, narrowed := true }
def TopFreeUptoSaid : Prop := topFreeUptoRow.holds Try.pinned (OpenSpec.upto topFreeSpec)

/-- 'fulmartop.TopHold', WHERE WHAT IT READS IS OF BULK AT MOST 1048576: true; the input reads as it did. -/
def topHoldUptoRow : OpenClaim := { program := "ythijegfacnjooaa", sum := "d808e0565c45cd9812c875b522ed49b8816b768836d5cf95de977e258fe0b8ea", func := "fulmar/fulmartop.TopHold", spec := "topHold", unfollowed := true, recurses := true, apart := false, narrowed := true }
def TopHoldUptoSaid : Prop := topHoldUptoRow.holds Try.pinned (OpenSpec.upto topHoldSpec)

end Rows
end Go.Proofs.Ythijegfacnjooaa
