/-
  No cell of these rows narrows 'for every input' (looked for: loops, veiled, ifaces, maps, wideKeys, modest, calm, conditions, laid).
  DERIVED. THE GIVEN ROWS OF THIS SEAT. 5 by the template 'for every input the law returns true; each argument reads behind the call as it read before'; 0 by the template 'total and deterministic' (their statements: YtdelhnbaomclcaaTotals.lean).
  GIVEN WITH THE SEED: the statements are not yours to turn. If you find one false, say at which input.
  Laid BY PROGRAM, IN A SANDBOX (cutbox-rows.mjs): the forced cells as the released guide's own fill.sh prints them over the translation 98b5e2d84d82012d… (all of the seat's roots in one cut). By AI agents, Wed Nov 11 2026. No macro, syntax, notation, axiom, sorry.
-/
import Derived.Test.YtdelhnbaomclcaaChecked
import GoSem.Claim
import GoSem.ClaimJoined
import GoSem.ClaimMapViews
import Derived.JoinedTies
import Derived.KernelRfl
namespace Go.Proofs.Ytdelhnbaomclcaa
/- THE CELL 'sum', in the pinned program and in every row, IS THE sha256 OF THE DUMP (.gsa) THAT YtdelhnbaomclcaaProg.lean LOADS. Nothing in Lean hashes anything: it is a label: what it is worth is what the hold of that sum in a sandbox is worth. -/
noncomputable def Try.pinned : Pinned := { name := "ytdelhnbaomclcaa", sum := "98b5e2d84d82012d506ee16986b35cf3ef2fffff0f02a48228921c34ce2d3e80", checked := Try.checked }
namespace Rows
def none {H : Type} : Left H := { results := [], args := [] }

/-- 'fulmarlaw.WordGathers': WHATEVER THE INPUT: true; the input reads as it did. -/
def wordGathersSpec : ChangeSpec := { name := "wordGathers", fn := fun _ => fun
  | [d1, d2, d3] => { results := [.lit (.bool true)], args := [d1, d2, d3] }
  | _ => none }
def wordGathersRow : OpenClaim := { program := "ytdelhnbaomclcaa", sum := "98b5e2d84d82012d506ee16986b35cf3ef2fffff0f02a48228921c34ce2d3e80", func := "fulmar/fulmarlaw.WordGathers", spec := "wordGathers", unfollowed := true, recurses := true, plainKeys := false, apart := false }
def WordGathersSaid : Prop := wordGathersRow.holds Try.pinned (OpenSpec.ofChange wordGathersSpec)

/-- ITS FALSE NEIGHBOUR: 'it returns false'. Refute it at one input. -/
def wordGathersWrong : ChangeSpec := { name := "wordGathers", fn := fun _ => fun
  | [d1, d2, d3] => { results := [.lit (.bool false)], args := [d1, d2, d3] }
  | _ => none }
def WordGathersWrongFalsely : Prop := wordGathersRow.holds Try.pinned (OpenSpec.ofChange wordGathersWrong)

/-- 'fulmarlaw.LawSays': WHATEVER THE INPUT: true; the input reads as it did. -/
def lawSaysSpec : ChangeSpec := { name := "lawSays", fn := fun _ => fun
  | [d1, d2, d3, d4] => { results := [.lit (.bool true)], args := [d1, d2, d3, d4] }
  | _ => none }
def lawSaysRow : OpenClaim := { program := "ytdelhnbaomclcaa", sum := "98b5e2d84d82012d506ee16986b35cf3ef2fffff0f02a48228921c34ce2d3e80", func := "fulmar/fulmarlaw.LawSays", spec := "lawSays", plainKeys := false, apart := false }
def LawSaysSaid : Prop := lawSaysRow.holds Try.pinned (OpenSpec.ofChange lawSaysSpec)

/-- ITS FALSE NEIGHBOUR: 'it returns false'. Refute it at one input. -/
def lawSaysWrong : ChangeSpec := { name := "lawSays", fn := fun _ => fun
  | [d1, d2, d3, d4] => { results := [.lit (.bool false)], args := [d1, d2, d3, d4] }
  | _ => none }
def LawSaysWrongFalsely : Prop := lawSaysRow.holds Try.pinned (OpenSpec.ofChange lawSaysWrong)

/-- 'fulmarlaw.HoldSays': WHATEVER THE INPUT: true; the input reads as it did. -/
def holdSaysSpec : ChangeSpec := { name := "holdSays", fn := fun _ => fun
  | [d1, d2, d3, d4, d5] => { results := [.lit (.bool true)], args := [d1, d2, d3, d4, d5] }
  | _ => none }
def holdSaysRow : OpenClaim := { program := "ytdelhnbaomclcaa", sum := "98b5e2d84d82012d506ee16986b35cf3ef2fffff0f02a48228921c34ce2d3e80", func := "fulmar/fulmarlaw.HoldSays", spec := "holdSays", unfollowed := true, recurses := true, plainKeys := false, apart := false }
def HoldSaysSaid : Prop := holdSaysRow.holds Try.pinned (OpenSpec.ofChange holdSaysSpec)

/-- ITS FALSE NEIGHBOUR: 'it returns false'. Refute it at one input. -/
def holdSaysWrong : ChangeSpec := { name := "holdSays", fn := fun _ => fun
  | [d1, d2, d3, d4, d5] => { results := [.lit (.bool false)], args := [d1, d2, d3, d4, d5] }
  | _ => none }
def HoldSaysWrongFalsely : Prop := holdSaysRow.holds Try.pinned (OpenSpec.ofChange holdSaysWrong)

/-- 'fulmarlaw.HoldMade': WHATEVER THE INPUT: true; the input reads as it did. -/
def holdMadeSpec : ChangeSpec := { name := "holdMade", fn := fun _ => fun
  | [d1, d2, d3] => { results := [.lit (.bool true)], args := [d1, d2, d3] }
  | _ => none }
def holdMadeRow : OpenClaim := { program := "ytdelhnbaomclcaa", sum := "98b5e2d84d82012d506ee16986b35cf3ef2fffff0f02a48228921c34ce2d3e80", func := "fulmar/fulmarlaw.HoldMade", spec := "holdMade", unfollowed := true, recurses := true, plainKeys := false, apart := false }
def HoldMadeSaid : Prop := holdMadeRow.holds Try.pinned (OpenSpec.ofChange holdMadeSpec)

/-- ITS FALSE NEIGHBOUR: 'it returns false'. Refute it at one input. -/
def holdMadeWrong : ChangeSpec := { name := "holdMade", fn := fun _ => fun
  | [d1, d2, d3] => { results := [.lit (.bool false)], args := [d1, d2, d3] }
  | _ => none }
def HoldMadeWrongFalsely : Prop := holdMadeRow.holds Try.pinned (OpenSpec.ofChange holdMadeWrong)

/-- 'fulmartop.TopHold': WHATEVER THE INPUT: true; the input reads as it did. -/
def topHoldSpec : ChangeSpec := { name := "topHold", fn := fun _ => fun
  | [d1, d2, d3] => { results := [.lit (.bool true)], args := [d1, d2, d3] }
  | _ => none }
def topHoldRow : OpenClaim := { program := "ytdelhnbaomclcaa", sum := "98b5e2d84d82012d506ee16986b35cf3ef2fffff0f02a48228921c34ce2d3e80", func := "fulmar/fulmartop.TopHold", spec := "topHold", unfollowed := true, recurses := true, plainKeys := false, apart := false }
def TopHoldSaid : Prop := topHoldRow.holds Try.pinned (OpenSpec.ofChange topHoldSpec)

/-- ITS FALSE NEIGHBOUR: 'it returns false'. Refute it at one input. -/
def topHoldWrong : ChangeSpec := { name := "topHold", fn := fun _ => fun
  | [d1, d2, d3] => { results := [.lit (.bool false)], args := [d1, d2, d3] }
  | _ => none }
def TopHoldWrongFalsely : Prop := topHoldRow.holds Try.pinned (OpenSpec.ofChange topHoldWrong)

/- THE SECOND FORM. 'bulk': how many values and letters a reading holds, each counted each time it is reached (what is shared counts as often as it is met; a slice's spare places count too). A statement '..UptoSaid' is the law's where the arguments, and the package variables that the reading takes, are together of bulk at most 1048576: NARROWER than '..Said'. Prove '..Said' where nothing that the law and all that it calls make is longer than what came in: it says more and counts as full. Else prove '..UptoSaid'. A law counts once. -/
mutual
def uptoBulk {H : Type} : DataW H → Nat
  | .lit (.string bytes) => bytes.length + 1
  | .lit _ => 1
  | .nil => 1
  | .ptr d => uptoBulk d + 1
  | .slice elems spare => uptoBulkAll elems + uptoBulkAll spare + 1
  | .agg parts => uptoBulkAll parts + 1
  | .iface _ d => uptoBulk d + 1
  | .map entries => uptoBulkEntries entries + 1
  | .held _ => 1
def uptoBulkAll {H : Type} : List (DataW H) → Nat
  | [] => 0
  | d :: r => uptoBulk d + uptoBulkAll r
def uptoBulkEntries {H : Type} : List (Lit × DataW H) → Nat
  | [] => 0
  | x :: r => uptoBulkEntry x + uptoBulkEntries r
def uptoBulkEntry {H : Type} : Lit × DataW H → Nat
  | (.string bytes, d) => bytes.length + uptoBulk d + 1
  | (_, d) => uptoBulk d + 1
 end
def uptoSmall : (H : Type) → List (DataW H) → Bool := fun _ ds => decide (uptoBulkAll ds ≤ 1048576)
def OpenSpec.upto (s : _root_.Go.ChangeSpec) : _root_.Go.OpenSpec := { _root_.Go.OpenSpec.ofChange s with cond := some uptoSmall }

/-- 'fulmarlaw.WordGathers', WHERE WHAT IT READS IS OF BULK AT MOST 1048576: true; the input reads as it did. -/
def wordGathersUptoRow : OpenClaim := { program := "ytdelhnbaomclcaa", sum := "98b5e2d84d82012d506ee16986b35cf3ef2fffff0f02a48228921c34ce2d3e80", func := "fulmar/fulmarlaw.WordGathers", spec := "wordGathers", unfollowed := true, recurses := true, plainKeys := false, apart := false, narrowed := true }
def WordGathersUptoSaid : Prop := wordGathersUptoRow.holds Try.pinned (OpenSpec.upto wordGathersSpec)

/-- 'fulmarlaw.LawSays', WHERE WHAT IT READS IS OF BULK AT MOST 1048576: true; the input reads as it did. -/
def lawSaysUptoRow : OpenClaim := { program := "ytdelhnbaomclcaa", sum := "98b5e2d84d82012d506ee16986b35cf3ef2fffff0f02a48228921c34ce2d3e80", func := "fulmar/fulmarlaw.LawSays", spec := "lawSays", plainKeys := false, apart := false, narrowed := true }
def LawSaysUptoSaid : Prop := lawSaysUptoRow.holds Try.pinned (OpenSpec.upto lawSaysSpec)

/-- 'fulmarlaw.HoldSays', WHERE WHAT IT READS IS OF BULK AT MOST 1048576: true; the input reads as it did. -/
def holdSaysUptoRow : OpenClaim := { program := "ytdelhnbaomclcaa", sum := "98b5e2d84d82012d506ee16986b35cf3ef2fffff0f02a48228921c34ce2d3e80", func := "fulmar/fulmarlaw.HoldSays", spec := "holdSays", unfollowed := true, recurses := true, plainKeys := false, apart := false, narrowed := true }
def HoldSaysUptoSaid : Prop := holdSaysUptoRow.holds Try.pinned (OpenSpec.upto holdSaysSpec)

/-- 'fulmarlaw.HoldMade', WHERE WHAT IT READS IS OF BULK AT MOST 1048576: true; the input reads as it did. -/
def holdMadeUptoRow : OpenClaim := { program := "ytdelhnbaomclcaa", sum := "98b5e2d84d82012d506ee16986b35cf3ef2fffff0f02a48228921c34ce2d3e80", func := "fulmar/fulmarlaw.HoldMade", spec := "holdMade", unfollowed := true, recurses := true, plainKeys := false, apart := false, narrowed := true }
def HoldMadeUptoSaid : Prop := holdMadeUptoRow.holds Try.pinned (OpenSpec.upto holdMadeSpec)

/-- 'fulmartop.TopHold', WHERE WHAT IT READS IS OF BULK AT MOST 1048576: true; the input reads as it did. -/
def topHoldUptoRow : OpenClaim := { program := "ytdelhnbaomclcaa", sum := "98b5e2d84d82012d506ee16986b35cf3ef2fffff0f02a48228921c34ce2d3e80", func := "fulmar/fulmartop.TopHold", spec := "topHold", unfollowed := true, recurses := true, plainKeys := false, apart := false, narrowed := true }
def TopHoldUptoSaid : Prop := topHoldUptoRow.holds Try.pinned (OpenSpec.upto topHoldSpec)

end Rows
end Go.Proofs.Ytdelhnbaomclcaa
