/-
  No cell of these rows narrows 'for every input' (looked for: loops, veiled, ifaces, maps, wideKeys, modest, calm, conditions, laid).
  DERIVED. THE GIVEN ROWS OF THIS SEAT. 6 by the template 'for every input the law returns true; each argument reads behind the call as it read before'; 0 by the template 'total and deterministic' (their statements: YtjdogmmifjhlfaaTotals.lean).
  GIVEN WITH THE SEED: the statements are not yours to turn. If you find one false, say at which input.
  Laid BY PROGRAM, IN A SANDBOX (cutbox-rows.mjs): the forced cells as the released guide's own fill.sh prints them over the translation 9514b8d20656390d… (all of the seat's roots in one cut). By AI agents, Wed Nov 11 2026. No macro, syntax, notation, axiom, sorry.
-/
import Derived.Test.YtjdogmmifjhlfaaChecked
import GoSem.Claim
import GoSem.ClaimJoined
import GoSem.ClaimMapViews
import Derived.JoinedTies
import Derived.KernelRfl
namespace Go.Proofs.Ytjdogmmifjhlfaa
/- THE CELL 'sum', in the pinned program and in every row, IS THE sha256 OF THE DUMP (.gsa) THAT YtjdogmmifjhlfaaProg.lean LOADS. Nothing in Lean hashes anything: it is a label: what it is worth is what the hold of that sum in a sandbox is worth. -/
noncomputable def Try.pinned : Pinned := { name := "ytjdogmmifjhlfaa", sum := "9514b8d20656390d51e596e7cb1fac91ef3e5c88b4f98e4b7ff2904800c95af5", checked := Try.checked }
namespace Rows
def none {H : Type} : Left H := { results := [], args := [] }

/-- 'fulmarlaw.WordSays': WHATEVER THE INPUT: true; the input reads as it did. -/
def wordSaysSpec : ChangeSpec := { name := "wordSays", fn := fun _ => fun
  | [d] => { results := [.lit (.bool true)], args := [d] }
  | _ => none }
def wordSaysRow : OpenClaim := { program := "ytjdogmmifjhlfaa", sum := "9514b8d20656390d51e596e7cb1fac91ef3e5c88b4f98e4b7ff2904800c95af5", func := "fulmar/fulmarlaw.WordSays", spec := "wordSays", plainKeys := false, apart := false }
def WordSaysSaid : Prop := wordSaysRow.holds Try.pinned (OpenSpec.ofChange wordSaysSpec)

/-- ITS FALSE NEIGHBOUR: 'it returns false'. Refute it at one input. -/
def wordSaysWrong : ChangeSpec := { name := "wordSays", fn := fun _ => fun
  | [d] => { results := [.lit (.bool false)], args := [d] }
  | _ => none }
def WordSaysWrongFalsely : Prop := wordSaysRow.holds Try.pinned (OpenSpec.ofChange wordSaysWrong)

/-- 'fulmarlaw.WordReads': WHATEVER THE INPUT: true; the input reads as it did. -/
def wordReadsSpec : ChangeSpec := { name := "wordReads", fn := fun _ => fun
  | [d] => { results := [.lit (.bool true)], args := [d] }
  | _ => none }
def wordReadsRow : OpenClaim := { program := "ytjdogmmifjhlfaa", sum := "9514b8d20656390d51e596e7cb1fac91ef3e5c88b4f98e4b7ff2904800c95af5", func := "fulmar/fulmarlaw.WordReads", spec := "wordReads", plainKeys := false, apart := false }
def WordReadsSaid : Prop := wordReadsRow.holds Try.pinned (OpenSpec.ofChange wordReadsSpec)

/-- ITS FALSE NEIGHBOUR: 'it returns false'. Refute it at one input. -/
def wordReadsWrong : ChangeSpec := { name := "wordReads", fn := fun _ => fun
  | [d] => { results := [.lit (.bool false)], args := [d] }
  | _ => none }
def WordReadsWrongFalsely : Prop := wordReadsRow.holds Try.pinned (OpenSpec.ofChange wordReadsWrong)

/-- 'fulmarlaw.WordGathers': WHATEVER THE INPUT: true; the input reads as it did. -/
def wordGathersSpec : ChangeSpec := { name := "wordGathers", fn := fun _ => fun
  | [d1, d2, d3] => { results := [.lit (.bool true)], args := [d1, d2, d3] }
  | _ => none }
def wordGathersRow : OpenClaim := { program := "ytjdogmmifjhlfaa", sum := "9514b8d20656390d51e596e7cb1fac91ef3e5c88b4f98e4b7ff2904800c95af5", func := "fulmar/fulmarlaw.WordGathers", spec := "wordGathers", unfollowed := true, recurses := true, plainKeys := false, apart := false }
def WordGathersSaid : Prop := wordGathersRow.holds Try.pinned (OpenSpec.ofChange wordGathersSpec)

/-- ITS FALSE NEIGHBOUR: 'it returns false'. Refute it at one input. -/
def wordGathersWrong : ChangeSpec := { name := "wordGathers", fn := fun _ => fun
  | [d1, d2, d3] => { results := [.lit (.bool false)], args := [d1, d2, d3] }
  | _ => none }
def WordGathersWrongFalsely : Prop := wordGathersRow.holds Try.pinned (OpenSpec.ofChange wordGathersWrong)

/-- 'fulmarlaw.VoteSays': WHATEVER THE INPUT: true; the input reads as it did. -/
def voteSaysSpec : ChangeSpec := { name := "voteSays", fn := fun _ => fun
  | [d1, d2, d3] => { results := [.lit (.bool true)], args := [d1, d2, d3] }
  | _ => none }
def voteSaysRow : OpenClaim := { program := "ytjdogmmifjhlfaa", sum := "9514b8d20656390d51e596e7cb1fac91ef3e5c88b4f98e4b7ff2904800c95af5", func := "fulmar/fulmarlaw.VoteSays", spec := "voteSays", recurses := true, plainKeys := false, apart := false }
def VoteSaysSaid : Prop := voteSaysRow.holds Try.pinned (OpenSpec.ofChange voteSaysSpec)

/-- ITS FALSE NEIGHBOUR: 'it returns false'. Refute it at one input. -/
def voteSaysWrong : ChangeSpec := { name := "voteSays", fn := fun _ => fun
  | [d1, d2, d3] => { results := [.lit (.bool false)], args := [d1, d2, d3] }
  | _ => none }
def VoteSaysWrongFalsely : Prop := voteSaysRow.holds Try.pinned (OpenSpec.ofChange voteSaysWrong)

/-- 'fulmarlaw.VoteRuns': WHATEVER THE INPUT: true; the input reads as it did. -/
def voteRunsSpec : ChangeSpec := { name := "voteRuns", fn := fun _ => fun
  | [d1, d2] => { results := [.lit (.bool true)], args := [d1, d2] }
  | _ => none }
def voteRunsRow : OpenClaim := { program := "ytjdogmmifjhlfaa", sum := "9514b8d20656390d51e596e7cb1fac91ef3e5c88b4f98e4b7ff2904800c95af5", func := "fulmar/fulmarlaw.VoteRuns", spec := "voteRuns", recurses := true, plainKeys := false, apart := false }
def VoteRunsSaid : Prop := voteRunsRow.holds Try.pinned (OpenSpec.ofChange voteRunsSpec)

/-- ITS FALSE NEIGHBOUR: 'it returns false'. Refute it at one input. -/
def voteRunsWrong : ChangeSpec := { name := "voteRuns", fn := fun _ => fun
  | [d1, d2] => { results := [.lit (.bool false)], args := [d1, d2] }
  | _ => none }
def VoteRunsWrongFalsely : Prop := voteRunsRow.holds Try.pinned (OpenSpec.ofChange voteRunsWrong)

/-- 'fulmartop.TopWord': WHATEVER THE INPUT: true; the input reads as it did. -/
def topWordSpec : ChangeSpec := { name := "topWord", fn := fun _ => fun
  | [d1, d2] => { results := [.lit (.bool true)], args := [d1, d2] }
  | _ => none }
def topWordRow : OpenClaim := { program := "ytjdogmmifjhlfaa", sum := "9514b8d20656390d51e596e7cb1fac91ef3e5c88b4f98e4b7ff2904800c95af5", func := "fulmar/fulmartop.TopWord", spec := "topWord", plainKeys := false, apart := false }
def TopWordSaid : Prop := topWordRow.holds Try.pinned (OpenSpec.ofChange topWordSpec)

/-- ITS FALSE NEIGHBOUR: 'it returns false'. Refute it at one input. -/
def topWordWrong : ChangeSpec := { name := "topWord", fn := fun _ => fun
  | [d1, d2] => { results := [.lit (.bool false)], args := [d1, d2] }
  | _ => none }
def TopWordWrongFalsely : Prop := topWordRow.holds Try.pinned (OpenSpec.ofChange topWordWrong)

/- THE SECOND FORM. 'bulk': how many values and letters a reading holds, each counted each time it is reached (what is shared counts as often as it is met; a slice's spare places count too). A statement '..UptoSaid' is the law's where the arguments, and the package variables that the reading takes, are together of bulk at most 1048576: NARROWER than '..Said'. Prove '..Said' where nothing that the law and all that it calls make is longer than what came in: it says more and counts as full. Else prove '..UptoSaid'. A law counts once. -/
mutual
def uptoBulk {H : Type} : DataW H → Nat
  | .lit (.string bytes) => bytes.length + 1
  | .lit _ => 1
  | .nil => 1
  | .ptr d => uptoBulk d + 1
  | .slice elems spare => uptoBulkAll elems + uptoBulkAll spare + 1
  | .agg parts => uptoBulkAll parts + 1
  | .iface _ d => uptoBulk d + 1
  | .map entries => uptoBulkEntries entries + 1
  | .held _ => 1
def uptoBulkAll {H : Type} : List (DataW H) → Nat
  | [] => 0
  | d :: r => uptoBulk d + uptoBulkAll r
def uptoBulkEntries {H : Type} : List (Lit × DataW H) → Nat
  | [] => 0
  | x :: r => uptoBulkEntry x + uptoBulkEntries r
def uptoBulkEntry {H : Type} : Lit × DataW H → Nat
  | (.string bytes, d) => bytes.length + uptoBulk d + 1
  | (_, d) => uptoBulk d + 1
 end
def uptoSmall : (H : Type) → List (DataW H) → Bool := fun _ ds => decide (uptoBulkAll ds ≤ 1048576)
def OpenSpec.upto (s : _root_.Go.ChangeSpec) : _root_.Go.OpenSpec := { _root_.Go.OpenSpec.ofChange s with cond := some uptoSmall }

/-- 'fulmarlaw.WordSays', WHERE WHAT IT READS IS OF BULK AT MOST 1048576: true; the input reads as it did. -/
def wordSaysUptoRow : OpenClaim := { program := "ytjdogmmifjhlfaa", sum := "9514b8d20656390d51e596e7cb1fac91ef3e5c88b4f98e4b7ff2904800c95af5", func := "fulmar/fulmarlaw.WordSays", spec := "wordSays", plainKeys := false, apart := false, narrowed := true }
def WordSaysUptoSaid : Prop := wordSaysUptoRow.holds Try.pinned (OpenSpec.upto wordSaysSpec)

/-- 'fulmarlaw.WordReads', WHERE WHAT IT READS IS OF BULK AT MOST 1048576: true; the input reads as it did. -/
def wordReadsUptoRow : OpenClaim := { program := "ytjdogmmifjhlfaa", sum := "9514b8d20656390d51e596e7cb1fac91ef3e5c88b4f98e4b7ff2904800c95af5", func := "fulmar/fulmarlaw.WordReads", spec := "wordReads", plainKeys := false, apart := false, narrowed := true }
def WordReadsUptoSaid : Prop := wordReadsUptoRow.holds Try.pinned (OpenSpec.upto wordReadsSpec)

/-- 'fulmarlaw.WordGathers', WHERE WHAT IT READS IS OF BULK AT MOST 1048576: true; the input reads as it did. -/
def wordGathersUptoRow : OpenClaim := { program := "ytjdogmmifjhlfaa", sum := "9514b8d20656390d51e596e7cb1fac91ef3e5c88b4f98e4b7ff2904800c95af5", func := "fulmar/fulmarlaw.WordGathers", spec := "wordGathers", unfollowed := true, recurses := true, plainKeys := false, apart := false, narrowed := true }
def WordGathersUptoSaid : Prop := wordGathersUptoRow.holds Try.pinned (OpenSpec.upto wordGathersSpec)

/-- 'fulmarlaw.VoteSays', WHERE WHAT IT READS IS OF BULK AT MOST 1048576: true; the input reads as it did. -/
def voteSaysUptoRow : OpenClaim := { program := "ytjdogmmifjhlfaa", sum := "9514b8d20656390d51e596e7cb1fac91ef3e5c88b4f98e4b7ff2904800c95af5", func := "fulmar/fulmarlaw.VoteSays", spec := "voteSays", recurses := true, plainKeys := false, apart := false, narrowed := true }
def VoteSaysUptoSaid : Prop := voteSaysUptoRow.holds Try.pinned (OpenSpec.upto voteSaysSpec)

/-- 'fulmarlaw.VoteRuns', WHERE WHAT IT READS IS OF BULK AT MOST 1048576: true; the input reads as it did. -/
def voteRunsUptoRow : OpenClaim := { program := "ytjdogmmifjhlfaa", sum := "9514b8d20656390d51e596e7cb1fac91ef3e5c88b4f98e4b7ff2904800c95af5", func := "fulmar/fulmarlaw.VoteRuns", spec := "voteRuns", recurses := true, plainKeys := false, apart := false, narrowed := true }
def VoteRunsUptoSaid : Prop := voteRunsUptoRow.holds Try.pinned (OpenSpec.upto voteRunsSpec)

/-- 'fulmartop.TopWord', WHERE WHAT IT READS IS OF BULK AT MOST 1048576: true; the input reads as it did. -/
def topWordUptoRow : OpenClaim := { program := "ytjdogmmifjhlfaa", sum := "9514b8d20656390d51e596e7cb1fac91ef3e5c88b4f98e4b7ff2904800c95af5", func := "fulmar/fulmartop.TopWord", spec := "topWord", plainKeys := false, apart := false, narrowed := true }
def TopWordUptoSaid : Prop := topWordUptoRow.holds Try.pinned (OpenSpec.upto topWordSpec)

end Rows
end Go.Proofs.Ytjdogmmifjhlfaa
