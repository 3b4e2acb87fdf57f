/-
  No cell of these rows narrows 'for every input' (looked for: loops, veiled, ifaces, maps, wideKeys, modest, calm, conditions, laid).
  DERIVED. THE GIVEN ROWS OF THIS SEAT. 6 by the template 'for every input the law returns true; each argument reads behind the call as it read before'; 0 by the template 'total and deterministic' (their statements: YtbgabomjiibphaaTotals.lean).
  GIVEN WITH THE SEED: the statements are not yours to turn. If you find one false, say at which input.
  Laid BY PROGRAM, IN A SANDBOX (cutbox-rows.mjs): the forced cells as the released guide's own fill.sh prints them over the translation 1f54e5087ab974d7… (all of the seat's roots in one cut). By AI agents, Wed Nov 11 2026. No macro, syntax, notation, axiom, sorry.
-/
import Derived.Test.YtbgabomjiibphaaChecked
import GoSem.Claim
import GoSem.ClaimJoined
import GoSem.ClaimMapViews
import Derived.JoinedTies
import Derived.KernelRfl
namespace Go.Proofs.Ytbgabomjiibphaa
/- THE CELL 'sum', in the pinned program and in every row, IS THE sha256 OF THE DUMP (.gsa) THAT YtbgabomjiibphaaProg.lean LOADS. Nothing in Lean hashes anything: it is a label: what it is worth is what the hold of that sum in a sandbox is worth. -/
noncomputable def Try.pinned : Pinned := { name := "ytbgabomjiibphaa", sum := "1f54e5087ab974d7e1749a4da425d1595b92fcd1514b934f675babc4f9fa292c", checked := Try.checked }
namespace Rows
def none {H : Type} : Left H := { results := [], args := [] }

/-- 'fulmarlaw.WordGathers': WHATEVER THE INPUT: true; the input reads as it did. -/
def wordGathersSpec : ChangeSpec := { name := "wordGathers", fn := fun _ => fun
  | [d1, d2, d3] => { results := [.lit (.bool true)], args := [d1, d2, d3] }
  | _ => none }
def wordGathersRow : OpenClaim := { program := "ytbgabomjiibphaa", sum := "1f54e5087ab974d7e1749a4da425d1595b92fcd1514b934f675babc4f9fa292c", func := "fulmar/fulmarlaw.WordGathers", spec := "wordGathers", unfollowed := true, recurses := true, plainKeys := false, apart := false }
def WordGathersSaid : Prop := wordGathersRow.holds Try.pinned (OpenSpec.ofChange wordGathersSpec)

/-- ITS FALSE NEIGHBOUR: 'it returns false'. Refute it at one input. -/
def wordGathersWrong : ChangeSpec := { name := "wordGathers", fn := fun _ => fun
  | [d1, d2, d3] => { results := [.lit (.bool false)], args := [d1, d2, d3] }
  | _ => none }
def WordGathersWrongFalsely : Prop := wordGathersRow.holds Try.pinned (OpenSpec.ofChange wordGathersWrong)

/-- 'fulmarlaw.ActSays': WHATEVER THE INPUT: true; the input reads as it did. -/
def actSaysSpec : ChangeSpec := { name := "actSays", fn := fun _ => fun
  | [d1, d2, d3, d4] => { results := [.lit (.bool true)], args := [d1, d2, d3, d4] }
  | _ => none }
def actSaysRow : OpenClaim := { program := "ytbgabomjiibphaa", sum := "1f54e5087ab974d7e1749a4da425d1595b92fcd1514b934f675babc4f9fa292c", func := "fulmar/fulmarlaw.ActSays", spec := "actSays", plainKeys := false, apart := false }
def ActSaysSaid : Prop := actSaysRow.holds Try.pinned (OpenSpec.ofChange actSaysSpec)

/-- ITS FALSE NEIGHBOUR: 'it returns false'. Refute it at one input. -/
def actSaysWrong : ChangeSpec := { name := "actSays", fn := fun _ => fun
  | [d1, d2, d3, d4] => { results := [.lit (.bool false)], args := [d1, d2, d3, d4] }
  | _ => none }
def ActSaysWrongFalsely : Prop := actSaysRow.holds Try.pinned (OpenSpec.ofChange actSaysWrong)

/-- 'fulmarlaw.ShareSays': WHATEVER THE INPUT: true; the input reads as it did. -/
def shareSaysSpec : ChangeSpec := { name := "shareSays", fn := fun _ => fun
  | [d1, d2, d3] => { results := [.lit (.bool true)], args := [d1, d2, d3] }
  | _ => none }
def shareSaysRow : OpenClaim := { program := "ytbgabomjiibphaa", sum := "1f54e5087ab974d7e1749a4da425d1595b92fcd1514b934f675babc4f9fa292c", func := "fulmar/fulmarlaw.ShareSays", spec := "shareSays", unfollowed := true, recurses := true, plainKeys := false, apart := false }
def ShareSaysSaid : Prop := shareSaysRow.holds Try.pinned (OpenSpec.ofChange shareSaysSpec)

/-- ITS FALSE NEIGHBOUR: 'it returns false'. Refute it at one input. -/
def shareSaysWrong : ChangeSpec := { name := "shareSays", fn := fun _ => fun
  | [d1, d2, d3] => { results := [.lit (.bool false)], args := [d1, d2, d3] }
  | _ => none }
def ShareSaysWrongFalsely : Prop := shareSaysRow.holds Try.pinned (OpenSpec.ofChange shareSaysWrong)

/-- 'fulmarlaw.ShareMade': WHATEVER THE INPUT: true; the input reads as it did. -/
def shareMadeSpec : ChangeSpec := { name := "shareMade", fn := fun _ => fun
  | [d1, d2, d3] => { results := [.lit (.bool true)], args := [d1, d2, d3] }
  | _ => none }
def shareMadeRow : OpenClaim := { program := "ytbgabomjiibphaa", sum := "1f54e5087ab974d7e1749a4da425d1595b92fcd1514b934f675babc4f9fa292c", func := "fulmar/fulmarlaw.ShareMade", spec := "shareMade", unfollowed := true, recurses := true, plainKeys := false, apart := false }
def ShareMadeSaid : Prop := shareMadeRow.holds Try.pinned (OpenSpec.ofChange shareMadeSpec)

/-- ITS FALSE NEIGHBOUR: 'it returns false'. Refute it at one input. -/
def shareMadeWrong : ChangeSpec := { name := "shareMade", fn := fun _ => fun
  | [d1, d2, d3] => { results := [.lit (.bool false)], args := [d1, d2, d3] }
  | _ => none }
def ShareMadeWrongFalsely : Prop := shareMadeRow.holds Try.pinned (OpenSpec.ofChange shareMadeWrong)

/-- 'fulmarlaw.GuardSays': WHATEVER THE INPUT: true; the input reads as it did. -/
def guardSaysSpec : ChangeSpec := { name := "guardSays", fn := fun _ => fun
  | [d1, d2] => { results := [.lit (.bool true)], args := [d1, d2] }
  | _ => none }
def guardSaysRow : OpenClaim := { program := "ytbgabomjiibphaa", sum := "1f54e5087ab974d7e1749a4da425d1595b92fcd1514b934f675babc4f9fa292c", func := "fulmar/fulmarlaw.GuardSays", spec := "guardSays", plainKeys := false, apart := false }
def GuardSaysSaid : Prop := guardSaysRow.holds Try.pinned (OpenSpec.ofChange guardSaysSpec)

/-- ITS FALSE NEIGHBOUR: 'it returns false'. Refute it at one input. -/
def guardSaysWrong : ChangeSpec := { name := "guardSays", fn := fun _ => fun
  | [d1, d2] => { results := [.lit (.bool false)], args := [d1, d2] }
  | _ => none }
def GuardSaysWrongFalsely : Prop := guardSaysRow.holds Try.pinned (OpenSpec.ofChange guardSaysWrong)

/-- 'fulmarlaw.GuardBounds': WHATEVER THE INPUT: true; the input reads as it did. -/
def guardBoundsSpec : ChangeSpec := { name := "guardBounds", fn := fun _ => fun
  | [d1, d2, d3, d4] => { results := [.lit (.bool true)], args := [d1, d2, d3, d4] }
  | _ => none }
def guardBoundsRow : OpenClaim := { program := "ytbgabomjiibphaa", sum := "1f54e5087ab974d7e1749a4da425d1595b92fcd1514b934f675babc4f9fa292c", func := "fulmar/fulmarlaw.GuardBounds", spec := "guardBounds", unfollowed := true, recurses := true, plainKeys := false, apart := false }
def GuardBoundsSaid : Prop := guardBoundsRow.holds Try.pinned (OpenSpec.ofChange guardBoundsSpec)

/-- ITS FALSE NEIGHBOUR: 'it returns false'. Refute it at one input. -/
def guardBoundsWrong : ChangeSpec := { name := "guardBounds", fn := fun _ => fun
  | [d1, d2, d3, d4] => { results := [.lit (.bool false)], args := [d1, d2, d3, d4] }
  | _ => none }
def GuardBoundsWrongFalsely : Prop := guardBoundsRow.holds Try.pinned (OpenSpec.ofChange guardBoundsWrong)

/- THE SECOND FORM. 'bulk': how many values and letters a reading holds, each counted each time it is reached (what is shared counts as often as it is met; a slice's spare places count too). A statement '..UptoSaid' is the law's where the arguments, and the package variables that the reading takes, are together of bulk at most 1048576: NARROWER than '..Said'. Prove '..Said' where nothing that the law and all that it calls make is longer than what came in: it says more and counts as full. Else prove '..UptoSaid'. A law counts once. -/
mutual
def uptoBulk {H : Type} : DataW H → Nat
  | .lit (.string bytes) => bytes.length + 1
  | .lit _ => 1
  | .nil => 1
  | .ptr d => uptoBulk d + 1
  | .slice elems spare => uptoBulkAll elems + uptoBulkAll spare + 1
  | .agg parts => uptoBulkAll parts + 1
  | .iface _ d => uptoBulk d + 1
  | .map entries => uptoBulkEntries entries + 1
  | .held _ => 1
def uptoBulkAll {H : Type} : List (DataW H) → Nat
  | [] => 0
  | d :: r => uptoBulk d + uptoBulkAll r
def uptoBulkEntries {H : Type} : List (Lit × DataW H) → Nat
  | [] => 0
  | x :: r => uptoBulkEntry x + uptoBulkEntries r
def uptoBulkEntry {H : Type} : Lit × DataW H → Nat
  | (.string bytes, d) => bytes.length + uptoBulk d + 1
  | (_, d) => uptoBulk d + 1
 end
def uptoSmall : (H : Type) → List (DataW H) → Bool := fun _ ds => decide (uptoBulkAll ds ≤ 1048576)
def OpenSpec.upto (s : _root_.Go.ChangeSpec) : _root_.Go.OpenSpec := { _root_.Go.OpenSpec.ofChange s with cond := some uptoSmall }

/-- 'fulmarlaw.WordGathers', WHERE WHAT IT READS IS OF BULK AT MOST 1048576: true; the input reads as it did. -/
def wordGathersUptoRow : OpenClaim := { program := "ytbgabomjiibphaa", sum := "1f54e5087ab974d7e1749a4da425d1595b92fcd1514b934f675babc4f9fa292c", func := "fulmar/fulmarlaw.WordGathers", spec := "wordGathers", unfollowed := true, recurses := true, plainKeys := false, apart := false, narrowed := true }
def WordGathersUptoSaid : Prop := wordGathersUptoRow.holds Try.pinned (OpenSpec.upto wordGathersSpec)

/-- 'fulmarlaw.ActSays', WHERE WHAT IT READS IS OF BULK AT MOST 1048576: true; the input reads as it did. -/
def actSaysUptoRow : OpenClaim := { program := "ytbgabomjiibphaa", sum := "1f54e5087ab974d7e1749a4da425d1595b92fcd1514b934f675babc4f9fa292c", func := "fulmar/fulmarlaw.ActSays", spec := "actSays", plainKeys := false, apart := false, narrowed := true }
def ActSaysUptoSaid : Prop := actSaysUptoRow.holds Try.pinned (OpenSpec.upto actSaysSpec)

/-- 'fulmarlaw.ShareSays', WHERE WHAT IT READS IS OF BULK AT MOST 1048576: true; the input reads as it did. -/
def shareSaysUptoRow : OpenClaim := { program := "ytbgabomjiibphaa", sum := "1f54e5087ab974d7e1749a4da425d1595b92fcd1514b934f675babc4f9fa292c", func := "fulmar/fulmarlaw.ShareSays", spec := "shareSays", unfollowed := true, recurses := true, plainKeys := false, apart := false, narrowed := true }
def ShareSaysUptoSaid : Prop := shareSaysUptoRow.holds Try.pinned (OpenSpec.upto shareSaysSpec)

/-- 'fulmarlaw.ShareMade', WHERE WHAT IT READS IS OF BULK AT MOST 1048576: true; the input reads as it did. -/
def shareMadeUptoRow : OpenClaim := { program := "ytbgabomjiibphaa", sum := "1f54e5087ab974d7e1749a4da425d1595b92fcd1514b934f675babc4f9fa292c", func := "fulmar/fulmarlaw.ShareMade", spec := "shareMade", unfollowed := true, recurses := true, plainKeys := false, apart := false, narrowed := true }
def ShareMadeUptoSaid : Prop := shareMadeUptoRow.holds Try.pinned (OpenSpec.upto shareMadeSpec)

/-- 'fulmarlaw.GuardSays', WHERE WHAT IT READS IS OF BULK AT MOST 1048576: true; the input reads as it did. -/
def guardSaysUptoRow : OpenClaim := { program := "ytbgabomjiibphaa", sum := "1f54e5087ab974d7e1749a4da425d1595b92fcd1514b934f675babc4f9fa292c", func := "fulmar/fulmarlaw.GuardSays", spec := "guardSays", plainKeys := false, apart := false, narrowed := true }
def GuardSaysUptoSaid : Prop := guardSaysUptoRow.holds Try.pinned (OpenSpec.upto guardSaysSpec)

/-- 'fulmarlaw.GuardBounds', WHERE WHAT IT READS IS OF BULK AT MOST 1048576: true; the input reads as it did. -/
def guardBoundsUptoRow : OpenClaim := { program := "ytbgabomjiibphaa", sum := "1f54e5087ab974d7e1749a4da425d1595b92fcd1514b934f675babc4f9fa292c", func := "fulmar/fulmarlaw.GuardBounds", spec := "guardBounds", unfollowed := true, recurses := true, plainKeys := false, apart := false, narrowed := true }
def GuardBoundsUptoSaid : Prop := guardBoundsUptoRow.holds Try.pinned (OpenSpec.upto guardBoundsSpec)

end Rows
end Go.Proofs.Ytbgabomjiibphaa
