/-
  No cell of these rows narrows 'for every input' (looked for: loops, veiled, ifaces, maps, wideKeys, modest, calm, conditions, laid).
  DERIVED. THE GIVEN ROWS OF THIS SEAT. 5 by the template 'for every input the law returns true; each argument reads behind the call as it read before'; 0 by the template 'total and deterministic' (their statements: YtmdpoeelddchcaaTotals.lean).
  GIVEN WITH THE SEED: the statements are not yours to turn. If you find one false, say at which input.
  Laid BY PROGRAM, IN A SANDBOX (cutbox-rows.mjs): the forced cells as the released guide's own fill.sh prints them over the translation f11709f944460cb9… (all of the seat's roots in one cut). By AI agents, Wed Nov 11 2026. No macro, syntax, notation, axiom, sorry.
-/
import Derived.Test.YtmdpoeelddchcaaChecked
import GoSem.Claim
import GoSem.ClaimJoined
import GoSem.ClaimMapViews
import Derived.JoinedTies
import Derived.KernelRfl
namespace Go.Proofs.Ytmdpoeelddchcaa
/- THE CELL 'sum', in the pinned program and in every row, IS THE sha256 OF THE DUMP (.gsa) THAT YtmdpoeelddchcaaProg.lean LOADS. Nothing in Lean hashes anything: it is a label: what it is worth is what the hold of that sum in a sandbox is worth. -/
noncomputable def Try.pinned : Pinned := { name := "ytmdpoeelddchcaa", sum := "f11709f944460cb9d1c7c853da5bce6d21522a5d796cc3763e60b1d5a03813ce", checked := Try.checked }
namespace Rows
def none {H : Type} : Left H := { results := [], args := [] }

/-- 'fulmarlaw.FixSays': WHATEVER THE INPUT: true; the input reads as it did. -/
def fixSaysSpec : ChangeSpec := { name := "fixSays", fn := fun _ => fun
  | [d1, d2, d3] => { results := [.lit (.bool true)], args := [d1, d2, d3] }
  | _ => none }
def fixSaysRow : OpenClaim := { program := "ytmdpoeelddchcaa", sum := "f11709f944460cb9d1c7c853da5bce6d21522a5d796cc3763e60b1d5a03813ce", func := "fulmar/fulmarlaw.FixSays", spec := "fixSays", recurses := true, apart := false }
def FixSaysSaid : Prop := fixSaysRow.holds Try.pinned (OpenSpec.ofChange fixSaysSpec)

/-- ITS FALSE NEIGHBOUR: 'it returns false'. Refute it at one input. -/
def fixSaysWrong : ChangeSpec := { name := "fixSays", fn := fun _ => fun
  | [d1, d2, d3] => { results := [.lit (.bool false)], args := [d1, d2, d3] }
  | _ => none }
def FixSaysWrongFalsely : Prop := fixSaysRow.holds Try.pinned (OpenSpec.ofChange fixSaysWrong)

/-- 'fulmarlaw.FixClips': WHATEVER THE INPUT: true; the input reads as it did. -/
def fixClipsSpec : ChangeSpec := { name := "fixClips", fn := fun _ => fun
  | [d1, d2, d3] => { results := [.lit (.bool true)], args := [d1, d2, d3] }
  | _ => none }
def fixClipsRow : OpenClaim := { program := "ytmdpoeelddchcaa", sum := "f11709f944460cb9d1c7c853da5bce6d21522a5d796cc3763e60b1d5a03813ce", func := "fulmar/fulmarlaw.FixClips", spec := "fixClips", apart := false }
def FixClipsSaid : Prop := fixClipsRow.holds Try.pinned (OpenSpec.ofChange fixClipsSpec)

/-- ITS FALSE NEIGHBOUR: 'it returns false'. Refute it at one input. -/
def fixClipsWrong : ChangeSpec := { name := "fixClips", fn := fun _ => fun
  | [d1, d2, d3] => { results := [.lit (.bool false)], args := [d1, d2, d3] }
  | _ => none }
def FixClipsWrongFalsely : Prop := fixClipsRow.holds Try.pinned (OpenSpec.ofChange fixClipsWrong)

/-- 'fulmarlaw.FixRoot': WHATEVER THE INPUT: true; the input reads as it did. -/
def fixRootSpec : ChangeSpec := { name := "fixRoot", fn := fun _ => fun
  | [d] => { results := [.lit (.bool true)], args := [d] }
  | _ => none }
def fixRootRow : OpenClaim := { program := "ytmdpoeelddchcaa", sum := "f11709f944460cb9d1c7c853da5bce6d21522a5d796cc3763e60b1d5a03813ce", func := "fulmar/fulmarlaw.FixRoot", spec := "fixRoot", apart := false }
def FixRootSaid : Prop := fixRootRow.holds Try.pinned (OpenSpec.ofChange fixRootSpec)

/-- ITS FALSE NEIGHBOUR: 'it returns false'. Refute it at one input. -/
def fixRootWrong : ChangeSpec := { name := "fixRoot", fn := fun _ => fun
  | [d] => { results := [.lit (.bool false)], args := [d] }
  | _ => none }
def FixRootWrongFalsely : Prop := fixRootRow.holds Try.pinned (OpenSpec.ofChange fixRootWrong)

/-- 'fulmarlaw.FixSpans': WHATEVER THE INPUT: true; the input reads as it did. -/
def fixSpansSpec : ChangeSpec := { name := "fixSpans", fn := fun _ => fun
  | [d1, d2, d3] => { results := [.lit (.bool true)], args := [d1, d2, d3] }
  | _ => none }
def fixSpansRow : OpenClaim := { program := "ytmdpoeelddchcaa", sum := "f11709f944460cb9d1c7c853da5bce6d21522a5d796cc3763e60b1d5a03813ce", func := "fulmar/fulmarlaw.FixSpans", spec := "fixSpans", unfollowed := true, recurses := true, apart := false }
def FixSpansSaid : Prop := fixSpansRow.holds Try.pinned (OpenSpec.ofChange fixSpansSpec)

/-- ITS FALSE NEIGHBOUR: 'it returns false'. Refute it at one input. -/
def fixSpansWrong : ChangeSpec := { name := "fixSpans", fn := fun _ => fun
  | [d1, d2, d3] => { results := [.lit (.bool false)], args := [d1, d2, d3] }
  | _ => none }
def FixSpansWrongFalsely : Prop := fixSpansRow.holds Try.pinned (OpenSpec.ofChange fixSpansWrong)

/-- 'fulmartop.TopFix': WHATEVER THE INPUT: true; the input reads as it did. -/
def topFixSpec : ChangeSpec := { name := "topFix", fn := fun _ => fun
  | [d1, d2, d3, d4] => { results := [.lit (.bool true)], args := [d1, d2, d3, d4] }
  | _ => none }
def topFixRow : OpenClaim := { program := "ytmdpoeelddchcaa", sum := "f11709f944460cb9d1c7c853da5bce6d21522a5d796cc3763e60b1d5a03813ce", func := "fulmar/fulmartop.TopFix", spec := "topFix", unfollowed := true, recurses := true, apart := false }
def TopFixSaid : Prop := topFixRow.holds Try.pinned (OpenSpec.ofChange topFixSpec)

/-- ITS FALSE NEIGHBOUR: 'it returns false'. Refute it at one input. -/
def topFixWrong : ChangeSpec := { name := "topFix", fn := fun _ => fun
  | [d1, d2, d3, d4] => { results := [.lit (.bool false)], args := [d1, d2, d3, d4] }
  | _ => none }
def TopFixWrongFalsely : Prop := topFixRow.holds Try.pinned (OpenSpec.ofChange topFixWrong)

/- THE SECOND FORM. 'bulk': how many values and letters a reading holds, each counted each time it is reached (what is shared counts as often as it is met; a slice's spare places count too). A statement '..UptoSaid' is the law's where the arguments, and the package variables that the reading takes, are together of bulk at most 1048576: NARROWER than '..Said'. Prove '..Said' where nothing that the law and all that it calls make is longer than what came in: it says more and counts as full. Else prove '..UptoSaid'. A law counts once. -/
mutual
def uptoBulk {H : Type} : DataW H → Nat
  | .lit (.string bytes) => bytes.length + 1
  | .lit _ => 1
  | .nil => 1
  | .ptr d => uptoBulk d + 1
  | .slice elems spare => uptoBulkAll elems + uptoBulkAll spare + 1
  | .agg parts => uptoBulkAll parts + 1
  | .iface _ d => uptoBulk d + 1
  | .map entries => uptoBulkEntries entries + 1
  | .held _ => 1
def uptoBulkAll {H : Type} : List (DataW H) → Nat
  | [] => 0
  | d :: r => uptoBulk d + uptoBulkAll r
def uptoBulkEntries {H : Type} : List (Lit × DataW H) → Nat
  | [] => 0
  | x :: r => uptoBulkEntry x + uptoBulkEntries r
def uptoBulkEntry {H : Type} : Lit × DataW H → Nat
  | (.string bytes, d) => bytes.length + uptoBulk d + 1
  | (_, d) => uptoBulk d + 1
 end
def uptoSmall : (H : Type) → List (DataW H) → Bool := fun _ ds => decide (uptoBulkAll ds ≤ 1048576)
def OpenSpec.upto (s : _root_.Go.ChangeSpec) : _root_.Go.OpenSpec := { _root_.Go.OpenSpec.ofChange s with cond := some uptoSmall }

/-- 'fulmarlaw.FixSays', WHERE WHAT IT READS IS OF BULK AT MOST 1048576: true; the input reads as it did. -/
def fixSaysUptoRow : OpenClaim := { program := "ytmdpoeelddchcaa", sum := "f11709f944460cb9d1c7c853da5bce6d21522a5d796cc3763e60b1d5a03813ce", func := "fulmar/fulmarlaw.FixSays", spec := "fixSays", recurses := true, apart := false, narrowed := true }
def FixSaysUptoSaid : Prop := fixSaysUptoRow.holds Try.pinned (OpenSpec.upto fixSaysSpec)

/-- 'fulmarlaw.FixClips', WHERE WHAT IT READS IS OF BULK AT MOST 1048576: true; the input reads as it did. -/
def fixClipsUptoRow : OpenClaim := { program := "ytmdpoeelddchcaa", sum := "f11709f944460cb9d1c7c853da5bce6d21522a5d796cc3763e60b1d5a03813ce", func := "fulmar/fulmarlaw.FixClips", spec := "fixClips", apart := false, narrowed := true }
def FixClipsUptoSaid : Prop := fixClipsUptoRow.holds Try.pinned (OpenSpec.upto fixClipsSpec)

/-- 'fulmarlaw.FixRoot', WHERE WHAT IT READS IS OF BULK AT MOST 1048576: true; the input reads as it did. -/
def fixRootUptoRow : OpenClaim := { program := "ytmdpoeelddchcaa", sum := "f11709f944460cb9d1c7c853da5bce6d21522a5d796cc3763e60b1d5a03813ce", func := "fulmar/fulmarlaw.FixRoot", spec := "fixRoot", apart := false, narrowed := true }
def FixRootUptoSaid : Prop := fixRootUptoRow.holds Try.pinned (OpenSpec.upto fixRootSpec)

/-- 'fulmarlaw.FixSpans', WHERE WHAT IT READS IS OF BULK AT MOST 1048576: true; the input reads as it did. -/
def fixSpansUptoRow : OpenClaim := { program := "ytmdpoeelddchcaa", sum := "f11709f944460cb9d1c7c853da5bce6d21522a5d796cc3763e60b1d5a03813ce", func := "fulmar/fulmarlaw.FixSpans", spec := "fixSpans", unfollowed := true, recurses := true, apart := false, narrowed := true }
def FixSpansUptoSaid : Prop := fixSpansUptoRow.holds Try.pinned (OpenSpec.upto fixSpansSpec)

/-- 'fulmartop.TopFix', WHERE WHAT IT READS IS OF BULK AT MOST 1048576: true; the input reads as it did. -/
def topFixUptoRow : OpenClaim := { program := "ytmdpoeelddchcaa", sum := "f11709f944460cb9d1c7c853da5bce6d21522a5d796cc3763e60b1d5a03813ce", func := "fulmar/fulmartop.TopFix", spec := "topFix", unfollowed := true, recurses := true, apart := false, narrowed := true }
def TopFixUptoSaid : Prop := topFixUptoRow.holds Try.pinned (OpenSpec.upto topFixSpec)

end Rows
end Go.Proofs.Ytmdpoeelddchcaa
