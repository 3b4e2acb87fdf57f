/-
  NARROWER THAN 'FOR EVERY INPUT', by the rows' own cells (each row's printed sentence says how): FccSays: laid · FccMade: laid · FlySays: laid · FlyMade: laid · TopFlight: laid · TopLoose: laid · TopMade: laid · TopLaw: laid.
  DERIVED. THE GIVEN ROWS OF THIS SEAT. 8 by the template 'for every input the law returns true; each argument reads behind the call as it read before'; 0 by the template 'total and deterministic' (their statements: YtnfdfiholcelaaaGreatDoorTotals.lean).
  GIVEN WITH THE SEED: the statements are not yours to turn. If you find one false, say at which input.
  Laid BY PROGRAM, IN A SANDBOX (cutbox-rows.mjs): the forced cells as the released guide's own fill.sh prints them over the translation 17eab4aea3c594cc… (all of the seat's roots in one cut). By AI agents, Wed Nov 11 2026. No macro, syntax, notation, axiom, sorry.
-/
import Derived.Test.YtnfdfiholcelaaaGreatDoorChecked
import GoSem.Claim
import GoSem.ClaimJoined
import GoSem.ClaimMapViews
import Derived.JoinedTies
import Derived.KernelRfl
namespace Go.Proofs.YtnfdfiholcelaaaGreatDoor
/- THE CELL 'sum', in the pinned program and in every row, IS THE sha256 OF THE DUMP (.gsa) THAT YtnfdfiholcelaaaGreatDoorProg.lean LOADS. Nothing in Lean hashes anything: it is a label: what it is worth is what the hold of that sum in a sandbox is worth. -/
noncomputable def Tryz.pinned : Pinned := { name := "ytnfdfiholcelaaagreatdoor", sum := "17eab4aea3c594cc3f43232dec9c0185028ea6c31b7608f17aa663a5a4d016ed", checked := Tryz.checked }
namespace Rows
def none {H : Type} : Left H := { results := [], args := [] }

/- WHAT THE LISTED PACKAGE-LEVEL VARIABLES READ AS WHEN THE CALL BEGINS. Each datum BY PROGRAM (the guide's laid-datum.mjs) off the statement by which the dump's own 'gosem.cut.vars' lays the variable. In a bare row this is a premise. The card (YtnfdfiholcelaaaGreatDoorCards.lean) ties it to the program's text. -/
def laid_errors_errorType {H : Type} : DataW H := .iface "internal/reflectlite.rtype" (.agg [.ptr (.lit (.string [101, 114, 114, 111, 114]))])

/-- 'fulmarlaw.FccSays': WHATEVER THE INPUT: true; the input reads as it did. -/
def fccSaysSpec : ChangeSpec := { name := "fccSays", fn := fun _ => fun
  | [d1, d2, d3] => { results := [.lit (.bool true)], args := [d1, d2, d3] }
  | _ => none }
def fccSaysRow : OpenClaim := { program := "ytnfdfiholcelaaagreatdoor", sum := "17eab4aea3c594cc3f43232dec9c0185028ea6c31b7608f17aa663a5a4d016ed", func := "fulmar/fulmarlaw.FccSays", spec := "fccSays", inPlace := ["internal/reflectlite.ValueOf", "(internal/reflectlite.Value).Type", "(internal/reflectlite.Value).IsNil", "internal/reflectlite.TypeOf", "(internal/reflectlite.Value).Elem", "(internal/reflectlite.Value).Set"], unfollowed := true, recurses := true, named := ["errors.errorType"], plainKeys := false, apart := false, laid := [("errors.errorType", laid_errors_errorType)] }
def FccSaysSaid : Prop := fccSaysRow.holds Tryz.pinned (OpenSpec.ofChange fccSaysSpec)

/-- ITS FALSE NEIGHBOUR: 'it returns false'. Refute it at one input. -/
def fccSaysWrong : ChangeSpec := { name := "fccSays", fn := fun _ => fun
  | [d1, d2, d3] => { results := [.lit (.bool false)], args := [d1, d2, d3] }
  | _ => none }
def FccSaysWrongFalsely : Prop := fccSaysRow.holds Tryz.pinned (OpenSpec.ofChange fccSaysWrong)

/-- 'fulmarlaw.FccMade': WHATEVER THE INPUT: true; the input reads as it did. -/
def fccMadeSpec : ChangeSpec := { name := "fccMade", fn := fun _ => fun
  | [d1, d2, d3, d4] => { results := [.lit (.bool true)], args := [d1, d2, d3, d4] }
  | _ => none }
def fccMadeRow : OpenClaim := { program := "ytnfdfiholcelaaagreatdoor", sum := "17eab4aea3c594cc3f43232dec9c0185028ea6c31b7608f17aa663a5a4d016ed", func := "fulmar/fulmarlaw.FccMade", spec := "fccMade", inPlace := ["internal/reflectlite.ValueOf", "(internal/reflectlite.Value).Type", "(internal/reflectlite.Value).IsNil", "internal/reflectlite.TypeOf", "(internal/reflectlite.Value).Elem", "(internal/reflectlite.Value).Set"], unfollowed := true, recurses := true, named := ["errors.errorType"], plainKeys := false, apart := false, laid := [("errors.errorType", laid_errors_errorType)] }
def FccMadeSaid : Prop := fccMadeRow.holds Tryz.pinned (OpenSpec.ofChange fccMadeSpec)

/-- ITS FALSE NEIGHBOUR: 'it returns false'. Refute it at one input. -/
def fccMadeWrong : ChangeSpec := { name := "fccMade", fn := fun _ => fun
  | [d1, d2, d3, d4] => { results := [.lit (.bool false)], args := [d1, d2, d3, d4] }
  | _ => none }
def FccMadeWrongFalsely : Prop := fccMadeRow.holds Tryz.pinned (OpenSpec.ofChange fccMadeWrong)

/-- 'fulmarlaw.FlySays': WHATEVER THE INPUT: true; the input reads as it did. -/
def flySaysSpec : ChangeSpec := { name := "flySays", fn := fun _ => fun
  | [d1, d2] => { results := [.lit (.bool true)], args := [d1, d2] }
  | _ => none }
def flySaysRow : OpenClaim := { program := "ytnfdfiholcelaaagreatdoor", sum := "17eab4aea3c594cc3f43232dec9c0185028ea6c31b7608f17aa663a5a4d016ed", func := "fulmar/fulmarlaw.FlySays", spec := "flySays", inPlace := ["internal/reflectlite.ValueOf", "(internal/reflectlite.Value).Type", "(internal/reflectlite.Value).IsNil", "internal/reflectlite.TypeOf", "(internal/reflectlite.Value).Elem", "(internal/reflectlite.Value).Set"], unfollowed := true, recurses := true, named := ["errors.errorType"], plainKeys := false, apart := false, laid := [("errors.errorType", laid_errors_errorType)] }
def FlySaysSaid : Prop := flySaysRow.holds Tryz.pinned (OpenSpec.ofChange flySaysSpec)

/-- ITS FALSE NEIGHBOUR: 'it returns false'. Refute it at one input. -/
def flySaysWrong : ChangeSpec := { name := "flySays", fn := fun _ => fun
  | [d1, d2] => { results := [.lit (.bool false)], args := [d1, d2] }
  | _ => none }
def FlySaysWrongFalsely : Prop := flySaysRow.holds Tryz.pinned (OpenSpec.ofChange flySaysWrong)

/-- 'fulmarlaw.FlyMade': WHATEVER THE INPUT: true; the input reads as it did. -/
def flyMadeSpec : ChangeSpec := { name := "flyMade", fn := fun _ => fun
  | [d1, d2, d3, d4] => { results := [.lit (.bool true)], args := [d1, d2, d3, d4] }
  | _ => none }
def flyMadeRow : OpenClaim := { program := "ytnfdfiholcelaaagreatdoor", sum := "17eab4aea3c594cc3f43232dec9c0185028ea6c31b7608f17aa663a5a4d016ed", func := "fulmar/fulmarlaw.FlyMade", spec := "flyMade", inPlace := ["internal/reflectlite.ValueOf", "(internal/reflectlite.Value).Type", "(internal/reflectlite.Value).IsNil", "internal/reflectlite.TypeOf", "(internal/reflectlite.Value).Elem", "(internal/reflectlite.Value).Set"], unfollowed := true, recurses := true, named := ["errors.errorType"], plainKeys := false, apart := false, laid := [("errors.errorType", laid_errors_errorType)] }
def FlyMadeSaid : Prop := flyMadeRow.holds Tryz.pinned (OpenSpec.ofChange flyMadeSpec)

/-- ITS FALSE NEIGHBOUR: 'it returns false'. Refute it at one input. -/
def flyMadeWrong : ChangeSpec := { name := "flyMade", fn := fun _ => fun
  | [d1, d2, d3, d4] => { results := [.lit (.bool false)], args := [d1, d2, d3, d4] }
  | _ => none }
def FlyMadeWrongFalsely : Prop := flyMadeRow.holds Tryz.pinned (OpenSpec.ofChange flyMadeWrong)

/-- 'fulmartop.TopFlight': WHATEVER THE INPUT: true; the input reads as it did. -/
def topFlightSpec : ChangeSpec := { name := "topFlight", fn := fun _ => fun
  | [d1, d2] => { results := [.lit (.bool true)], args := [d1, d2] }
  | _ => none }
def topFlightRow : OpenClaim := { program := "ytnfdfiholcelaaagreatdoor", sum := "17eab4aea3c594cc3f43232dec9c0185028ea6c31b7608f17aa663a5a4d016ed", func := "fulmar/fulmartop.TopFlight", spec := "topFlight", inPlace := ["internal/reflectlite.ValueOf", "(internal/reflectlite.Value).Type", "(internal/reflectlite.Value).IsNil", "internal/reflectlite.TypeOf", "(internal/reflectlite.Value).Elem", "(internal/reflectlite.Value).Set"], unfollowed := true, recurses := true, named := ["errors.errorType"], plainKeys := false, apart := false, laid := [("errors.errorType", laid_errors_errorType)] }
def TopFlightSaid : Prop := topFlightRow.holds Tryz.pinned (OpenSpec.ofChange topFlightSpec)

/-- ITS FALSE NEIGHBOUR: 'it returns false'. Refute it at one input. -/
def topFlightWrong : ChangeSpec := { name := "topFlight", fn := fun _ => fun
  | [d1, d2] => { results := [.lit (.bool false)], args := [d1, d2] }
  | _ => none }
def TopFlightWrongFalsely : Prop := topFlightRow.holds Tryz.pinned (OpenSpec.ofChange topFlightWrong)

/-- 'fulmartop.TopLoose': WHATEVER THE INPUT: true; the input reads as it did. -/
def topLooseSpec : ChangeSpec := { name := "topLoose", fn := fun _ => fun
  | [d1, d2] => { results := [.lit (.bool true)], args := [d1, d2] }
  | _ => none }
def topLooseRow : OpenClaim := { program := "ytnfdfiholcelaaagreatdoor", sum := "17eab4aea3c594cc3f43232dec9c0185028ea6c31b7608f17aa663a5a4d016ed", func := "fulmar/fulmartop.TopLoose", spec := "topLoose", inPlace := ["internal/reflectlite.ValueOf", "(internal/reflectlite.Value).Type", "(internal/reflectlite.Value).IsNil", "internal/reflectlite.TypeOf", "(internal/reflectlite.Value).Elem", "(internal/reflectlite.Value).Set"], unfollowed := true, recurses := true, named := ["errors.errorType"], plainKeys := false, apart := false, laid := [("errors.errorType", laid_errors_errorType)] }
def TopLooseSaid : Prop := topLooseRow.holds Tryz.pinned (OpenSpec.ofChange topLooseSpec)

/-- ITS FALSE NEIGHBOUR: 'it returns false'. Refute it at one input. -/
def topLooseWrong : ChangeSpec := { name := "topLoose", fn := fun _ => fun
  | [d1, d2] => { results := [.lit (.bool false)], args := [d1, d2] }
  | _ => none }
def TopLooseWrongFalsely : Prop := topLooseRow.holds Tryz.pinned (OpenSpec.ofChange topLooseWrong)

/-- 'fulmartop.TopMade': WHATEVER THE INPUT: true; the input reads as it did. -/
def topMadeSpec : ChangeSpec := { name := "topMade", fn := fun _ => fun
  | [d1, d2, d3, d4] => { results := [.lit (.bool true)], args := [d1, d2, d3, d4] }
  | _ => none }
def topMadeRow : OpenClaim := { program := "ytnfdfiholcelaaagreatdoor", sum := "17eab4aea3c594cc3f43232dec9c0185028ea6c31b7608f17aa663a5a4d016ed", func := "fulmar/fulmartop.TopMade", spec := "topMade", inPlace := ["internal/reflectlite.ValueOf", "(internal/reflectlite.Value).Type", "(internal/reflectlite.Value).IsNil", "internal/reflectlite.TypeOf", "(internal/reflectlite.Value).Elem", "(internal/reflectlite.Value).Set"], unfollowed := true, recurses := true, named := ["errors.errorType"], plainKeys := false, apart := false, laid := [("errors.errorType", laid_errors_errorType)] }
def TopMadeSaid : Prop := topMadeRow.holds Tryz.pinned (OpenSpec.ofChange topMadeSpec)

/-- ITS FALSE NEIGHBOUR: 'it returns false'. Refute it at one input. -/
def topMadeWrong : ChangeSpec := { name := "topMade", fn := fun _ => fun
  | [d1, d2, d3, d4] => { results := [.lit (.bool false)], args := [d1, d2, d3, d4] }
  | _ => none }
def TopMadeWrongFalsely : Prop := topMadeRow.holds Tryz.pinned (OpenSpec.ofChange topMadeWrong)

/-- 'fulmartop.TopLaw': WHATEVER THE INPUT: true; the input reads as it did. -/
def topLawSpec : ChangeSpec := { name := "topLaw", fn := fun _ => fun
  | [d1, d2] => { results := [.lit (.bool true)], args := [d1, d2] }
  | _ => none }
def topLawRow : OpenClaim := { program := "ytnfdfiholcelaaagreatdoor", sum := "17eab4aea3c594cc3f43232dec9c0185028ea6c31b7608f17aa663a5a4d016ed", func := "fulmar/fulmartop.TopLaw", spec := "topLaw", inPlace := ["internal/reflectlite.ValueOf", "(internal/reflectlite.Value).Type", "(internal/reflectlite.Value).IsNil", "internal/reflectlite.TypeOf", "(internal/reflectlite.Value).Elem", "(internal/reflectlite.Value).Set"], unfollowed := true, recurses := true, named := ["errors.errorType"], plainKeys := false, apart := false, laid := [("errors.errorType", laid_errors_errorType)] }
def TopLawSaid : Prop := topLawRow.holds Tryz.pinned (OpenSpec.ofChange topLawSpec)

/-- ITS FALSE NEIGHBOUR: 'it returns false'. Refute it at one input. -/
def topLawWrong : ChangeSpec := { name := "topLaw", fn := fun _ => fun
  | [d1, d2] => { results := [.lit (.bool false)], args := [d1, d2] }
  | _ => none }
def TopLawWrongFalsely : Prop := topLawRow.holds Tryz.pinned (OpenSpec.ofChange topLawWrong)

/- THE SECOND FORM. 'bulk': how many values and letters a reading holds, each counted each time it is reached (what is shared counts as often as it is met; a slice's spare places count too). A statement '..UptoSaid' is the law's where the arguments, and the package variables that the reading takes, are together of bulk at most 1048576: NARROWER than '..Said'. Prove '..Said' where nothing that the law and all that it calls make is longer than what came in: it says more and counts as full. Else prove '..UptoSaid'. A law counts once. -/
mutual
def uptoBulk {H : Type} : DataW H → Nat
  | .lit (.string bytes) => bytes.length + 1
  | .lit _ => 1
  | .nil => 1
  | .ptr d => uptoBulk d + 1
  | .slice elems spare => uptoBulkAll elems + uptoBulkAll spare + 1
  | .agg parts => uptoBulkAll parts + 1
  | .iface _ d => uptoBulk d + 1
  | .map entries => uptoBulkEntries entries + 1
  | .held _ => 1
def uptoBulkAll {H : Type} : List (DataW H) → Nat
  | [] => 0
  | d :: r => uptoBulk d + uptoBulkAll r
def uptoBulkEntries {H : Type} : List (Lit × DataW H) → Nat
  | [] => 0
  | x :: r => uptoBulkEntry x + uptoBulkEntries r
def uptoBulkEntry {H : Type} : Lit × DataW H → Nat
  | (.string bytes, d) => bytes.length + uptoBulk d + 1
  | (_, d) => uptoBulk d + 1
 end
def uptoSmall : (H : Type) → List (DataW H) → Bool := fun _ ds => decide (uptoBulkAll ds ≤ 1048576)
def OpenSpec.upto (s : _root_.Go.ChangeSpec) : _root_.Go.OpenSpec := { _root_.Go.OpenSpec.ofChange s with cond := some uptoSmall }

/-- 'fulmarlaw.FccSays', WHERE WHAT IT READS IS OF BULK AT MOST 1048576: true; the input reads as it did. -/
def fccSaysUptoRow : OpenClaim := { program := "ytnfdfiholcelaaagreatdoor", sum := "17eab4aea3c594cc3f43232dec9c0185028ea6c31b7608f17aa663a5a4d016ed", func := "fulmar/fulmarlaw.FccSays", spec := "fccSays", inPlace := ["internal/reflectlite.ValueOf", "(internal/reflectlite.Value).Type", "(internal/reflectlite.Value).IsNil", "internal/reflectlite.TypeOf", "(internal/reflectlite.Value).Elem", "(internal/reflectlite.Value).Set"], unfollowed := true, recurses := true, named := ["errors.errorType"], plainKeys := false, apart := false, laid := [("errors.errorType", laid_errors_errorType)], narrowed := true }
def FccSaysUptoSaid : Prop := fccSaysUptoRow.holds Tryz.pinned (OpenSpec.upto fccSaysSpec)

/-- 'fulmarlaw.FccMade', WHERE WHAT IT READS IS OF BULK AT MOST 1048576: true; the input reads as it did. -/
def fccMadeUptoRow : OpenClaim := { program := "ytnfdfiholcelaaagreatdoor", sum := "17eab4aea3c594cc3f43232dec9c0185028ea6c31b7608f17aa663a5a4d016ed", func := "fulmar/fulmarlaw.FccMade", spec := "fccMade", inPlace := ["internal/reflectlite.ValueOf", "(internal/reflectlite.Value).Type", "(internal/reflectlite.Value).IsNil", "internal/reflectlite.TypeOf", "(internal/reflectlite.Value).Elem", "(internal/reflectlite.Value).Set"], unfollowed := true, recurses := true, named := ["errors.errorType"], plainKeys := false, apart := false, laid := [("errors.errorType", laid_errors_errorType)], narrowed := true }
def FccMadeUptoSaid : Prop := fccMadeUptoRow.holds Tryz.pinned (OpenSpec.upto fccMadeSpec)

/-- 'fulmarlaw.FlySays', WHERE WHAT IT READS IS OF BULK AT MOST 1048576: true; the input reads as it did. -/
def flySaysUptoRow : OpenClaim := { program := "ytnfdfiholcelaaagreatdoor", sum := "17eab4aea3c594cc3f43232dec9c0185028ea6c31b7608f17aa663a5a4d016ed", func := "fulmar/fulmarlaw.FlySays", spec := "flySays", inPlace := ["internal/reflectlite.ValueOf", "(internal/reflectlite.Value).Type", "(internal/reflectlite.Value).IsNil", "internal/reflectlite.TypeOf", "(internal/reflectlite.Value).Elem", "(internal/reflectlite.Value).Set"], unfollowed := true, recurses := true, named := ["errors.errorType"], plainKeys := false, apart := false, laid := [("errors.errorType", laid_errors_errorType)], narrowed := true }
def FlySaysUptoSaid : Prop := flySaysUptoRow.holds Tryz.pinned (OpenSpec.upto flySaysSpec)

/-- 'fulmarlaw.FlyMade', WHERE WHAT IT READS IS OF BULK AT MOST 1048576: true; the input reads as it did. -/
def flyMadeUptoRow : OpenClaim := { program := "ytnfdfiholcelaaagreatdoor", sum := "17eab4aea3c594cc3f43232dec9c0185028ea6c31b7608f17aa663a5a4d016ed", func := "fulmar/fulmarlaw.FlyMade", spec := "flyMade", inPlace := ["internal/reflectlite.ValueOf", "(internal/reflectlite.Value).Type", "(internal/reflectlite.Value).IsNil", "internal/reflectlite.TypeOf", "(internal/reflectlite.Value).Elem", "(internal/reflectlite.Value).Set"], unfollowed := true, recurses := true, named := ["errors.errorType"], plainKeys := false, apart := false, laid := [("errors.errorType", laid_errors_errorType)], narrowed := true }
def FlyMadeUptoSaid : Prop := flyMadeUptoRow.holds Tryz.pinned (OpenSpec.upto flyMadeSpec)

/-- 'fulmartop.TopFlight', WHERE WHAT IT READS IS OF BULK AT MOST 1048576: true; the input reads as it did. -/
def topFlightUptoRow : OpenClaim := { program := "ytnfdfiholcelaaagreatdoor", sum := "17eab4aea3c594cc3f43232dec9c0185028ea6c31b7608f17aa663a5a4d016ed", func := "fulmar/fulmartop.TopFlight", spec := "topFlight", inPlace := ["internal/reflectlite.ValueOf", "(internal/reflectlite.Value).Type", "(internal/reflectlite.Value).IsNil", "internal/reflectlite.TypeOf", "(internal/reflectlite.Value).Elem", "(internal/reflectlite.Value).Set"], unfollowed := true, recurses := true, named := ["errors.errorType"], plainKeys := false, apart := false, laid := [("errors.errorType", laid_errors_errorType)], narrowed := true }
def TopFlightUptoSaid : Prop := topFlightUptoRow.holds Tryz.pinned (OpenSpec.upto topFlightSpec)

/-- 'fulmartop.TopLoose', WHERE WHAT IT READS IS OF BULK AT MOST 1048576: true; the input reads as it did. -/
def topLooseUptoRow : OpenClaim := { program := "ytnfdfiholcelaaagreatdoor", sum := "17eab4aea3c594cc3f43232dec9c0185028ea6c31b7608f17aa663a5a4d016ed", func := "fulmar/fulmartop.TopLoose", spec := "topLoose", inPlace := ["internal/reflectlite.ValueOf", "(internal/reflectlite.Value).Type", "(internal/reflectlite.Value).IsNil", "internal/reflectlite.TypeOf", "(internal/reflectlite.Value).Elem", "(internal/reflectlite.Value).Set"], unfollowed := true, recurses := true, named := ["errors.errorType"], plainKeys := false, apart := false, laid := [("errors.errorType", laid_errors_errorType)], narrowed := true }
def TopLooseUptoSaid : Prop := topLooseUptoRow.holds Tryz.pinned (OpenSpec.upto topLooseSpec)

/-- 'fulmartop.TopMade', WHERE WHAT IT READS IS OF BULK AT MOST 1048576: true; the input reads as it did. -/
def topMadeUptoRow : OpenClaim := { program := "ytnfdfiholcelaaagreatdoor", sum := "17eab4aea3c594cc3f43232dec9c0185028ea6c31b7608f17aa663a5a4d016ed", func := "fulmar/fulmartop.TopMade", spec := "topMade", inPlace := ["internal/reflectlite.ValueOf", "(internal/reflectlite.Value).Type", "(internal/reflectlite.Value).IsNil", "internal/reflectlite.TypeOf", "(internal/reflectlite.Value).Elem", "(internal/reflectlite.Value).Set"], unfollowed := true, recurses := true, named := ["errors.errorType"], plainKeys := false, apart := false, laid := [("errors.errorType", laid_errors_errorType)], narrowed := true }
def TopMadeUptoSaid : Prop := topMadeUptoRow.holds Tryz.pinned (OpenSpec.upto topMadeSpec)

/-- 'fulmartop.TopLaw', WHERE WHAT IT READS IS OF BULK AT MOST 1048576: true; the input reads as it did. -/
def topLawUptoRow : OpenClaim := { program := "ytnfdfiholcelaaagreatdoor", sum := "17eab4aea3c594cc3f43232dec9c0185028ea6c31b7608f17aa663a5a4d016ed", func := "fulmar/fulmartop.TopLaw", spec := "topLaw", inPlace := ["internal/reflectlite.ValueOf", "(internal/reflectlite.Value).Type", "(internal/reflectlite.Value).IsNil", "internal/reflectlite.TypeOf", "(internal/reflectlite.Value).Elem", "(internal/reflectlite.Value).Set"], unfollowed := true, recurses := true, named := ["errors.errorType"], plainKeys := false, apart := false, laid := [("errors.errorType", laid_errors_errorType)], narrowed := true }
def TopLawUptoSaid : Prop := topLawUptoRow.holds Tryz.pinned (OpenSpec.upto topLawSpec)

end Rows
end Go.Proofs.YtnfdfiholcelaaaGreatDoor
