/-
  DERIVED. GIVEN WITH THE SEED: THE CARDS: each row of YtnfdfiholcelaaaGreatDoorRows.lean that lists a variable, with what it lists TIED to the program's text (the seventh form; the later family's looks); each row that meets fmt, with fmt's text TOLD by the authors' own Lean function (tested against real Go, not proved from fmt's source: count such statements apart). THE CARD IS WHAT COUNTS. Prove the row's statement (the work); the ties are given (YtnfdfiholcelaaaGreatDoorTie.lean); close each card by the builder's one call (the guide's Derived/Test/ToyasCard.lean, 'card_holds'). Laid BY PROGRAM, IN A SANDBOX (cutbox-door.mjs). By AI agents, Wed Nov 11 2026. No macro, syntax, notation, axiom, sorry.
-/
import Derived.Test.YtnfdfiholcelaaaGreatDoorRows
import GoSem.ClaimSeven
namespace Go.Proofs.YtnfdfiholcelaaaGreatDoor
namespace Rows

/-- THE TIED CARD OF 'fulmarlaw.FccSays'. -/
def fccSaysCard : Claim7 := { stood := { row := fccSaysRow, standIns := [], harness := (true, "e12a80cbbd12b6472fb95c1d543d60e9d32a0d3b8bceb2bbcbbe654a8562b6bb"), looks := true }, kinds := [], alts := [], laidByText := true, laidKinds := [.handle], laidTests := true, laidLooks := .later }
def FccSaysCardSaid : Prop := Claim7.holds Tryz.pinned (.plain (OpenSpec.ofChange fccSaysSpec)) fccSaysCard

/-- THE TIED CARD OF 'fulmarlaw.FccMade'. -/
def fccMadeCard : Claim7 := { stood := { row := fccMadeRow, standIns := [], harness := (true, "e12a80cbbd12b6472fb95c1d543d60e9d32a0d3b8bceb2bbcbbe654a8562b6bb"), looks := true }, kinds := [], alts := [], laidByText := true, laidKinds := [.handle], laidTests := true, laidLooks := .later }
def FccMadeCardSaid : Prop := Claim7.holds Tryz.pinned (.plain (OpenSpec.ofChange fccMadeSpec)) fccMadeCard

/-- THE TIED CARD OF 'fulmarlaw.FlySays'. -/
def flySaysCard : Claim7 := { stood := { row := flySaysRow, standIns := [], harness := (true, "e12a80cbbd12b6472fb95c1d543d60e9d32a0d3b8bceb2bbcbbe654a8562b6bb"), looks := true }, kinds := [], alts := [], laidByText := true, laidKinds := [.handle], laidTests := true, laidLooks := .later }
def FlySaysCardSaid : Prop := Claim7.holds Tryz.pinned (.plain (OpenSpec.ofChange flySaysSpec)) flySaysCard

/-- THE TIED CARD OF 'fulmarlaw.FlyMade'. -/
def flyMadeCard : Claim7 := { stood := { row := flyMadeRow, standIns := [], harness := (true, "e12a80cbbd12b6472fb95c1d543d60e9d32a0d3b8bceb2bbcbbe654a8562b6bb"), looks := true }, kinds := [], alts := [], laidByText := true, laidKinds := [.handle], laidTests := true, laidLooks := .later }
def FlyMadeCardSaid : Prop := Claim7.holds Tryz.pinned (.plain (OpenSpec.ofChange flyMadeSpec)) flyMadeCard

/-- THE TIED CARD OF 'fulmartop.TopFlight'. -/
def topFlightCard : Claim7 := { stood := { row := topFlightRow, standIns := [], harness := (true, "e12a80cbbd12b6472fb95c1d543d60e9d32a0d3b8bceb2bbcbbe654a8562b6bb"), looks := true }, kinds := [], alts := [], laidByText := true, laidKinds := [.handle], laidTests := true, laidLooks := .later }
def TopFlightCardSaid : Prop := Claim7.holds Tryz.pinned (.plain (OpenSpec.ofChange topFlightSpec)) topFlightCard

/-- THE TIED CARD OF 'fulmartop.TopLoose'. -/
def topLooseCard : Claim7 := { stood := { row := topLooseRow, standIns := [], harness := (true, "e12a80cbbd12b6472fb95c1d543d60e9d32a0d3b8bceb2bbcbbe654a8562b6bb"), looks := true }, kinds := [], alts := [], laidByText := true, laidKinds := [.handle], laidTests := true, laidLooks := .later }
def TopLooseCardSaid : Prop := Claim7.holds Tryz.pinned (.plain (OpenSpec.ofChange topLooseSpec)) topLooseCard

/-- THE TIED CARD OF 'fulmartop.TopMade'. -/
def topMadeCard : Claim7 := { stood := { row := topMadeRow, standIns := [], harness := (true, "e12a80cbbd12b6472fb95c1d543d60e9d32a0d3b8bceb2bbcbbe654a8562b6bb"), looks := true }, kinds := [], alts := [], laidByText := true, laidKinds := [.handle], laidTests := true, laidLooks := .later }
def TopMadeCardSaid : Prop := Claim7.holds Tryz.pinned (.plain (OpenSpec.ofChange topMadeSpec)) topMadeCard

/-- THE TIED CARD OF 'fulmartop.TopLaw'. -/
def topLawCard : Claim7 := { stood := { row := topLawRow, standIns := [], harness := (true, "e12a80cbbd12b6472fb95c1d543d60e9d32a0d3b8bceb2bbcbbe654a8562b6bb"), looks := true }, kinds := [], alts := [], laidByText := true, laidKinds := [.handle], laidTests := true, laidLooks := .later }
def TopLawCardSaid : Prop := Claim7.holds Tryz.pinned (.plain (OpenSpec.ofChange topLawSpec)) topLawCard

/-- THE SECOND FORM's CARD OF 'fulmarlaw.FccSays'. -/
def fccSaysUptoCard : Claim7 := { stood := { row := fccSaysUptoRow, standIns := [], harness := (true, "e12a80cbbd12b6472fb95c1d543d60e9d32a0d3b8bceb2bbcbbe654a8562b6bb"), looks := true }, kinds := [], alts := [], laidByText := true, laidKinds := [.handle], laidTests := true, laidLooks := .later }
def FccSaysUptoCardSaid : Prop := Claim7.holds Tryz.pinned (.plain (OpenSpec.upto fccSaysSpec)) fccSaysUptoCard

/-- THE SECOND FORM's CARD OF 'fulmarlaw.FccMade'. -/
def fccMadeUptoCard : Claim7 := { stood := { row := fccMadeUptoRow, standIns := [], harness := (true, "e12a80cbbd12b6472fb95c1d543d60e9d32a0d3b8bceb2bbcbbe654a8562b6bb"), looks := true }, kinds := [], alts := [], laidByText := true, laidKinds := [.handle], laidTests := true, laidLooks := .later }
def FccMadeUptoCardSaid : Prop := Claim7.holds Tryz.pinned (.plain (OpenSpec.upto fccMadeSpec)) fccMadeUptoCard

/-- THE SECOND FORM's CARD OF 'fulmarlaw.FlySays'. -/
def flySaysUptoCard : Claim7 := { stood := { row := flySaysUptoRow, standIns := [], harness := (true, "e12a80cbbd12b6472fb95c1d543d60e9d32a0d3b8bceb2bbcbbe654a8562b6bb"), looks := true }, kinds := [], alts := [], laidByText := true, laidKinds := [.handle], laidTests := true, laidLooks := .later }
def FlySaysUptoCardSaid : Prop := Claim7.holds Tryz.pinned (.plain (OpenSpec.upto flySaysSpec)) flySaysUptoCard

/-- THE SECOND FORM's CARD OF 'fulmarlaw.FlyMade'. -/
def flyMadeUptoCard : Claim7 := { stood := { row := flyMadeUptoRow, standIns := [], harness := (true, "e12a80cbbd12b6472fb95c1d543d60e9d32a0d3b8bceb2bbcbbe654a8562b6bb"), looks := true }, kinds := [], alts := [], laidByText := true, laidKinds := [.handle], laidTests := true, laidLooks := .later }
def FlyMadeUptoCardSaid : Prop := Claim7.holds Tryz.pinned (.plain (OpenSpec.upto flyMadeSpec)) flyMadeUptoCard

/-- THE SECOND FORM's CARD OF 'fulmartop.TopFlight'. -/
def topFlightUptoCard : Claim7 := { stood := { row := topFlightUptoRow, standIns := [], harness := (true, "e12a80cbbd12b6472fb95c1d543d60e9d32a0d3b8bceb2bbcbbe654a8562b6bb"), looks := true }, kinds := [], alts := [], laidByText := true, laidKinds := [.handle], laidTests := true, laidLooks := .later }
def TopFlightUptoCardSaid : Prop := Claim7.holds Tryz.pinned (.plain (OpenSpec.upto topFlightSpec)) topFlightUptoCard

/-- THE SECOND FORM's CARD OF 'fulmartop.TopLoose'. -/
def topLooseUptoCard : Claim7 := { stood := { row := topLooseUptoRow, standIns := [], harness := (true, "e12a80cbbd12b6472fb95c1d543d60e9d32a0d3b8bceb2bbcbbe654a8562b6bb"), looks := true }, kinds := [], alts := [], laidByText := true, laidKinds := [.handle], laidTests := true, laidLooks := .later }
def TopLooseUptoCardSaid : Prop := Claim7.holds Tryz.pinned (.plain (OpenSpec.upto topLooseSpec)) topLooseUptoCard

/-- THE SECOND FORM's CARD OF 'fulmartop.TopMade'. -/
def topMadeUptoCard : Claim7 := { stood := { row := topMadeUptoRow, standIns := [], harness := (true, "e12a80cbbd12b6472fb95c1d543d60e9d32a0d3b8bceb2bbcbbe654a8562b6bb"), looks := true }, kinds := [], alts := [], laidByText := true, laidKinds := [.handle], laidTests := true, laidLooks := .later }
def TopMadeUptoCardSaid : Prop := Claim7.holds Tryz.pinned (.plain (OpenSpec.upto topMadeSpec)) topMadeUptoCard

/-- THE SECOND FORM's CARD OF 'fulmartop.TopLaw'. -/
def topLawUptoCard : Claim7 := { stood := { row := topLawUptoRow, standIns := [], harness := (true, "e12a80cbbd12b6472fb95c1d543d60e9d32a0d3b8bceb2bbcbbe654a8562b6bb"), looks := true }, kinds := [], alts := [], laidByText := true, laidKinds := [.handle], laidTests := true, laidLooks := .later }
def TopLawUptoCardSaid : Prop := Claim7.holds Tryz.pinned (.plain (OpenSpec.upto topLawSpec)) topLawUptoCard
end Rows
end Go.Proofs.YtnfdfiholcelaaaGreatDoor
