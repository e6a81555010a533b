/-
  DERIVED. GIVEN WITH THE SEED: THE CARDS: each row of YtchjfeafkmpmbaaGreatDoorRows.lean that lists a variable, with what it lists TIED to the program's text (the seventh form; the later family's looks); each row that meets fmt, with fmt's text TOLD by the authors' own Lean function (tested against real Go, not proved from fmt's source: count such statements apart). THE CARD IS WHAT COUNTS. Prove the row's statement (the work); the ties are given (YtchjfeafkmpmbaaGreatDoorTie.lean); close each card by the builder's one call (the guide's Derived/Test/ToyasCard.lean, 'card_holds'). Laid BY PROGRAM, IN A SANDBOX (cutbox-door.mjs). By AI agents, Wed Nov 11 2026. No macro, syntax, notation, axiom, sorry.
-/
import Derived.Test.YtchjfeafkmpmbaaGreatDoorRows
import GoSem.ClaimSeven
namespace Go.Proofs.YtchjfeafkmpmbaaGreatDoor
namespace Rows

/-- THE TIED CARD OF 'seisinlaw18.HoldScript'. -/
def holdScriptCard : Claim7 := { stood := { row := holdScriptRow, standIns := [], harness := (true, "975ee7ce9cd169ce830f31a71a3c9eaeecb99311ea1ea1fc94423e61ec62cb55"), looks := false }, kinds := [], alts := [], laidByText := true, laidKinds := [.data], laidTests := true, laidLooks := .later }
def HoldScriptCardSaid : Prop := Claim7.holds Tryz.pinned (.plain (OpenSpec.ofChange holdScriptSpec)) holdScriptCard

/-- THE TIED CARD OF 'seisinlaw18.HoldTree'. -/
def holdTreeCard : Claim7 := { stood := { row := holdTreeRow, standIns := [], harness := (true, "975ee7ce9cd169ce830f31a71a3c9eaeecb99311ea1ea1fc94423e61ec62cb55"), looks := false }, kinds := [], alts := [], laidByText := true, laidKinds := [.data], laidTests := true, laidLooks := .later }
def HoldTreeCardSaid : Prop := Claim7.holds Tryz.pinned (.plain (OpenSpec.ofChange holdTreeSpec)) holdTreeCard

/-- THE TIED CARD OF 'seisinlaw18.HoldCopies'. -/
def holdCopiesCard : Claim7 := { stood := { row := holdCopiesRow, standIns := [], harness := (true, "975ee7ce9cd169ce830f31a71a3c9eaeecb99311ea1ea1fc94423e61ec62cb55"), looks := false }, kinds := [], alts := [], laidByText := true, laidKinds := [.data], laidTests := true, laidLooks := .later }
def HoldCopiesCardSaid : Prop := Claim7.holds Tryz.pinned (.plain (OpenSpec.ofChange holdCopiesSpec)) holdCopiesCard

/-- THE TIED CARD OF 'seisinlaw18.HoldMoves'. -/
def holdMovesCard : Claim7 := { stood := { row := holdMovesRow, standIns := [], harness := (true, "975ee7ce9cd169ce830f31a71a3c9eaeecb99311ea1ea1fc94423e61ec62cb55"), looks := false }, kinds := [], alts := [], laidByText := true, laidKinds := [.data], laidTests := true, laidLooks := .later }
def HoldMovesCardSaid : Prop := Claim7.holds Tryz.pinned (.plain (OpenSpec.ofChange holdMovesSpec)) holdMovesCard

/-- THE TIED CARD OF 'seisinlaw18.HoldFinal'. -/
def holdFinalCard : Claim7 := { stood := { row := holdFinalRow, standIns := [], harness := (true, "975ee7ce9cd169ce830f31a71a3c9eaeecb99311ea1ea1fc94423e61ec62cb55"), looks := false }, kinds := [], alts := [], laidByText := true, laidKinds := [.data], laidTests := true, laidLooks := .later }
def HoldFinalCardSaid : Prop := Claim7.holds Tryz.pinned (.plain (OpenSpec.ofChange holdFinalSpec)) holdFinalCard

/-- THE SECOND FORM's CARD OF 'seisinlaw18.HoldScript'. -/
def holdScriptUptoCard : Claim7 := { stood := { row := holdScriptUptoRow, standIns := [], harness := (true, "975ee7ce9cd169ce830f31a71a3c9eaeecb99311ea1ea1fc94423e61ec62cb55"), looks := false }, kinds := [], alts := [], laidByText := true, laidKinds := [.data], laidTests := true, laidLooks := .later }
def HoldScriptUptoCardSaid : Prop := Claim7.holds Tryz.pinned (.plain (OpenSpec.upto holdScriptSpec)) holdScriptUptoCard

/-- THE SECOND FORM's CARD OF 'seisinlaw18.HoldTree'. -/
def holdTreeUptoCard : Claim7 := { stood := { row := holdTreeUptoRow, standIns := [], harness := (true, "975ee7ce9cd169ce830f31a71a3c9eaeecb99311ea1ea1fc94423e61ec62cb55"), looks := false }, kinds := [], alts := [], laidByText := true, laidKinds := [.data], laidTests := true, laidLooks := .later }
def HoldTreeUptoCardSaid : Prop := Claim7.holds Tryz.pinned (.plain (OpenSpec.upto holdTreeSpec)) holdTreeUptoCard

/-- THE SECOND FORM's CARD OF 'seisinlaw18.HoldCopies'. -/
def holdCopiesUptoCard : Claim7 := { stood := { row := holdCopiesUptoRow, standIns := [], harness := (true, "975ee7ce9cd169ce830f31a71a3c9eaeecb99311ea1ea1fc94423e61ec62cb55"), looks := false }, kinds := [], alts := [], laidByText := true, laidKinds := [.data], laidTests := true, laidLooks := .later }
def HoldCopiesUptoCardSaid : Prop := Claim7.holds Tryz.pinned (.plain (OpenSpec.upto holdCopiesSpec)) holdCopiesUptoCard

/-- THE SECOND FORM's CARD OF 'seisinlaw18.HoldMoves'. -/
def holdMovesUptoCard : Claim7 := { stood := { row := holdMovesUptoRow, standIns := [], harness := (true, "975ee7ce9cd169ce830f31a71a3c9eaeecb99311ea1ea1fc94423e61ec62cb55"), looks := false }, kinds := [], alts := [], laidByText := true, laidKinds := [.data], laidTests := true, laidLooks := .later }
def HoldMovesUptoCardSaid : Prop := Claim7.holds Tryz.pinned (.plain (OpenSpec.upto holdMovesSpec)) holdMovesUptoCard

/-- THE SECOND FORM's CARD OF 'seisinlaw18.HoldFinal'. -/
def holdFinalUptoCard : Claim7 := { stood := { row := holdFinalUptoRow, standIns := [], harness := (true, "975ee7ce9cd169ce830f31a71a3c9eaeecb99311ea1ea1fc94423e61ec62cb55"), looks := false }, kinds := [], alts := [], laidByText := true, laidKinds := [.data], laidTests := true, laidLooks := .later }
def HoldFinalUptoCardSaid : Prop := Claim7.holds Tryz.pinned (.plain (OpenSpec.upto holdFinalSpec)) holdFinalUptoCard
end Rows
end Go.Proofs.YtchjfeafkmpmbaaGreatDoor
