/-
  DERIVED. GIVEN WITH THE SEED: THE CARDS: each row of YtdmlcbbheabdpaaDoorRows.lean that lists a variable, with what it lists TIED to the program's text (the seventh form; the later family's looks); each row that meets fmt, with fmt's text TOLD by the authors' own Lean function (tested against real Go, not proved from fmt's source: count such statements apart). THE CARD IS WHAT COUNTS. Prove the row's statement (the work); the ties are given (YtdmlcbbheabdpaaDoorTie.lean); close each card by the builder's one call (the guide's Derived/Test/ToyasCard.lean, 'card_holds'). Laid BY PROGRAM, IN A SANDBOX (cutbox-door.mjs). By AI agents, Wed Nov 11 2026. No macro, syntax, notation, axiom, sorry.
-/
import Derived.Test.YtdmlcbbheabdpaaDoorRows
import GoSem.ClaimSeven
namespace Go.Proofs.YtdmlcbbheabdpaaDoor
namespace Rows

/-- THE TIED CARD OF 'seisinlaw3.PteLays'. -/
def pteLaysCard : Claim7 := { stood := { row := pteLaysRow, standIns := [], harness := (true, "851ba64f52ac56aff15b4482a3eb9a7c504392799547ff524efc5d4975258776"), looks := false }, kinds := [], alts := [], laidByText := true, laidKinds := [.data], laidTests := true, laidLooks := .later }
def PteLaysCardSaid : Prop := Claim7.holds Tryd.pinned (.plain (OpenSpec.ofChange pteLaysSpec)) pteLaysCard

/-- THE TIED CARD OF 'seisinlaw3.PteReads'. -/
def pteReadsCard : Claim7 := { stood := { row := pteReadsRow, standIns := [], harness := (true, "851ba64f52ac56aff15b4482a3eb9a7c504392799547ff524efc5d4975258776"), looks := false }, kinds := [], alts := [], laidByText := true, laidKinds := [.data], laidTests := true, laidLooks := .later }
def PteReadsCardSaid : Prop := Claim7.holds Tryd.pinned (.plain (OpenSpec.ofChange pteReadsSpec)) pteReadsCard

/-- THE TIED CARD OF 'seisinlaw3.PteBack'. -/
def pteBackCard : Claim7 := { stood := { row := pteBackRow, standIns := [], harness := (true, "851ba64f52ac56aff15b4482a3eb9a7c504392799547ff524efc5d4975258776"), looks := false }, kinds := [], alts := [], laidByText := true, laidKinds := [.data], laidTests := true, laidLooks := .later }
def PteBackCardSaid : Prop := Claim7.holds Tryd.pinned (.plain (OpenSpec.ofChange pteBackSpec)) pteBackCard

/-- THE TIED CARD OF 'seisinlaw3.PteTurned'. -/
def pteTurnedCard : Claim7 := { stood := { row := pteTurnedRow, standIns := [], harness := (true, "851ba64f52ac56aff15b4482a3eb9a7c504392799547ff524efc5d4975258776"), looks := false }, kinds := [], alts := [], laidByText := true, laidKinds := [.data], laidTests := true, laidLooks := .later }
def PteTurnedCardSaid : Prop := Claim7.holds Tryd.pinned (.plain (OpenSpec.ofChange pteTurnedSpec)) pteTurnedCard

/-- THE TIED CARD OF 'seisinlaw4.VaddrJoins'. -/
def vaddrJoinsCard : Claim7 := { stood := { row := vaddrJoinsRow, standIns := [], harness := (true, "851ba64f52ac56aff15b4482a3eb9a7c504392799547ff524efc5d4975258776"), looks := false }, kinds := [], alts := [], laidByText := true, laidKinds := [.data], laidTests := true, laidLooks := .later }
def VaddrJoinsCardSaid : Prop := Claim7.holds Tryd.pinned (.plain (OpenSpec.ofChange vaddrJoinsSpec)) vaddrJoinsCard

/-- THE TIED CARD OF 'seisinlaw4.VaddrBack'. -/
def vaddrBackCard : Claim7 := { stood := { row := vaddrBackRow, standIns := [], harness := (true, "851ba64f52ac56aff15b4482a3eb9a7c504392799547ff524efc5d4975258776"), looks := false }, kinds := [], alts := [], laidByText := true, laidKinds := [.data], laidTests := true, laidLooks := .later }
def VaddrBackCardSaid : Prop := Claim7.holds Tryd.pinned (.plain (OpenSpec.ofChange vaddrBackSpec)) vaddrBackCard

/-- THE SECOND FORM's CARD OF 'seisinlaw3.PteLays'. -/
def pteLaysUptoCard : Claim7 := { stood := { row := pteLaysUptoRow, standIns := [], harness := (true, "851ba64f52ac56aff15b4482a3eb9a7c504392799547ff524efc5d4975258776"), looks := false }, kinds := [], alts := [], laidByText := true, laidKinds := [.data], laidTests := true, laidLooks := .later }
def PteLaysUptoCardSaid : Prop := Claim7.holds Tryd.pinned (.plain (OpenSpec.upto pteLaysSpec)) pteLaysUptoCard

/-- THE SECOND FORM's CARD OF 'seisinlaw3.PteReads'. -/
def pteReadsUptoCard : Claim7 := { stood := { row := pteReadsUptoRow, standIns := [], harness := (true, "851ba64f52ac56aff15b4482a3eb9a7c504392799547ff524efc5d4975258776"), looks := false }, kinds := [], alts := [], laidByText := true, laidKinds := [.data], laidTests := true, laidLooks := .later }
def PteReadsUptoCardSaid : Prop := Claim7.holds Tryd.pinned (.plain (OpenSpec.upto pteReadsSpec)) pteReadsUptoCard

/-- THE SECOND FORM's CARD OF 'seisinlaw3.PteBack'. -/
def pteBackUptoCard : Claim7 := { stood := { row := pteBackUptoRow, standIns := [], harness := (true, "851ba64f52ac56aff15b4482a3eb9a7c504392799547ff524efc5d4975258776"), looks := false }, kinds := [], alts := [], laidByText := true, laidKinds := [.data], laidTests := true, laidLooks := .later }
def PteBackUptoCardSaid : Prop := Claim7.holds Tryd.pinned (.plain (OpenSpec.upto pteBackSpec)) pteBackUptoCard

/-- THE SECOND FORM's CARD OF 'seisinlaw3.PteTurned'. -/
def pteTurnedUptoCard : Claim7 := { stood := { row := pteTurnedUptoRow, standIns := [], harness := (true, "851ba64f52ac56aff15b4482a3eb9a7c504392799547ff524efc5d4975258776"), looks := false }, kinds := [], alts := [], laidByText := true, laidKinds := [.data], laidTests := true, laidLooks := .later }
def PteTurnedUptoCardSaid : Prop := Claim7.holds Tryd.pinned (.plain (OpenSpec.upto pteTurnedSpec)) pteTurnedUptoCard

/-- THE SECOND FORM's CARD OF 'seisinlaw4.VaddrJoins'. -/
def vaddrJoinsUptoCard : Claim7 := { stood := { row := vaddrJoinsUptoRow, standIns := [], harness := (true, "851ba64f52ac56aff15b4482a3eb9a7c504392799547ff524efc5d4975258776"), looks := false }, kinds := [], alts := [], laidByText := true, laidKinds := [.data], laidTests := true, laidLooks := .later }
def VaddrJoinsUptoCardSaid : Prop := Claim7.holds Tryd.pinned (.plain (OpenSpec.upto vaddrJoinsSpec)) vaddrJoinsUptoCard

/-- THE SECOND FORM's CARD OF 'seisinlaw4.VaddrBack'. -/
def vaddrBackUptoCard : Claim7 := { stood := { row := vaddrBackUptoRow, standIns := [], harness := (true, "851ba64f52ac56aff15b4482a3eb9a7c504392799547ff524efc5d4975258776"), looks := false }, kinds := [], alts := [], laidByText := true, laidKinds := [.data], laidTests := true, laidLooks := .later }
def VaddrBackUptoCardSaid : Prop := Claim7.holds Tryd.pinned (.plain (OpenSpec.upto vaddrBackSpec)) vaddrBackUptoCard
end Rows
end Go.Proofs.YtdmlcbbheabdpaaDoor
