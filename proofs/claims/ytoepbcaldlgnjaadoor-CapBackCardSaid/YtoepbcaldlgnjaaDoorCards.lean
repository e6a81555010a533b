/-
  DERIVED. GIVEN WITH THE SEED: THE CARDS: each row of YtoepbcaldlgnjaaDoorRows.lean that lists a variable, with what it lists TIED to the program's text (the seventh form; the later family's looks); each row that meets fmt, with fmt's text TOLD by the authors' own Lean function (tested against real Go, not proved from fmt's source: count such statements apart). THE CARD IS WHAT COUNTS. Prove the row's statement (the work); the ties are given (YtoepbcaldlgnjaaDoorTie.lean); close each card by the builder's one call (the guide's Derived/Test/ToyasCard.lean, 'card_holds'). Laid BY PROGRAM, IN A SANDBOX (cutbox-door.mjs). By AI agents, Wed Nov 11 2026. No macro, syntax, notation, axiom, sorry.
-/
import Derived.Test.YtoepbcaldlgnjaaDoorRows
import GoSem.ClaimSeven
namespace Go.Proofs.YtoepbcaldlgnjaaDoor
namespace Rows

/-- THE TIED CARD OF 'seisinlaw13.CapLays'. -/
def capLaysCard : Claim7 := { stood := { row := capLaysRow, standIns := [], harness := (true, "e5732bcd6e2b5d7f76050b2b436ada2dc526d32ed2bbb0d2b40fe0409042b14e"), looks := false }, kinds := [], alts := [], laidByText := true, laidKinds := [.data, .data], laidTests := true, laidLooks := .later }
def CapLaysCardSaid : Prop := Claim7.holds Tryd.pinned (.plain (OpenSpec.ofChange capLaysSpec)) capLaysCard

/-- THE TIED CARD OF 'seisinlaw13.CapReads'. -/
def capReadsCard : Claim7 := { stood := { row := capReadsRow, standIns := [], harness := (true, "e5732bcd6e2b5d7f76050b2b436ada2dc526d32ed2bbb0d2b40fe0409042b14e"), looks := false }, kinds := [], alts := [], laidByText := true, laidKinds := [.data, .data], laidTests := true, laidLooks := .later }
def CapReadsCardSaid : Prop := Claim7.holds Tryd.pinned (.plain (OpenSpec.ofChange capReadsSpec)) capReadsCard

/-- THE TIED CARD OF 'seisinlaw13.CapBack'. -/
def capBackCard : Claim7 := { stood := { row := capBackRow, standIns := [], harness := (true, "e5732bcd6e2b5d7f76050b2b436ada2dc526d32ed2bbb0d2b40fe0409042b14e"), looks := false }, kinds := [], alts := [], laidByText := true, laidKinds := [.data, .data], laidTests := true, laidLooks := .later }
def CapBackCardSaid : Prop := Claim7.holds Tryd.pinned (.plain (OpenSpec.ofChange capBackSpec)) capBackCard

/-- THE TIED CARD OF 'seisinlaw13.CapAlike'. -/
def capAlikeCard : Claim7 := { stood := { row := capAlikeRow, standIns := [], harness := (true, "e5732bcd6e2b5d7f76050b2b436ada2dc526d32ed2bbb0d2b40fe0409042b14e"), looks := false }, kinds := [], alts := [], laidByText := true, laidKinds := [.data, .data], laidTests := true, laidLooks := .later }
def CapAlikeCardSaid : Prop := Claim7.holds Tryd.pinned (.plain (OpenSpec.ofChange capAlikeSpec)) capAlikeCard

/-- THE SECOND FORM's CARD OF 'seisinlaw13.CapLays'. -/
def capLaysUptoCard : Claim7 := { stood := { row := capLaysUptoRow, standIns := [], harness := (true, "e5732bcd6e2b5d7f76050b2b436ada2dc526d32ed2bbb0d2b40fe0409042b14e"), looks := false }, kinds := [], alts := [], laidByText := true, laidKinds := [.data, .data], laidTests := true, laidLooks := .later }
def CapLaysUptoCardSaid : Prop := Claim7.holds Tryd.pinned (.plain (OpenSpec.upto capLaysSpec)) capLaysUptoCard

/-- THE SECOND FORM's CARD OF 'seisinlaw13.CapReads'. -/
def capReadsUptoCard : Claim7 := { stood := { row := capReadsUptoRow, standIns := [], harness := (true, "e5732bcd6e2b5d7f76050b2b436ada2dc526d32ed2bbb0d2b40fe0409042b14e"), looks := false }, kinds := [], alts := [], laidByText := true, laidKinds := [.data, .data], laidTests := true, laidLooks := .later }
def CapReadsUptoCardSaid : Prop := Claim7.holds Tryd.pinned (.plain (OpenSpec.upto capReadsSpec)) capReadsUptoCard

/-- THE SECOND FORM's CARD OF 'seisinlaw13.CapBack'. -/
def capBackUptoCard : Claim7 := { stood := { row := capBackUptoRow, standIns := [], harness := (true, "e5732bcd6e2b5d7f76050b2b436ada2dc526d32ed2bbb0d2b40fe0409042b14e"), looks := false }, kinds := [], alts := [], laidByText := true, laidKinds := [.data, .data], laidTests := true, laidLooks := .later }
def CapBackUptoCardSaid : Prop := Claim7.holds Tryd.pinned (.plain (OpenSpec.upto capBackSpec)) capBackUptoCard

/-- THE SECOND FORM's CARD OF 'seisinlaw13.CapAlike'. -/
def capAlikeUptoCard : Claim7 := { stood := { row := capAlikeUptoRow, standIns := [], harness := (true, "e5732bcd6e2b5d7f76050b2b436ada2dc526d32ed2bbb0d2b40fe0409042b14e"), looks := false }, kinds := [], alts := [], laidByText := true, laidKinds := [.data, .data], laidTests := true, laidLooks := .later }
def CapAlikeUptoCardSaid : Prop := Claim7.holds Tryd.pinned (.plain (OpenSpec.upto capAlikeSpec)) capAlikeUptoCard
end Rows
end Go.Proofs.YtoepbcaldlgnjaaDoor
