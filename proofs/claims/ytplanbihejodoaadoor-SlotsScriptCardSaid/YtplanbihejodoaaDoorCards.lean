/-
  DERIVED. GIVEN WITH THE SEED: THE CARDS: each row of YtplanbihejodoaaDoorRows.lean that lists a variable, with what it lists TIED to the program's text (the seventh form; the later family's looks); each row that meets fmt, with fmt's text TOLD by the authors' own Lean function (tested against real Go, not proved from fmt's source: count such statements apart). THE CARD IS WHAT COUNTS. Prove the row's statement (the work); the ties are given (YtplanbihejodoaaDoorTie.lean); close each card by the builder's one call (the guide's Derived/Test/ToyasCard.lean, 'card_holds'). Laid BY PROGRAM, IN A SANDBOX (cutbox-door.mjs). By AI agents, Wed Nov 11 2026. No macro, syntax, notation, axiom, sorry.
-/
import Derived.Test.YtplanbihejodoaaDoorRows
import GoSem.ClaimSeven
namespace Go.Proofs.YtplanbihejodoaaDoor
namespace Rows

/-- THE TIED CARD OF 'seisinlaw15.SlotsScript'. -/
def slotsScriptCard : Claim7 := { stood := { row := slotsScriptRow, standIns := [], harness := (true, "94e15ee93df9ffabef087353928bfae9d3f8e8d942159c5af9b7642ab5caac5e"), looks := false }, kinds := [], alts := [], laidByText := true, laidKinds := [.data], laidTests := true, laidLooks := .later }
def SlotsScriptCardSaid : Prop := Claim7.holds Tryd.pinned (.plain (OpenSpec.ofChange slotsScriptSpec)) slotsScriptCard

/-- THE TIED CARD OF 'seisinlaw15.SlotsOwn'. -/
def slotsOwnCard : Claim7 := { stood := { row := slotsOwnRow, standIns := [], harness := (true, "94e15ee93df9ffabef087353928bfae9d3f8e8d942159c5af9b7642ab5caac5e"), looks := false }, kinds := [], alts := [], laidByText := true, laidKinds := [.data], laidTests := true, laidLooks := .later }
def SlotsOwnCardSaid : Prop := Claim7.holds Tryd.pinned (.plain (OpenSpec.ofChange slotsOwnSpec)) slotsOwnCard

/-- THE TIED CARD OF 'seisinlaw15.SlotsNone'. -/
def slotsNoneCard : Claim7 := { stood := { row := slotsNoneRow, standIns := [], harness := (true, "94e15ee93df9ffabef087353928bfae9d3f8e8d942159c5af9b7642ab5caac5e"), looks := false }, kinds := [], alts := [], laidByText := true, laidKinds := [.data], laidTests := true, laidLooks := .later }
def SlotsNoneCardSaid : Prop := Claim7.holds Tryd.pinned (.plain (OpenSpec.ofChange slotsNoneSpec)) slotsNoneCard

/-- THE SECOND FORM's CARD OF 'seisinlaw15.SlotsScript'. -/
def slotsScriptUptoCard : Claim7 := { stood := { row := slotsScriptUptoRow, standIns := [], harness := (true, "94e15ee93df9ffabef087353928bfae9d3f8e8d942159c5af9b7642ab5caac5e"), looks := false }, kinds := [], alts := [], laidByText := true, laidKinds := [.data], laidTests := true, laidLooks := .later }
def SlotsScriptUptoCardSaid : Prop := Claim7.holds Tryd.pinned (.plain (OpenSpec.upto slotsScriptSpec)) slotsScriptUptoCard

/-- THE SECOND FORM's CARD OF 'seisinlaw15.SlotsOwn'. -/
def slotsOwnUptoCard : Claim7 := { stood := { row := slotsOwnUptoRow, standIns := [], harness := (true, "94e15ee93df9ffabef087353928bfae9d3f8e8d942159c5af9b7642ab5caac5e"), looks := false }, kinds := [], alts := [], laidByText := true, laidKinds := [.data], laidTests := true, laidLooks := .later }
def SlotsOwnUptoCardSaid : Prop := Claim7.holds Tryd.pinned (.plain (OpenSpec.upto slotsOwnSpec)) slotsOwnUptoCard

/-- THE SECOND FORM's CARD OF 'seisinlaw15.SlotsNone'. -/
def slotsNoneUptoCard : Claim7 := { stood := { row := slotsNoneUptoRow, standIns := [], harness := (true, "94e15ee93df9ffabef087353928bfae9d3f8e8d942159c5af9b7642ab5caac5e"), looks := false }, kinds := [], alts := [], laidByText := true, laidKinds := [.data], laidTests := true, laidLooks := .later }
def SlotsNoneUptoCardSaid : Prop := Claim7.holds Tryd.pinned (.plain (OpenSpec.upto slotsNoneSpec)) slotsNoneUptoCard
end Rows
end Go.Proofs.YtplanbihejodoaaDoor
