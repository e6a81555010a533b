/-
  DERIVED. GIVEN WITH THE SEED: THE CARDS: each row of YtnjdljjmengjbaaDoorRows.lean that lists a variable, with what it lists TIED to the program's text (the seventh form; the later family's looks); each row that meets fmt, with fmt's text TOLD by the authors' own Lean function (tested against real Go, not proved from fmt's source: count such statements apart). THE CARD IS WHAT COUNTS. Prove the row's statement (the work); the ties are given (YtnjdljjmengjbaaDoorTie.lean); close each card by the builder's one call (the guide's Derived/Test/ToyasCard.lean, 'card_holds'). Laid BY PROGRAM, IN A SANDBOX (cutbox-door.mjs). By AI agents, Wed Nov 11 2026. No macro, syntax, notation, axiom, sorry.
-/
import Derived.Test.YtnjdljjmengjbaaDoorRows
import GoSem.ClaimSeven
namespace Go.Proofs.YtnjdljjmengjbaaDoor
namespace Rows

/-- THE TIED CARD OF 'seisinlaw16.LookupFinds'. -/
def lookupFindsCard : Claim7 := { stood := { row := lookupFindsRow, standIns := [], harness := (true, "4e9e0f642ee2e0b2e1e1053f0c1ce2d7f28043998d99daf00c166a6f7d9ae02e"), looks := false }, kinds := [], alts := [], laidByText := true, laidKinds := [.data], laidTests := true, laidLooks := .later }
def LookupFindsCardSaid : Prop := Claim7.holds Tryd.pinned (.plain (OpenSpec.ofChange lookupFindsSpec)) lookupFindsCard

/-- THE TIED CARD OF 'seisinlaw16.LookupLast'. -/
def lookupLastCard : Claim7 := { stood := { row := lookupLastRow, standIns := [], harness := (true, "4e9e0f642ee2e0b2e1e1053f0c1ce2d7f28043998d99daf00c166a6f7d9ae02e"), looks := false }, kinds := [], alts := [], laidByText := true, laidKinds := [.data], laidTests := true, laidLooks := .later }
def LookupLastCardSaid : Prop := Claim7.holds Tryd.pinned (.plain (OpenSpec.ofChange lookupLastSpec)) lookupLastCard

/-- THE TIED CARD OF 'seisinlaw16.LookupAll'. -/
def lookupAllCard : Claim7 := { stood := { row := lookupAllRow, standIns := [], harness := (true, "4e9e0f642ee2e0b2e1e1053f0c1ce2d7f28043998d99daf00c166a6f7d9ae02e"), looks := false }, kinds := [], alts := [], laidByText := true, laidKinds := [.data], laidTests := true, laidLooks := .later }
def LookupAllCardSaid : Prop := Claim7.holds Tryd.pinned (.plain (OpenSpec.ofChange lookupAllSpec)) lookupAllCard

/-- THE TIED CARD OF 'seisinlaw16.LookupTwo'. -/
def lookupTwoCard : Claim7 := { stood := { row := lookupTwoRow, standIns := [], harness := (true, "4e9e0f642ee2e0b2e1e1053f0c1ce2d7f28043998d99daf00c166a6f7d9ae02e"), looks := false }, kinds := [], alts := [], laidByText := true, laidKinds := [.data], laidTests := true, laidLooks := .later }
def LookupTwoCardSaid : Prop := Claim7.holds Tryd.pinned (.plain (OpenSpec.ofChange lookupTwoSpec)) lookupTwoCard

/-- THE TIED CARD OF 'seisinlaw16.LookupNone'. -/
def lookupNoneCard : Claim7 := { stood := { row := lookupNoneRow, standIns := [], harness := (true, "4e9e0f642ee2e0b2e1e1053f0c1ce2d7f28043998d99daf00c166a6f7d9ae02e"), looks := false }, kinds := [], alts := [], laidByText := true, laidKinds := [.data], laidTests := true, laidLooks := .later }
def LookupNoneCardSaid : Prop := Claim7.holds Tryd.pinned (.plain (OpenSpec.ofChange lookupNoneSpec)) lookupNoneCard

/-- THE SECOND FORM's CARD OF 'seisinlaw16.LookupFinds'. -/
def lookupFindsUptoCard : Claim7 := { stood := { row := lookupFindsUptoRow, standIns := [], harness := (true, "4e9e0f642ee2e0b2e1e1053f0c1ce2d7f28043998d99daf00c166a6f7d9ae02e"), looks := false }, kinds := [], alts := [], laidByText := true, laidKinds := [.data], laidTests := true, laidLooks := .later }
def LookupFindsUptoCardSaid : Prop := Claim7.holds Tryd.pinned (.plain (OpenSpec.upto lookupFindsSpec)) lookupFindsUptoCard

/-- THE SECOND FORM's CARD OF 'seisinlaw16.LookupLast'. -/
def lookupLastUptoCard : Claim7 := { stood := { row := lookupLastUptoRow, standIns := [], harness := (true, "4e9e0f642ee2e0b2e1e1053f0c1ce2d7f28043998d99daf00c166a6f7d9ae02e"), looks := false }, kinds := [], alts := [], laidByText := true, laidKinds := [.data], laidTests := true, laidLooks := .later }
def LookupLastUptoCardSaid : Prop := Claim7.holds Tryd.pinned (.plain (OpenSpec.upto lookupLastSpec)) lookupLastUptoCard

/-- THE SECOND FORM's CARD OF 'seisinlaw16.LookupAll'. -/
def lookupAllUptoCard : Claim7 := { stood := { row := lookupAllUptoRow, standIns := [], harness := (true, "4e9e0f642ee2e0b2e1e1053f0c1ce2d7f28043998d99daf00c166a6f7d9ae02e"), looks := false }, kinds := [], alts := [], laidByText := true, laidKinds := [.data], laidTests := true, laidLooks := .later }
def LookupAllUptoCardSaid : Prop := Claim7.holds Tryd.pinned (.plain (OpenSpec.upto lookupAllSpec)) lookupAllUptoCard

/-- THE SECOND FORM's CARD OF 'seisinlaw16.LookupTwo'. -/
def lookupTwoUptoCard : Claim7 := { stood := { row := lookupTwoUptoRow, standIns := [], harness := (true, "4e9e0f642ee2e0b2e1e1053f0c1ce2d7f28043998d99daf00c166a6f7d9ae02e"), looks := false }, kinds := [], alts := [], laidByText := true, laidKinds := [.data], laidTests := true, laidLooks := .later }
def LookupTwoUptoCardSaid : Prop := Claim7.holds Tryd.pinned (.plain (OpenSpec.upto lookupTwoSpec)) lookupTwoUptoCard

/-- THE SECOND FORM's CARD OF 'seisinlaw16.LookupNone'. -/
def lookupNoneUptoCard : Claim7 := { stood := { row := lookupNoneUptoRow, standIns := [], harness := (true, "4e9e0f642ee2e0b2e1e1053f0c1ce2d7f28043998d99daf00c166a6f7d9ae02e"), looks := false }, kinds := [], alts := [], laidByText := true, laidKinds := [.data], laidTests := true, laidLooks := .later }
def LookupNoneUptoCardSaid : Prop := Claim7.holds Tryd.pinned (.plain (OpenSpec.upto lookupNoneSpec)) lookupNoneUptoCard
end Rows
end Go.Proofs.YtnjdljjmengjbaaDoor
