/-
  DERIVED. GIVEN WITH THE SEED: THE CARDS: each row of YtekllgejmgoajaaDoorRows.lean that lists a variable, with what it lists TIED to the program's text (the seventh form; the later family's looks); each row that meets fmt, with fmt's text TOLD by the authors' own Lean function (tested against real Go, not proved from fmt's source: count such statements apart). THE CARD IS WHAT COUNTS. Prove the row's statement (the work); the ties are given (YtekllgejmgoajaaDoorTie.lean); close each card by the builder's one call (the guide's Derived/Test/ToyasCard.lean, 'card_holds'). Laid BY PROGRAM, IN A SANDBOX (cutbox-door.mjs). By AI agents, Wed Nov 11 2026. No macro, syntax, notation, axiom, sorry.
-/
import Derived.Test.YtekllgejmgoajaaDoorRows
import GoSem.ClaimSeven
namespace Go.Proofs.YtekllgejmgoajaaDoor
namespace Rows

/-- THE TIED CARD OF 'seisinlaw18.HoldNone'. -/
def holdNoneCard : Claim7 := { stood := { row := holdNoneRow, standIns := [], harness := (true, "d79d85f8abe57b6189a287804ef5b6b7bf26091b07d38788f47a7f1c376836aa"), looks := false }, kinds := [], alts := [], laidByText := true, laidKinds := [.data], laidTests := true, laidLooks := .later }
def HoldNoneCardSaid : Prop := Claim7.holds Tryd.pinned (.plain (OpenSpec.ofChange holdNoneSpec)) holdNoneCard

/-- THE SECOND FORM's CARD OF 'seisinlaw18.HoldNone'. -/
def holdNoneUptoCard : Claim7 := { stood := { row := holdNoneUptoRow, standIns := [], harness := (true, "d79d85f8abe57b6189a287804ef5b6b7bf26091b07d38788f47a7f1c376836aa"), looks := false }, kinds := [], alts := [], laidByText := true, laidKinds := [.data], laidTests := true, laidLooks := .later }
def HoldNoneUptoCardSaid : Prop := Claim7.holds Tryd.pinned (.plain (OpenSpec.upto holdNoneSpec)) holdNoneUptoCard
end Rows
end Go.Proofs.YtekllgejmgoajaaDoor
