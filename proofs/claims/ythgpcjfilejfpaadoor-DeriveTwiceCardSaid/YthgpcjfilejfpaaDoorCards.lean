/-
  DERIVED. GIVEN WITH THE SEED: THE CARDS: each row of YthgpcjfilejfpaaDoorRows.lean that lists a variable, with what it lists TIED to the program's text (the seventh form; the later family's looks); each row that meets fmt, with fmt's text TOLD by the authors' own Lean function (tested against real Go, not proved from fmt's source: count such statements apart). THE CARD IS WHAT COUNTS. Prove the row's statement (the work); the ties are given (YthgpcjfilejfpaaDoorTie.lean); close each card by the builder's one call (the guide's Derived/Test/ToyasCard.lean, 'card_holds'). Laid BY PROGRAM, IN A SANDBOX (cutbox-door.mjs). By AI agents, Wed Nov 11 2026. No macro, syntax, notation, axiom, sorry.
-/
import Derived.Test.YthgpcjfilejfpaaDoorRows
import GoSem.ClaimSeven
namespace Go.Proofs.YthgpcjfilejfpaaDoor
namespace Rows

/-- THE TIED CARD OF 'seisinlaw13.CapLays'. -/
def capLaysCard : Claim7 := { stood := { row := capLaysRow, standIns := [], harness := (true, "c866bda72d127392c778f2ebd64ddecd2b61521435d1b72806081653b5608f11"), looks := false }, kinds := [], alts := [], laidByText := true, laidKinds := [.data, .data], laidTests := true, laidLooks := .later }
def CapLaysCardSaid : Prop := Claim7.holds Tryd.pinned (.plain (OpenSpec.ofChange capLaysSpec)) capLaysCard

/-- THE TIED CARD OF 'seisinlaw13.CapReads'. -/
def capReadsCard : Claim7 := { stood := { row := capReadsRow, standIns := [], harness := (true, "c866bda72d127392c778f2ebd64ddecd2b61521435d1b72806081653b5608f11"), looks := false }, kinds := [], alts := [], laidByText := true, laidKinds := [.data, .data], laidTests := true, laidLooks := .later }
def CapReadsCardSaid : Prop := Claim7.holds Tryd.pinned (.plain (OpenSpec.ofChange capReadsSpec)) capReadsCard

/-- THE TIED CARD OF 'seisinlaw13.CapBack'. -/
def capBackCard : Claim7 := { stood := { row := capBackRow, standIns := [], harness := (true, "c866bda72d127392c778f2ebd64ddecd2b61521435d1b72806081653b5608f11"), looks := false }, kinds := [], alts := [], laidByText := true, laidKinds := [.data, .data], laidTests := true, laidLooks := .later }
def CapBackCardSaid : Prop := Claim7.holds Tryd.pinned (.plain (OpenSpec.ofChange capBackSpec)) capBackCard

/-- THE TIED CARD OF 'seisinlaw13.CapAlike'. -/
def capAlikeCard : Claim7 := { stood := { row := capAlikeRow, standIns := [], harness := (true, "c866bda72d127392c778f2ebd64ddecd2b61521435d1b72806081653b5608f11"), looks := false }, kinds := [], alts := [], laidByText := true, laidKinds := [.data, .data], laidTests := true, laidLooks := .later }
def CapAlikeCardSaid : Prop := Claim7.holds Tryd.pinned (.plain (OpenSpec.ofChange capAlikeSpec)) capAlikeCard

/-- THE TIED CARD OF 'seisinlaw14.DeriveCopies'. -/
def deriveCopiesCard : Claim7 := { stood := { row := deriveCopiesRow, standIns := [], harness := (true, "c866bda72d127392c778f2ebd64ddecd2b61521435d1b72806081653b5608f11"), looks := false }, kinds := [], alts := [], laidByText := true, laidKinds := [.data], laidTests := true, laidLooks := .later }
def DeriveCopiesCardSaid : Prop := Claim7.holds Tryd.pinned (.plain (OpenSpec.ofChange deriveCopiesSpec)) deriveCopiesCard

/-- THE TIED CARD OF 'seisinlaw14.DeriveMints'. -/
def deriveMintsCard : Claim7 := { stood := { row := deriveMintsRow, standIns := [], harness := (true, "c866bda72d127392c778f2ebd64ddecd2b61521435d1b72806081653b5608f11"), looks := false }, kinds := [], alts := [], laidByText := true, laidKinds := [.data], laidTests := true, laidLooks := .later }
def DeriveMintsCardSaid : Prop := Claim7.holds Tryd.pinned (.plain (OpenSpec.ofChange deriveMintsSpec)) deriveMintsCard

/-- THE TIED CARD OF 'seisinlaw14.DeriveFalls'. -/
def deriveFallsCard : Claim7 := { stood := { row := deriveFallsRow, standIns := [], harness := (true, "c866bda72d127392c778f2ebd64ddecd2b61521435d1b72806081653b5608f11"), looks := false }, kinds := [], alts := [], laidByText := true, laidKinds := [.data], laidTests := true, laidLooks := .later }
def DeriveFallsCardSaid : Prop := Claim7.holds Tryd.pinned (.plain (OpenSpec.ofChange deriveFallsSpec)) deriveFallsCard

/-- THE TIED CARD OF 'seisinlaw14.DeriveTwice'. -/
def deriveTwiceCard : Claim7 := { stood := { row := deriveTwiceRow, standIns := [], harness := (true, "c866bda72d127392c778f2ebd64ddecd2b61521435d1b72806081653b5608f11"), looks := false }, kinds := [], alts := [], laidByText := true, laidKinds := [.data], laidTests := true, laidLooks := .later }
def DeriveTwiceCardSaid : Prop := Claim7.holds Tryd.pinned (.plain (OpenSpec.ofChange deriveTwiceSpec)) deriveTwiceCard

/-- THE SECOND FORM's CARD OF 'seisinlaw13.CapLays'. -/
def capLaysUptoCard : Claim7 := { stood := { row := capLaysUptoRow, standIns := [], harness := (true, "c866bda72d127392c778f2ebd64ddecd2b61521435d1b72806081653b5608f11"), looks := false }, kinds := [], alts := [], laidByText := true, laidKinds := [.data, .data], laidTests := true, laidLooks := .later }
def CapLaysUptoCardSaid : Prop := Claim7.holds Tryd.pinned (.plain (OpenSpec.upto capLaysSpec)) capLaysUptoCard

/-- THE SECOND FORM's CARD OF 'seisinlaw13.CapReads'. -/
def capReadsUptoCard : Claim7 := { stood := { row := capReadsUptoRow, standIns := [], harness := (true, "c866bda72d127392c778f2ebd64ddecd2b61521435d1b72806081653b5608f11"), looks := false }, kinds := [], alts := [], laidByText := true, laidKinds := [.data, .data], laidTests := true, laidLooks := .later }
def CapReadsUptoCardSaid : Prop := Claim7.holds Tryd.pinned (.plain (OpenSpec.upto capReadsSpec)) capReadsUptoCard

/-- THE SECOND FORM's CARD OF 'seisinlaw13.CapBack'. -/
def capBackUptoCard : Claim7 := { stood := { row := capBackUptoRow, standIns := [], harness := (true, "c866bda72d127392c778f2ebd64ddecd2b61521435d1b72806081653b5608f11"), looks := false }, kinds := [], alts := [], laidByText := true, laidKinds := [.data, .data], laidTests := true, laidLooks := .later }
def CapBackUptoCardSaid : Prop := Claim7.holds Tryd.pinned (.plain (OpenSpec.upto capBackSpec)) capBackUptoCard

/-- THE SECOND FORM's CARD OF 'seisinlaw13.CapAlike'. -/
def capAlikeUptoCard : Claim7 := { stood := { row := capAlikeUptoRow, standIns := [], harness := (true, "c866bda72d127392c778f2ebd64ddecd2b61521435d1b72806081653b5608f11"), looks := false }, kinds := [], alts := [], laidByText := true, laidKinds := [.data, .data], laidTests := true, laidLooks := .later }
def CapAlikeUptoCardSaid : Prop := Claim7.holds Tryd.pinned (.plain (OpenSpec.upto capAlikeSpec)) capAlikeUptoCard

/-- THE SECOND FORM's CARD OF 'seisinlaw14.DeriveCopies'. -/
def deriveCopiesUptoCard : Claim7 := { stood := { row := deriveCopiesUptoRow, standIns := [], harness := (true, "c866bda72d127392c778f2ebd64ddecd2b61521435d1b72806081653b5608f11"), looks := false }, kinds := [], alts := [], laidByText := true, laidKinds := [.data], laidTests := true, laidLooks := .later }
def DeriveCopiesUptoCardSaid : Prop := Claim7.holds Tryd.pinned (.plain (OpenSpec.upto deriveCopiesSpec)) deriveCopiesUptoCard

/-- THE SECOND FORM's CARD OF 'seisinlaw14.DeriveMints'. -/
def deriveMintsUptoCard : Claim7 := { stood := { row := deriveMintsUptoRow, standIns := [], harness := (true, "c866bda72d127392c778f2ebd64ddecd2b61521435d1b72806081653b5608f11"), looks := false }, kinds := [], alts := [], laidByText := true, laidKinds := [.data], laidTests := true, laidLooks := .later }
def DeriveMintsUptoCardSaid : Prop := Claim7.holds Tryd.pinned (.plain (OpenSpec.upto deriveMintsSpec)) deriveMintsUptoCard

/-- THE SECOND FORM's CARD OF 'seisinlaw14.DeriveFalls'. -/
def deriveFallsUptoCard : Claim7 := { stood := { row := deriveFallsUptoRow, standIns := [], harness := (true, "c866bda72d127392c778f2ebd64ddecd2b61521435d1b72806081653b5608f11"), looks := false }, kinds := [], alts := [], laidByText := true, laidKinds := [.data], laidTests := true, laidLooks := .later }
def DeriveFallsUptoCardSaid : Prop := Claim7.holds Tryd.pinned (.plain (OpenSpec.upto deriveFallsSpec)) deriveFallsUptoCard

/-- THE SECOND FORM's CARD OF 'seisinlaw14.DeriveTwice'. -/
def deriveTwiceUptoCard : Claim7 := { stood := { row := deriveTwiceUptoRow, standIns := [], harness := (true, "c866bda72d127392c778f2ebd64ddecd2b61521435d1b72806081653b5608f11"), looks := false }, kinds := [], alts := [], laidByText := true, laidKinds := [.data], laidTests := true, laidLooks := .later }
def DeriveTwiceUptoCardSaid : Prop := Claim7.holds Tryd.pinned (.plain (OpenSpec.upto deriveTwiceSpec)) deriveTwiceUptoCard
end Rows
end Go.Proofs.YthgpcjfilejfpaaDoor
