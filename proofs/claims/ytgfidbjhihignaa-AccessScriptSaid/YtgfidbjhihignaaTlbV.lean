/- package tlb: Evict. -/
import Derived.Test.YtgfidbjhihignaaTlbU
namespace Go.Proofs.Ytgfidbjhihignaa
set_option linter.unusedVariables false
set_option linter.unusedSimpArgs false
open Go.ChangeShapes Go.WideShapes Go.ChangeAt Go.RowKit

theorem wipe0 {w : World} {b o : Nat} {x y : TransX} {due : Int} (h : setAt w b o x y due) : setAt (((((w.setCell ⟨b, o, none⟩ (.int .i64 0)).setCell ⟨b, o + 1, none⟩ (.int .i64 0)).setCell ⟨b, o + 2, none⟩ (.int .i64 0)).setCell ⟨b, o + 3, none⟩ (.bool false)).setCell ⟨b, o + 4, none⟩ (.bool false)) b o zT y due := store0 h 0 0 0 false false
theorem wipe1 {w : World} {b o : Nat} {x y : TransX} {due : Int} (h : setAt w b o x y due) : setAt (((((w.setCell ⟨b, o + 5, none⟩ (.int .i64 0)).setCell ⟨b, o + 6, none⟩ (.int .i64 0)).setCell ⟨b, o + 7, none⟩ (.int .i64 0)).setCell ⟨b, o + 8, none⟩ (.bool false)).setCell ⟨b, o + 9, none⟩ (.bool false)) b o x zT due := store1 h 0 0 0 false false
end Go.Proofs.Ytgfidbjhihignaa
