/- package tlb at no cache. -/
import Derived.Test.YtgfidbjhihignaaNil
import Derived.Outline
namespace Go.Proofs.Ytgfidbjhihignaa
set_option linter.unusedVariables false
open Go.RowKit Go.Shelf
attribute [local go_sem] Oper.semAt_some
end Go.Proofs.Ytgfidbjhihignaa
