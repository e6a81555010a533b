/- A table by whole numbers, of any number of rows: search. -/
import Derived.Test.YtplanbihejodoaaDoorTab0
import Derived.Test.YtplanbihejodoaaDoorLoad
import Derived.LoopN
import Derived.Laws.Rows
import Derived.OwnWalk
import Derived.StillTailTactics
import Derived.Deep.RegionWith
import Derived.Outline
namespace Go.Proofs.YtplanbihejodoaaDoor
set_option linter.unusedVariables false
set_option linter.unusedSimpArgs false
open Go.ChangeShapes Go.WideShapes Go.ChangeAt Go.RowKit

namespace TabS
def C : Nat := 2
theorem infoR : (Tryd.prog.info? 86).map (fun i => (i.zero, i.size, i.bytes)) = some (some (.agg #[.int .i64 0, .slice none 0 0]), 2, 32) := by kernel_rfl
/-- What a comparison of two numbers answers. -/
def cmpI (a b : Int) : Int := if a < b then -1 else if b < a then 1 else 0
set_option maxHeartbeats 1000000 in
theorem cmp_any (w : World) (a b : Int) (r : List Value) : Calls Tryd.prog 48 #[.agg (.int .i64 a :: r).toArray, .int .i64 b] w fun e w' => e = .returned (.int .i64 (cmpI a b)) ∧ Below w.heap.size w w' := by
  unfold cmpI
  rcases Int.lt_trichotomy a b with h | h | h
  · have h2 : ¬ b < a := by omega
    rw [if_pos h]
    go_enter Tryd.func48, Tryd.ntmps48
    go_wp2_with go_in
    go_ret
    exact ⟨rfl, bal (Below.refl _ _) _⟩
  · subst h
    rw [if_neg (by omega), if_neg (by omega)]
    go_enter Tryd.func48, Tryd.ntmps48
    go_wp2_with go_in
    go_ret
    exact ⟨by simp, bal (Below.refl _ _) _⟩
  · have h2 : ¬ a < b := by omega
    rw [if_neg h2, if_pos h]
    go_enter Tryd.func48, Tryd.ntmps48
    go_wp2_with go_in
    go_ret
    exact ⟨rfl, bal (Below.refl _ _) _⟩
end TabS
end Go.Proofs.YtplanbihejodoaaDoor
