/- The walks of the laws VaddrSplits and VaddrLevels. -/
import Derived.Test.YtdmlcbbheabdpaaDoorVaddr
import Derived.Test.YtdmlcbbheabdpaaDoorLow
import Derived.Test.YtdmlcbbheabdpaaDoorFrame
import Derived.Deep.RegionHeld3
namespace Go.Proofs.YtdmlcbbheabdpaaDoor
set_option linter.unusedVariables false
open Go.ChangeShapes Go.WideShapes Go.ChangeAt Go.RowKit
attribute [local go_sem] setCell_drewN alloc_drewN

theorem bd_u64 {a : Int} (h : (Lit.int .u64 a).wf = true) : 0 ≤ a ∧ a ≤ 18446744073709551615 := by
  simp [Lit.wf, IntKind.min, IntKind.max, IntKind.signed, IntKind.bits] at h; omega
theorem bd_i64 {a : Int} (h : (Lit.int .i64 a).wf = true) : -9223372036854775808 ≤ a ∧ a ≤ 9223372036854775807 := by
  simp [Lit.wf, IntKind.min, IntKind.max, IntKind.signed, IntKind.bits] at h; omega

theorem num_any (a : Int) (w : World) (h : 0 ≤ a) (h' : a ≤ 100) : Calls Tryd.prog 11 #[.int .i64 a] w fun e w' => e = .returned (.int .i64 a) ∧ w = w' := by
  go_enter Tryd.func11, Tryd.ntmps11
  go_wp2
  go_ret
  exact ⟨rfl, rfl⟩

theorem awake4_any (w : World) : Calls Tryd.prog 24 #[] w fun e w' => e = .returned (.bool true) ∧ Below w.heap.size w w' := by
  go_enter Tryd.func24, Tryd.ntmps24
  go_wp2_with (first
    | (go_at_call 25; refine (split_yes 32767 _ (by decide) (by decide)).mono ?_; rintro e w' ⟨rfl, hb⟩)
    | (go_at_call 26; refine (page_yes 32767 _ (by decide) (by decide)).mono ?_; rintro e w' ⟨rfl, k, rfl⟩))
  go_ret
  exact ⟨rfl, below_drewN (hb.alloc hb.size _) _⟩

end Go.Proofs.YtdmlcbbheabdpaaDoor
