/- package tree: of nil. -/
import Derived.Test.YtebgmphbkjpfcaaBase
import Derived.Test.YtebgmphbkjpfcaaCells
import Derived.Test.YtebgmphbkjpfcaaNil
import Derived.Test.YtebgmphbkjpfcaaLink
import Derived.Deep.Cut
import Derived.BigRegion
import Derived.Deep.RegionWith
namespace Go.Proofs.Ytebgmphbkjpfcaa
set_option linter.unusedVariables false
set_option linter.unusedSimpArgs false
open Go.ChangeShapes Go.WideShapes Go.ChangeAt Go.RowKit

abbrev slV (o i : Int) : Value := .agg #[.int .i64 o, .int .i64 i]
theorem has_nil (o i p j : Int) (w : World) : Calls Try.prog 17 #[.pointer none, slV o i] w fun e w' => e = .returned (.bool false) ∧ Below w.heap.size w w' := by
  go_enter Try.func17, Try.ntmps17
  go_upto_region 1 with fail
  go_region
  all_goals go_wp2
  all_goals go_ret
  all_goals exact ⟨rfl, (bal (Below.refl _ _) _).drew⟩
theorem root_nil (o i p j : Int) (w : World) : Calls Try.prog 30 #[.pointer none, slV o i] w fun e w' => e = .returned (.int .i64 1) ∧ Below w.heap.size w w' := by
  go_enter Try.func30, Try.ntmps30
  go_wp2
  go_ret
  exact ⟨rfl, bal (Below.refl _ _) _⟩
theorem remove_nil (o i p j : Int) (w : World) : Calls Try.prog 26 #[.pointer none, slV o i] w fun e w' => e = .returned (.int .i64 1) ∧ Below w.heap.size w w' := by
  go_enter Try.func26, Try.ntmps26
  go_wp2
  go_ret
  exact ⟨rfl, bal (Below.refl _ _) _⟩
theorem child_nil (o i p j : Int) (w : World) : Calls Try.prog 31 #[.pointer none, slV o i, slV p j] w fun e w' => e = .returned (.int .i64 1) ∧ Below w.heap.size w w' := by
  go_enter Try.func31, Try.ntmps31
  go_wp2
  go_ret
  exact ⟨rfl, bal (bal (Below.refl _ _) _) _⟩
theorem move_nil (o i p j : Int) (w : World) : Calls Try.prog 29 #[.pointer none, slV o i, slV p j] w fun e w' => e = .returned (.int .i64 1) ∧ Below w.heap.size w w' := by
  go_enter Try.func29, Try.ntmps29
  go_wp2
  go_ret
  exact ⟨rfl, bal (bal (Below.refl _ _) _) _⟩
theorem swap_nil (o i p j : Int) (w : World) : Calls Try.prog 28 #[.pointer none, slV o i, slV p j] w fun e w' => e = .returned (.int .i64 1) ∧ Below w.heap.size w w' := by
  go_enter Try.func28, Try.ntmps28
  go_wp2
  go_ret
  exact ⟨rfl, bal (bal (Below.refl _ _) _) _⟩
theorem below_nil (o i p j : Int) (w : World) : Calls Try.prog 15 #[.pointer none, slV o i] w fun e w' => e = .returned (.slice none 0 0) ∧ Below w.heap.size w w' := by
  go_enter Try.func15, Try.ntmps15
  go_wp2_with (go_at_call 17; refine (has_nil o i 0 0 _).mono ?_; rintro e w1 ⟨rfl, hb1⟩)
  go_ret
  exact ⟨rfl, bgo (bal (Below.refl _ _) _) hb1⟩
theorem parent_nil (o i p j : Int) (w : World) : Calls Try.prog 13 #[.pointer none, slV o i] w fun e w' => e = .returned (.tuple #[slV 0 0, .bool false]) ∧ Below w.heap.size w w' := by
  go_enter Try.func13, Try.ntmps13
  go_wp2
  go_step3
  go_wp2_with (go_at_call 17; refine (has_nil o i 0 0 _).mono ?_; rintro e w1 ⟨rfl, hb1⟩; obtain ⟨hc, hf⟩ := bcell hb1; have hz1 : w.heap.size + 1 < w1.heap.size := (by have := hb1.size; simp at this; omega))
  (try rw [Exit.noGoto_ret])
  refine bodyPost_ret (v := .tuple #[slV 0 0, .bool false]) (by simp [results, Try.results13, go_sem, hc, hf]) rfl ⟨rfl, ?_⟩
  exact ((bgo (bal (bal (Below.refl _ _) _) _) hb1).setCell (Nat.le_succ _) _).setCell (Nat.le_succ _) _
theorem all_nil (o i p j : Int) (w : World) : Calls Try.prog 16 #[.pointer none] w fun e w' => e = .returned (.slice none 0 0) ∧ Below w.heap.size w w' := by
  go_enter Try.func16, Try.ntmps16
  go_wp2
  go_ret
  exact ⟨rfl, Below.refl _ _⟩
end Go.Proofs.Ytebgmphbkjpfcaa
