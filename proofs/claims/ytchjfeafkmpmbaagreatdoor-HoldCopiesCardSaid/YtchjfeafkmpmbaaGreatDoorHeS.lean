import Derived.Test.YtchjfeafkmpmbaaGreatDoorHe0
namespace Go.Proofs.YtchjfeafkmpmbaaGreatDoor
set_option linter.unusedVariables false
set_option linter.unusedSimpArgs false
set_option maxRecDepth 100000
set_option maxHeartbeats 8000000
open Go.ChangeShapes Go.WideShapes Go.ChangeAt Go.RowKit Go.Shelf
structure SlX where
 o : Int
 i : Int
abbrev SlX.val (x : SlX) : Value := slV x.o x.i
def SlX.Ok (x : SlX) : Prop := InS x.o ∧ InS x.i
theorem open_t30 {W : World} {base : Nat} {v : Value} (hv : Value.okWide Tryz.prog W .any base 30 v) : ∃ x : SlX, v = x.val ∧ x.Ok := by
 obtain ⟨cs, rfl, hl, hc⟩ := agg_cells (ts := [3, 3]) Tryz.underlying30 (by kernel_rfl) (by kernel_rfl) hv
 obtain ⟨v0, e0, o0⟩ := hc 0 _ rfl
 obtain ⟨a, rfl, b0⟩ := cell_i64 Tryz.underlying3 o0
 obtain ⟨v1, e1, o1⟩ := hc 1 _ rfl
 obtain ⟨b, rfl, b1⟩ := cell_i64 Tryz.underlying3 o1
 match cs, hl with
 | [c0, c1], _ =>
  cases e0
  cases e1
  exact ⟨⟨a, b⟩, rfl, ⟨b0, b1⟩⟩
abbrev zval_t30 : Value := .agg #[.int .i64 0, .int .i64 0]
abbrev zdat_t30 {H : Type} : DataW H := .agg [.lit (.int .i64 0), .lit (.int .i64 0)]
end Go.Proofs.YtchjfeafkmpmbaaGreatDoor
