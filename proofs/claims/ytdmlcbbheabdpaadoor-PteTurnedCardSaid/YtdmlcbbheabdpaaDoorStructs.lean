/- The program's own structs as arguments. -/
import Derived.Test.YtdmlcbbheabdpaaDoorCells
namespace Go.Proofs.YtdmlcbbheabdpaaDoor
set_option linter.unusedVariables false
open Go.ChangeShapes Go.WideShapes Go.ChangeAt Go.RowKit

structure PartsX where
  a : Int
  b : Int
  c : Int
  d : Int
abbrev PartsX.val (x : PartsX) : Value := .agg #[.int .i64 x.a, .int .i64 x.b, .int .i64 x.c, .int .i64 x.d]
def PartsX.Ok (x : PartsX) : Prop := (-9223372036854775808 ≤ x.a ∧ x.a ≤ 9223372036854775807) ∧ (-9223372036854775808 ≤ x.b ∧ x.b ≤ 9223372036854775807) ∧ (-9223372036854775808 ≤ x.c ∧ x.c ≤ 9223372036854775807) ∧ (-9223372036854775808 ≤ x.d ∧ x.d ≤ 9223372036854775807)
theorem open_t42 {W : World} {base : Nat} {v : Value} (hv : Value.okWide Tryd.prog W .any base 42 v) : ∃ x : PartsX, v = x.val ∧ x.Ok := by
  obtain ⟨cs, rfl, hl, hc⟩ := agg_cells (ts := [3, 3, 3, 3]) Tryd.underlying42 (by kernel_rfl) (by kernel_rfl) hv
  obtain ⟨v0, e0, o0⟩ := hc 0 _ rfl
  obtain ⟨a, rfl, b0⟩ := cell_i64 Tryd.underlying3 o0
  obtain ⟨v1, e1, o1⟩ := hc 1 _ rfl
  obtain ⟨b, rfl, b1⟩ := cell_i64 Tryd.underlying3 o1
  obtain ⟨v2, e2, o2⟩ := hc 2 _ rfl
  obtain ⟨c, rfl, b2⟩ := cell_i64 Tryd.underlying3 o2
  obtain ⟨v3, e3, o3⟩ := hc 3 _ rfl
  obtain ⟨d, rfl, b3⟩ := cell_i64 Tryd.underlying3 o3
  match cs, hl with
  | [c0, c1, c2, c3], _ =>
    cases e0
    cases e1
    cases e2
    cases e3
    exact ⟨⟨a, b, c, d⟩, rfl, ⟨b0, b1, b2, b3⟩⟩
abbrev zval_t42 : Value := .agg #[.int .i64 0, .int .i64 0, .int .i64 0, .int .i64 0]
abbrev zdat_t42 {H : Type} : DataW H := .agg [.lit (.int .i64 0), .lit (.int .i64 0), .lit (.int .i64 0), .lit (.int .i64 0)]

structure EntryX where
  a : Bool
  b : Bool
  c : Bool
  d : Bool
  e : Int
abbrev EntryX.val (x : EntryX) : Value := .agg #[.bool x.a, .bool x.b, .bool x.c, .bool x.d, .int .i64 x.e]
def EntryX.Ok (x : EntryX) : Prop := (-9223372036854775808 ≤ x.e ∧ x.e ≤ 9223372036854775807)
theorem open_t23 {W : World} {base : Nat} {v : Value} (hv : Value.okWide Tryd.prog W .any base 23 v) : ∃ x : EntryX, v = x.val ∧ x.Ok := by
  obtain ⟨cs, rfl, hl, hc⟩ := agg_cells (ts := [4, 4, 4, 4, 3]) Tryd.underlying23 (by kernel_rfl) (by kernel_rfl) hv
  obtain ⟨v0, e0, o0⟩ := hc 0 _ rfl
  obtain ⟨a, rfl⟩ := cell_bool Tryd.underlying4 o0
  obtain ⟨v1, e1, o1⟩ := hc 1 _ rfl
  obtain ⟨b, rfl⟩ := cell_bool Tryd.underlying4 o1
  obtain ⟨v2, e2, o2⟩ := hc 2 _ rfl
  obtain ⟨c, rfl⟩ := cell_bool Tryd.underlying4 o2
  obtain ⟨v3, e3, o3⟩ := hc 3 _ rfl
  obtain ⟨d, rfl⟩ := cell_bool Tryd.underlying4 o3
  obtain ⟨v4, e4, o4⟩ := hc 4 _ rfl
  obtain ⟨e, rfl, b4⟩ := cell_i64 Tryd.underlying3 o4
  match cs, hl with
  | [c0, c1, c2, c3, c4], _ =>
    cases e0
    cases e1
    cases e2
    cases e3
    cases e4
    exact ⟨⟨a, b, c, d, e⟩, rfl, b4⟩
abbrev zval_t23 : Value := .agg #[.bool false, .bool false, .bool false, .bool false, .int .i64 0]
abbrev zdat_t23 {H : Type} : DataW H := .agg [.lit (.bool false), .lit (.bool false), .lit (.bool false), .lit (.bool false), .lit (.int .i64 0)]



end Go.Proofs.YtdmlcbbheabdpaaDoor
