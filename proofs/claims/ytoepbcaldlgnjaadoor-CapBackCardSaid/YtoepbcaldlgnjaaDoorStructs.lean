/- The program's own structs as arguments. -/
import Derived.Test.YtoepbcaldlgnjaaDoorCells
namespace Go.Proofs.YtoepbcaldlgnjaaDoor
set_option linter.unusedVariables false
open Go.ChangeShapes Go.WideShapes Go.ChangeAt Go.RowKit



structure CapX where
  a : Int
  b : Int
  c : Int
  d : Int
  e : Int
  f : Int
  g : Int
  h : Int
abbrev CapX.val (x : CapX) : Value := .agg #[.int .i64 x.a, .int .i64 x.b, .int .i64 x.c, .int .u64 x.d, .int .i64 x.e, .int .i64 x.f, .int .i64 x.g, .int .i64 x.h]
def CapX.Ok (x : CapX) : Prop := (-9223372036854775808 ≤ x.a ∧ x.a ≤ 9223372036854775807) ∧ (-9223372036854775808 ≤ x.b ∧ x.b ≤ 9223372036854775807) ∧ (-9223372036854775808 ≤ x.c ∧ x.c ≤ 9223372036854775807) ∧ (0 ≤ x.d ∧ x.d ≤ 18446744073709551615) ∧ (-9223372036854775808 ≤ x.e ∧ x.e ≤ 9223372036854775807) ∧ (-9223372036854775808 ≤ x.f ∧ x.f ≤ 9223372036854775807) ∧ (-9223372036854775808 ≤ x.g ∧ x.g ≤ 9223372036854775807) ∧ (-9223372036854775808 ≤ x.h ∧ x.h ≤ 9223372036854775807)
theorem open_t24 {W : World} {base : Nat} {v : Value} (hv : Value.okWide Tryd.prog W .any base 24 v) : ∃ x : CapX, v = x.val ∧ x.Ok := by
  obtain ⟨cs, rfl, hl, hc⟩ := agg_cells (ts := [3, 3, 3, 22, 3, 3, 3, 3]) Tryd.underlying24 (by kernel_rfl) (by kernel_rfl) hv
  obtain ⟨v0, e0, o0⟩ := hc 0 _ rfl
  obtain ⟨a, rfl, b0⟩ := cell_i64 Tryd.underlying3 o0
  obtain ⟨v1, e1, o1⟩ := hc 1 _ rfl
  obtain ⟨b, rfl, b1⟩ := cell_i64 Tryd.underlying3 o1
  obtain ⟨v2, e2, o2⟩ := hc 2 _ rfl
  obtain ⟨c, rfl, b2⟩ := cell_i64 Tryd.underlying3 o2
  obtain ⟨v3, e3, o3⟩ := hc 3 _ rfl
  obtain ⟨d, rfl, b3⟩ := cell_u64 Tryd.underlying22 o3
  obtain ⟨v4, e4, o4⟩ := hc 4 _ rfl
  obtain ⟨e, rfl, b4⟩ := cell_i64 Tryd.underlying3 o4
  obtain ⟨v5, e5, o5⟩ := hc 5 _ rfl
  obtain ⟨f, rfl, b5⟩ := cell_i64 Tryd.underlying3 o5
  obtain ⟨v6, e6, o6⟩ := hc 6 _ rfl
  obtain ⟨g, rfl, b6⟩ := cell_i64 Tryd.underlying3 o6
  obtain ⟨v7, e7, o7⟩ := hc 7 _ rfl
  obtain ⟨h, rfl, b7⟩ := cell_i64 Tryd.underlying3 o7
  match cs, hl with
  | [c0, c1, c2, c3, c4, c5, c6, c7], _ =>
    cases e0
    cases e1
    cases e2
    cases e3
    cases e4
    cases e5
    cases e6
    cases e7
    exact ⟨⟨a, b, c, d, e, f, g, h⟩, rfl, ⟨b0, b1, b2, b3, b4, b5, b6, b7⟩⟩
abbrev zval_t24 : Value := .agg #[.int .i64 0, .int .i64 0, .int .i64 0, .int .u64 0, .int .i64 0, .int .i64 0, .int .i64 0, .int .i64 0]
abbrev zdat_t24 {H : Type} : DataW H := .agg [.lit (.int .i64 0), .lit (.int .i64 0), .lit (.int .i64 0), .lit (.int .u64 0), .lit (.int .i64 0), .lit (.int .i64 0), .lit (.int .i64 0), .lit (.int .i64 0)]


end Go.Proofs.YtoepbcaldlgnjaaDoor
