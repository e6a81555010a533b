/- The program's own structs as arguments. -/
import Derived.Test.YtahagcghbeeajaaCells
namespace Go.Proofs.Ytahagcghbeeajaa
set_option linter.unusedVariables false
open Go.ChangeShapes Go.WideShapes Go.ChangeAt Go.RowKit




structure OrderX where
  a : Int
  b : Int
  c : Int
  d : Int
  e : Int
  f : Int
  g : Int
  h : Int
  i : Int
  j : Int
  k : Int
  l : Int
abbrev OrderX.val (x : OrderX) : Value := .agg #[.int .i64 x.a, .int .i64 x.b, .int .i64 x.c, .int .i64 x.d, .int .i64 x.e, .int .i64 x.f, .int .i64 x.g, .int .u64 x.h, .int .u64 x.i, .int .u64 x.j, .int .u64 x.k, .int .u64 x.l]
def OrderX.Ok (x : OrderX) : Prop := (-9223372036854775808 ≤ x.a ∧ x.a ≤ 9223372036854775807) ∧ (-9223372036854775808 ≤ x.b ∧ x.b ≤ 9223372036854775807) ∧ (-9223372036854775808 ≤ x.c ∧ x.c ≤ 9223372036854775807) ∧ (-9223372036854775808 ≤ x.d ∧ x.d ≤ 9223372036854775807) ∧ (-9223372036854775808 ≤ x.e ∧ x.e ≤ 9223372036854775807) ∧ (-9223372036854775808 ≤ x.f ∧ x.f ≤ 9223372036854775807) ∧ (-9223372036854775808 ≤ x.g ∧ x.g ≤ 9223372036854775807) ∧ (0 ≤ x.h ∧ x.h ≤ 18446744073709551615) ∧ (0 ≤ x.i ∧ x.i ≤ 18446744073709551615) ∧ (0 ≤ x.j ∧ x.j ≤ 18446744073709551615) ∧ (0 ≤ x.k ∧ x.k ≤ 18446744073709551615) ∧ (0 ≤ x.l ∧ x.l ≤ 18446744073709551615)
theorem open_t29 {W : World} {base : Nat} {v : Value} (hv : Value.okWide Try.prog W .any base 29 v) : ∃ x : OrderX, v = x.val ∧ x.Ok := by
  obtain ⟨cs, rfl, hl, hc⟩ := agg_cells (ts := [3, 3, 3, 3, 3, 3, 3, 22, 22, 22, 22, 22]) Try.underlying29 (by kernel_rfl) (by kernel_rfl) hv
  obtain ⟨v0, e0, o0⟩ := hc 0 _ rfl
  obtain ⟨a, rfl, b0⟩ := cell_i64 Try.underlying3 o0
  obtain ⟨v1, e1, o1⟩ := hc 1 _ rfl
  obtain ⟨b, rfl, b1⟩ := cell_i64 Try.underlying3 o1
  obtain ⟨v2, e2, o2⟩ := hc 2 _ rfl
  obtain ⟨c, rfl, b2⟩ := cell_i64 Try.underlying3 o2
  obtain ⟨v3, e3, o3⟩ := hc 3 _ rfl
  obtain ⟨d, rfl, b3⟩ := cell_i64 Try.underlying3 o3
  obtain ⟨v4, e4, o4⟩ := hc 4 _ rfl
  obtain ⟨e, rfl, b4⟩ := cell_i64 Try.underlying3 o4
  obtain ⟨v5, e5, o5⟩ := hc 5 _ rfl
  obtain ⟨f, rfl, b5⟩ := cell_i64 Try.underlying3 o5
  obtain ⟨v6, e6, o6⟩ := hc 6 _ rfl
  obtain ⟨g, rfl, b6⟩ := cell_i64 Try.underlying3 o6
  obtain ⟨v7, e7, o7⟩ := hc 7 _ rfl
  obtain ⟨h, rfl, b7⟩ := cell_u64 Try.underlying22 o7
  obtain ⟨v8, e8, o8⟩ := hc 8 _ rfl
  obtain ⟨i, rfl, b8⟩ := cell_u64 Try.underlying22 o8
  obtain ⟨v9, e9, o9⟩ := hc 9 _ rfl
  obtain ⟨j, rfl, b9⟩ := cell_u64 Try.underlying22 o9
  obtain ⟨v10, e10, o10⟩ := hc 10 _ rfl
  obtain ⟨k, rfl, b10⟩ := cell_u64 Try.underlying22 o10
  obtain ⟨v11, e11, o11⟩ := hc 11 _ rfl
  obtain ⟨l, rfl, b11⟩ := cell_u64 Try.underlying22 o11
  match cs, hl with
  | [c0, c1, c2, c3, c4, c5, c6, c7, c8, c9, c10, c11], _ =>
    cases e0
    cases e1
    cases e2
    cases e3
    cases e4
    cases e5
    cases e6
    cases e7
    cases e8
    cases e9
    cases e10
    cases e11
    exact ⟨⟨a, b, c, d, e, f, g, h, i, j, k, l⟩, rfl, ⟨b0, b1, b2, b3, b4, b5, b6, b7, b8, b9, b10, b11⟩⟩
abbrev zval_t29 : Value := .agg #[.int .i64 0, .int .i64 0, .int .i64 0, .int .i64 0, .int .i64 0, .int .i64 0, .int .i64 0, .int .u64 0, .int .u64 0, .int .u64 0, .int .u64 0, .int .u64 0]
abbrev zdat_t29 {H : Type} : DataW H := .agg [.lit (.int .i64 0), .lit (.int .i64 0), .lit (.int .i64 0), .lit (.int .i64 0), .lit (.int .i64 0), .lit (.int .i64 0), .lit (.int .i64 0), .lit (.int .u64 0), .lit (.int .u64 0), .lit (.int .u64 0), .lit (.int .u64 0), .lit (.int .u64 0)]

structure CallX where
  a : Int
  b : Int
  c : Int
  d : Int
  e : Int
  f : Int
  g : Int
abbrev CallX.val (x : CallX) : Value := .agg #[.int .u64 x.a, .int .u64 x.b, .int .u64 x.c, .int .u64 x.d, .int .u64 x.e, .int .u64 x.f, .int .u64 x.g]
def CallX.Ok (x : CallX) : Prop := (0 ≤ x.a ∧ x.a ≤ 18446744073709551615) ∧ (0 ≤ x.b ∧ x.b ≤ 18446744073709551615) ∧ (0 ≤ x.c ∧ x.c ≤ 18446744073709551615) ∧ (0 ≤ x.d ∧ x.d ≤ 18446744073709551615) ∧ (0 ≤ x.e ∧ x.e ≤ 18446744073709551615) ∧ (0 ≤ x.f ∧ x.f ≤ 18446744073709551615) ∧ (0 ≤ x.g ∧ x.g ≤ 18446744073709551615)
theorem open_t25 {W : World} {base : Nat} {v : Value} (hv : Value.okWide Try.prog W .any base 25 v) : ∃ x : CallX, v = x.val ∧ x.Ok := by
  obtain ⟨cs, rfl, hl, hc⟩ := agg_cells (ts := [22, 22, 22, 22, 22, 22, 22]) Try.underlying25 (by kernel_rfl) (by kernel_rfl) hv
  obtain ⟨v0, e0, o0⟩ := hc 0 _ rfl
  obtain ⟨a, rfl, b0⟩ := cell_u64 Try.underlying22 o0
  obtain ⟨v1, e1, o1⟩ := hc 1 _ rfl
  obtain ⟨b, rfl, b1⟩ := cell_u64 Try.underlying22 o1
  obtain ⟨v2, e2, o2⟩ := hc 2 _ rfl
  obtain ⟨c, rfl, b2⟩ := cell_u64 Try.underlying22 o2
  obtain ⟨v3, e3, o3⟩ := hc 3 _ rfl
  obtain ⟨d, rfl, b3⟩ := cell_u64 Try.underlying22 o3
  obtain ⟨v4, e4, o4⟩ := hc 4 _ rfl
  obtain ⟨e, rfl, b4⟩ := cell_u64 Try.underlying22 o4
  obtain ⟨v5, e5, o5⟩ := hc 5 _ rfl
  obtain ⟨f, rfl, b5⟩ := cell_u64 Try.underlying22 o5
  obtain ⟨v6, e6, o6⟩ := hc 6 _ rfl
  obtain ⟨g, rfl, b6⟩ := cell_u64 Try.underlying22 o6
  match cs, hl with
  | [c0, c1, c2, c3, c4, c5, c6], _ =>
    cases e0
    cases e1
    cases e2
    cases e3
    cases e4
    cases e5
    cases e6
    exact ⟨⟨a, b, c, d, e, f, g⟩, rfl, ⟨b0, b1, b2, b3, b4, b5, b6⟩⟩
abbrev zval_t25 : Value := .agg #[.int .u64 0, .int .u64 0, .int .u64 0, .int .u64 0, .int .u64 0, .int .u64 0, .int .u64 0]
abbrev zdat_t25 {H : Type} : DataW H := .agg [.lit (.int .u64 0), .lit (.int .u64 0), .lit (.int .u64 0), .lit (.int .u64 0), .lit (.int .u64 0), .lit (.int .u64 0), .lit (.int .u64 0)]
end Go.Proofs.Ytahagcghbeeajaa
