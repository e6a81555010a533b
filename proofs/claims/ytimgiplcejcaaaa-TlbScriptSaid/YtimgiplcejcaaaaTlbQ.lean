/- The acts of chapter 6's laws, and a cache behind them. -/
import Derived.Test.YtimgiplcejcaaaaTlbP
import Derived.Test.YtimgiplcejcaaaaActs
import Derived.Test.YtimgiplcejcaaaaCells
namespace Go.Proofs.Ytimgiplcejcaaaa
set_option linter.unusedVariables false
set_option linter.unusedSimpArgs false
open Go.ChangeShapes Go.WideShapes Go.ChangeAt Go.RowKit

abbrev TransX.val (x : TransX) : Value := .agg #[.int .i64 x.s, .int .i64 x.p, .int .i64 x.f, .bool x.r, .bool x.w]
def I64 (n : Int) : Prop := -9223372036854775808 ≤ n ∧ n ≤ 9223372036854775807
theorem i64_of {n : Int} (h : (Lit.int .i64 n).wf = true) : I64 n := by
  simp [Lit.wf, IntKind.min, IntKind.max, IntKind.signed, IntKind.bits] at h
  exact ⟨by omega, by omega⟩
def TransX.Ok (x : TransX) : Prop := I64 x.s ∧ I64 x.p ∧ I64 x.f
structure ActX where
  d : Int
  x : TransX
  i : Int
  j : Int
/-- Act k of those that lie in a block from a cell on. -/
def actAt (w : World) (b off k : Nat) : ActX := ⟨intAt w b (off + (k * 8 + 0)), ⟨intAt w b (off + (k * 8 + 1)), intAt w b (off + (k * 8 + 2)), intAt w b (off + (k * 8 + 3)), boolAt w b (off + (k * 8 + 4)), boolAt w b (off + (k * 8 + 5))⟩, intAt w b (off + (k * 8 + 6)), intAt w b (off + (k * 8 + 7))⟩
def ActX.Ok (a : ActX) : Prop := I64 a.d ∧ a.x.Ok ∧ I64 a.i ∧ I64 a.j
/-- An act's cells. -/
def ActCells (w : World) (b o : Nat) (a : ActX) : Prop :=
  w.cell? ⟨b, o, none⟩ = some (.int .i64 a.d) ∧ w.cell? ⟨b, o + 1, none⟩ = some (.int .i64 a.x.s) ∧ w.cell? ⟨b, o + 2, none⟩ = some (.int .i64 a.x.p) ∧ w.cell? ⟨b, o + 3, none⟩ = some (.int .i64 a.x.f) ∧ w.cell? ⟨b, o + 4, none⟩ = some (.bool a.x.r) ∧ w.cell? ⟨b, o + 5, none⟩ = some (.bool a.x.w) ∧ w.cell? ⟨b, o + 6, none⟩ = some (.int .i64 a.i) ∧ w.cell? ⟨b, o + 7, none⟩ = some (.int .i64 a.j)
/-- The acts that a slice holds. -/
def ActsAt (w : World) (p : Option Addr) (n : Nat) (D : Nat → ActX) : Prop :=
  ∃ b off, (0 < n → p = some ⟨b, off, none⟩ ∧ b < w.heap.size) ∧ ∀ k, k < n → ActCells w b (off + k * 8) (D k) ∧ (D k).Ok
theorem acts_of {w : World} {p : Option Addr} {n : Nat} (h : RowsAt Try.prog w 35 8 p n) : ∃ D, ActsAt w p n D := by
  obtain ⟨b, off, h0, h1⟩ := h
  refine ⟨actAt w b off, b, off, h0, fun k hk => ?_⟩
  have q := h1 k hk
  obtain ⟨c0, o0⟩ := q 0 (.i .i64) (by kernel_rfl)
  obtain ⟨c1, o1⟩ := q 1 (.i .i64) (by kernel_rfl)
  obtain ⟨c2, o2⟩ := q 2 (.i .i64) (by kernel_rfl)
  obtain ⟨c3, o3⟩ := q 3 (.i .i64) (by kernel_rfl)
  have c4 := q 4 .b (by kernel_rfl)
  have c5 := q 5 .b (by kernel_rfl)
  obtain ⟨c6, o6⟩ := q 6 (.i .i64) (by kernel_rfl)
  obtain ⟨c7, o7⟩ := q 7 (.i .i64) (by kernel_rfl)
  refine ⟨⟨?_, ?_, ?_, ?_, ?_, ?_, ?_, ?_⟩, i64_of o0, ⟨i64_of o1, i64_of o2, i64_of o3⟩, i64_of o6, i64_of o7⟩
  all_goals first | exact c0 | exact c1 | exact c2 | exact c3 | exact c4 | exact c5 | exact c6 | exact c7 | (simp only [Nat.add_assoc]; first | exact c0 | exact c1 | exact c2 | exact c3 | exact c4 | exact c5 | exact c6 | exact c7)
theorem open_s22 {H : Type} {enc : TypeId × Value → H} {W : World} {base : Nat} {v : Value} {d : DataW H} {ps : List MemPlace} (hval : Value.okWide Try.prog W .any base 22 v) (hd : DataW.Trod enc Try.prog W 0 (fun _ => true) true 22 v d ps) :
    ∃ p n c, v = .slice p n c ∧ n ≤ c ∧ c ≤ maxLen ∧ ∃ D, ActsAt W p n D := by
  obtain ⟨p, n, c, rfl, h1, h2, h3⟩ := open_rows (C := 8) Try.underlying22 (by kernel_rfl) (by kernel_rfl) (by decide) hval hd
  exact ⟨p, n, c, rfl, h1, h2, acts_of h3⟩
/-- What an act makes of a cache, in 'played'. -/
def stepP (S : Nat → TransX × TransX × Int) (a : ActX) : Nat → TransX × TransX × Int :=
  if a.d = 0 then fillS S a.x else if a.d = 2 then (evictS S a.i a.j).1 else if a.d = 3 then (dropF S (pageOut a.x.s a.x.p) (fullP S 8)).1 else if a.d = 4 then (dropF S (spaceOut a.x.s) (fullP S 8)).1 else S
def playS (D : Nat → ActX) : Nat → (Nat → TransX × TransX × Int)
  | 0 => S0
  | k + 1 => stepP (playS D k) (D k)
end Go.Proofs.Ytimgiplcejcaaaa
