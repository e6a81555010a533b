/- package tree: its map's keys. -/
import Derived.Test.YtebgmphbkjpfcaaTr1
import Derived.Maps.Keyed
import Derived.Maps.Own
import Derived.DeepKeys4
namespace Go.Proofs.Ytebgmphbkjpfcaa
set_option linter.unusedVariables false
set_option linter.unusedSimpArgs false
open Go.ChangeShapes Go.WideShapes Go.ChangeAt Go.RowKit
open Go.Maps (Keyed IsMap)

theorem laidS : laidOutB Try.prog = true := by kernel_rfl
theorem lawS : Keyed Try.prog 31 := Keyed.of_law (deep_law_laid laidS (m := 4) (by decide) (of_decide_eq_true (by kernel_rfl)) (by kernel_rfl) (by kernel_rfl))
def InS (x : Int) : Prop := -9223372036854775808 ≤ x ∧ x ≤ 9223372036854775807
theorem wfS {x : Int} (h : InS x) : (Lit.int .i64 x).wf = true := by
  obtain ⟨a, b⟩ := h
  have e1 : IntKind.i64.min = -9223372036854775808 := by decide
  have e2 : IntKind.i64.max = 9223372036854775807 := by decide
  simp only [Lit.wf, e1, e2, Bool.and_eq_true, decide_eq_true_eq]
  exact ⟨a, b⟩
/-- The key of a slot. -/
def KS (o i : Int) : Lit := .string (keyBytes [.int .i64 o, .int .i64 i])
theorem keyS (o i : Int) (ho : InS o) (hi : InS i) : keyOf Try.prog 31 (slV o i) = some (KS o i) := by
  have e1 := wfS ho
  have e2 := wfS hi
  obtain ⟨N, hN⟩ : ∃ N, Try.prog.types.size = N + 1 + 1 := ⟨Try.prog.types.size - 2, by kernel_rfl⟩
  have hf : (slV o i).formed Try.prog 31 = true := by kernel_rfl
  have hc : Try.prog.cellsOf 3 = 1 := by kernel_rfl
  unfold keyOf KS
  rw [Try.underlying31]
  simp only [hf, if_true, hN]
  unfold Program.keyLits
  simp only [Try.underlying31]
  unfold Program.keyLits
  simp [Try.underlying3, mapKey, e1, e2, hc, Value.cells]
  exact ⟨by kernel_rfl, by kernel_rfl⟩
theorem KS_inj {o i p j : Int} (ho : InS o) (hi : InS i) (hp : InS p) (hj : InS j) (h : KS o i = KS p j) : o = p ∧ i = j := by
  have := lawS.inj (keyS o i ho hi) (h ▸ keyS p j hp hj)
  simpa using this
end Go.Proofs.Ytebgmphbkjpfcaa
