/- Slices of ints as arguments of a law. -/
import Derived.Test.YtedapbliebiblaaActs
import Derived.Test.YtedapbliebiblaaLowL
namespace Go.Proofs.Ytedapbliebiblaa
set_option linter.unusedVariables false
set_option linter.unusedSimpArgs false
open Go.ChangeShapes Go.WideShapes Go.ChangeAt Go.RowKit

/-- The picks. -/
def PicksAt (w : World) (p : Option Addr) (n : Nat) (D : Nat → Int) : Prop :=
  ∃ b off, (0 < n → p = some ⟨b, off, none⟩ ∧ b < w.heap.size) ∧ ∀ k, k < n → w.cell? ⟨b, off + k, none⟩ = some (.int .i64 (D k)) ∧ -9223372036854775808 ≤ D k ∧ D k ≤ 9223372036854775807
theorem i64_ofP {n : Int} (h : (Lit.int .i64 n).wf = true) : -9223372036854775808 ≤ n ∧ n ≤ 9223372036854775807 := by
  simp [Lit.wf, IntKind.min, IntKind.max, IntKind.signed, IntKind.bits] at h
  exact ⟨by omega, by omega⟩
set_option maxRecDepth 100000 in
theorem open_s60 {H : Type} {enc : TypeId × Value → H} {W : World} {base : Nat} {v : Value} {d : DataW H} {ps : List MemPlace} (hval : Value.okWide Try.prog W .any base 60 v) (hd : DataW.Trod enc Try.prog W 0 (fun _ => true) true 60 v d ps) :
    ∃ p n c, v = .slice p n c ∧ n ≤ c ∧ c ≤ maxLen ∧ ∃ D, PicksAt W p n D := by
  obtain ⟨p, n, c, rfl, h1, h2, b, off, h3, h4⟩ := open_rows (C := 1) Try.underlying60 (by kernel_rfl) (by kernel_rfl) (by decide) hval hd
  refine ⟨p, n, c, rfl, h1, h2, fun k => intAt W b (off + (k * 1 + 0)), b, off, h3, fun k hk => ?_⟩
  obtain ⟨c0, o0⟩ := h4 k hk 0 (.i .i64) (by kernel_rfl)
  refine ⟨?_, i64_ofP o0⟩
  simpa using c0
end Go.Proofs.Ytedapbliebiblaa
