/- chapter 35: three laws' walks, as their frames ask them. -/
import Derived.Test.YthgmanncmekeeaaDoorSd6
namespace Go.Proofs.YthgmanncmekeeaaDoor
set_option linter.unusedVariables false
open Go.ChangeShapes Go.WideShapes Go.ChangeAt Go.RowKit
namespace Sc
theorem walk_scriptStrict {W : World} (a : ByteArray) {Q : Prop} (w0 : Q) (hE : EnvAt W) : Calls Tryd.prog 6 #[.string a] W fun e w' => e = .returned (.bool true) ∧ Below W.heap.size W w' := by
  have := strict_any a.data.toList W hE
  rw [bs_data] at this
  exact this
theorem walk_scriptBack {W : World} (p : Option Addr) (n c : Nat) (h : n ≤ c ∧ c ≤ maxLen ∧ ∃ L : List Ev, L.length = n ∧ EvM W p L ∧ ∀ e ∈ L, EvG e) (hE : EnvAt W) : Calls Tryd.prog 5 #[.slice p n c] W fun e w' => e = .returned (.bool true) ∧ Below W.heap.size W w' := by
  obtain ⟨_, _, L, h1, h2, h3⟩ := h
  exact back_any L p n c W hE h1 h2 h3
theorem walk_scriptParts {W : World} (p : Option Addr) (n c : Nat) (h : n ≤ c ∧ c ≤ maxLen ∧ ∃ L : List Ev, L.length = n ∧ EvM W p L ∧ ∀ e ∈ L, EvG e) (a : ByteArray) {Q : Prop} (w0 : Q) (hE : EnvAt W) : Calls Tryd.prog 7 #[.slice p n c, .string a] W fun e w' => e = .returned (.bool true) ∧ Below W.heap.size W w' := by
  obtain ⟨_, _, L, h1, h2, h3⟩ := h
  have := parts_any L p n c a.data.toList W hE h1 h2 h3
  rw [bs_data] at this
  exact this
end Sc
end Go.Proofs.YthgmanncmekeeaaDoor
