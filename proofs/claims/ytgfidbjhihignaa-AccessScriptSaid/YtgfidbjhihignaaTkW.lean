/- The law TlbNone. -/
import Derived.Test.YtgfidbjhihignaaTlbV
import Derived.Outline
namespace Go.Proofs.Ytgfidbjhihignaa
set_option linter.unusedVariables false
set_option linter.unusedSimpArgs false
open Go.ChangeShapes Go.WideShapes Go.ChangeAt Go.RowKit

abbrev S0 : Nat → TransX × TransX × Int := fun _ => (zT, zT, 0)
theorem frozen_new (W : World) (cs : Array Value) (t : TypeId) (j : Nat) : (W.alloc (.cells cs t)).frozen? ⟨W.heap.size, j, none⟩ = false := by
  have h := World.alloc_heap_new W (.cells cs t)
  unfold World.frozen?
  rw [h]
  simp
theorem tlbAt_new (W : World) : TlbAt (W.alloc (.cells #[.int .i64 0, .int .i64 0, .int .i64 0, .bool false, .bool false, .int .i64 0, .int .i64 0, .int .i64 0, .bool false, .bool false, .int .i64 0, .int .i64 0, .int .i64 0, .int .i64 0, .bool false, .bool false, .int .i64 0, .int .i64 0, .int .i64 0, .bool false, .bool false, .int .i64 0, .int .i64 0, .int .i64 0, .int .i64 0, .bool false, .bool false, .int .i64 0, .int .i64 0, .int .i64 0, .bool false, .bool false, .int .i64 0, .int .i64 0, .int .i64 0, .int .i64 0, .bool false, .bool false, .int .i64 0, .int .i64 0, .int .i64 0, .bool false, .bool false, .int .i64 0] 128)) W.heap.size S0 := by
  refine ⟨fun i hi => ?_, fun j => ?_, by simp⟩
  · obtain rfl | rfl | rfl | rfl : i = 0 ∨ i = 1 ∨ i = 2 ∨ i = 3 := by omega
    all_goals
      refine ⟨⟨?_, ?_, ?_, ?_, ?_⟩, ⟨?_, ?_, ?_, ?_, ?_⟩, ?_⟩
      all_goals simp [go_sem]
  · exact frozen_new _ _ _ _
theorem okS0 : ∀ i, i < 4 → SetOk (S0 i) := fun i _ => ⟨.inl rfl, .inl rfl, .inl rfl⟩
theorem TlbOnly.cell {b : Nat} {w w' : World} {k j : Nat} {v : Option Value} (h : TlbOnly b w w') (hk : k < w.heap.size) (hn : k ≠ b) (q : w.cell? ⟨k, j, none⟩ = v) : w'.cell? ⟨k, j, none⟩ = v := by
  have e := h.block k hk hn
  unfold World.cell? at q ⊢
  simp only [e]
  exact q
theorem fill_0 : setS S0 (setNo 4) (fillR (S0 (setNo 4)).1 (S0 (setNo 4)).2.1 (S0 (setNo 4)).2.2 ⟨1, 4, 2, true, false⟩) = setS S0 0 (⟨1, 4, 2, true, false⟩, zT, 0) :=
  congrArg (setS S0 0) (by decide +kernel : fillR zT zT 0 ⟨1, 4, 2, true, false⟩ = (⟨1, 4, 2, true, false⟩, zT, 0))
end Go.Proofs.Ytgfidbjhihignaa
