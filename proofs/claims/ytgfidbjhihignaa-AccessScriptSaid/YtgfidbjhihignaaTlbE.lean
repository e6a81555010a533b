/- package tlb: the iterator over the ways that have something. -/
import Derived.Test.YtgfidbjhihignaaTlbV
import Derived.Test.YtgfidbjhihignaaLink
import Derived.LoopIn
import Derived.Outline
namespace Go.Proofs.Ytgfidbjhihignaa
set_option linter.unusedVariables false
open Go.RowKit Go.Shelf
attribute [local go_sem] Oper.semAt_some
/-- A way of a cache by its set and its number there. -/
def wayP (S : Nat → TransX × TransX × Int) (p : Nat × Nat) : TransX := if p.2 = 0 then (S p.1).1 else (S p.1).2.1
/-- The ways that have something, of the first m. -/
def fullP (S : Nat → TransX × TransX × Int) (m : Nat) : List (Nat × Nat) := ((List.range m).map fun q => (q / 2, q % 2)).filter fun p => wayP S p ≠ zT
theorem fullP_succ (S : Nat → TransX × TransX × Int) (k j : Nat) (hj : j < 2) : fullP S (2 * k + j + 1) = fullP S (2 * k + j) ++ (if wayP S (k, j) ≠ zT then [(k, j)] else []) := by
  unfold fullP
  rw [List.range_succ, List.map_append, List.filter_append]
  have h1 : (2 * k + j) / 2 = k := by omega
  have h2 : (2 * k + j) % 2 = j := by omega
  simp [h1, h2, List.filter_cons]
theorem fullP_mem {S : Nat → TransX × TransX × Int} {m : Nat} {p : Nat × Nat} (h : p ∈ fullP S m) : 2 * p.1 + p.2 < m := by
  unfold fullP at h
  rw [List.mem_filter, List.mem_map] at h
  obtain ⟨⟨q, hq, rfl⟩, _⟩ := h
  have := List.mem_range.1 hq
  simp only
  omega
theorem fullP_not {S : Nat → TransX × TransX × Int} {k j : Nat} : (k, j) ∉ fullP S (2 * k + j) := fun h => absurd (fullP_mem h) (by simp)
theorem fullP_len (S : Nat → TransX × TransX × Int) (m : Nat) : (fullP S m).length ≤ m := by
  unfold fullP
  refine Nat.le_trans (List.length_filter_le _ _) ?_
  simp
/-- The five cells of a way. -/
theorem way_cells {w : World} {b : Nat} {T : Nat → TransX × TransX × Int} (h : TlbAt w b T) {k j : Nat} (hk : k < 4) (hj : j < 2) :
    w.cell? ⟨b, k * 11 + j * 5, none⟩ = some (.int .i64 (wayP T (k, j)).s) ∧ w.cell? ⟨b, k * 11 + j * 5 + 1, none⟩ = some (.int .i64 (wayP T (k, j)).p) ∧ w.cell? ⟨b, k * 11 + j * 5 + 2, none⟩ = some (.int .i64 (wayP T (k, j)).f) ∧ w.cell? ⟨b, k * 11 + j * 5 + 3, none⟩ = some (.bool (wayP T (k, j)).r) ∧ w.cell? ⟨b, k * 11 + j * 5 + 4, none⟩ = some (.bool (wayP T (k, j)).w) := by
  obtain ⟨⟨c0, c1, c2, c3, c4⟩, ⟨c5, c6, c7, c8, c9⟩, _⟩ := h.at_ k hk
  rw [Nat.mul_comm 11 k] at *
  obtain rfl | rfl : j = 0 ∨ j = 1 := by omega
  · exact ⟨c0, c1, c2, c3, c4⟩
  · exact ⟨c5, c6, c7, c8, c9⟩
end Go.Proofs.Ytgfidbjhihignaa
