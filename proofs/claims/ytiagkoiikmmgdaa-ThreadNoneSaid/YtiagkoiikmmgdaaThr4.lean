/- The records of threads: Add of the first. -/
import Derived.Test.YtiagkoiikmmgdaaThr3
namespace Go.Proofs.Ytiagkoiikmmgdaa
set_option linter.unusedVariables false
set_option linter.unusedSimpArgs false
open Go.ChangeShapes Go.WideShapes Go.ChangeAt Go.RowKit Go.Shelf

/-- A table of one row, in block b. -/
def OneAt (w : World) (b : Nat) : Prop := ∃ g c : Nat, w.cell? ⟨b, 0, none⟩ = some (.slice (some ⟨g, 0, none⟩) 1 c) ∧ g < w.heap.size ∧ ∀ j v, row25[j]? = some v → w.cell? ⟨g, j, none⟩ = some v
theorem OneAt.call {w w' : World} {b : Nat} (h : OneAt w b) (hb : b < w.heap.size) (k : Below w.heap.size w w') : OneAt w' b := by
  obtain ⟨g, c, h1, h2, h3⟩ := h
  exact ⟨g, c, (k.cell (p := ⟨b, 0, none⟩) hb).trans h1, Nat.lt_of_lt_of_le h2 k.size, fun j v hj => (k.cell (p := ⟨g, j, none⟩) h2).trans (h3 j v hj)⟩
set_option maxRecDepth 100000 in
set_option maxHeartbeats 1000000 in
theorem tadd_first (w : World) (B b : Nat) (hB : B ≤ b) (hb : b < w.heap.size) (hc : w.cell? ⟨b, 0, none⟩ = some (.slice none 0 0)) (hf : w.frozen? ⟨b, 0, none⟩ = false) :
    Calls Try.prog 9 #[.pointer (some ⟨b, 0, none⟩), .int .i64 4] w fun e w' => e = .returned (.int .i64 0) ∧ OneAt w' b ∧ b < w'.heap.size ∧ Below B w w' := by
  go_enter Try.func9, Try.ntmps9
  go_wp2_with (go_at_call 25; refine (add_first w B b hB hb hc hf).mono ?_; rintro e w1 ⟨rfl, h1, h2, h3⟩; have H1 := Lib.hid h1; clear h1)
  go_ret
  exact ⟨rfl, H1.out, h2, h3⟩
end Go.Proofs.Ytiagkoiikmmgdaa
