/- The records of threads: Set of a state that is none. -/
import Derived.Test.YtiagkoiikmmgdaaThr7
namespace Go.Proofs.Ytiagkoiikmmgdaa
set_option linter.unusedVariables false
set_option linter.unusedSimpArgs false
open Go.ChangeShapes Go.WideShapes Go.ChangeAt Go.RowKit Go.Shelf

abbrev nineV : Value := .agg #[.int .i64 4, .int .i64 9, i0', u0, u0, u0, u0, u0, b0, i0', i0', u0, u0, u0, u0, u0, i0', i0', b0, b0, b0, b0, u0, u0]
def n24 : List Value := [.int .i64 4, .int .i64 9, i0', u0, u0, u0, u0, u0, b0, i0', i0', u0, u0, u0, u0, u0, i0', i0', b0, b0, b0, b0, u0, u0]
set_option maxRecDepth 100000 in
set_option maxHeartbeats 1000000 in
theorem may9 (w : World) : Calls Try.prog 15 #[nineV] w fun e w' => e = .returned (.bool false) ∧ Below w.heap.size w w' := by
  go_enter Try.func15, Try.ntmps15
  go_wp2_with go_in
  go_ret
  exact ⟨by simp, bal (Below.refl _ _) _⟩
set_option maxRecDepth 100000 in
set_option maxHeartbeats 1000000 in
theorem tset_nine (w : World) (b : Nat) (hb : b < w.heap.size) (h : OneAt w b) :
    Calls Try.prog 13 #[.pointer (some ⟨b, 0, none⟩), nineV] w fun e w' => e = .returned (.int .i64 2) ∧ Below w.heap.size w w' := by
  have H := Lib.hid h
  clear h
  go_enter Try.func13, Try.ntmps13
  go_wp2
  obtain ⟨W1, hW1⟩ : ∃ x, x = w.alloc (.cells #[.int .i64 4, .int .i64 9, i0', u0, u0, u0, u0, u0, b0, i0', i0', u0, u0, u0, u0, u0, i0', i0', b0, b0, b0, b0, u0, u0] 35) := ⟨_, rfl⟩
  rw [← hW1]
  have hk : Below w.heap.size w W1 := hW1 ▸ bal (Below.refl _ _) _
  have hblk : W1.heap[w.heap.size]? = some (.cells n24.toArray 35 (0, 0)) := by rw [hW1]; exact World.alloc_heap_new w _
  have hsz : W1.heap.size = w.heap.size + 1 := by rw [hW1]; simp
  clear hW1
  have hcell : W1.cell? ⟨w.heap.size, 0, none⟩ = some (.int .i64 4) := cell_of_row _ _ 0 _ _ _ hblk
  have hone : OneAt W1.drew b := H.out.call hb hk.drew
  have hget : Calls Try.prog 28 #[.pointer (some ⟨b, 0, none⟩), .int .i64 4] W1.drew fun e w' => ∃ g : Nat, e = .returned (.tuple #[.pointer (some ⟨g, 1, none⟩), .bool true]) ∧ Below w.heap.size w w' ∧ (∀ j v, n24[j]? = some v → w'.cell? ⟨w.heap.size, j, none⟩ = some v) ∧ w.heap.size < w'.heap.size := by
    obtain ⟨g, c, h1, h2, h3⟩ := hone
    refine (get_one W1.drew b g c (by simp; omega) h2 h1 h3).mono ?_
    rintro e w1 ⟨he, hb1⟩
    have := hb1.size
    simp at this
    refine ⟨g, he, hk.drew.trans (hb1.mono (by simp; omega)), fun j v hj => ?_, by omega⟩
    refine (hb1.cell (p := ⟨w.heap.size, j, none⟩) (by simp; omega)).trans ?_
    exact (cell_of_row _ _ j _ _ _ hblk).trans (by simpa using hj)
  have HG := Lib.hid hget
  clear hget hone hblk hk
  go_region_with (go_at_call 28; with_reducible refine HG.out.mono ?_; rintro e w1 ⟨g, rfl, hb1, hn1, hz1⟩; have HB := Lib.hid hb1; have HN := Lib.hid hn1; clear hn1 hb1)
  go_wp2_with (first
    | (refine wpList_load_list (by first | rfl | simp [Region.wanted, yielded]) 35 _ rfl ⟨w.heap.size, 0, none⟩ rfl n24 (add_cells HN.out) _ Try.underlying35 rfl (by kernel_rfl) ?_)
    | (go_at_call 15; refine (may9 _).mono ?_; rintro e w2 ⟨rfl, hb2⟩))
  go_ret
  exact ⟨by simp, HB.out.trans (hb2.mono (by omega))⟩
end Go.Proofs.Ytiagkoiikmmgdaa
