/- The slots of nodes: Add of the first, at, Set, Get, Size. -/
import Derived.Test.YtplanbihejodoaaDoorSlo
import Derived.Test.YtplanbihejodoaaDoorKq
namespace Go.Proofs.YtplanbihejodoaaDoor
set_option linter.unusedVariables false
set_option linter.unusedSimpArgs false
open Go.ChangeShapes Go.WideShapes Go.ChangeAt Go.RowKit Go.Shelf

abbrev capE (a o r : Int) : Value := .agg #[.int .i64 a, .int .i64 o, .int .i64 r, .int .u64 0, .int .i64 0, .int .i64 0, .int .i64 0, .int .i64 0]
def caps2 (a o r : Int) : Array Value := #[.int .i64 0, .int .i64 0, .int .i64 0, .int .u64 0, .int .i64 0, .int .i64 0, .int .i64 0, .int .i64 0, .int .i64 a, .int .i64 o, .int .i64 r, .int .u64 0, .int .i64 0, .int .i64 0, .int .i64 0, .int .i64 0]
/-- Slots of one node, of two slots, that lie in block m; the second holds a, o, r. -/
def SlAt (w : World) (b m : Nat) (a o r : Int) : Prop := ∃ g c : Nat, w.cell? ⟨b, 0, none⟩ = some (.slice (some ⟨g, 0, none⟩) 1 c) ∧ RowC w g m ∧ g ≠ m ∧ b ≠ m ∧ b < w.heap.size ∧ w.heap[m]? = some (.cells (caps2 a o r) 34 (0, 0))
theorem SlAt.call {w w' : World} {b m : Nat} {a o r : Int} (h : SlAt w b m a o r) (k : Below w.heap.size w w') : SlAt w' b m a o r := by
  obtain ⟨g, c, h1, h2, h3, h4, h5, h6⟩ := h
  exact ⟨g, c, (k.cell (p := ⟨b, 0, none⟩) h5).trans h1, h2.go k, h3, h4, Nat.lt_of_lt_of_le h5 k.size, (k.block m (Array.getElem?_eq_some_iff.1 h6).1).trans h6⟩
theorem SlAt.cell {w : World} {b m : Nat} {a o r : Int} (h : SlAt w b m a o r) (j : Nat) : w.cell? ⟨m, j, none⟩ = (caps2 a o r)[j]? := by
  obtain ⟨g, c, h1, h2, h3, h4, h5, h6⟩ := h
  exact cell_of_row _ _ j _ _ _ h6
theorem make2c (w : World) : (Instr.makeSlice 65 (.int .i64 2) (.int .i64 2)).run Tryd.prog w = .ok (.slice (some ⟨w.heap.size, 0, none⟩) 2 2) (w.alloc (.cells (caps2 0 0 0) 34)) := by kernel_rfl
set_option maxRecDepth 100000 in
set_option maxHeartbeats 1000000 in
theorem tadd_first (w : World) (b m : Nat) (hb : b < w.heap.size) (hm : m < w.heap.size) (hbm : b ≠ m) (hc : w.cell? ⟨b, 0, none⟩ = some (.slice none 0 0)) (hf : w.frozen? ⟨b, 0, none⟩ = false) (hcm : w.heap[m]? = some (.cells (caps2 0 0 0) 34 (0, 0))) :
    Calls Tryd.prog 25 #[.pointer (some ⟨b, 0, none⟩), .int .i64 7, sl2 m] w fun e w' => e = .returned (.bool true) ∧ SlAt w' b m 0 0 0 ∧ Below b w w' ∧ ∀ k, k < w.heap.size → k ≠ b → w'.heap[k]? = w.heap[k]? := by
  have HCM := Lib.hid hcm
  clear hcm
  go_enter Tryd.func25, Tryd.ntmps25
  go_wp2_with (first
    | (go_at_call 38; refine (find_empty _ b 7 hb hc).mono ?_; rintro e w1 ⟨rfl, rfl⟩)
    | (go_at_call 39; refine (insert_first _ w.heap.size m (cell_two_new _ _ _ _)).mono ?_; rintro e w2 ⟨g, c, rfl, hg2, hr2, hb2⟩; obtain ⟨hc2, hf2⟩ := bcell hb2; have hz2 : b < w2.heap.size := (by have := hb2.size; simp at this; omega); have hz3 : b < w.heap.size + 1 := (by omega); have HR2 := Lib.hid hr2; clear hr2))
  go_ret
  have hB := bgo (bal (Below.refl w.heap.size w) _) hb2
  simp only [World.size_alloc] at hg2
  have e1 := hB.block m hm
  refine ⟨rfl, ⟨g, c, ?_, ⟨?_, ?_, by simpa using HR2.out.2.2⟩, by omega, hbm, by simpa using hz2, ?_⟩, Below.setCell (p := ⟨b, 0, none⟩) (hB.mono (B' := b) (by omega)) (Nat.le_refl _) _, fun k hk hkb => (Go.heap_setCell_other _ _ _ _ hkb).trans (hB.block k hk)⟩
  · exact World.cell?_setCell_same' _ _ _ (by rw [(hB.cell (p := ⟨b, 0, none⟩) hb).trans hc]; rfl)
  · exact (World.cell?_of_block (Go.heap_setCell_other _ _ _ _ (by simp; omega))).trans HR2.out.1
  · exact (World.cell?_of_block (Go.heap_setCell_other _ _ _ _ (by simp; omega))).trans HR2.out.2.1
  · rw [Go.heap_setCell_other _ _ _ _ (Ne.symm hbm), e1]
    exact HCM.out
set_option maxHeartbeats 1000000 in
theorem sadd_first (w : World) (b : Nat) (hb : b < w.heap.size) (hc : w.cell? ⟨b, 0, none⟩ = some (.slice none 0 0)) (hf : w.frozen? ⟨b, 0, none⟩ = false) :
    Calls Tryd.prog 9 #[.pointer (some ⟨b, 0, none⟩), .int .i64 7, .int .i64 2] w fun e w' => e = .returned (.int .i64 0) ∧ SlAt w' b w.heap.size 0 0 0 ∧ Below b w w' ∧ ∀ k, k < w.heap.size → k ≠ b → w'.heap[k]? = w.heap[k]? := by
  have hmk := make2c
  have k0 : (w.alloc (.cells (caps2 0 0 0) 34)).cell? ⟨b, 0, none⟩ = some (.slice none 0 0) := cell_more _ hc
  have k1 : (w.alloc (.cells (caps2 0 0 0) 34)).drew.cell? ⟨b, 0, none⟩ = some (.slice none 0 0) := k0
  have k2' : (w.alloc (.cells (caps2 0 0 0) 34)).frozen? ⟨b, 0, none⟩ = false := frozen_more _ hc hf
  have k2 : (w.alloc (.cells (caps2 0 0 0) 34)).drew.frozen? ⟨b, 0, none⟩ = false := k2'
  have k3 : (w.alloc (.cells (caps2 0 0 0) 34)).drew.heap[w.heap.size]? = some (.cells (caps2 0 0 0) 34 (0, 0)) := World.alloc_heap_new w _
  have k4 : b < (w.alloc (.cells (caps2 0 0 0) 34)).drew.heap.size := by simp; omega
  have k5 : w.heap.size < (w.alloc (.cells (caps2 0 0 0) 34)).drew.heap.size := by simp
  have HADD := Lib.hid (tadd_first _ b w.heap.size k4 k5 (by omega) k1 k2 k3)
  clear k0 k1 k2 k2' k3 k4 k5
  go_enter Tryd.func9, Tryd.ntmps9
  go_wp2
  go_region_with (first | (go_at_call 25; refine HADD.out.mono ?_; rintro e w1 ⟨rfl, h1, h2, h3⟩; have H1 := Lib.hid h1; have H3 := Lib.hid h3; clear h1 h3))
  all_goals
    go_wp2
    go_ret
    exact ⟨rfl, H1.out, ⟨h2.os, h2.tape, h2.output, Nat.le_trans (by simp) h2.size, fun k hk => (h2.block k hk).trans (Below.heap_alloc w _ k (by omega))⟩, fun k hk hkb => (H3.out k (by simp; omega) hkb).trans (Below.heap_alloc w _ k hk)⟩
end Go.Proofs.YtplanbihejodoaaDoor
