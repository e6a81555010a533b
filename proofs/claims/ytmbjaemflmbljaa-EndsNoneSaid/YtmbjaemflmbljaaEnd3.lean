/- The endpoints: Add of the first; what one endpoint keeps. -/
import Derived.Test.YtmbjaemflmbljaaEnd2
import Derived.Deep.RegionWith
namespace Go.Proofs.Ytmbjaemflmbljaa
set_option linter.unusedVariables false
set_option linter.unusedSimpArgs false
open Go.ChangeShapes Go.WideShapes Go.ChangeAt Go.RowKit Go.Shelf

/-- Endpoints in block b, of one endpoint, in block g: who waits there, and how. -/
structure EndAt (w : World) (b g c : Nat) (p : Option Addr) (n cc : Nat) (sd : Bool) : Prop where
  tab : w.cell? ⟨b, 0, none⟩ = some (.slice (some ⟨g, 0, none⟩) 1 c)
  row : RowE w g p n cc sd
  free : ∀ j, w.frozen? ⟨g, j, none⟩ = false
  ne : g ≠ b
  lt : b < w.heap.size
theorem EndAt.call {w w' : World} {b g c : Nat} {p : Option Addr} {n cc : Nat} {sd : Bool} (h : EndAt w b g c p n cc sd) (k : Below w.heap.size w w') : EndAt w' b g c p n cc sd :=
  ⟨(k.cell (p := ⟨b, 0, none⟩) h.lt).trans h.tab, h.row.go k, fun j => (k.frozen (p := ⟨g, j, none⟩) h.row.2.2.2).trans (h.free j), h.ne, Nat.lt_of_lt_of_le h.lt k.size⟩
theorem tadd_end (w W1 w2 : World) (b g c : Nat) (hb : b < w.heap.size) (hsz : W1.heap.size = w.heap.size + 1) (hbw : Below w.heap.size w W1) (hb2 : Below W1.heap.size W1 w2) (hc3 : w2.cell? ⟨b, 0, none⟩ = some (.slice none 0 0)) (hf3 : w2.frozen? ⟨b, 0, none⟩ = false) (hz2 : b < w2.heap.size) (hbg : W1.heap.size ≤ g) (hr : RowE w2 g none 0 0 false) (hfz : ∀ j, w2.frozen? ⟨g, j, none⟩ = false) :
    Ending.returned (.bool true) = .returned (.bool true) ∧ (∃ g' c', EndAt (w2.setCell ⟨b, 0, none⟩ (.slice (some ⟨g, 0, none⟩) 1 c)) b g' c' none 0 0 false ∧ w.heap.size ≤ g') ∧ Below b w (w2.setCell ⟨b, 0, none⟩ (.slice (some ⟨g, 0, none⟩) 1 c)) ∧ ∀ k, k < w.heap.size → k ≠ b → (w2.setCell ⟨b, 0, none⟩ (.slice (some ⟨g, 0, none⟩) 1 c)).heap[k]? = w.heap[k]? := by
  have hB : Below w.heap.size w w2 := hbw.trans (hb2.mono (by omega))
  refine ⟨rfl, ⟨g, c, ⟨?_, ⟨?_, ?_, ?_, by simpa using hr.2.2.2⟩, fun j => by simp [go_sem, hfz], by omega, by simpa using hz2⟩, by omega⟩, Below.setCell (p := ⟨b, 0, none⟩) (hB.mono (B' := b) (by omega)) (Nat.le_refl _) _, fun k hk hkb => (Go.heap_setCell_other _ _ _ _ hkb).trans (hB.block k hk)⟩
  · exact World.cell?_setCell_same' _ _ _ (by rw [hc3]; rfl)
  · exact (World.cell?_of_block (Go.heap_setCell_other _ _ _ _ (by simp; omega))).trans hr.1
  · exact (World.cell?_of_block (Go.heap_setCell_other _ _ _ _ (by simp; omega))).trans hr.2.1
  · exact (World.cell?_of_block (Go.heap_setCell_other _ _ _ _ (by simp; omega))).trans hr.2.2.1
set_option maxRecDepth 100000 in
set_option maxHeartbeats 1000000 in
theorem tadd_first (w : World) (b : Nat) (hb : b < w.heap.size) (hc : w.cell? ⟨b, 0, none⟩ = some (.slice none 0 0)) (hf : w.frozen? ⟨b, 0, none⟩ = false) :
    Calls Try.prog 25 #[.pointer (some ⟨b, 0, none⟩), .int .i64 6, .agg #[.slice none 0 0, .bool false]] w fun e w' => e = .returned (.bool true) ∧ (∃ g c, EndAt w' b g c none 0 0 false ∧ w.heap.size ≤ g) ∧ Below b w w' ∧ ∀ k, k < w.heap.size → k ≠ b → w'.heap[k]? = w.heap[k]? := by
  go_enter Try.func25, Try.ntmps25
  go_wp2_with (go_at_call 33; refine (find_empty _ b 6 (by simp; omega) (cell_more _ hc)).mono ?_; rintro e w1 ⟨rfl, rfl⟩)
  obtain ⟨W1, hW1⟩ : ∃ x, x = w.alloc (.cells #[.slice none 0 0, .bool false] 62) := ⟨_, rfl⟩
  rw [← hW1]
  have hcb : W1.cell? ⟨b, 0, none⟩ = some (.slice none 0 0) := by rw [hW1]; exact cell_more _ hc
  have hfb : W1.frozen? ⟨b, 0, none⟩ = false := by rw [hW1]; exact frozen_more _ hc hf
  have x0 : W1.cell? ⟨w.heap.size, 0, none⟩ = some (.slice none 0 0) := by rw [hW1]; go_simp
  have x1 : W1.cell? ⟨w.heap.size, 1, none⟩ = some (.bool false) := by rw [hW1]; go_simp
  have hsz : W1.heap.size = w.heap.size + 1 := by rw [hW1]; simp
  have hbw : Below w.heap.size w W1 := hW1 ▸ bal (Below.refl _ _) _
  clear hW1
  have hb1 : b < W1.heap.size := by omega
  have hs1 : w.heap.size < W1.heap.size := by omega
  have hins : ∀ o, o = Obj.cells #[.int .i64 6, .slice none 0 0, .bool false] 80 →
      Calls Try.prog 34 #[.slice none 0 0, .int .i64 0, .slice (some ⟨w.heap.size + 1, 0, none⟩) 1 1] (W1.alloc o).drew fun e w' =>
        ∃ g c : Nat, e = .returned (.slice (some ⟨g, 0, none⟩) 1 c) ∧ W1.heap.size ≤ g ∧ RowE w' g none 0 0 false ∧ Below W1.heap.size W1 w' ∧ w'.cell? ⟨b, 0, none⟩ = some (.slice none 0 0) ∧ w'.frozen? ⟨b, 0, none⟩ = false ∧ b < w'.heap.size ∧ ∀ j, w'.frozen? ⟨g, j, none⟩ = false := by
    intro o ho
    refine (insert_first (W1.alloc o).drew (w.heap.size + 1) (by intro j v hj; rw [ho, ← hsz]; exact cell_three_new W1 _ _ _ _ j v hj)).mono ?_
    rintro e w2 ⟨g, c, he, hg2, hr2, hb2, hfz2⟩
    have hB2 : Below W1.heap.size W1 w2 := ((Below.refl _ W1).alloc (Nat.le_refl _) o).drew.trans (hb2.mono (by simp))
    have := hb2.size
    simp at this hg2
    exact ⟨g, c, he, by omega, hr2, hB2, (hB2.cell (p := ⟨b, 0, none⟩) hb1).trans hcb, (hB2.frozen (p := ⟨b, 0, none⟩) hb1).trans hfb, by omega, hfz2⟩
  have HINS := Lib.hid hins
  have HBW := Lib.hid hbw
  clear hins hbw
  go_region_with (first | (go_at_call 34; with_reducible refine (HINS.out _ rfl).mono ?_; rintro e w2 ⟨g, c, rfl, hg2, hr2, hb2, hc3, hf3, hz2, hfz2⟩; have HR2 := Lib.hid hr2; have HFZ := Lib.hid hfz2; clear hr2 hfz2))
  all_goals go_wp2
  all_goals go_ret
  all_goals exact tadd_end w W1 w2 b g c hb hsz HBW.out hb2 hc3 hf3 hz2 hg2 HR2.out HFZ.out
set_option maxHeartbeats 1000000 in
theorem eadd_first (w : World) (b : Nat) (hb : b < w.heap.size) (hc : w.cell? ⟨b, 0, none⟩ = some (.slice none 0 0)) (hf : w.frozen? ⟨b, 0, none⟩ = false) :
    Calls Try.prog 10 #[.pointer (some ⟨b, 0, none⟩), .int .i64 6] w fun e w' => e = .returned (.int .i64 0) ∧ (∃ g c, EndAt w' b g c none 0 0 false ∧ w.heap.size ≤ g) ∧ Below b w w' ∧ ∀ k, k < w.heap.size → k ≠ b → w'.heap[k]? = w.heap[k]? := by
  go_enter Try.func10, Try.ntmps10
  go_wp2_with (first | (go_at_call 25; refine (tadd_first _ b hb hc hf).mono ?_; rintro e w1 ⟨rfl, h1, h2, h3⟩))
  go_ret
  exact ⟨rfl, h1, h2, h3⟩
end Go.Proofs.Ytmbjaemflmbljaa
