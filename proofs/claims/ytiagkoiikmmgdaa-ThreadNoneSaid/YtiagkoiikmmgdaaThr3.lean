/- The records of threads: the first one is added. -/
import Derived.Test.YtiagkoiikmmgdaaThr2
import Derived.Deep.MidRow
namespace Go.Proofs.Ytiagkoiikmmgdaa
set_option linter.unusedVariables false
set_option linter.unusedSimpArgs false
open Go.ChangeShapes Go.WideShapes Go.ChangeAt Go.RowKit Go.Shelf

def thr24 : List Value := [.int .i64 4, i0', i0', u0, u0, u0, u0, u0, b0, i0', i0', u0, u0, u0, u0, u0, .int .i64 4096, .int .i64 4096, b0, b0, b0, b0, u0, u0]
theorem new24 (W : World) (t : TypeId) : (W.alloc (.cells #[.int .i64 4, .int .i64 0, i0', u0, u0, u0, u0, u0, b0, i0', i0', u0, u0, u0, u0, u0, .int .i64 4096, .int .i64 4096, b0, b0, b0, b0, u0, u0] t)).rangeAt W.heap.size 0 thr24 := by
  intro j v hj
  rw [Nat.zero_add]
  exact (cell_of_row _ _ j thr24.toArray t (0, 0) (World.alloc_heap_new W _)).trans (by simpa using hj)
theorem add_end (w W1 w2 : World) (B b g c : Nat) (hB : B ≤ b) (hb : b < w.heap.size) (hsz : W1.heap.size = w.heap.size + 1) (hbw : Below w.heap.size w W1) (hb2 : Below W1.heap.size W1 w2) (hc3 : w2.cell? ⟨b, 0, none⟩ = some (.slice none 0 0)) (hf3 : w2.frozen? ⟨b, 0, none⟩ = false) (hz2 : b < w2.heap.size) (hbg : b < g) (hg3 : g < w2.heap.size) (hr : ∀ j v, row25[j]? = some v → w2.cell? ⟨g, j, none⟩ = some v) :
    Ending.returned (.bool true) = .returned (.bool true) ∧ (∃ g' c' : Nat, (w2.setCell ⟨b, 0, none⟩ (.slice (some ⟨g, 0, none⟩) 1 c)).cell? ⟨b, 0, none⟩ = some (.slice (some ⟨g', 0, none⟩) 1 c') ∧ g' < (w2.setCell ⟨b, 0, none⟩ (.slice (some ⟨g, 0, none⟩) 1 c)).heap.size ∧ ∀ j v, row25[j]? = some v → (w2.setCell ⟨b, 0, none⟩ (.slice (some ⟨g, 0, none⟩) 1 c)).cell? ⟨g', j, none⟩ = some v) ∧ b < (w2.setCell ⟨b, 0, none⟩ (.slice (some ⟨g, 0, none⟩) 1 c)).heap.size ∧ Below B w (w2.setCell ⟨b, 0, none⟩ (.slice (some ⟨g, 0, none⟩) 1 c)) := by
  refine ⟨rfl, ⟨g, c, by simp [go_sem, hc3, hf3], by simpa using hg3, fun j v hj => (World.cell?_of_block (Go.heap_setCell_other _ _ _ _ (by simp; omega))).trans (hr j v hj)⟩, by simpa using hz2, Below.setCell ((hbw.mono (by omega)).trans (hb2.mono (by omega))) hB _⟩
attribute [-go_sem] loadVar
set_option maxRecDepth 100000 in
set_option maxHeartbeats 1000000 in
theorem add_first (w : World) (B b : Nat) (hB : B ≤ b) (hb : b < w.heap.size) (hc : w.cell? ⟨b, 0, none⟩ = some (.slice none 0 0)) (hf : w.frozen? ⟨b, 0, none⟩ = false) :
    Calls Try.prog 25 #[.pointer (some ⟨b, 0, none⟩), .int .i64 4, thrV 0 4096] w fun e w' =>
      e = .returned (.bool true) ∧ (∃ g c : Nat, w'.cell? ⟨b, 0, none⟩ = some (.slice (some ⟨g, 0, none⟩) 1 c) ∧ g < w'.heap.size ∧ ∀ j v, row25[j]? = some v → w'.cell? ⟨g, j, none⟩ = some v) ∧ b < w'.heap.size ∧ Below B w w' := by
  go_enter Try.func25, Try.ntmps25
  go_wp2_with (go_at_call 31; refine (find_empty _ b 4 (by simp; omega) (by go_simp)).mono ?_; rintro e w1 ⟨rfl, rfl⟩)
  have hr := new24 w 35
  obtain ⟨W1, hW1⟩ : ∃ x, x = w.alloc (.cells #[.int .i64 4, .int .i64 0, i0', u0, u0, u0, u0, u0, b0, i0', i0', u0, u0, u0, u0, u0, .int .i64 4096, .int .i64 4096, b0, b0, b0, b0, u0, u0] 35) := ⟨_, rfl⟩
  rw [← hW1] at hr ⊢
  have hcb : W1.cell? ⟨b, 0, none⟩ = some (.slice none 0 0) := by rw [hW1]; go_simp
  have hfb : W1.frozen? ⟨b, 0, none⟩ = false := by rw [hW1]; go_simp
  have hsz : W1.heap.size = w.heap.size + 1 := by rw [hW1]; simp
  have hbw : Below w.heap.size w W1 := hW1 ▸ bal (Below.refl _ _) _
  clear hW1
  have hb1 : b < W1.heap.size := by omega
  have e1 : Sem.run Try.prog (loadVar 35 ⟨w.heap.size, 0, none⟩) W1.drew = .ok (thrV 0 4096) W1.drew := run_loadVar_mid _ _ _ _ thr24 _ hr Try.underlying35 rfl (by kernel_rfl)
  have e2 : Sem.run Try.prog (loadVar 54 ⟨b, 0, none⟩) W1.drew = .ok (.slice none 0 0) W1.drew := by simp [go_sem, loadVar, hcb]
  have e3 : ∀ o, Sem.run Try.prog (loadVar 54 ⟨b, 0, none⟩) (W1.alloc o).drew = .ok (.slice none 0 0) (W1.alloc o).drew := fun o => by simp [go_sem, loadVar, hcb, hb1]
  have hins : ∀ o, o = Obj.cells #[.int .i64 4, .int .i64 4, i0', i0', u0, u0, u0, u0, u0, b0, i0', i0', u0, u0, u0, u0, u0, .int .i64 4096, .int .i64 4096, b0, b0, b0, b0, u0, u0] 73 →
      Calls Try.prog 32 #[.slice none 0 0, .int .i64 0, .slice (some ⟨w.heap.size + 1, 0, none⟩) 1 1] (W1.alloc o).drew fun e w' =>
        ∃ g c : Nat, e = .returned (.slice (some ⟨g, 0, none⟩) 1 c) ∧ W1.heap.size < g ∧ g < w'.heap.size ∧ (∀ j v, row25[j]? = some v → w'.cell? ⟨g, j, none⟩ = some v) ∧ Below W1.heap.size W1 w' ∧ w'.cell? ⟨b, 0, none⟩ = some (.slice none 0 0) ∧ w'.frozen? ⟨b, 0, none⟩ = false ∧ b < w'.heap.size := by
    intro o ho
    refine (insert_first (W1.alloc o).drew (w.heap.size + 1) (by intro j v hj; rw [ho]; exact new25 W1 _ _ hsz.symm j v hj)).mono ?_
    rintro e w2 ⟨g, c, he, hg2, hg3, hr2, hb2⟩
    have hB2 : Below W1.heap.size W1 w2 := ((Below.refl _ W1).alloc (Nat.le_refl _) o).drew.trans (hb2.mono (by simp))
    have := hb2.size
    simp at this hg2
    exact ⟨g, c, he, by omega, hg3, hr2, hB2, (hB2.cell (p := ⟨b, 0, none⟩) hb1).trans hcb, (hB2.frozen (p := ⟨b, 0, none⟩) hb1).trans hfb, by omega⟩
  have HINS := Lib.hid hins
  have HBW := Lib.hid hbw
  clear hins hbw hr
  go_region_with (first | (go_at_call 32; with_reducible refine (HINS.out _ rfl).mono ?_; rintro e w2 ⟨g, c, rfl, hg2, hg3, hr2, hb2, hc3, hf3, hz2⟩; have HR2 := Lib.hid hr2; clear hr2))
  all_goals go_wp2
  all_goals go_ret
  all_goals exact add_end w W1 w2 B b g c hB hb hsz HBW.out hb2 hc3 hf3 hz2 (by omega) hg3 HR2.out
end Go.Proofs.Ytiagkoiikmmgdaa
