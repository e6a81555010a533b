/- The records of threads: Server of nil, and the short ones. -/
import Derived.Test.YtiagkoiikmmgdaaThr5
namespace Go.Proofs.Ytiagkoiikmmgdaa
set_option linter.unusedVariables false
set_option linter.unusedSimpArgs false
open Go.ChangeShapes Go.WideShapes Go.ChangeAt Go.RowKit Go.Shelf

theorem heap_putObj_ne {W : World} {k b : Nat} {o : Obj} (h : k ≠ b) : (W.putObj b o).heap[k]? = W.heap[k]? := by
  simp [World.putObj, Array.getElem?_setIfInBounds, h.symm]
set_option maxRecDepth 100000 in
set_option maxHeartbeats 1000000 in
theorem tserver_nil (w : World) (r : Int) :
    CallsIn Fence.wide 3 Try.prog 20 #[.pointer none, .int .i64 r] w fun e W' => e = .returned (.int .i64 0) ∧ Below w.heap.size w W' := by
  refine callsIn_of_wp_marks Try.func20 rfl trivial ?_ rfl
  simp only [Try.ntmps20, List.size_toArray, List.length_cons, List.length_nil, Nat.reduceAdd, Nat.reduceSub, Array.replicate_succ, Array.replicate_zero, List.push_toArray, List.append_toArray, List.nil_append, List.cons_append]
  by_cases h : r = 0
  · subst h
    gi_wp2
    exact ⟨.int .i64 0, by simp [results, Try.results20, go_sem], rfl, bal (bal (Below.refl _ _) _) _⟩
  · gi_wp2_with (refine ⟨trivial, ?_⟩; gi_at_call 30; refine (each_in _ _ _).mono ?_; rintro e w' ⟨rfl, rfl⟩)
    refine wpIn_range_none1 rfl (by decide) (gf := 34) (lb := #[.pointer (some ⟨w.heap.size + 1 + 1, 0, none⟩)]) rfl trivial (enters_of Try.func34 (by kernel_rfl) rfl) ?hcall ?hdone
    case hcall =>
      intro l W hW
      refine each1_nil _ l _ W ?_
      rw [hW.cell (p := ⟨w.heap.size + 1 + 1, 0, none⟩) (by first | (simp; done) | (simp; omega))]
      go_simp
    case hdone =>
      rintro D W hD hB hK
      simp only [World.size_alloc] at hD
      have d0 : W.cell? ⟨w.heap.size + 1, 0, none⟩ = some (.int .i64 0) := (hB.cell (p := ⟨w.heap.size + 1, 0, none⟩) (by first | (simp; done) | (simp; omega))).trans (by go_simp)
      have f0 : W.frozen? ⟨w.heap.size + 1, 0, none⟩ = false := (hB.frozen (p := ⟨w.heap.size + 1, 0, none⟩) (by first | (simp; done) | (simp; omega))).trans (by go_simp)
      have BI : Below w.heap.size w W := (bal (bal (bal (Below.refl _ _) _) _) _).trans (hB.mono (by simp; omega))
      clear hB
      gi_wp2
      have q0 : (W.setCell ⟨w.heap.size + 1, 0, none⟩ (.int .i64 0)).cell? ⟨w.heap.size + 1, 0, none⟩ = some (.int .i64 0) := by go_simp
      have hKU : (W.setCell ⟨w.heap.size + 1, 0, none⟩ (.int .i64 0)).heap[D]? = some (.deferred (some [])) := by
        rw [Go.heap_setCell_other _ _ _ _ (by simp; omega)]
        exact hK
      have BU : Below w.heap.size w (W.setCell ⟨w.heap.size + 1, 0, none⟩ (.int .i64 0)) := Below.setCell BI (by simp) _
      obtain ⟨U, hU⟩ : ∃ U, U = W.setCell ⟨w.heap.size + 1, 0, none⟩ (.int .i64 0) := ⟨_, rfl⟩
      rw [← hU] at q0 hKU BU ⊢
      clear hU d0 f0
      refine ⟨by simp, .inl ⟨_, _, rfl, run_takeDeferred hKU, ?_⟩⟩
      have g0 : (U.putObj D (.deferred none)).cell? ⟨w.heap.size + 1, 0, none⟩ = some (.int .i64 0) := (World.cell?_of_block (heap_putObj_ne (by simp; omega))).trans q0
      exact ⟨.int .i64 0, by simp [results, Try.results20, go_sem, g0], rfl, BU.trans (belowK_b (w := w) (Nat.le_refl _) U D _ _ (by omega) hKU rfl rfl)⟩
theorem serverN_any (w : World) (r : Int) : Calls Try.prog 20 #[.pointer none, .int .i64 r] w fun e W' => e = .returned (.int .i64 0) ∧ Below w.heap.size w W' := callsIn_wide.1 (tserver_nil w r)
theorem allN_any (w : World) : Calls Try.prog 19 #[.pointer none] w fun e W' => e = .returned (.slice none 0 0) ∧ Below w.heap.size w W' := callsIn_wide.1 (tall_nil w)
end Go.Proofs.Ytiagkoiikmmgdaa
