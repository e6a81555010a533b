/- chapter 12: a new number is none of those there; both sides at one list. -/
import Derived.Test.YtkladhbamkomnaaAxG
namespace Go.Proofs.Ytkladhbamkomnaa
set_option linter.unusedVariables false
set_option linter.unusedSimpArgs false
open Go.ChangeShapes Go.WideShapes Go.ChangeAt Go.RowKit Go.Shelf
open TabA

theorem fresh_next {w : World} {b ab base F : Nat} {cnt : List Int} {v : Value} {L : List Ob} (h : ArAt w b ab base F cnt v L) (fi : Int) : nextA cnt fi ≠ 0 → ∀ y ∈ L, y.id ≠ nextA cnt fi := by
  intro hn y hy e
  obtain ⟨g1, g2, g3, _, c, m, g5, g6, g7, g8⟩ := h.good y hy
  have hl := h.fl
  have hF := h.f1
  unfold nextA at hn e
  split at e
  · rename_i hf
    rw [if_pos hf] at hn
    exact hn rfl
  · rename_i hf
    cases hc : cnt[fi.toNat]? with
    | none => rw [if_neg hf, hc] at hn; exact hn rfl
    | some d =>
      rw [hc] at e
      simp only [] at e
      have hk := (List.getElem?_eq_some_iff.1 hc).1
      split at e
      · omega
      · have h1 : y.fi = fi := by omega
        rw [h1, hc] at g7
        cases g7
        omega
/-- Both sides at one list. -/
def Both (W w : World) (b rb F : Nat) (cnt : List Int) (L : List Ob) : Prop := ∃ ab base rbase v u G, PT W w b ab base rb rbase F cnt v L u L G ∧ G.take F = cnt
theorem Both.call {W w w' : World} {b rb F : Nat} {cnt : List Int} {L : List Ob} (h : Both W w b rb F cnt L) (hb : Below w.heap.size w w') : Both W w' b rb F cnt L := by
  obtain ⟨ab, base, rbase, v, u, G, hP, hG⟩ := h
  exact ⟨ab, base, rbase, v, u, G, hP.call hb, hG⟩
theorem Both.bl {W w : World} {b rb F : Nat} {cnt : List Int} {L : List Ob} (h : Both W w b rb F cnt L) : Below W.heap.size W w := by
  obtain ⟨ab, base, rbase, v, u, G, hP, hG⟩ := h
  exact hP.bl
end Go.Proofs.Ytkladhbamkomnaa
