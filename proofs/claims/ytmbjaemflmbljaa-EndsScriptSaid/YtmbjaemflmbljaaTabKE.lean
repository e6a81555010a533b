/- A table by whole numbers, of any number of rows: a value's cells are written over. -/
import Derived.Test.YtmbjaemflmbljaaTab9E
namespace Go.Proofs.Ytmbjaemflmbljaa
set_option linter.unusedVariables false
set_option linter.unusedSimpArgs false
open Go.ChangeShapes Go.WideShapes Go.ChangeAt Go.RowKit

namespace TabE
theorem flat_set {n : Nat} : ∀ {R : List Rw}, Wide n R → ∀ {i j : Nat} {r : Rw} {u : Value}, R[i]? = some r → j + 1 < n → (flat R).set (i * n + (j + 1)) u = flat (R.set i (r.1, r.2.set j u))
  | [], _, i, j, r, u, hi, _ => by simp at hi
  | r0 :: R, h, 0, j, r, u, hi, hj => by
    simp at hi
    subst hi
    have h0 := (h r0 (by simp)).1
    have e : flat ((r0 :: R).set 0 (r0.1, r0.2.set j u)) = rcells (r0.1, r0.2.set j u) ++ flat R := rfl
    rw [e, flat_cons, List.set_append_left _ _ (by omega)]
    simp [rcells]
  | r0 :: R, h, i + 1, j, r, u, hi, hj => by
    have h0 := (h r0 (by simp)).1
    have ih := flat_set (R := R) h.tail (i := i) (j := j) (r := r) (u := u) (by simpa using hi) hj
    have e : flat ((r0 :: R).set (i + 1) (r.1, r.2.set j u)) = rcells r0 ++ flat (R.set i (r.1, r.2.set j u)) := rfl
    rw [e, flat_cons, List.set_append_right _ _ (by rw [h0, Nat.add_mul]; omega), h0, ← ih]
    congr 2
    rw [Nat.add_mul]
    omega
theorem keys_set {R : List Rw} {i : Nat} {r r' : Rw} (hi : R[i]? = some r) (hk : r'.1 = r.1) : (R.set i r').map Prod.fst = R.map Prod.fst := by
  apply List.ext_getElem?
  intro k
  rw [List.getElem?_map, List.getElem?_map]
  by_cases e : i = k
  · subst e
    rw [List.getElem?_set_self (List.getElem?_eq_some_iff.1 hi).1, hi]
    simp [hk]
  · rw [List.getElem?_set_ne e]
/-- A value's cell is written over. -/
theorem tab_set {w : World} {b o base g n c i j : Nat} {R : List Rw} {r : Rw} {u : Value} (h : TabAt w b o base (.slice (some ⟨g, 0, none⟩) n c) R) (hi : R[i]? = some r) (hj : j + 1 < 3) (hu : u.oneCell' = true) :
    TabAt (w.setCell ⟨g, i * 3 + (j + 1), none⟩ u) b o base (.slice (some ⟨g, 0, none⟩) n c) (R.set i (r.1, r.2.set j u)) := by
  have hg := (h.own (g := g) rfl)
  have hgb : g ≠ b := by have := h.ne; omega
  have hrl := (h.wide r (List.mem_of_getElem? hi))
  have hil := (List.getElem?_eq_some_iff.1 hi).1
  refine ⟨?_, ?_, ?_, h.ne, by simpa using h.base, ?_, ?_, by rw [List.length_set]; exact h.le⟩
  · rw [← h.cell]
    exact World.cell?_of_block (Go.heap_setCell_other _ _ _ _ (fun e => hgb e.symm))
  · rw [← h.froz]
    exact World.frozen?_of_block (Go.heap_setCell_other _ _ _ _ (fun e => hgb e.symm))
  · obtain ⟨hl, ⟨h1, _⟩ | ⟨g', cap, cur, hv, q1, q2, q3, q4, q5, q6⟩⟩ := h.row
    · cases h1
    · cases hv
      have hf := flat_set h.wide hi hj (u := u)
      have hlen : (flat (R.set i (r.1, r.2.set j u))).length = (R.set i (r.1, r.2.set j u)).length * 3 := by rw [← hf, List.length_set, List.length_set, hl]
      refine ⟨hlen, .inr ⟨g, c, cur.setIfInBounds (i * 3 + (j + 1)) u, by rw [List.length_set], q1, Go.heap_setCell_same _ _ _ _ _ _ q2, by rw [List.length_set]; exact q3, q4, by simpa using q5, ?_⟩⟩
      rw [← hf, List.length_set, ← q6, Array.toList_setIfInBounds]
      rw [List.take_set]
  · intro x hx
    rcases List.mem_or_eq_of_mem_set hx with q | q
    · exact h.wide x q
    · subst q
      have hl : (rcells r).length = r.2.length + 1 := rfl
      refine ⟨?_, fun y hy => ?_⟩
      · show (r.2.set j u).length + 1 = 3
        rw [List.length_set]
        omega
      · rcases List.mem_cons.1 hy with q | q
        · subst q; rfl
        · rcases List.mem_or_eq_of_mem_set q with q | q
          · exact hrl.2 y (List.mem_cons_of_mem _ q)
          · subst q; exact hu
  · unfold Asc
    rw [keys_set (r' := (r.1, r.2.set j u)) hi rfl]
    exact h.asc
end TabE
end Go.Proofs.Ytmbjaemflmbljaa
