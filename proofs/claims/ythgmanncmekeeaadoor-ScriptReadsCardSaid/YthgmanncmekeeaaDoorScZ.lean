/- chapter 35: a text read, by the package. -/
import Derived.Test.YthgmanncmekeeaaDoorScY
namespace Go.Proofs.YthgmanncmekeeaaDoor
set_option linter.unusedVariables false
set_option linter.unusedSimpArgs false
open Go.ChangeShapes Go.WideShapes Go.ChangeAt Go.RowKit Go.Shelf
attribute [-go_sem] binOp_string_add binOp_string_eql binOp_string_neq run_index_string
attribute [local go_sem] Sc.bs_size
attribute [local go_sem] Oper.semAt_some
namespace Sc
def evAtL (ls : List Bs) (x : Fin ls.length) : Ev := (evOf (ls[x.1]'x.2)).getD (ev0 0)
def goodL (ls : List Bs) (x : Fin ls.length) : Bool := (evOf (ls[x.1]'x.2)).isSome
structure PaI (w : World) (N : Nat) (ls : List Bs) (pre : List (Fin ls.length)) (W : World) : Prop where
  good : ∀ x ∈ pre, goodL ls x = true
  list : ∃ v, W.heap[N]? = some (.cells #[v] 22 (0, 0)) ∧ W.ownsRow (N + 3) 36 15 v pre.length (evsC (pre.map (evAtL ls)))
  at_ : W.heap[N + 1]? = some (.cells #[.int .i64 pre.length] 3 (0, 0))
  bad : W.heap[N + 2]? = some (.cells #[.int .i64 0] 3 (0, 0))
  lt : N + 3 ≤ W.heap.size
  bel : Below N w W
structure PaX (w : World) (N : Nat) (ls : List Bs) (cd : Code) (pre : List (Fin ls.length)) (W : World) : Prop where
  hcd : cd = .exit 0
  no : ∃ p x, pre = p ++ [x] ∧ (∀ y ∈ p, goodL ls y = true) ∧ goodL ls x = false
  bad : W.heap[N + 2]? = some (.cells #[.int .i64 pre.length] 3 (0, 0))
  lt : N + 3 ≤ W.heap.size
  bel : Below N w W
theorem own_kept {A C : World} {base : Nat} {e : TypeId} {s : Nat} {v : Value} {n : Nat} {xs : List Value} {row : Option Nat} (h : A.ownsRow base e s v n xs) (hg : A.grownBy C row) (hr : ∀ r, row = some r → ∃ o : Obj, A.heap[r]? = some o ∧ o.isCells = false) : C.ownsRow base e s v n xs := by
  have hlt := h.lt
  refine ⟨h.1, ?_⟩
  rcases h.2 with h2 | ⟨g, cap, cur, rfl, q1, q2, q3⟩
  · exact .inl h2
  · refine .inr ⟨g, cap, cur, rfl, q1, (hg.block g (hlt g rfl).2 (fun e => ?_)).trans q2, q3⟩
    obtain ⟨o, ho, hc⟩ := hr g e.symm
    rw [q2] at ho
    cases ho
    cases hc
theorem PaI.from {w : World} {N M : Nat} {ls : List Bs} (hM : N + 3 ≤ M) : OwnFrom M (PaI w N ls) := by
  intro s A C row h hg hr
  have e : ∀ j, j < N + 3 → C.heap[j]? = A.heap[j]? := fun j hj => hg.block j (Nat.lt_of_lt_of_le hj h.lt) (fun e => by have := (hr j e.symm).1; omega)
  obtain ⟨v, hv, hrow⟩ := h.list
  exact ⟨h.good, ⟨v, (e _ (by omega)).trans hv, own_kept hrow hg (fun r e => (hr r e).2)⟩, (e _ (by omega)).trans h.at_, (e _ (by omega)).trans h.bad, Nat.le_trans h.lt hg.size, ⟨hg.os.trans h.bel.os, hg.tape.trans h.bel.tape, hg.output.trans h.bel.output, Nat.le_trans h.bel.size hg.size, fun j hj => (e j (by omega)).trans (h.bel.block j hj)⟩⟩
theorem PaX.from {w : World} {N M : Nat} {ls : List Bs} (hM : N + 3 ≤ M) (cd : Code) : OwnFrom M (PaX w N ls cd) := by
  intro s A C row h hg hr
  have e : ∀ j, j < N + 3 → C.heap[j]? = A.heap[j]? := fun j hj => hg.block j (Nat.lt_of_lt_of_le hj h.lt) (fun e => by have := (hr j e.symm).1; omega)
  exact ⟨h.hcd, h.no, (e _ (by omega)).trans h.bad, Nat.le_trans h.lt hg.size, ⟨hg.os.trans h.bel.os, hg.tape.trans h.bel.tape, hg.output.trans h.bel.output, Nat.le_trans h.bel.size hg.size, fun j hj => (e j (by omega)).trans (h.bel.block j hj)⟩⟩
theorem evAtL_all (ls : List Bs) (h : ∀ x ∈ fstP ls.length ls.length, goodL ls x = true) : (fstP ls.length ls.length).map (evAtL ls) = ls.filterMap evOf ∧ ∀ l ∈ ls, (evOf l).isNone = false := by
  have hg : ∀ l ∈ ls, (evOf l).isSome = true := by
    intro l hl
    obtain ⟨i, hi, rfl⟩ := List.getElem_of_mem hl
    exact h ⟨i, hi⟩ (by rw [fstP_all]; exact List.mem_finRange _)
  refine ⟨?_, fun l hl => by have := hg l hl; cases hq : evOf l <;> simp_all⟩
  rw [fstP_all]
  have e1 : (List.finRange ls.length).map (evAtL ls) = ls.map (fun l => (evOf l).getD (ev0 0)) := finRange_map ls (fun l => (evOf l).getD (ev0 0))
  rw [e1]
  clear e1 h
  induction ls with
  | nil => rfl
  | cons a t ih =>
    have ha := hg a List.mem_cons_self
    cases hq : evOf a with
    | none => rw [hq] at ha; cases ha
    | some d =>
      rw [List.map_cons, List.filterMap_cons, hq, ih (fun l hl => hg l (List.mem_cons_of_mem _ hl))]
      rfl
end Sc
end Go.Proofs.YthgmanncmekeeaaDoor
