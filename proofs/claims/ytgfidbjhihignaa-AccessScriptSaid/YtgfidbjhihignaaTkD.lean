/- package tlb: drop. -/
import Derived.Test.YtgfidbjhihignaaTlbE
import Derived.Test.YtgfidbjhihignaaMem
namespace Go.Proofs.Ytgfidbjhihignaa
set_option linter.unusedVariables false
open Go.RowKit Go.Shelf

attribute [local go_sem] Oper.semAt_some
theorem TlbAt.of_block {W W' : World} {b : Nat} {S : Nat → TransX × TransX × Int} (h : TlbAt W b S) (hs : W.heap.size ≤ W'.heap.size) (e : W'.heap[b]? = W.heap[b]?) : TlbAt W' b S := by
  refine ⟨fun i hi => ?_, fun j => (frozen_of_block e).trans (h.free j), Nat.lt_of_lt_of_le h.lt hs⟩
  obtain ⟨⟨c0, c1, c2, c3, c4⟩, ⟨c5, c6, c7, c8, c9⟩, c10⟩ := h.at_ i hi
  have q := fun j => cell_of_block (j := j) e
  exact ⟨⟨(q _).trans c0, (q _).trans c1, (q _).trans c2, (q _).trans c3, (q _).trans c4⟩, ⟨(q _).trans c5, (q _).trans c6, (q _).trans c7, (q _).trans c8, (q _).trans c9⟩, (q _).trans c10⟩
/-- A way is emptied. -/
def wipeP (s : Nat → TransX × TransX × Int) (x : Nat × Nat) : Nat → TransX × TransX × Int :=
  if x.2 = 0 then setS s x.1 (zT, (s x.1).2.1, (s x.1).2.2) else if x.2 = 1 then setS s x.1 ((s x.1).1, zT, (s x.1).2.2) else s
/-- A round of drop: the cache, and how many went. -/
def dropStep (out : TransX → Bool) (s : (Nat → TransX × TransX × Int) × Nat) (x : Nat × Nat) : (Nat → TransX × TransX × Int) × Nat :=
  if out (wayP s.1 x) = true then (wipeP s.1 x, s.2 + 1) else s
def dropF (S : Nat → TransX × TransX × Int) (out : TransX → Bool) (pre : List (Nat × Nat)) : (Nat → TransX × TransX × Int) × Nat := pre.foldl (dropStep out) (S, 0)
theorem dropF_snoc (S : Nat → TransX × TransX × Int) (out : TransX → Bool) (pre : List (Nat × Nat)) (x : Nat × Nat) : dropF S out (pre ++ [x]) = dropStep out (dropF S out pre) x := by
  simp [dropF, List.foldl_append]
theorem wipeP_no {s : Nat → TransX × TransX × Int} {x : Nat × Nat} {k j : Nat} (hj : j < 2) (h : (k, j) ≠ x) : wayP (wipeP s x) (k, j) = wayP s (k, j) := by
  obtain ⟨a, c⟩ := x
  unfold wipeP
  simp only
  split
  · subst_vars
    by_cases hk : k = a
    · subst hk
      have : j ≠ 0 := fun e => h (by rw [e])
      simp [wayP, setS, this]
    · simp [wayP, setS, hk]
  · split
    · subst_vars
      by_cases hk : k = a
      · subst hk
        have h0 : j = 0 := by
          have : j ≠ 1 := fun e => h (by rw [e])
          omega
        simp [wayP, setS, h0]
      · simp [wayP, setS, hk]
    · rfl
theorem dropF_no {out : TransX → Bool} {k j : Nat} (hj : j < 2) : ∀ {pre : List (Nat × Nat)} {s : (Nat → TransX × TransX × Int) × Nat}, (k, j) ∉ pre → wayP (pre.foldl (dropStep out) s).1 (k, j) = wayP s.1 (k, j)
  | [], s, _ => rfl
  | x :: pre, s, h => by
    simp only [List.mem_cons, not_or] at h
    rw [List.foldl_cons, dropF_no hj h.2]
    unfold dropStep
    split
    · exact wipeP_no hj h.1
    · rfl
theorem dropF_le (out : TransX → Bool) : ∀ (pre : List (Nat × Nat)) (s : (Nat → TransX × TransX × Int) × Nat), (pre.foldl (dropStep out) s).2 ≤ s.2 + pre.length
  | [], s => by simp
  | x :: pre, s => by
    rw [List.foldl_cons]
    refine Nat.le_trans (dropF_le out pre _) ?_
    unfold dropStep
    split
    · simp only [List.length_cons]; omega
    · simp only [List.length_cons]; omega
theorem KeepsOthers.of_below {W W' : World} (h : Below W.heap.size W W') : KeepsOthers W W' := ⟨h.size, fun k o hk _ => (h.block k (Array.getElem?_eq_some_iff.1 hk).1).trans hk⟩
theorem Below.of_drew {W W' : World} (h : Below W.drew.heap.size W.drew W') : Below W.heap.size W W' := ⟨h.os, h.tape, h.output, h.size, h.block⟩
theorem wipe_way {w : World} {b : Nat} {T : Nat → TransX × TransX × Int} (h : TlbAt w b T) {k j : Nat} (hk : k < 4) (hj : j < 2) :
    TlbAt (((((w.setCell ⟨b, k * 11 + j * 5, none⟩ (.int .i64 0)).setCell ⟨b, k * 11 + j * 5 + 1, none⟩ (.int .i64 0)).setCell ⟨b, k * 11 + j * 5 + 2, none⟩ (.int .i64 0)).setCell ⟨b, k * 11 + j * 5 + 3, none⟩ (.bool false)).setCell ⟨b, k * 11 + j * 5 + 4, none⟩ (.bool false)) b (wipeP T (k, j)) ∧
    TlbOnly b w (((((w.setCell ⟨b, k * 11 + j * 5, none⟩ (.int .i64 0)).setCell ⟨b, k * 11 + j * 5 + 1, none⟩ (.int .i64 0)).setCell ⟨b, k * 11 + j * 5 + 2, none⟩ (.int .i64 0)).setCell ⟨b, k * 11 + j * 5 + 3, none⟩ (.bool false)).setCell ⟨b, k * 11 + j * 5 + 4, none⟩ (.bool false)) := by
  obtain rfl | rfl : j = 0 ∨ j = 1 := by omega
  · rw [show k * 11 + 0 * 5 = 11 * k by omega]
    exact ⟨h.put (s := (zT, (T k).2.1, (T k).2.2)) (wipe0 (h.at_ k hk)) (only0 w b (11 * k) 0 0 0 false false), (only0 w b (11 * k) 0 0 0 false false).tlb⟩
  · rw [show k * 11 + 1 * 5 = 11 * k + 5 by omega]
    exact ⟨h.put (s := ((T k).1, zT, (T k).2.2)) (wipe1 (h.at_ k hk)) (only1 w b (11 * k) 0 0 0 false false), (only1 w b (11 * k) 0 0 0 false false).tlb⟩
theorem keepsOthers_set {W W' : World} (h : KeepsOthers W W') (a : Addr) (v : Value) : KeepsOthers W (W'.setCell a v) := h.trans (KeepsOthers.setCell _ _ _)
end Go.Proofs.Ytgfidbjhihignaa
