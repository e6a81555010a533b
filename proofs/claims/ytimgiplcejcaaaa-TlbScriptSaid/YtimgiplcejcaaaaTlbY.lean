/- Chapter 6's own cache: its eight ways, and which are due. -/
import Derived.Test.YtimgiplcejcaaaaTlbK
namespace Go.Proofs.Ytimgiplcejcaaaa
set_option linter.unusedVariables false
set_option linter.unusedSimpArgs false
open Go.ChangeShapes Go.WideShapes Go.ChangeAt Go.RowKit

/-- Five cells at a place. -/
def WayC (w : World) (b o : Nat) (x : TransX) : Prop :=
  w.cell? ⟨b, o, none⟩ = some (.int .i64 x.s) ∧ w.cell? ⟨b, o + 1, none⟩ = some (.int .i64 x.p) ∧ w.cell? ⟨b, o + 2, none⟩ = some (.int .i64 x.f) ∧ w.cell? ⟨b, o + 3, none⟩ = some (.bool x.r) ∧ w.cell? ⟨b, o + 4, none⟩ = some (.bool x.w)
structure RefAt (w : World) (b : Nat) (S : Nat → TransX × TransX × Int) : Prop where
  way : ∀ k j, k < 4 → j < 2 → WayC w b (k * 10 + j * 5) (wayP S (k, j))
  due : ∀ k, k < 4 → w.cell? ⟨b, 40 + k, none⟩ = some (.int .i64 (S k).2.2)
  free : ∀ j, w.frozen? ⟨b, j, none⟩ = false
  lt : b < w.heap.size
theorem RefAt.of_block {W W' : World} {b : Nat} {S : Nat → TransX × TransX × Int} (h : RefAt W b S) (hs : W.heap.size ≤ W'.heap.size) (e : W'.heap[b]? = W.heap[b]?) : RefAt W' b S := by
  have q := fun j => cell_of_block (j := j) e
  refine ⟨fun k j hk hj => ?_, fun k hk => (q _).trans (h.due k hk), fun j => (frozen_of_block e).trans (h.free j), Nat.lt_of_lt_of_le h.lt hs⟩
  obtain ⟨c0, c1, c2, c3, c4⟩ := h.way k j hk hj
  exact ⟨(q _).trans c0, (q _).trans c1, (q _).trans c2, (q _).trans c3, (q _).trans c4⟩
theorem RefAt.call {w w' : World} {b : Nat} {S : Nat → TransX × TransX × Int} (h : RefAt w b S) (k : Below w.heap.size w w') : RefAt w' b S := h.of_block k.size (k.block b h.lt)
theorem RefAt.drew {w : World} {b : Nat} {S : Nat → TransX × TransX × Int} (h : RefAt w b S) : RefAt w.drew b S := h.of_block (Nat.le_refl _) rfl
/-- One way is another. -/
def putW (S : Nat → TransX × TransX × Int) (q : Nat × Nat) (x : TransX) : Nat → TransX × TransX × Int := if q.2 = 0 then setS S q.1 (x, (S q.1).2.1, (S q.1).2.2) else setS S q.1 ((S q.1).1, x, (S q.1).2.2)
theorem putW_way (S : Nat → TransX × TransX × Int) (q r : Nat × Nat) (x : TransX) (h1 : q.2 < 2) (h2 : r.2 < 2) : wayP (putW S q x) r = if r = q then x else wayP S r := by
  obtain ⟨a, c⟩ := q
  obtain ⟨k, j⟩ := r
  obtain rfl | rfl : c = 0 ∨ c = 1 := by simp only at h1; omega
  all_goals
    obtain rfl | rfl : j = 0 ∨ j = 1 := by simp only at h2; omega
    all_goals
      by_cases hk : k = a
      · subst hk; simp [putW, wayP, setS]
      · simp [putW, wayP, setS, hk]
theorem putW_due (S : Nat → TransX × TransX × Int) (q : Nat × Nat) (x : TransX) (k : Nat) : (putW S q x k).2.2 = (S k).2.2 := by
  unfold putW setS
  split <;> by_cases hk : k = q.1 <;> simp [hk]
theorem ref_put {w : World} {b k j : Nat} {S : Nat → TransX × TransX × Int} (h : RefAt w b S) (hk : k < 4) (hj : j < 2) (x : TransX) :
    RefAt (((((w.setCell ⟨b, k * 10 + j * 5, none⟩ (.int .i64 x.s)).setCell ⟨b, k * 10 + j * 5 + 1, none⟩ (.int .i64 x.p)).setCell ⟨b, k * 10 + j * 5 + 2, none⟩ (.int .i64 x.f)).setCell ⟨b, k * 10 + j * 5 + 3, none⟩ (.bool x.r)).setCell ⟨b, k * 10 + j * 5 + 4, none⟩ (.bool x.w)) b (putW S (k, j) x) := by
  refine ⟨fun k' j' hk' hj' => ?_, fun k' hk' => ?_, fun i => ?_, ?_⟩
  · obtain ⟨c0, c1, c2, c3, c4⟩ := h.way k' j' hk' hj'
    obtain ⟨d0, d1, d2, d3, d4⟩ := h.way k j hk hj
    rw [putW_way S (k, j) (k', j') x hj hj']
    by_cases e : (k', j') = (k, j)
    · rw [if_pos e]
      cases e
      refine ⟨?_, ?_, ?_, ?_, ?_⟩ <;> simp [go_sem, d0, d1, d2, d3, d4]
    · rw [if_neg e]
      have n : k' ≠ k ∨ j' ≠ j := by
        by_cases a : k' = k
        · exact .inr fun c => e (by rw [a, c])
        · exact .inl a
      refine ⟨?_, ?_, ?_, ?_, ?_⟩
      · rw [World.cell?_setCell_other, World.cell?_setCell_other, World.cell?_setCell_other, World.cell?_setCell_other, World.cell?_setCell_other, c0]
        all_goals (intro e; simp only [Addr.mk.injEq, true_and, and_true] at e; omega)
      · rw [World.cell?_setCell_other, World.cell?_setCell_other, World.cell?_setCell_other, World.cell?_setCell_other, World.cell?_setCell_other, c1]
        all_goals (intro e; simp only [Addr.mk.injEq, true_and, and_true] at e; omega)
      · rw [World.cell?_setCell_other, World.cell?_setCell_other, World.cell?_setCell_other, World.cell?_setCell_other, World.cell?_setCell_other, c2]
        all_goals (intro e; simp only [Addr.mk.injEq, true_and, and_true] at e; omega)
      · rw [World.cell?_setCell_other, World.cell?_setCell_other, World.cell?_setCell_other, World.cell?_setCell_other, World.cell?_setCell_other, c3]
        all_goals (intro e; simp only [Addr.mk.injEq, true_and, and_true] at e; omega)
      · rw [World.cell?_setCell_other, World.cell?_setCell_other, World.cell?_setCell_other, World.cell?_setCell_other, World.cell?_setCell_other, c4]
        all_goals (intro e; simp only [Addr.mk.injEq, true_and, and_true] at e; omega)
  · rw [putW_due, World.cell?_setCell_other, World.cell?_setCell_other, World.cell?_setCell_other, World.cell?_setCell_other, World.cell?_setCell_other, h.due k' hk']
    all_goals (intro e; simp only [Addr.mk.injEq, true_and, and_true] at e; omega)
  · simp [go_sem, h.free i]
  · simpa using h.lt
theorem only_put (w : World) (b o : Nat) (v0 v1 v2 v3 v4 : Value) : TlbOnly b w (((((w.setCell ⟨b, o, none⟩ v0).setCell ⟨b, o + 1, none⟩ v1).setCell ⟨b, o + 2, none⟩ v2).setCell ⟨b, o + 3, none⟩ v3).setCell ⟨b, o + 4, none⟩ v4) :=
  (((((SetOnly.refl b o w).set o v0 (by omega) (by omega)).set (o + 1) v1 (by omega) (by omega)).set (o + 2) v2 (by omega) (by omega)).set (o + 3) v3 (by omega) (by omega)).set (o + 4) v4 (by omega) (by omega) |>.tlb
set_option maxHeartbeats 1000000 in
theorem refMay_any (t : TransX) (w : World) : Calls Try.prog 31 #[trX t] w fun e w' => e = .returned (.bool (mayX t)) ∧ Below w.heap.size w w' := by
  obtain ⟨s, p, f, r, q⟩ := t
  cases r <;> cases q
  all_goals
    go_enter Try.func31, Try.ntmps31
    go_wp2
    all_goals go_ret
    all_goals refine ⟨ret_bool ?_, bal (Below.refl _ _) _⟩
    all_goals (unfold mayX; rw [Bool.eq_iff_iff]; simp; try omega)
end Go.Proofs.Ytimgiplcejcaaaa
