/- What All tells, by its place in the list. -/
import Derived.Test.YtgfidbjhihignaaTkR
import Derived.Test.YtgfidbjhihignaaPwMem7
namespace Go.Proofs.Ytgfidbjhihignaa
set_option linter.unusedVariables false
set_option linter.unusedSimpArgs false
open Go.ChangeShapes Go.WideShapes Go.ChangeAt Go.RowKit

/-- Translation i of those that lie in a block from its head on. -/
def TCells (w : World) (g i : Nat) (x : TransX) : Prop :=
  w.cell? ⟨g, i * 5, none⟩ = some (.int .i64 x.s) ∧ w.cell? ⟨g, i * 5 + 1, none⟩ = some (.int .i64 x.p) ∧ w.cell? ⟨g, i * 5 + 2, none⟩ = some (.int .i64 x.f) ∧ w.cell? ⟨g, i * 5 + 3, none⟩ = some (.bool x.r) ∧ w.cell? ⟨g, i * 5 + 4, none⟩ = some (.bool x.w)
def TRows (w : World) (g n : Nat) (T : Nat → TransX) : Prop := ∀ i, i < n → TCells w g i (T i)
/-- The list of what a cache has. -/
def allN (S : Nat → TransX × TransX × Int) : Nat := (fullP S 8).length
def allT (S : Nat → TransX × TransX × Int) (i : Nat) : TransX := wayP S ((fullP S 8).getD i (0, 0))
theorem flat_get (f : Nat × Nat → TransX) : ∀ (L : List (Nat × Nat)) (i j : Nat) (u : Value), i < L.length → (cellsT (f (L.getD i (0, 0))))[j]? = some u → (L.flatMap fun p => cellsT (f p))[i * 5 + j]? = some u
  | [], i, _, _, h, _ => absurd h (by simp)
  | p :: L, 0, j, u, _, hu => by
    have hj : j < 5 := by
      have := (List.getElem?_eq_some_iff.1 hu).1
      simpa [cellsT] using this
    rw [List.flatMap_cons, List.getElem?_append_left (by simp [cellsT]; omega)]
    simpa using hu
  | p :: L, i + 1, j, u, h, hu => by
    rw [List.flatMap_cons, List.getElem?_append_right (by simp [cellsT]; omega)]
    have := flat_get f L i j u (by simpa using h) (by simpa using hu)
    rw [← this]
    congr 1
    simp [cellsT]
    omega
/-- The eight ways in their order. -/
theorem ways8 : ((List.range 8).map fun q => (q / 2, q % 2)) = [(0, 0), (0, 1), (1, 0), (1, 1), (2, 0), (2, 1), (3, 0), (3, 1)] := by decide
theorem fullP_8 (S : Nat → TransX × TransX × Int) : fullP S 8 = [(0, 0), (0, 1), (1, 0), (1, 1), (2, 0), (2, 1), (3, 0), (3, 1)].filter fun p => wayP S p ≠ zT := by
  unfold fullP
  rw [ways8]
theorem full_ordered (S : Nat → TransX × TransX × Int) : (fullP S 8).Pairwise fun a b => a.1 < b.1 ∨ a.1 = b.1 ∧ a.2 < b.2 := by
  rw [fullP_8]
  exact List.Pairwise.filter _ (by decide)
theorem allT_get {S : Nat → TransX × TransX × Int} {i : Nat} (h : i < allN S) : (fullP S 8).getD i (0, 0) = (fullP S 8)[i]'h ∧ (fullP S 8)[i]'h ∈ fullP S 8 ∧ allT S i ≠ zT ∧ ((fullP S 8)[i]'h).1 < 4 ∧ ((fullP S 8)[i]'h).2 < 2 := by
  have e : (fullP S 8).getD i (0, 0) = (fullP S 8)[i]'h := by simp [List.getD, List.getElem?_eq_getElem h]
  have m : (fullP S 8)[i]'h ∈ fullP S 8 := List.getElem_mem _
  have m2 : ∀ q, q ∈ fullP S 8 → q ∈ [(0, 0), (0, 1), (1, 0), (1, 1), (2, 0), (2, 1), (3, 0), (3, 1)] ∧ wayP S q ≠ zT := by
    intro q hq
    rw [fullP_8, List.mem_filter] at hq
    exact ⟨hq.1, by simpa using hq.2⟩
  obtain ⟨m3, m4⟩ := m2 _ m
  refine ⟨e, m, ?_, fullP_set m, ?_⟩
  · unfold allT
    rw [e]
    exact m4
  · have : ∀ q ∈ ([(0, 0), (0, 1), (1, 0), (1, 1), (2, 0), (2, 1), (3, 0), (3, 1)] : List (Nat × Nat)), q.2 < 2 := by decide
    exact this _ m3
theorem Good.wayT {S : Nat → TransX × TransX × Int} (h : Good S) {p : Nat × Nat} (h1 : p.1 < 4) : GoodT p.1 (wayP S p) := by
  unfold wayP
  split
  · exact (h p.1 h1).x
  · exact (h p.1 h1).y
theorem all_good {S : Nat → TransX × TransX × Int} (h : Good S) {i : Nat} (hi : i < allN S) : mayX (allT S i) = true ∧ setNo (allT S i).p = ((fullP S 8)[i]'hi).1 := by
  obtain ⟨e, m, nz, h4, h2⟩ := allT_get hi
  have g := h.wayT h4
  unfold allT at nz ⊢
  rw [e] at nz ⊢
  rcases g with g | g
  · exact absurd g nz
  · exact g
theorem all_once {S : Nat → TransX × TransX × Int} (h : Good S) {k i : Nat} (hk : k < i) (hi : i < allN S) : ¬ ((allT S k).s = (allT S i).s ∧ (allT S k).p = (allT S i).p) ∧ setNo (allT S k).p ≤ setNo (allT S i).p := by
  have hk' : k < allN S := by omega
  have o := List.pairwise_iff_getElem.1 (full_ordered S) k i hk' hi hk
  obtain ⟨m1, s1⟩ := all_good h hk'
  obtain ⟨m2, s2⟩ := all_good h hi
  obtain ⟨e1, _, _, l1, w1⟩ := allT_get hk'
  obtain ⟨e2, _, _, l2, w2⟩ := allT_get hi
  refine ⟨fun ⟨a, c⟩ => ?_, by omega⟩
  have hset : ((fullP S 8)[k]'hk').1 = ((fullP S 8)[i]'hi).1 := by rw [← s1, ← s2, c]
  have hw : ((fullP S 8)[k]'hk').2 = 0 ∧ ((fullP S 8)[i]'hi).2 = 1 := by omega
  have g := (h _ l1).ne
  have x1 : allT S k = (S ((fullP S 8)[k]'hk').1).1 := by unfold allT wayP; rw [e1, if_pos hw.1]
  have x2 : allT S i = (S ((fullP S 8)[k]'hk').1).2.1 := by unfold allT wayP; rw [e2, if_neg (by omega), ← hset]
  rw [← x1, ← x2] at g
  exact g (may_pos m1).1 a c
/-- How many of the first i are of set j. -/
def cntT (S : Nat → TransX × TransX × Int) (i j : Nat) : Nat := ((fullP S 8).take i).countP fun q => q.1 == j
theorem cnt_zero (S : Nat → TransX × TransX × Int) (j : Nat) : cntT S 0 j = 0 := by simp [cntT]
theorem cnt_succ {S : Nat → TransX × TransX × Int} (h : Good S) {i : Nat} (hi : i < allN S) (j : Nat) : cntT S (i + 1) j = if j = setNo (allT S i).p then cntT S i j + 1 else cntT S i j := by
  unfold cntT
  rw [List.take_succ_eq_append_getElem hi, List.countP_append, (all_good h hi).2]
  by_cases hj : j = ((fullP S 8)[i]'hi).1
  · rw [if_pos hj]; simp [← hj]
  · rw [if_neg hj]; simp; exact fun e => hj e.symm
theorem cnt_two (S : Nat → TransX × TransX × Int) (i j : Nat) : cntT S i j ≤ 2 := by
  unfold cntT
  refine Nat.le_trans (List.Sublist.countP_le (List.take_sublist _ _)) ?_
  rw [fullP_8]
  refine Nat.le_trans (List.Sublist.countP_le List.filter_sublist) ?_
  by_cases h : j < 4
  · have : ∀ j < 4, ([(0, 0), (0, 1), (1, 0), (1, 1), (2, 0), (2, 1), (3, 0), (3, 1)] : List (Nat × Nat)).countP (fun q => q.1 == j) ≤ 2 := by decide
    exact this j h
  · rw [List.countP_eq_zero.2]
    · omega
    · intro q hq
      simp only [List.mem_cons, List.not_mem_nil, or_false] at hq
      rcases hq with rfl | rfl | rfl | rfl | rfl | rfl | rfl | rfl <;> simp <;> omega
end Go.Proofs.Ytgfidbjhihignaa
