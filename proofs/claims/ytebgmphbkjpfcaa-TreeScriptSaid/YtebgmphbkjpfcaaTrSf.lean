/- chapter 17's own answer: a copy of the list, slots set in it; Move, Swap. -/
import Derived.Test.YtebgmphbkjpfcaaTrSe
import Derived.Deep.RegionHeld3
namespace Go.Proofs.Ytebgmphbkjpfcaa
set_option linter.unusedVariables false
set_option linter.unusedSimpArgs false
open Go.ChangeShapes Go.WideShapes Go.ChangeAt Go.RowKit Go.Shelf

theorem nodsC_len : ∀ l : List Nod, (nodsC l).length = l.length * 3
  | [] => rfl
  | x :: l => by
    have := nodsC_len l
    show (nodC x ++ nodsC l).length = _
    rw [List.length_append, this]
    simp; omega
theorem nodsC_set : ∀ (l : List Nod) (k : Nat) (x : Nod) (o i : Int), l[k]? = some x → ((nodsC l).set (k * 3) (.int .i64 o)).set (k * 3 + 1) (.int .i64 i) = nodsC (l.set k ⟨o, i, x.d⟩)
  | [], k, x, o, i, h => by simp at h
  | y :: l, 0, x, o, i, h => by simp at h; subst h; rfl
  | y :: l, k + 1, x, o, i, h => by
    have := nodsC_set l k x o i (by simpa using h)
    have e : nodsC (y :: l) = .int .i64 y.o :: .int .i64 y.i :: .int .i64 y.d :: nodsC l := rfl
    have e2 : nodsC ((y :: l).set (k + 1) ⟨o, i, x.d⟩) = .int .i64 y.o :: .int .i64 y.i :: .int .i64 y.d :: nodsC (l.set k ⟨o, i, x.d⟩) := rfl
    rw [e, e2, ← this, show (k + 1) * 3 = k * 3 + 1 + 1 + 1 by omega]
    rfl
theorem rset {w W : World} {rb g c k : Nat} {l : List Nod} {x : Nod} (o i : Int) (h : RefT W rb (.slice (some ⟨g, 0, none⟩) l.length c) l) (hx : l[k]? = some x) (hO : OnlyR rb w W) (hg : w.heap.size ≤ g) :
    RefT ((W.setCell ⟨g, k * 3, none⟩ (.int .i64 o)).setCell ⟨g, k * 3 + 1, none⟩ (.int .i64 i)) rb (.slice (some ⟨g, 0, none⟩) l.length c) (l.set k ⟨o, i, x.d⟩) ∧
    OnlyR rb w ((W.setCell ⟨g, k * 3, none⟩ (.int .i64 o)).setCell ⟨g, k * 3 + 1, none⟩ (.int .i64 i)) := by
  have hne : rb ≠ g := fun e => h.ne (by rw [e]; rfl)
  refine ⟨⟨(Go.heap_setCell_other _ _ _ _ hne).trans ((Go.heap_setCell_other _ _ _ _ hne).trans h.blk), ?_, h.ne, by rw [List.length_set]; exact h.le, fun y hy => ?_⟩, hO.os, hO.tape, hO.output, by simp; exact hO.size, fun q hq hn => ?_⟩
  · rw [List.length_set]
    rcases h.row.2 with ⟨e, _⟩ | ⟨g', cap, cur, e, q1, q2, q3, q4, q5, q6⟩
    · cases e
    · cases e
      have hk := (List.getElem?_eq_some_iff.1 hx).1
      have b1 := Go.heap_setCell_same _ _ (k * 3) _ _ (.int .i64 o) q2
      have b2 := Go.heap_setCell_same _ _ (k * 3 + 1) _ _ (.int .i64 i) b1
      refine ⟨by rw [nodsC_len, List.length_set], .inr ⟨g, c, _, rfl, Nat.zero_le _, b2, q3, q4, by simp [q5], ?_⟩⟩
      rw [Array.toList_setIfInBounds, Array.toList_setIfInBounds, List.take_set, List.take_set, q6]
      exact nodsC_set l k x o i hx
  · rcases List.mem_or_eq_of_mem_set hy with q | q
    · exact h.dep y q
    · rw [q]; exact h.dep x (List.mem_of_getElem? hx)
  · have : q ≠ g := by omega
    exact (Go.heap_setCell_other _ _ _ _ this).trans ((Go.heap_setCell_other _ _ _ _ this).trans (hO.block q hq hn))
theorem rcopied {w W w3 : World} {rb : Nat} {v u : Value} {l : List Nod} (h : RefT w rb v l) (hb : Below w.heap.size w W) (hown : w3.ownsRow w.heap.size 49 3 u (0 + l.length) ([] ++ nodsC l)) (hg : W.grownBy w3 none) :
    RefT (w3.setCell ⟨rb, 0, none⟩ u) rb u l ∧ OnlyR rb w (w3.setCell ⟨rb, 0, none⟩ u) := by
  rw [Nat.zero_add, List.nil_append] at hown
  exact h.store (hb.grown hg hb.size (fun k e => by cases e)) hown h.le h.dep
theorem row_news {W : World} {rb g c : Nat} {l : List Nod} {n : Nat} (h : RefT W rb (.slice (some ⟨g, 0, none⟩) n c) l) : ∀ j u, (nodsC l)[j]? = some u → W.cell? ((⟨g, 0, none⟩ : Addr).add j) = some u := fun j u hj => h.row.cells (g := g) rfl j u hj
theorem nods_one {l : List Nod} : ∀ u ∈ nodsC l, u.oneCell' = true := by
  intro u hu
  unfold nodsC at hu
  obtain ⟨x, _, hx⟩ := List.mem_flatMap.1 hu
  simp at hx
  rcases hx with rfl | rfl | rfl <;> rfl
theorem swap_set1 {l : List Nod} (hO : Once l) {k : Nat} {x : Nod} {o i p j : Int} (hx : l[k]? = some x) (he : x.o = o ∧ x.i = i) (hn : idx l p j = none) : l.set k ⟨p, j, x.d⟩ = swapA l o i p j := by
  unfold swapA
  apply List.ext_getElem?
  intro q
  rw [List.getElem?_set, List.getElem?_map]
  by_cases hq : k = q
  · subst hq
    rw [if_pos rfl, if_pos (List.getElem?_eq_some_iff.1 hx).1, hx]
    show _ = some (sw o i p j x)
    unfold sw
    rw [if_pos he]
  · rw [if_neg hq]
    cases hy : l[q]? with
    | none => rfl
    | some y =>
      show _ = some (sw o i p j y)
      unfold sw
      rw [if_neg (fun e => hq (hO _ _ _ _ hx hy (by omega) (by omega))), if_neg (fun e => idx_none hn hy e)]
end Go.Proofs.Ytebgmphbkjpfcaa
