/- chapter 12: an object dropped, and one of its size added there: the data. -/
import Derived.Test.YtkladhbamkomnaaArT
namespace Go.Proofs.Ytkladhbamkomnaa
set_option linter.unusedVariables false
set_option linter.unusedSimpArgs false
open Go.ChangeShapes Go.WideShapes Go.ChangeAt Go.RowKit Go.Shelf
open TabA

theorem addC_cnt {F n : Nat} {cnt : List Int} {L : List Ob} {kd sz fi : Int} (h : ∀ c ∈ cnt, 0 ≤ c ∧ c ≤ n) : ∀ c ∈ addC F cnt L kd sz fi, 0 ≤ c ∧ c ≤ (n + 1 : Nat) := by
  intro c hc
  unfold addC at hc
  split at hc
  · rcases List.mem_or_eq_of_mem_set hc with q | q
    · have := h c q; omega
    · cases hg : cnt[fi.toNat]? with
      | none => rw [hg] at q; simp at q; omega
      | some d =>
        rw [hg] at q
        have := h d (List.mem_of_getElem? hg)
        simp at q
        omega
  · have := h c hc; omega
theorem play_cnt (D : Nat → ActT) : ∀ n, ∀ c ∈ (playS D n).1, 0 ≤ c ∧ c ≤ n
  | 0 => by
    intro c hc
    have : c = 0 := by
      have hc' : c ∈ zerosA 16 := hc
      revert hc'
      simp [zerosA]
    omega
  | n + 1 => by
    have ih := play_cnt D n
    have up : ∀ c ∈ (playS D n).1, 0 ≤ c ∧ c ≤ (n + 1 : Nat) := fun c hc => by have := ih c hc; omega
    show ∀ c ∈ (stepS (playS D n) (D n)).1, _
    unfold stepS
    split
    · exact addC_cnt ih
    · split
      · exact up
      · split
        · exact up
        · split
          · exact up
          · exact up
/-- What becomes of an object that is dropped, and added anew. -/
structure GoneAt (s : List Int × List Ob) (x : Ob) : Prop where
  r0 : dropR s.2 x.id = 0
  r1 : dropR (dropL s.2 x.id) x.id = 2
  l1 : dropL (dropL s.2 x.id) x.id = dropL s.2 x.id
  g1 : getO (dropL s.2 x.id) x.id = none
  ad : ∃ id, addR 16 s.1 (dropL s.2 x.id) x.kd x.sz x.fi = (id, 0) ∧ x.id < id
  ln : (addL 16 s.1 (dropL s.2 x.id) x.kd x.sz x.fi).length = s.2.length
  ke : ∀ y ∈ s.2, y.id ≠ x.id → y ∈ addL 16 s.1 (dropL s.2 x.id) x.kd x.sz x.fi
theorem asc_id {L : List Ob} (h : Asc (rowsO L)) {i j : Nat} {x y : Ob} (hij : i < j) (hi : L[i]? = some x) (hj : L[j]? = some y) : x.id < y.id :=
  h.at hij (x := rowO x) (y := rowO y) (by rw [rows_get, hi]; rfl) (by rw [rows_get, hj]; rfl)
theorem has_mem {L : List Ob} {x : Ob} (h : x ∈ L) : hasR (rowsO L) x.id = true := by
  unfold hasR
  rw [List.any_eq_true]
  exact ⟨rowO x, by unfold rowsO; exact List.mem_map_of_mem h, by simp [rowO]⟩
theorem pos_at {L : List Ob} (hA : Asc (rowsO L)) {k : Nat} {x : Ob} (hx : L[k]? = some x) : posR (rowsO L) x.id = k := by
  obtain ⟨r, hr, e⟩ := (hasR_at hA).1 (has_mem (List.mem_of_getElem? hx))
  rw [rows_get] at hr
  cases hz : L[posR (rowsO L) x.id]? with
  | none => rw [hz] at hr; cases hr
  | some z =>
    rw [hz] at hr
    cases hr
    have e' : z.id = x.id := e
    rcases Nat.lt_trichotomy (posR (rowsO L) x.id) k with q | q | q
    · have := asc_id hA q hz hx; omega
    · exact q
    · have := asc_id hA q hx hz; omega
theorem get_at {L : List Ob} (hA : Asc (rowsO L)) {y : Ob} (hy : y ∈ L) : getO L y.id = some y := by
  obtain ⟨k, hk⟩ := List.getElem?_of_mem hy
  unfold getO posO
  rw [has_mem hy, if_pos rfl, pos_at hA hk, hk]
theorem mem_at {L : List Ob} {k : Nat} {z : Ob} (h : z ∈ L.take k ++ L.drop (k + 1)) : ∃ i, i ≠ k ∧ L[i]? = some z := by
  rcases List.mem_append.1 h with q | q
  · obtain ⟨i, hi⟩ := List.getElem?_of_mem q
    rw [List.getElem?_take] at hi
    split at hi
    · exact ⟨i, by omega, hi⟩
    · cases hi
  · obtain ⟨i, hi⟩ := List.getElem?_of_mem q
    rw [List.getElem?_drop] at hi
    exact ⟨_, by omega, hi⟩
theorem at_mem {L : List Ob} {k i : Nat} {z : Ob} (hz : L[i]? = some z) (h : i ≠ k) : z ∈ L.take k ++ L.drop (k + 1) := by
  rcases Nat.lt_or_gt_of_ne h with q | q
  · refine List.mem_append.2 (.inl (List.mem_of_getElem? (i := i) ?_))
    rw [List.getElem?_take, if_pos q]
    exact hz
  · refine List.mem_append.2 (.inr (List.mem_of_getElem? (i := i - (k + 1)) ?_))
    rw [List.getElem?_drop, show k + 1 + (i - (k + 1)) = i by omega]
    exact hz
theorem ins_mem {L : List Ob} {x y : Ob} (h : y ∈ L) : y ∈ insO L x := by
  unfold insO
  have h2 : y ∈ L.take (posR (rowsO L) x.id) ++ L.drop (posR (rowsO L) x.id) := by rw [List.take_append_drop]; exact h
  rcases List.mem_append.1 h2 with q | q
  · exact List.mem_append.2 (.inl q)
  · exact List.mem_append.2 (.inr (List.mem_cons_of_mem _ q))
theorem drop_none {L : List Ob} {id : Int} (h : hasR (rowsO L) id = false) : dropL L id = L := by
  unfold dropL
  rw [h]
  rfl
theorem gone_at {W w : World} {b n k : Nat} {D : Nat → ActT} {x : Ob} (h : StA W w b (playS D n)) (hn : n ≤ 100) (hx : (playS D n).2[k]? = some x) : GoneAt (playS D n) x := by
  obtain ⟨ab, base, v, hA, _⟩ := h
  have hC := play_cnt D n
  have hN := noC_play D n
  have hT := hA.tab.asc
  have hG := hA.good x (List.mem_of_getElem? hx)
  clear hA
  generalize playS D n = s at *
  obtain ⟨cnt, L⟩ := s
  simp only [] at *
  have hk := (List.getElem?_eq_some_iff.1 hx).1
  have hp := pos_at hT hx
  have hh := has_mem (List.mem_of_getElem? hx)
  have hd : dropL L x.id = L.take k ++ L.drop (k + 1) := by unfold dropL; rw [hh, if_pos rfl, hp]
  have hne : ∀ z ∈ dropL L x.id, z ∈ L ∧ z.id ≠ x.id := by
    intro z hz
    rw [hd] at hz
    obtain ⟨i, hi, hzi⟩ := mem_at hz
    refine ⟨List.mem_of_getElem? hzi, ?_⟩
    rcases Nat.lt_or_gt_of_ne hi with q | q
    · have := asc_id hT q hzi hx; omega
    · have := asc_id hT q hx hzi; omega
  have hno : hasR (rowsO (dropL L x.id)) x.id = false := by
    unfold hasR
    rw [List.any_eq_false]
    intro r hr
    unfold rowsO at hr
    obtain ⟨z, hz, rfl⟩ := List.mem_map.1 hr
    have := (hne z hz).2
    show ¬ (decide (z.id = x.id) = true)
    simpa using this
  obtain ⟨g1, g2, g3, g4, c, m, g5, g6, g7, g8⟩ := hG
  have hm := hC m (List.mem_of_getElem? g7)
  have hnx : nextA cnt x.fi = x.fi + 1 + 64 * m := by
    unfold nextA
    rw [if_neg (by omega), g7]
    show (if 65535 < x.fi + 1 + 64 * m then 0 else x.fi + 1 + 64 * m) = _
    rw [if_neg (by omega)]
  have hany : (dropL L x.id).any (collideA (newO x.kd x.sz x.fi)) = false := by
    rw [List.any_eq_false]
    intro z hz
    obtain ⟨z1, z2⟩ := hne z hz
    have := hN x (List.mem_of_getElem? hx) z z1 (fun e => z2 e.symm)
    rw [collide_same (x := x) (y := z) (x' := newO x.kd x.sz x.fi) (y' := z) ⟨rfl, rfl, g4.symm⟩ ⟨rfl, rfl, rfl⟩, this]
    decide
  have hR : addR 16 cnt (dropL L x.id) x.kd x.sz x.fi = (x.fi + 1 + 64 * m, 0) := by
    unfold addR
    rw [if_neg (by omega), if_neg (by omega)]
    unfold addA
    rw [hany]
    show (if nextA cnt x.fi = 0 then ((0 : Int), (11 : Int)) else (nextA cnt x.fi, 0)) = _
    rw [hnx, if_neg (by omega)]
  have hL : addL 16 cnt (dropL L x.id) x.kd x.sz x.fi = insO (dropL L x.id) { newO x.kd x.sz x.fi with id := x.fi + 1 + 64 * m } := by
    unfold addL
    rw [hR]
    exact if_pos rfl
  refine ⟨?_, ?_, ?_, ?_, ⟨_, hR, by omega⟩, ?_, ?_⟩
  · unfold dropR; rw [hh]; rfl
  · unfold dropR; rw [hno]; rfl
  · exact drop_none hno
  · unfold getO; rw [hno]; rfl
  · rw [hL]
    unfold insO
    have := posR_le (rowsO (dropL L x.id)) (x.fi + 1 + 64 * m)
    rw [rows_len] at this
    have hl : (dropL L x.id).length = L.length - 1 := by rw [hd]; simp; omega
    simp
    omega
  · intro y hy hne'
    rw [hL]
    obtain ⟨i, hi⟩ := List.getElem?_of_mem hy
    refine ins_mem ?_
    rw [hd]
    exact at_mem hi (fun e => by subst e; rw [hx] at hi; cases hi; exact hne' rfl)
theorem StA.find {W w : World} {b : Nat} {s : List Int × List Ob} (h : StA W w b s) {y : Ob} (hy : y ∈ s.2) : getO s.2 y.id = some y := by
  obtain ⟨ab, base, v, hA, _⟩ := h
  exact get_at hA.tab.asc hy
end Go.Proofs.Ytkladhbamkomnaa
