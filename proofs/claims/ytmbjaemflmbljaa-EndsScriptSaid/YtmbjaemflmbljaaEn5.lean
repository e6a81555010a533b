/- package ends, over tables of any number of rows: an endpoint's list is turned; Wait. -/
import Derived.Test.YtmbjaemflmbljaaEn4
namespace Go.Proofs.Ytmbjaemflmbljaa
set_option linter.unusedVariables false
set_option linter.unusedSimpArgs false
open Go.ChangeShapes Go.WideShapes Go.ChangeAt Go.RowKit Go.Shelf
open TabE

theorem pair_set {L : List En} {p : Nat} {x' : En} (h : L.Pairwise ApE) (hx : ∀ (i : Nat) (y : En), i ≠ p → L[i]? = some y → ApE y x') : (L.set p x').Pairwise ApE := by
  rw [List.pairwise_iff_getElem] at h ⊢
  intro i j hi hj hij
  rw [List.length_set] at hi hj
  rw [List.getElem_set, List.getElem_set]
  split
  · rename_i e
    rw [if_neg (by omega)]
    exact (hx j _ (by omega) (List.getElem?_eq_getElem hj)).symm
  · rename_i e
    split
    · exact hx i _ (fun q => e q.symm) (List.getElem?_eq_getElem hi)
    · exact h i j hi hj hij
theorem EndsAt.apart {w : World} {b base : Nat} {tv : Value} {L : List En} (h : EndsAt w b base tv L) {i p : Nat} {x y : En} (hx : L[p]? = some x) (hy : L[i]? = some y) (hi : i ≠ p) : ApE y x := by
  have hp := List.pairwise_iff_getElem.1 h.ap
  obtain ⟨h1, e1⟩ := List.getElem?_eq_some_iff.1 hx
  obtain ⟨h2, e2⟩ := List.getElem?_eq_some_iff.1 hy
  rcases Nat.lt_or_ge i p with q | q
  · have := hp i p h2 h1 q
    rw [e1, e2] at this
    exact this
  · have := hp p i h1 h2 (by omega)
    rw [e1, e2] at this
    exact this.symm
theorem EOnly.trans {a c d : World} {b : Nat} {t0 t1 t2 : Value} {L0 L1 L2 : List En} (h : EOnly a c b t0 t1 L0 L1) (k : EOnly c d b t1 t2 L1 L2) : EOnly a d b t0 t2 L0 L2 :=
  ⟨k.os.trans h.os, k.tape.trans h.tape, k.output.trans h.output, Nat.le_trans h.size k.size, fun j hj h1 h2 h3 =>
    (k.block j (Nat.lt_of_lt_of_le hj h.size) h1
      (fun e => (h.foot j hj (.inl e)).elim (fun q => h2 q) (fun ⟨x, hx, q⟩ => h3 x hx q))
      (fun x hx e => (h.foot j hj (.inr ⟨x, hx, e⟩)).elim (fun q => h2 q) (fun ⟨x, hx, q⟩ => h3 x hx q))).trans (h.block j hj h1 h2 h3),
   fun j hj e => h.foot j hj (k.foot j (Nat.lt_of_lt_of_le hj h.size) e)⟩
/-- An endpoint's slice is another one: what it holds is turned. -/
theorem EndsAt.turn {w w1 : World} {b base g c p : Nat} {L : List En} {x : En} {v' : Value} {l' : List Int} (h : EndsAt w b base (.slice (some ⟨g, 0, none⟩) L.length c) L) (hx : L[p]? = some x) (hg : w.grownBy w1 x.v.ownBlock)
    (ho : w1.ownsRow base 3 1 v' l'.length (l'.map (Value.int .i64))) (hat : v'.ownBlock = x.v.ownBlock ∨ ∀ k, v'.ownBlock = some k → w.heap.size ≤ k) :
    EndsAt (w1.setCell ⟨g, p * 3 + 1, none⟩ v') b base (.slice (some ⟨g, 0, none⟩) L.length c) (L.set p { x with l := l', v := v' }) ∧ EOnly w (w1.setCell ⟨g, p * 3 + 1, none⟩ v') b (.slice (some ⟨g, 0, none⟩) L.length c) (.slice (some ⟨g, 0, none⟩) L.length c) L (L.set p { x with l := l', v := v' }) := by
  obtain ⟨g', c', e, hgl, hgb, hga, _, _, _⟩ := h.vform hx
  cases e
  have hxm := List.mem_of_getElem? hx
  have hbase := h.tab.ne
  have hbl := h.lt
  have hxo := h.own x hxm
  have hxk : ∀ k, x.v.ownBlock = some k → base ≤ k ∧ k < w.heap.size ∧ k ≠ g := fun k e => ⟨(hxo.lt k e).1, (hxo.lt k e).2, fun q => h.nt x hxm k e (by rw [q]; rfl)⟩
  have hblk : ∀ k, k < w.heap.size → x.v.ownBlock ≠ some k → w1.heap[k]? = w.heap[k]? := fun k hk hn => hg.block k hk (fun e => hn e.symm)
  have hb1 : w1.heap[b]? = w.heap[b]? := hblk b hbl (fun e => by have := (hxk b e).1; omega)
  have hg1 : w1.heap[g]? = w.heap[g]? := hblk g hgl (fun e => (hxk g e).2.2 rfl)
  have hvg : v'.ownBlock ≠ some g := fun e => by
    rcases hat with q | q
    · rw [q] at e; exact (hxk g e).2.2 rfl
    · have := q g e; omega
  have hT1 : TabAt w1 b 0 base (.slice (some ⟨g, 0, none⟩) L.length c) (rowsN L) := h.tab.of hg.size (World.cell?_of_block hb1) (World.frozen?_of_block hb1) (fun k e => by cases e; exact hg1)
  have hv1 : v'.oneCell' = true := by
    obtain ⟨a, c, e⟩ := own_len ho
    rw [e]; rfl
  have hT2 := tab_set (j := 0) (u := v') hT1 (i := p) (r := rowN x) (by rw [rowsN_get, hx]; rfl) (by decide) hv1
  have hrows : (rowsN L).set p ((rowN x).1, (rowN x).2.set 0 v') = rowsN (L.set p { x with l := l', v := v' }) := by
    unfold rowsN
    rw [List.map_set]
    rfl
  rw [hrows] at hT2
  have hmem : ∀ y ∈ L.set p { x with l := l', v := v' }, y = { x with l := l', v := v' } ∨ ∃ i, i ≠ p ∧ L[i]? = some y := by
    intro y hy
    obtain ⟨i, hi⟩ := List.getElem?_of_mem hy
    by_cases e : p = i
    · subst e
      rw [List.getElem?_set_self (List.getElem?_eq_some_iff.1 hx).1] at hi
      cases hi
      exact .inl rfl
    · rw [List.getElem?_set_ne e] at hi
      exact .inr ⟨i, fun q => e q.symm, hi⟩
  refine ⟨⟨hT2, fun y hy => ?_, pair_set h.ap (fun i y hi hy k e => ?_), fun y hy k e => ?_⟩, ⟨hg.os, hg.tape, hg.output, by simpa using hg.size, fun k hk h1 h2 h3 => ?_, fun k hk e => ?_⟩⟩
  · rcases hmem y hy with rfl | ⟨i, hi, hy2⟩
    · exact row_of_block ho (fun k hk => Go.heap_setCell_other _ _ _ _ (fun e => hvg (by have e2 : k = g := e; rw [e2] at hk; exact hk)))
    · have hym := List.mem_of_getElem? hy2
      refine row_of_block (h.own y hym) (fun k hk => ?_)
      have hkg : k ≠ g := fun q => h.nt y hym k hk (by rw [q]; rfl)
      exact (Go.heap_setCell_other _ _ _ _ hkg).trans (hblk k ((h.own y hym).lt k hk).2 (fun q => h.apart hx hy2 hi k hk q))
  · have hym := List.mem_of_getElem? hy
    rcases hat with q | q
    · show v'.ownBlock ≠ some k
      rw [q]
      exact h.apart hx hy hi k e
    · intro e2
      have := q k e2
      have := ((h.own y hym).lt k e).2
      omega
  · rcases hmem y hy with rfl | ⟨i, hi, hy2⟩
    · intro e2
      cases e2
      exact hvg e
    · exact h.nt y (List.mem_of_getElem? hy2) k e
  · have hkg : k ≠ g := fun q => h2 (by rw [q]; rfl)
    exact (Go.heap_setCell_other _ _ _ _ hkg).trans (hblk k hk (h3 x hxm))
  · rcases e with e | ⟨y, hy, e⟩
    · exact .inl e
    · rcases hmem y hy with rfl | ⟨i, hi, hy2⟩
      · rcases hat with q | q
        · exact .inr ⟨x, hxm, by rw [← q]; exact e⟩
        · have := q k e; omega
      · exact .inr ⟨y, List.mem_of_getElem? hy2, e⟩
/-- An endpoint waits for another thing. -/
theorem EndsAt.turnS {w : World} {b base g c p : Nat} {L : List En} {x : En} (s' : Bool) (h : EndsAt w b base (.slice (some ⟨g, 0, none⟩) L.length c) L) (hx : L[p]? = some x) :
    EndsAt (w.setCell ⟨g, p * 3 + 2, none⟩ (.bool s')) b base (.slice (some ⟨g, 0, none⟩) L.length c) (L.set p { x with s := s' }) ∧ EOnly w (w.setCell ⟨g, p * 3 + 2, none⟩ (.bool s')) b (.slice (some ⟨g, 0, none⟩) L.length c) (.slice (some ⟨g, 0, none⟩) L.length c) L (L.set p { x with s := s' }) := by
  obtain ⟨g', c', e, hgl, hgb, hga, _, _, _⟩ := h.vform hx
  cases e
  have hxm := List.mem_of_getElem? hx
  have hT2 := tab_set (j := 1) (u := .bool s') h.tab (i := p) (r := rowN x) (by rw [rowsN_get, hx]; rfl) (by decide) rfl
  have hrows : (rowsN L).set p ((rowN x).1, (rowN x).2.set 1 (.bool s')) = rowsN (L.set p { x with s := s' }) := by
    unfold rowsN
    rw [List.map_set]
    rfl
  rw [hrows] at hT2
  have hmem : ∀ y ∈ L.set p { x with s := s' }, ∃ z ∈ L, z.v = y.v ∧ z.l = y.l := by
    intro y hy
    rcases List.mem_or_eq_of_mem_set hy with q | q
    · exact ⟨y, q, rfl, rfl⟩
    · subst q; exact ⟨x, hxm, rfl, rfl⟩
  refine ⟨⟨hT2, fun y hy => ?_, pair_set h.ap (fun i y hi hy => (show ApE y { x with s := s' } from fun k e q => h.apart hx hy hi k e q)), fun y hy k e => ?_⟩, ⟨rfl, rfl, rfl, by simp, fun k hk h1 h2 h3 => ?_, fun k hk e => ?_⟩⟩
  · obtain ⟨z, hz, e1, e2⟩ := hmem y hy
    rw [← e1, ← e2]
    exact row_of_block (h.own z hz) (fun k hk => Go.heap_setCell_other _ _ _ _ (fun q => h.nt z hz k hk (by rw [q]; rfl)))
  · obtain ⟨z, hz, e1, e2⟩ := hmem y hy
    exact h.nt z hz k (by rw [e1]; exact e)
  · exact Go.heap_setCell_other _ _ _ _ (fun q => h2 (by rw [q]; rfl))
  · rcases e with e | ⟨y, hy, e⟩
    · exact .inl e
    · obtain ⟨z, hz, e1, e2⟩ := hmem y hy
      exact .inr ⟨z, hz, by rw [e1]; exact e⟩
end Go.Proofs.Ytmbjaemflmbljaa
