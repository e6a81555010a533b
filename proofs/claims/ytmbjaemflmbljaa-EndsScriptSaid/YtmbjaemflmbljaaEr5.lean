/- chapter 22's own answer: Wait. -/
import Derived.Test.YtmbjaemflmbljaaEr4
import Derived.BigRegion
namespace Go.Proofs.Ytmbjaemflmbljaa
set_option linter.unusedVariables false
set_option linter.unusedSimpArgs false
open Go.ChangeShapes Go.WideShapes Go.ChangeAt Go.RowKit Go.Shelf
open TabE

theorem own_set {w : World} {B s g n c i : Nat} {e : TypeId} {xs : List Value} (u : Value) (h : w.ownsRow B e s (.slice (some ⟨g, 0, none⟩) n c) n xs) : (w.setCell ⟨g, i, none⟩ u).ownsRow B e s (.slice (some ⟨g, 0, none⟩) n c) n (xs.set i u) := by
  rcases h.2 with ⟨h1, _⟩ | ⟨g', cap, cur, h1, q1, q2, q3, q4, q5, q6⟩
  · cases h1
  · cases h1
    refine ⟨by simpa using h.1, .inr ⟨_, _, cur.setIfInBounds i u, rfl, q1, Go.heap_setCell_same _ _ _ _ _ _ q2, q3, q4, by simpa using q5, ?_⟩⟩
    rw [← q6, Array.toList_setIfInBounds, List.take_set]
/-- A record's list is another one, made since; it may wait for another thing. -/
theorem RefE.turn {w w3 : World} {rb base g c p : Nat} {R : List En} {x : En} {v' : Value} {l' : List Int} (h : RefE w rb base (.slice (some ⟨g, 0, none⟩) R.length c) R) (hx : R[p]? = some x) (hb : Below w.heap.size w w3) (ho : w3.ownsRow w.heap.size 3 1 v' l'.length (l'.map (Value.int .i64))) :
    RefE (w3.setCell ⟨g, p * 3 + 1, none⟩ v') rb base (.slice (some ⟨g, 0, none⟩) R.length c) (R.set p { x with l := l', v := v' }) ∧ OnlyE w (w3.setCell ⟨g, p * 3 + 1, none⟩ v') rb (.slice (some ⟨g, 0, none⟩) R.length c) (.slice (some ⟨g, 0, none⟩) R.length c) R (R.set p { x with l := l', v := v' }) := by
  have hg := h.row.lt g rfl
  have hlt := h.lt
  have h3 := h.call hb
  have hs := hb.size
  have hbs := h.bs
  have hmem : ∀ y ∈ R.set p { x with l := l', v := v' }, y = { x with l := l', v := v' } ∨ y ∈ R := fun y hy => (List.mem_or_eq_of_mem_set hy).symm
  have hvb : ∀ k, v'.ownBlock = some k → w.heap.size ≤ k := fun k e => (ho.lt k e).1
  refine ⟨⟨(Go.heap_setCell_other _ _ _ _ (by show rb ≠ g; omega)).trans h3.blk, ?_, hlt, by simpa using Nat.le_trans hbs hs, fun y hy => ?_, fun y hy k e => ?_⟩, ⟨hb.os, hb.tape, hb.output, by simpa using hs, fun k hk h1 h2 => ?_, fun k hk e => e, fun k hk y hy e => ?_⟩⟩
  · have := own_set v' h3.row (i := p * 3 + (0 + 1))
    rw [flat_set (j := 0) h.wide (i := p) (r := rowN x) (by rw [rowsN_get, hx]; rfl) (by decide)] at this
    rw [List.length_set]
    have e : (rowsN R).set p ((rowN x).1, (rowN x).2.set 0 v') = rowsN (R.set p { x with l := l', v := v' }) := by
      unfold rowsN; rw [List.map_set]; rfl
    rw [e] at this
    exact this
  · rcases hmem y hy with rfl | q
    · exact own_weak (row_of_block ho (fun k hk => Go.heap_setCell_other _ _ _ _ (by show k ≠ g; have := hvb k hk; omega))) hbs
    · refine row_of_block (h.own y q) (fun k hk => ?_)
      have h1 := (h.own y q).lt k hk
      exact (Go.heap_setCell_other _ _ _ _ (fun e => h.nt y q k hk (by have e2 : k = g := e; rw [e2]; rfl))).trans (hb.block k h1.2)
  · rcases hmem y hy with rfl | q
    · have := hvb k e
      intro e2
      have e3 : some g = some k := e2
      injection e3 with e4
      omega
    · exact h.nt y q k e
  · exact (Go.heap_setCell_other _ _ _ _ (fun e => h2 (by have e2 : k = g := e; rw [e2]; rfl))).trans (hb.block k hk)
  · rcases hmem y hy with rfl | q
    · have := hvb k e; omega
    · exact ⟨y, q, e⟩
theorem RefE.turnS {w : World} {rb base g c p : Nat} {R : List En} {x : En} (s' : Bool) (h : RefE w rb base (.slice (some ⟨g, 0, none⟩) R.length c) R) (hx : R[p]? = some x) :
    RefE (w.setCell ⟨g, p * 3 + 2, none⟩ (.bool s')) rb base (.slice (some ⟨g, 0, none⟩) R.length c) (R.set p { x with s := s' }) ∧ OnlyE w (w.setCell ⟨g, p * 3 + 2, none⟩ (.bool s')) rb (.slice (some ⟨g, 0, none⟩) R.length c) (.slice (some ⟨g, 0, none⟩) R.length c) R (R.set p { x with s := s' }) := by
  have hg := h.row.lt g rfl
  have hlt := h.lt
  have hmem : ∀ y ∈ R.set p { x with s := s' }, ∃ z ∈ R, z.v = y.v ∧ z.l = y.l := by
    intro y hy
    rcases List.mem_or_eq_of_mem_set hy with q | q
    · exact ⟨y, q, rfl, rfl⟩
    · subst q; exact ⟨x, List.mem_of_getElem? hx, rfl, rfl⟩
  refine ⟨⟨(Go.heap_setCell_other _ _ _ _ (by show rb ≠ g; omega)).trans h.blk, ?_, hlt, by simpa using h.bs, fun y hy => ?_, fun y hy k e => ?_⟩, ⟨rfl, rfl, rfl, by simp, fun k hk h1 h2 => ?_, fun k hk e => e, fun k hk y hy e => ?_⟩⟩
  · have := own_set (.bool s') h.row (i := p * 3 + (1 + 1))
    rw [flat_set (j := 1) h.wide (i := p) (r := rowN x) (by rw [rowsN_get, hx]; rfl) (by decide)] at this
    rw [List.length_set]
    have e : (rowsN R).set p ((rowN x).1, (rowN x).2.set 1 (.bool s')) = rowsN (R.set p { x with s := s' }) := by
      unfold rowsN; rw [List.map_set]; rfl
    rw [e] at this
    exact this
  · obtain ⟨z, hz, e1, e2⟩ := hmem y hy
    rw [← e1, ← e2]
    exact row_of_block (h.own z hz) (fun k hk => Go.heap_setCell_other _ _ _ _ (fun e => h.nt z hz k hk (by have e2 : k = g := e; rw [e2]; rfl)))
  · obtain ⟨z, hz, e1, e2⟩ := hmem y hy
    exact h.nt z hz k (by rw [e1]; exact e)
  · exact Go.heap_setCell_other _ _ _ _ (fun e => h2 (by have e2 : k = g := e; rw [e2]; rfl))
  · obtain ⟨z, hz, e1, e2⟩ := hmem y hy
    exact ⟨z, hz, by rw [e1]; exact e⟩
theorem OnlyE.trans {a c d : World} {rb : Nat} {v0 v1 v2 : Value} {R0 R1 R2 : List En} (h : OnlyE a c rb v0 v1 R0 R1) (k : OnlyE c d rb v1 v2 R1 R2) : OnlyE a d rb v0 v2 R0 R2 :=
  ⟨k.os.trans h.os, k.tape.trans h.tape, k.output.trans h.output, Nat.le_trans h.size k.size,
   fun j hj h1 h2 => (k.block j (Nat.lt_of_lt_of_le hj h.size) h1 (fun e => h2 (h.foot j hj e))).trans (h.block j hj h1 h2), fun j hj e => h.foot j hj (k.foot j (Nat.lt_of_lt_of_le hj h.size) e),
   fun j hj x hx e => by
    obtain ⟨y, hy, e2⟩ := k.lfoot j (Nat.lt_of_lt_of_le hj h.size) x hx e
    exact h.lfoot j hj y hy e2⟩
/-- Both in one. -/
theorem RefE.turn2 {w w3 : World} {rb base g c p : Nat} {R : List En} {x : En} {v' : Value} {l' : List Int} (s' : Bool) (h : RefE w rb base (.slice (some ⟨g, 0, none⟩) R.length c) R) (hx : R[p]? = some x) (hb : Below w.heap.size w w3) (ho : w3.ownsRow w.heap.size 3 1 v' l'.length (l'.map (Value.int .i64))) :
    RefE ((w3.setCell ⟨g, p * 3 + 1, none⟩ v').setCell ⟨g, p * 3 + 2, none⟩ (.bool s')) rb base (.slice (some ⟨g, 0, none⟩) R.length c) (R.set p ⟨x.id, l', s', v'⟩) ∧ OnlyE w ((w3.setCell ⟨g, p * 3 + 1, none⟩ v').setCell ⟨g, p * 3 + 2, none⟩ (.bool s')) rb (.slice (some ⟨g, 0, none⟩) R.length c) (.slice (some ⟨g, 0, none⟩) R.length c) R (R.set p ⟨x.id, l', s', v'⟩) := by
  obtain ⟨a1, a2⟩ := h.turn hx hb ho
  have hp := (List.getElem?_eq_some_iff.1 hx).1
  have hk := RefE.turnS s' (p := p) (x := ⟨x.id, l', x.s, v'⟩) (c := c) (R := R.set p ⟨x.id, l', x.s, v'⟩) (by rw [List.length_set]; exact a1) (List.getElem?_set_self hp)
  rw [List.set_set, List.length_set] at hk
  exact ⟨hk.1, a2.trans hk.2⟩
set_option maxRecDepth 100000 in
theorem copy_nil (W : World) : (Builtin.append_ #[36, 36] 36 #[.slice none 0 0, .slice none 0 0]).run Try.prog W = .ok (.slice none 0 0) W := by
  simp [go_sem]
theorem copy_run {W : World} {B B2 : Nat} {v : Value} {l : List Int} (h : W.ownsRow B 3 1 v l.length (l.map (Value.int .i64))) (hl : l.length ≤ 1000000) (hz : B2 ≤ W.heap.size) :
    ∃ u w2, (Builtin.append_ #[36, 36] 36 #[.slice none 0 0, v]).run Try.prog W = .ok u w2 ∧ w2.ownsRow B2 3 1 u l.length (l.map (Value.int .i64)) ∧ W.grownBy w2 none := by
  obtain ⟨i0, hi0, hz0, hz1, hz2⟩ := info_parts infoI
  rcases own_form h with ⟨rfl, rfl⟩ | ⟨g, cap, rfl, _, _, _, hc⟩
  · exact ⟨_, _, copy_nil W, World.ownsRow_nil _ _ _ _, ⟨rfl, rfl, rfl, Nat.le_refl _, fun _ _ _ => rfl⟩⟩
  · obtain ⟨u, w2, h1, h2, h3, _⟩ := run_append_own_at (P := Try.prog) (w := W) B2 36 36 3 i0 (.int .i64 0) 1 8 Try.underlying36 hi0 hz0 hz1 hz2 rfl (by decide) (.slice none 0 0) 0 [] (World.ownsRow_nil _ _ _ _) ⟨g, 0, none⟩ l.length cap (l.map (Value.int .i64)) (by rw [List.length_map]; omega) (fun j u hj => by
        rw [List.getElem?_map] at hj
        cases e : l[j]? with
        | none => rw [e] at hj; cases hj
        | some z => rw [e] at hj; cases hj; rw [Addr.add_mid, Nat.zero_add]; exact hc j z e) (by simp [Value.oneCell']) (by unfold maxLen; omega) (by omega) hz
    rw [Nat.zero_add, List.nil_append] at h2
    exact ⟨u, w2, h1, h2, h3⟩
theorem one_run {W : World} {B : Nat} {u : Value} {l : List Int} (s : Nat) (z : Int) (h : W.ownsRow B 3 1 u l.length (l.map (Value.int .i64))) (hs : W.heap[s]? = some (.cells #[.int .i64 z] 3 (0, 0))) (hl : l.length ≤ 1000000) (hz : B ≤ W.heap.size) :
    ∃ va vn vc w2, (Builtin.append_ #[36, 36] 36 #[u, .slice (some ⟨s, 0, none⟩) 1 1]).run Try.prog W = .ok (.slice va vn vc) w2 ∧ w2.ownsRow B 3 1 (.slice va vn vc) (l ++ [z]).length ((l ++ [z]).map (Value.int .i64)) ∧ W.grownBy w2 u.ownBlock := by
  obtain ⟨i0, hi0, hz0, hz1, hz2⟩ := info_parts infoI
  obtain ⟨u', w2, h1, h2, h3, _⟩ := run_append_own_at (P := Try.prog) (w := W) B 36 36 3 i0 (.int .i64 0) 1 8 Try.underlying36 hi0 hz0 hz1 hz2 rfl (by decide) u l.length (l.map (Value.int .i64)) h ⟨s, 0, none⟩ 1 1 [.int .i64 z] rfl (by
      intro j v hj
      rw [Addr.add_mid, Nat.zero_add]
      exact (cell_cur (cur := [Value.int .i64 z]) hs j).trans hj) (by simp [Value.oneCell']) (by unfold maxLen; omega) (by omega) hz
  obtain ⟨va, vn, vc, rfl⟩ := own_slice h2
  refine ⟨va, vn, vc, w2, h1, ?_, h3⟩
  rw [List.map_append, List.length_append]
  exact h2
end Go.Proofs.Ytmbjaemflmbljaa
