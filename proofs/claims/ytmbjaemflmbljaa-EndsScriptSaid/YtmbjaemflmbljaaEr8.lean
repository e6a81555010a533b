/- chapter 22: package ends and the own answer side by side; each act on one side, then on the other. -/
import Derived.Test.YtmbjaemflmbljaaEr7
namespace Go.Proofs.Ytmbjaemflmbljaa
set_option linter.unusedVariables false
set_option linter.unusedSimpArgs false
open Go.ChangeShapes Go.WideShapes Go.ChangeAt Go.RowKit Go.Shelf
open TabE

/-- The own answer's blocks. -/
def FR (rb : Nat) (v : Value) (R : List En) (k : Nat) : Prop := k = rb ∨ v.ownBlock = some k ∨ ∃ x ∈ R, x.v.ownBlock = some k
theorem RefE.fr_lt {w : World} {rb base : Nat} {v : Value} {R : List En} (h : RefE w rb base v R) {k : Nat} (hk : FR rb v R k) : rb ≤ k ∧ k < w.heap.size := by
  have h1 := h.lt
  have h2 := h.bs
  rcases hk with rfl | e | ⟨x, hx, e⟩
  · omega
  · have := h.row.lt k e; omega
  · have := (h.own x hx).lt k e; omega
theorem RefE.keep {w w' : World} {rb base : Nat} {v : Value} {R : List En} (h : RefE w rb base v R) (hs : w.heap.size ≤ w'.heap.size) (hk : ∀ k, FR rb v R k → w'.heap[k]? = w.heap[k]?) : RefE w' rb base v R :=
  ⟨(hk rb (.inl rfl)).trans h.blk, row_of_block h.row (fun g hg => hk g (.inr (.inl hg))), h.lt, Nat.le_trans h.bs hs, fun x hx => row_of_block (h.own x hx) (fun g hg => hk g (.inr (.inr ⟨x, hx, hg⟩))), h.nt⟩
/-- A world that is turned beside the endpoints' blocks alone; other blocks are beside them. -/
theorem StS.turn2 {W w w' : World} {b n : Nat} {A : List EA} {S S' : Nat → Prop} (h : StS W w b n A S) (hs : w.heap.size ≤ w'.heap.size) (hb : ∀ k, k < w.heap.size → ¬ S k → w'.heap[k]? = w.heap[k]?) (hB : Below W.heap.size W w') (hS' : ∀ k, S' k → k < w'.heap.size ∧ (k < w.heap.size → S k)) : StS W w' b n A S' := by
  obtain ⟨base, tv, L, hE, hA, hS⟩ := h.st
  have nb : ¬ S b := fun q => (hS b q).2.1 rfl
  have nt : ∀ k, tv.ownBlock = some k → ¬ S k := fun k e q => (hS k q).2.2.1 e
  have nl : ∀ x ∈ L, ∀ k, x.v.ownBlock = some k → ¬ S k := fun x hx k e q => (hS k q).2.2.2 x hx e
  have e0 := hb b hE.lt nb
  have hlt := hE.lt
  refine ⟨⟨base, tv, L, ⟨hE.tab.of hs (World.cell?_of_block e0) (World.frozen?_of_block e0) (fun k e => hb k (hE.tab.own e).2 (nt k e)), fun x hx => row_of_block (hE.own x hx) (fun k e => hb k ((hE.own x hx).lt k e).2 (nl x hx k e)), hE.ap, hE.nt⟩, hA, fun k hk => ⟨(hS' k hk).1, fun e => ?_, fun e => ?_, fun x hx e => ?_⟩⟩, h.lo, hB⟩
  · subst e; exact nb ((hS' _ hk).2 hlt)
  · exact nt k e ((hS' k hk).2 (hE.tab.own e).2)
  · exact nl x hx k e ((hS' k hk).2 ((hE.own x hx).lt k e).2)
/-- Package ends at A, the own answer at M, and blocks beside both. -/
structure PE (W w : World) (b rb n : Nat) (A M : List EA) (X : Nat → Prop) (rbase : Nat) (v : Value) (R : List En) : Prop where
  st : StS W w b n A (fun k => FR rb v R k ∨ X k)
  rf : RefE w rb rbase v R
  ab : R.map absE = M
  ap : ∀ k, X k → ¬ FR rb v R k
  lo : W.heap.size ≤ rb
  on : OnceA M n
def Pair (W w : World) (b rb n : Nat) (A M : List EA) (X : Nat → Prop) : Prop := ∃ rbase v R, PE W w b rb n A M X rbase v R
section
variable {W w w' : World} {b rb n rbase : Nat} {A M : List EA} {X : Nat → Prop} {v : Value} {R : List En}
theorem Pair.sub {X' : Nat → Prop} (h : Pair W w b rb n A M X) (hs : ∀ k, X' k → X k) : Pair W w b rb n A M X' := by
  obtain ⟨rbase, v, R, h⟩ := h
  exact ⟨rbase, v, R, h.st.sub (fun k hk => hk.elim .inl (fun q => .inr (hs k q))), h.rf, h.ab, fun k hk => h.ap k (hs k hk), h.lo, h.on⟩
theorem Pair.bel (h : Pair W w b rb n A M X) : Below W.heap.size W w := by
  obtain ⟨rbase, v, R, h⟩ := h
  exact h.st.bel
theorem Pair.once (h : Pair W w b rb n A M X) : OnceA M n := by
  obtain ⟨rbase, v, R, h⟩ := h
  exact h.on
theorem Pair.call (h : Pair W w b rb n A M X) (hb : Below w.heap.size w w') : Pair W w' b rb n A M X := by
  obtain ⟨rbase, v, R, h⟩ := h
  exact ⟨rbase, v, R, h.st.call hb, h.rf.call hb, h.ab, h.ap, h.lo, h.on⟩
theorem Pair.xlt (h : Pair W w b rb n A M X) {k : Nat} (hk : X k) : k < w.heap.size := by
  obtain ⟨rbase, v, R, h⟩ := h
  obtain ⟨base, tv, L, hE, hA, hS⟩ := h.st.st
  exact (hS k (.inr hk)).1
/-- One more block, made since. -/
theorem Pair.more (h : Pair W w b rb n A M X) (hb : Below w.heap.size w w') : Pair W w' b rb n A M (fun k => X k ∨ w.heap.size ≤ k ∧ k < w'.heap.size) := by
  obtain ⟨rbase, v, R, h⟩ := h
  refine ⟨rbase, v, R, (h.st.more hb).sub (fun k hk => ?_), h.rf.call hb, h.ab, fun k hk hf => ?_, h.lo, h.on⟩
  · rcases hk with hk | hk | hk
    · exact .inl (.inl hk)
    · exact .inl (.inr hk)
    · exact .inr hk
  · rcases hk with hk | hk
    · exact h.ap k hk hf
    · have := (h.rf.fr_lt hf).2; omega
/-- An act of package ends. -/
theorem PE.pack {n' : Nat} {A' : List EA} (h : PE W w b rb n A M X rbase v R) (h1 : StS W w' b n' A' (fun k => FR rb v R k ∨ X k)) (h2 : SameK (fun k => FR rb v R k ∨ X k) w w') (h3 : w.heap.size ≤ w'.heap.size) (hn : n ≤ n') : Pair W w' b rb n' A' M X ∧ SameK X w w' :=
  ⟨⟨rbase, v, R, h1, h.rf.keep h3 (fun k hk => h2 k (.inl hk)), h.ab, h.ap, h.lo, h.on.le hn⟩, fun k hk => h2 k (.inr hk)⟩
/-- An act of the own answer. -/
theorem PE.own {v' : Value} {R' : List En} {M' : List EA} (h : PE W w b rb n A M X rbase v R) (h1 : RefE w' rb rbase v' R') (h2 : OnlyE w w' rb v v' R R') (h3 : R'.map absE = M') (h4 : OnceA M' n) : Pair W w' b rb n A M' X ∧ SameK X w w' := by
  have hf : ∀ k, k < w.heap.size → FR rb v' R' k → FR rb v R k := by
    intro k hk hf
    rcases hf with rfl | e | ⟨x, hx, e⟩
    · exact .inl rfl
    · exact .inr (.inl (h2.foot k hk e))
    · exact .inr (.inr (h2.lfoot k hk x hx e))
  have hxl : ∀ k, X k → k < w.heap.size := fun k hk => Pair.xlt ⟨rbase, v, R, h⟩ hk
  have hsame : ∀ k, k < w.heap.size → ¬ FR rb v R k → w'.heap[k]? = w.heap[k]? := fun k hk hn => h2.block k hk (fun e => hn (.inl e)) (fun e => hn (.inr (.inl e)))
  have hlo := h.lo
  refine ⟨⟨rbase, v', R', h.st.turn2 h2.size (fun k hk hn => hsame k hk (fun q => hn (.inl q))) ?_ (fun k hk => ?_), h1, h3, fun k hk q => h.ap k hk (hf k (hxl k hk) q), h.lo, h4⟩, fun k hk => hsame k (hxl k hk) (h.ap k hk)⟩
  · refine h.st.bel.trans ⟨h2.os, h2.tape, h2.output, h2.size, fun k hk => hsame k (Nat.lt_of_lt_of_le hk h.st.bel.size) (fun q => ?_)⟩
    have := (h.rf.fr_lt q).1
    omega
  · rcases hk with hk | hk
    · exact ⟨(h1.fr_lt hk).2, fun q => .inl (hf k q hk)⟩
    · exact ⟨Nat.lt_of_lt_of_le (hxl k hk) h2.size, fun _ => .inr hk⟩
/-- A row beside both is written over. -/
theorem Pair.over {o : Option Nat} (h : Pair W w b rb n A M (fun k => X k ∨ o = some k)) (hg : w.grownBy w' o) (ho : ∀ k, o = some k → W.heap.size ≤ k) (hx : ∀ k, X k → o ≠ some k) : Pair W w' b rb n A M X ∧ SameK X w w' := by
  have hxl : ∀ k, X k → k < w.heap.size := fun k hk => Pair.xlt h (.inl hk)
  obtain ⟨rbase, v, R, h⟩ := h
  have hfr : ∀ k, FR rb v R k → w'.heap[k]? = w.heap[k]? := fun k hk => hg.block k (h.rf.fr_lt hk).2 (fun e => h.ap k (.inr e.symm) hk)
  refine ⟨⟨rbase, v, R, h.st.turn2 hg.size (fun k hk hn => hg.block k hk (fun e => hn (.inr (.inr e.symm)))) ?_ (fun k hk => ?_), h.rf.keep hg.size hfr, h.ab, fun k hk => h.ap k (.inl hk), h.lo, h.on⟩, fun k hk => hg.block k (hxl k hk) (fun e => hx k hk e.symm)⟩
  · refine h.st.bel.trans ⟨hg.os, hg.tape, hg.output, hg.size, fun k hk => hg.block k (Nat.lt_of_lt_of_le hk h.st.bel.size) (fun e => ?_)⟩
    have := ho k e.symm
    omega
  · rcases hk with hk | hk
    · exact ⟨Nat.lt_of_lt_of_le (h.rf.fr_lt hk).2 hg.size, fun _ => .inl hk⟩
    · exact ⟨Nat.lt_of_lt_of_le (hxl k hk) hg.size, fun _ => .inr (.inl hk)⟩
theorem Pair.addA (h : Pair W w b rb n A M X) (hn : n < 1000000) (id : Int) :
    Calls Try.prog 10 #[.pointer (some ⟨b, 0, none⟩), .int .i64 id] w fun e w' => e = .returned (.int .i64 (addR A id)) ∧ Pair W w' b rb (n + 1) (addL A id) M X ∧ SameK X w w' := by
  obtain ⟨rbase, v, R, h⟩ := h
  exact (h.st.add hn id).mono fun e w' ⟨he, h1, h2, h3⟩ => ⟨he, h.pack h1 h2 h3 (by omega)⟩
theorem Pair.waitA (h : Pair W w b rb n A M X) (hn : n < 1000000) (id t : Int) (s : Bool) :
    Calls Try.prog 16 #[.pointer (some ⟨b, 0, none⟩), .int .i64 id, .int .i64 t, .bool s] w fun e w' => e = .returned (.int .i64 (waitR A id t s)) ∧ Pair W w' b rb (n + 1) (waitL A id t s) M X ∧ SameK X w w' := by
  obtain ⟨rbase, v, R, h⟩ := h
  exact (h.st.wait hn id t s).mono fun e w' ⟨he, h1, h2, h3⟩ => ⟨he, h.pack h1 h2 h3 (by omega)⟩
theorem Pair.removeA (h : Pair W w b rb n A M X) (hn : n < 1000000) (t : Int) :
    Calls Try.prog 18 #[.pointer (some ⟨b, 0, none⟩), .int .i64 t] w fun e w' => e = .returned (.bool (decide (t ∈ whoA A))) ∧ Pair W w' b rb n (remL A t) M X ∧ SameK X w w' := by
  obtain ⟨rbase, v, R, h⟩ := h
  exact (h.st.remove hn t).mono fun e w' ⟨he, h1, h2, h3⟩ => ⟨he, h.pack h1 h2 h3 (Nat.le_refl _)⟩
theorem Pair.dropA (h : Pair W w b rb n A M X) (hn : n < 1000000) (id : Int) :
    Calls Try.prog 12 #[.pointer (some ⟨b, 0, none⟩), .int .i64 id] w fun e w' => ∃ r, e = .returned (.tuple #[r, .int .i64 (dropR A id)]) ∧ w'.ownsRow w.heap.size 3 1 r (listA A id).1.length ((listA A id).1.map (Value.int .i64)) ∧ Pair W w' b rb n (dropL A id) M (fun k => X k ∨ r.ownBlock = some k) ∧ SameK X w w' ∧ w.heap.size ≤ w'.heap.size := by
  obtain ⟨rbase, v, R, h⟩ := h
  refine (h.st.drop hn id).mono ?_
  rintro e w' ⟨r, he, hr, h1, h2, h3⟩
  refine ⟨r, he, hr, ⟨rbase, v, R, h1.sub (fun k hk => ?_), h.rf.keep h3 (fun k hk => h2 k (.inl hk)), h.ab, fun k hk hf => ?_, h.lo, h.on⟩, fun k hk => h2 k (.inr hk), h3⟩
  · rcases hk with hk | hk | hk
    · exact .inl (.inl hk)
    · exact .inl (.inr hk)
    · exact .inr hk
  · rcases hk with hk | hk
    · exact h.ap k hk hf
    · have := (hr.lt k hk).1; have := (h.rf.fr_lt hf).2; omega
theorem Pair.firstA' (h : Pair W w b rb n A M X) (hn : n < 1000000) (id : Int) :
    Calls Try.prog 20 #[.pointer (some ⟨b, 0, none⟩), .int .i64 id] w fun e w' => e = .returned (.tuple #[.int .i64 (firstA A id).1, .bool (firstA A id).2.1, .bool (firstA A id).2.2]) ∧ Below w.heap.size w w' := by
  obtain ⟨rbase, v, R, h⟩ := h
  exact (h.st.first hn id).mono fun e w' ⟨he, _, h2⟩ => ⟨he, h2⟩
theorem Pair.listA' (h : Pair W w b rb n A M X) (hn : n < 1000000) (id : Int) :
    Calls Try.prog 22 #[.pointer (some ⟨b, 0, none⟩), .int .i64 id] w fun e w' => ∃ r, e = .returned (.tuple #[r, .bool (listA A id).2]) ∧ w'.ownsRow w.heap.size 3 1 r (listA A id).1.length ((listA A id).1.map (Value.int .i64)) ∧ Below w.heap.size w w' := by
  obtain ⟨rbase, v, R, h⟩ := h
  exact (h.st.list hn id).mono fun e w' ⟨r, he, h1, _, h2⟩ => ⟨r, he, h1, h2⟩
theorem Pair.firstR (h : Pair W w b rb n A M X) (hn : n < 1000000) (id : Int) :
    Calls Try.prog 21 #[.pointer (some ⟨rb, 0, none⟩), .int .i64 id] w fun e w' => e = .returned (.tuple #[.int .i64 (firstA M id).1, .bool (firstA M id).2.1, .bool (firstA M id).2.2]) ∧ Below w.heap.size w w' := by
  obtain ⟨rbase, v, R, h⟩ := h
  have := h.ab
  subst this
  exact rfirst_any w rb rbase n v R id h.rf h.on hn
theorem Pair.listR (h : Pair W w b rb n A M X) (hn : n < 1000000) (id : Int) :
    Calls Try.prog 23 #[.pointer (some ⟨rb, 0, none⟩), .int .i64 id] w fun e w' => ∃ r B, e = .returned (.tuple #[r, .bool (listA M id).2]) ∧ w'.ownsRow B 3 1 r (listA M id).1.length ((listA M id).1.map (Value.int .i64)) ∧ Below w.heap.size w w' := by
  obtain ⟨rbase, v, R, h⟩ := h
  have := h.ab
  subst this
  exact (rlist_any w rb rbase n v R id h.rf h.on hn).mono fun e w' ⟨r, h1, h2, h3⟩ => ⟨r, rbase, h1, h2, h3⟩
end
section
variable {W w w' : World} {b rb n m : Nat} {A M : List EA} {X : Nat → Prop}
theorem Pair.dropR' (h : Pair W w b rb n A M X) (hn : n < 1000000) (id : Int) :
    Calls Try.prog 13 #[.pointer (some ⟨rb, 0, none⟩), .int .i64 id] w fun e w' => ∃ r B, e = .returned (.tuple #[r, .int .i64 (dropR M id)]) ∧ w'.ownsRow B 3 1 r (listA M id).1.length ((listA M id).1.map (Value.int .i64)) ∧ Pair W w' b rb n A (dropL M id) X ∧ SameK X w w' := by
  obtain ⟨rbase, v, R, h⟩ := h
  have := h.ab
  subst this
  exact (rdrop_any w rb rbase n v R id h.rf h.on hn).mono fun e w' ⟨r, h1, h2, u, R', h3, h4, h5⟩ => ⟨r, rbase, h1, h2, h.own h3 h4 h5 (h.on.drop id)⟩
theorem Pair.removeR (h : Pair W w b rb n A M X) (hn : n < 1000000) (t : Int) :
    Calls Try.prog 19 #[.pointer (some ⟨rb, 0, none⟩), .int .i64 t] w fun e w' => e = .returned (.bool (decide (t ∈ whoA M))) ∧ Pair W w' b rb n A (remL M t) X ∧ SameK X w w' := by
  obtain ⟨rbase, v, R, h⟩ := h
  have := h.ab
  subst this
  exact (rremove_any w rb rbase n v R t h.rf h.on hn).mono fun e w' ⟨h1, R', h3, h4, h5⟩ => ⟨h1, h.own h3 h4 h5 (h.on.rem t)⟩
theorem Pair.addRf (h : Pair W w b rb (n + 1) A M X) (h0 : OnceA M n) (hn : n < 1000000) (id : Int) :
    Calls Try.prog 11 #[.pointer (some ⟨rb, 0, none⟩), .int .i64 id] w fun e w' => e = .returned (.int .i64 (addR M id)) ∧ Pair W w' b rb (n + 1) A (addL M id) X ∧ SameK X w w' := by
  obtain ⟨rbase, v, R, h⟩ := h
  have := h.ab
  subst this
  exact (radd_any w rb rbase n v R id h.rf h0 hn).mono fun e w' ⟨h1, u, R', h3, h4, h5⟩ => ⟨h1, h.own h3 h4 h5 (by
    unfold addL
    split
    · rename_i e
      refine h0.add ?_
      unfold addR at e
      split at e
      · simp at e
      · cases hg : getA (R.map absE) id with
        | none => rfl
        | some y => rw [hg] at e; simp at e
    · exact h.on)⟩
theorem Pair.waitRf (h : Pair W w b rb (n + 1) A M X) (h0 : OnceA M n) (hn : n < 1000000) (id t : Int) (s : Bool) :
    Calls Try.prog 17 #[.pointer (some ⟨rb, 0, none⟩), .int .i64 id, .int .i64 t, .bool s] w fun e w' => e = .returned (.int .i64 (waitR M id t s)) ∧ Pair W w' b rb (n + 1) A (waitL M id t s) X ∧ SameK X w w' := by
  obtain ⟨rbase, v, R, h⟩ := h
  have := h.ab
  subst this
  by_cases hr : waitR (R.map absE) id t s = 0
  · refine (rwait_in w rb rbase n v R id t s h.rf h0 hn hr).mono fun e w' ⟨h1, R', h3, h4, h5⟩ => ⟨by rw [hr]; exact h1, h.own h3 h4 h5 ?_⟩
    unfold waitL
    rw [if_pos hr]
    refine h0.wait id t s (fun q => ?_)
    unfold waitR at hr
    cases hg : getA (R.map absE) id with
    | none => rw [hg] at hr; simp at hr
    | some y =>
      rw [hg] at hr
      simp only at hr
      by_cases ht : t < 1
      · rw [if_pos ht] at hr; simp at hr
      · rw [if_neg ht, if_pos q] at hr; simp at hr
  · refine (rwait_no w rb rbase n v R id t s h.rf h0 hn hr).mono fun e w' ⟨h1, h2⟩ => ⟨h1, ?_⟩
    have e0 : waitL (R.map absE) id t s = R.map absE := by unfold waitL; rw [if_neg hr]
    rw [e0]
    exact ⟨Pair.call ⟨rbase, v, R, h⟩ h2, fun k hk => h2.block k (Pair.xlt ⟨rbase, v, R, h⟩ hk)⟩
end
theorem Pair.tight {W w : World} {b rb n m : Nat} {A M : List EA} {X : Nat → Prop} (h : Pair W w b rb n A M X) (hm : n ≤ m) : Pair W w b rb m A M X := by
  obtain ⟨rbase, v, R, h⟩ := h
  obtain ⟨base, tv, L, hE, hA, hS⟩ := h.st.st
  exact ⟨rbase, v, R, ⟨⟨base, tv, L, hE, ⟨hA.perm, hA.once.le hm⟩, hS⟩, h.st.lo, h.st.bel⟩, h.rf, h.ab, h.ap, h.lo, h.on.le hm⟩
end Go.Proofs.Ytmbjaemflmbljaa
