/- chapter 17: the tree and its own answer side by side. -/
import Derived.Test.YtebgmphbkjpfcaaTrSj
namespace Go.Proofs.Ytebgmphbkjpfcaa
set_option linter.unusedVariables false
set_option linter.unusedSimpArgs false
open Go.ChangeShapes Go.WideShapes Go.ChangeAt Go.RowKit Go.Shelf

def RK (rb : Nat) (v : Value) (k : Nat) : Prop := k = rb ∨ KV v k
theorem RefT.kept {W W' : World} {rb : Nat} {v : Value} {l : List Nod} (h : RefT W rb v l) (hs : ∀ k, RK rb v k → W'.heap[k]? = W.heap[k]?) : RefT W' rb v l :=
  { h with
    blk := (hs rb (.inl rfl)).trans h.blk
    row := own_block h.row fun g hg => hs g (.inr hg) }
theorem foot_node {W : World} {B b m n : Nat} {ps : List Nat} {l : List Nod} {f : Int → Int → Option Nat} (h : TreeAt W B b m n ps l f) {k : Nat} (hk : foot b m ps k) {cs : Array Value} (hc : W.heap[k]? = some (.cells cs 49 (0, 0))) : False := by
  rcases hk with rfl | rfl | ⟨j, hj⟩
  · have := h.head.symm.trans hc
    unfold treeO at this
    injection this with e
    injection e with e1 e2 e3
    exact absurd e2 (by decide)
  · obtain ⟨es, clock, q⟩ := h.map.obj
    have := q.symm.trans hc
    injection this with e
    cases e
  · have hjl := (List.getElem?_eq_some_iff.1 hj).1
    rw [h.len] at hjl
    have := (h.row j k _ hj (List.getElem?_eq_getElem hjl)).symm.trans hc
    unfold placeO at this
    injection this with e
    injection e with e1 e2 e3
    exact absurd e2 (by decide)
/-- A block that holds no nodes. -/
def NoNode (W : World) (k : Nat) : Prop := ∀ cs, W.heap[k]? ≠ some (.cells cs 49 (0, 0))
/-- The tree holds l, the own answer l2, beside the blocks of S. -/
def PT (w0 W : World) (b m n rb : Nat) (l l2 : List Nod) (S : Nat → Prop) : Prop :=
  ∃ v, StK w0 b m n l (fun k => RK rb v k ∨ S k) W ∧ RefT W rb v l2 ∧ w0.heap.size ≤ rb ∧ ∀ k, S k → k ≠ rb ∧ v.ownBlock ≠ some k ∧ NoNode W k
theorem PT.lts {w0 W : World} {b m n rb : Nat} {S : Nat → Prop} {l l2 : List Nod} (h : PT w0 W b m n rb l l2 S) : rb < W.heap.size ∧ ∀ k, S k → k < W.heap.size := by
  obtain ⟨v, ⟨ps, f, hT, hB, hK⟩, _⟩ := h
  exact ⟨(hK rb (.inl (.inl rfl))).1, fun k e => (hK k (.inr e)).1⟩
theorem PT.call {w0 W W' : World} {b m n rb : Nat} {S : Nat → Prop} {l l2 : List Nod} (h : PT w0 W b m n rb l l2 S) (hb : Below W.heap.size W W') : PT w0 W' b m n rb l l2 S := by
  have hl := h.lts.2
  obtain ⟨v, h1, h2, h3, h4⟩ := h
  exact ⟨v, (h1.call hb).1, h2.call hb, h3, fun k e => ⟨(h4 k e).1, (h4 k e).2.1, fun cs q => (h4 k e).2.2 cs ((hb.block k (hl k e)).symm.trans q)⟩⟩
theorem PT.mono {w0 W : World} {b m n n' rb : Nat} {S : Nat → Prop} {l l2 : List Nod} (h : PT w0 W b m n rb l l2 S) (hn : n ≤ n') : PT w0 W b m n' rb l l2 S := by
  obtain ⟨v, h1, h2, h3, h4⟩ := h
  exact ⟨v, h1.mono hn, h2, h3, h4⟩
theorem PT.weak {w0 W : World} {b m n rb : Nat} {S S' : Nat → Prop} {l l2 : List Nod} (h : PT w0 W b m n rb l l2 S) (hn : ∀ k, S' k → S k) : PT w0 W b m n rb l l2 S' := by
  obtain ⟨v, h1, h2, h3, h4⟩ := h
  exact ⟨v, h1.weak (fun k e => e.imp id (hn k)), h2, h3, fun k e => h4 k (hn k e)⟩
theorem PT.st {w0 W : World} {b m n rb : Nat} {S : Nat → Prop} {l l2 : List Nod} (h : PT w0 W b m n rb l l2 S) : St w0 b m n l W := by
  obtain ⟨v, h1, _⟩ := h
  exact h1.st
theorem PT.len {w0 W : World} {b m n rb : Nat} {S : Nat → Prop} {l l2 : List Nod} (h : PT w0 W b m n rb l l2 S) : l.length ≤ n ∧ (∀ x ∈ l, x.d ≤ n) ∧ Once l := by
  obtain ⟨ps, f, hT, hB⟩ := h.st
  refine ⟨hT.le, fun x hx => ?_, hT.slots⟩
  obtain ⟨k, hk⟩ := List.getElem?_of_mem hx
  exact (hT.ins k x hk).2.2.2
/-- Another block beside them. -/
theorem PT.beside {w0 W W' : World} {b m n rb s' : Nat} {S : Nat → Prop} {l l2 : List Nod} (h : PT w0 W b m n rb l l2 S) (hb : Below W.heap.size W W') (h1 : W.heap.size ≤ s') (h2 : s' < W'.heap.size) (hn : NoNode W' s') : PT w0 W' b m n rb l l2 (fun k => S k ∨ k = s') := by
  have hlt := h.lts
  obtain ⟨v, ⟨ps, f, hT, hB, hK⟩, hR, h3, h4⟩ := h
  refine ⟨v, ⟨ps, f, hT.call hb, hB.trans (hb.mono hB.size), fun k e => ?_⟩, hR.call hb, h3, fun k e => ?_⟩
  · rcases e with e | e | rfl
    · exact ⟨Nat.lt_of_lt_of_le (hK k (.inl e)).1 hb.size, (hK k (.inl e)).2⟩
    · exact ⟨Nat.lt_of_lt_of_le (hK k (.inr e)).1 hb.size, (hK k (.inr e)).2⟩
    · exact ⟨h2, fun q => by have := hT.lt q; omega⟩
  · rcases e with e | rfl
    · exact ⟨(h4 k e).1, (h4 k e).2.1, fun cs q => (h4 k e).2.2 cs ((hb.block k (hlt.2 k e)).symm.trans q)⟩
    · exact ⟨by omega, fun e => by have := (hR.row.lt _ e).2; omega, hn⟩
theorem PT.tree {w0 W : World} {b m n n' rb : Nat} {S : Nat → Prop} {l l2 l' : List Nod} {F : FuncId} {args : Array Value} {r : Value} (h : PT w0 W b m n rb l l2 S)
    (hc : ∀ K, StK w0 b m n l K W → Calls Try.prog F args W fun e w' => e = .returned r ∧ StK w0 b m n' l' K w' ∧ SameK K W w') :
    Calls Try.prog F args W fun e w' => e = .returned r ∧ PT w0 w' b m n' rb l' l2 S ∧ SameK S W w' := by
  obtain ⟨v, h1, h2, h3, h4⟩ := h
  refine (hc _ h1).mono ?_
  rintro e w' ⟨he, hS, hK⟩
  exact ⟨he, ⟨v, hS, h2.kept fun k e => hK k (.inl e), h3, fun k e => ⟨(h4 k e).1, (h4 k e).2.1, fun cs q => (h4 k e).2.2 cs ((hK k (.inr e)).symm.trans q)⟩⟩, fun k e => hK k (.inr e)⟩
theorem PT.ref {w0 W : World} {b m n rb : Nat} {S : Nat → Prop} {l l2 l2' : List Nod} {F : FuncId} {args : Array Value} {r : Value} (h : PT w0 W b m n rb l l2 S)
    (hc : ∀ v, RefT W rb v l2 → Calls Try.prog F args W fun e w' => e = .returned r ∧ (∃ u, RefT w' rb u l2') ∧ OnlyR rb W w') :
    Calls Try.prog F args W fun e w' => e = .returned r ∧ PT w0 w' b m n rb l l2' S ∧ SameK S W w' := by
  obtain ⟨v, ⟨ps, f, hT, hB, hK⟩, h2, h3, h4⟩ := h
  refine (hc _ h2).mono ?_
  rintro e w' ⟨he, ⟨u, hu⟩, hO⟩
  have hrf := (hK rb (.inl (.inl rfl)))
  have es : SameK S W w' := fun s e => hO.block s (hK s (.inr e)).1 (h4 s e).1
  have hT' : TreeAt w' w0.heap.size b m n ps l f := hT.of_blocks fun k hk => hO.block k (hT.lt hk) (fun e => hrf.2 (e ▸ hk))
  have hB' : Below w0.heap.size w0 w' := ⟨hO.os.trans hB.os, hO.tape.trans hB.tape, hO.output.trans hB.output, Nat.le_trans hB.size hO.size, fun k hk => (hO.block k (Nat.lt_of_lt_of_le hk hB.size) (by omega)).trans (hB.block k hk)⟩
  have hnode : ∀ g, u.ownBlock = some g → ∃ cs, w'.heap[g]? = some (.cells cs 49 (0, 0)) := by
    intro g e
    rcases hu.row.2 with ⟨rfl, _⟩ | ⟨g', cap, cur, rfl, _, hc, _⟩
    · cases e
    · cases e
      exact ⟨_, hc⟩
  refine ⟨he, ⟨u, ⟨ps, f, hT', hB', fun k e => ?_⟩, hu, h3, fun k e => ⟨(h4 k e).1, fun q => ?_, fun cs q => (h4 k e).2.2 cs ((es k e).symm.trans q)⟩⟩, es⟩
  · rcases e with (rfl | e) | e
    · exact ⟨Nat.lt_of_lt_of_le hrf.1 hO.size, hrf.2⟩
    · refine ⟨(hu.row.lt k e).2, fun q => ?_⟩
      obtain ⟨cs, hc⟩ := hnode k e
      exact foot_node hT' q hc
    · exact ⟨Nat.lt_of_lt_of_le (hK k (.inr e)).1 hO.size, (hK k (.inr e)).2⟩
  · obtain ⟨cs, hc⟩ := hnode k q
    exact (h4 k e).2.2 cs ((es k e).symm.trans hc)
theorem num_any (w : World) (r : Int) : Calls Try.prog 33 #[.int .i64 r] w fun e w' => e = .returned (.int .i64 r) ∧ w = w' := by
  go_enter Try.func33, Try.ntmps33
  go_wp2
  go_ret
  exact ⟨rfl, rfl⟩
end Go.Proofs.Ytebgmphbkjpfcaa
