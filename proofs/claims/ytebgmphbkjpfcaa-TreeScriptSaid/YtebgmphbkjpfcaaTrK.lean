/- a tree and what lies beside it; TreeSwapped. -/
import Derived.Test.YtebgmphbkjpfcaaTrJ
namespace Go.Proofs.Ytebgmphbkjpfcaa
set_option linter.unusedVariables false
set_option linter.unusedSimpArgs false
open Go.ChangeShapes Go.WideShapes Go.ChangeAt Go.RowKit Go.Shelf

/-- A tree made behind w0 that holds l, and blocks beside it. -/
def StK (w0 : World) (b m n : Nat) (l : List Nod) (K : Nat → Prop) (W : World) : Prop :=
  ∃ ps f, TreeAt W w0.heap.size b m n ps l f ∧ Below w0.heap.size w0 W ∧ ∀ k, K k → k < W.heap.size ∧ ¬ foot b m ps k
def SameK (K : Nat → Prop) (W W' : World) : Prop := ∀ k, K k → W'.heap[k]? = W.heap[k]?
def KV (v : Value) (k : Nat) : Prop := v.ownBlock = some k
theorem St.k {w0 W : World} {b m n : Nat} {l : List Nod} (h : St w0 b m n l W) : StK w0 b m n l (fun _ => False) W := by
  obtain ⟨ps, f, hT, hB⟩ := h
  exact ⟨ps, f, hT, hB, fun k e => e.elim⟩
theorem StK.st {w0 W : World} {b m n : Nat} {l : List Nod} {K : Nat → Prop} (h : StK w0 b m n l K W) : St w0 b m n l W := by
  obtain ⟨ps, f, hT, hB, _⟩ := h
  exact ⟨ps, f, hT, hB⟩
theorem StK.below {w0 W : World} {b m n : Nat} {l : List Nod} {K : Nat → Prop} (h : StK w0 b m n l K W) : Below w0.heap.size w0 W := h.st.below
theorem StK.call {w0 W W' : World} {b m n : Nat} {l : List Nod} {K : Nat → Prop} (h : StK w0 b m n l K W) (hb : Below W.heap.size W W') : StK w0 b m n l K W' ∧ SameK K W W' := by
  obtain ⟨ps, f, hT, hB, hK⟩ := h
  exact ⟨⟨ps, f, hT.call hb, hB.trans (hb.mono hB.size), fun k e => ⟨Nat.lt_of_lt_of_le (hK k e).1 hb.size, (hK k e).2⟩⟩, fun k e => hb.block k (hK k e).1⟩
theorem StK.left {w0 W W' : World} {b m n n' : Nat} {ps : List Nat} {l l' : List Nod} {f : Int → Int → Option Nat} {K : Nat → Prop} (hT : TreeAt W w0.heap.size b m n ps l f) (hB : Below w0.heap.size w0 W) (hK : ∀ k, K k → k < W.heap.size ∧ ¬ foot b m ps k) (hL : Left W W' w0.heap.size b m n' ps l') : StK w0 b m n' l' K W' ∧ SameK K W W' := by
  obtain ⟨ps', f', hT', hO⟩ := hL
  exact ⟨⟨ps', f', hT', hB.trans (hO.below hT hB.size), fun k e => ⟨Nat.lt_of_lt_of_le (hK k e).1 hO.size, fun q => (hK k e).2 (hO.foot k (hK k e).1 q)⟩⟩, fun k e => hO.block k (hK k e).1 (hK k e).2⟩
theorem StK.more {w0 W : World} {b m n k : Nat} {l : List Nod} {K : Nat → Prop} (h : StK w0 b m n l K W) (hk : W.heap.size ≤ k) {W' : World} (hb : Below W.heap.size W W') (hl : k < W'.heap.size) : StK w0 b m n l (fun j => K j ∨ j = k) W' := by
  obtain ⟨ps, f, hT, hB, hK⟩ := h
  refine ⟨ps, f, hT.call hb, hB.trans (hb.mono hB.size), fun j e => ?_⟩
  rcases e with e | rfl
  · exact ⟨Nat.lt_of_lt_of_le (hK j e).1 hb.size, (hK j e).2⟩
  · exact ⟨hl, fun q => by have := hT.lt q; omega⟩
theorem StK.swap {w0 W : World} {b m n : Nat} {l : List Nod} {K : Nat → Prop} {o i p j : Int} (h : StK w0 b m n l K W) (ho : InS o) (hi : InS i) (hp : InS p) (hj : InS j) (hn : n < 1000000) :
    Calls Try.prog 28 #[.pointer (some ⟨b, 0, none⟩), slV o i, slV p j] W fun e w' => e = .returned (.int .i64 0) ∧ StK w0 b m (n + 1 + 1) (swapA l o i p j) K w' ∧ SameK K W w' := by
  obtain ⟨ps, f, hT, hB, hK⟩ := h
  exact (swap_any W _ b m n ps l f o i p j ho hi hp hj hT hn).mono fun e w' ⟨he, hL⟩ => ⟨he, StK.left hT hB hK hL⟩
theorem StK.move {w0 W : World} {b m n : Nat} {l : List Nod} {K : Nat → Prop} {o i p j : Int} (h : StK w0 b m n l K W) (ho : InS o) (hi : InS i) (hp : InS p) (hj : InS j) (hn : n < 1000000) :
    Calls Try.prog 29 #[.pointer (some ⟨b, 0, none⟩), slV o i, slV p j] W fun e w' => e = .returned (.int .i64 (moveA l o i p j).2) ∧ StK w0 b m (n + 1 + 1) (moveA l o i p j).1 K w' ∧ SameK K W w' := by
  obtain ⟨ps, f, hT, hB, hK⟩ := h
  exact (move_any W _ b m n ps l f o i p j ho hi hp hj hT hn).mono fun e w' ⟨he, hL⟩ => ⟨he, StK.left hT hB hK hL⟩
theorem StK.remove {w0 W : World} {b m n : Nat} {l : List Nod} {K : Nat → Prop} {o i : Int} (h : StK w0 b m n l K W) (ho : InS o) (hi : InS i) (hn : n < 1000000) :
    Calls Try.prog 26 #[.pointer (some ⟨b, 0, none⟩), slV o i] W fun e w' => e = .returned (.int .i64 (removeA l o i).2) ∧ StK w0 b m (n + 1) (removeA l o i).1 K w' ∧ SameK K W w' := by
  obtain ⟨ps, f, hT, hB, hK⟩ := h
  exact (remove_any W _ b m n ps l f o i ho hi hT hn).mono fun e w' ⟨he, hL⟩ => ⟨he, StK.left hT hB hK hL⟩
theorem StK.root {w0 W : World} {b m n : Nat} {l : List Nod} {K : Nat → Prop} {o i : Int} (h : StK w0 b m n l K W) (ho : InS o) (hi : InS i) (hn : n < 1000000) :
    Calls Try.prog 30 #[.pointer (some ⟨b, 0, none⟩), slV o i] W fun e w' => e = .returned (.int .i64 (rootA l o i).2) ∧ StK w0 b m (n + 1) (rootA l o i).1 K w' ∧ SameK K W w' := by
  obtain ⟨ps, f, hT, hB, hK⟩ := h
  exact (root_any W _ b m n ps l f o i ho hi hT (by unfold maxLen; omega) hB.size).mono fun e w' ⟨he, hL⟩ => ⟨he, StK.left hT hB hK hL⟩
theorem StK.child {w0 W : World} {b m n : Nat} {l : List Nod} {K : Nat → Prop} {o i p j : Int} (h : StK w0 b m n l K W) (ho : InS o) (hi : InS i) (hp : InS p) (hj : InS j) (hn : n < 1000000) :
    Calls Try.prog 31 #[.pointer (some ⟨b, 0, none⟩), slV o i, slV p j] W fun e w' => e = .returned (.int .i64 (childA l o i p j).2) ∧ StK w0 b m (n + 1) (childA l o i p j).1 K w' ∧ SameK K W w' := by
  obtain ⟨ps, f, hT, hB, hK⟩ := h
  exact (child_any W _ b m n ps l f o i p j ho hi hp hj hT hn hB.size).mono fun e w' ⟨he, hL⟩ => ⟨he, StK.left hT hB hK hL⟩
theorem StK.all {w0 W : World} {b m n : Nat} {l : List Nod} {K : Nat → Prop} (h : StK w0 b m n l K W) (hn : n < 1000000) :
    Calls Try.prog 16 #[.pointer (some ⟨b, 0, none⟩)] W fun e w' => ∃ v, e = .returned v ∧ NodesAt w' v l ∧ StK w0 b m n l (fun k => K k ∨ KV v k) w' ∧ SameK K W w' ∧ Below W.heap.size W w' := by
  refine (h.st.all hn).mono ?_
  rintro e w' ⟨v, rfl, hr, hb⟩
  have hlt := hr.lt
  refine ⟨v, rfl, nodes_row hr, ?_, (h.call hb).2, hb⟩
  obtain ⟨ps, f, hT, hB, hK⟩ := h
  refine ⟨ps, f, hT.call hb, hB.trans (hb.mono hB.size), fun k e => ?_⟩
  rcases e with e | e
  · exact ⟨Nat.lt_of_lt_of_le (hK k e).1 hb.size, (hK k e).2⟩
  · exact ⟨(hlt k e).2, fun q => by have := hT.lt q; have := (hlt k e).1; omega⟩
theorem StK.weak {w0 W : World} {b m n : Nat} {l : List Nod} {K K' : Nat → Prop} (h : StK w0 b m n l K W) (hk : ∀ k, K' k → K k) : StK w0 b m n l K' W := by
  obtain ⟨ps, f, hT, hB, hK⟩ := h
  exact ⟨ps, f, hT, hB, fun k e => hK k (hk k e)⟩
theorem StK.mono {w0 W : World} {b m n n' : Nat} {l : List Nod} {K : Nat → Prop} (h : StK w0 b m n l K W) (hn : n ≤ n') : StK w0 b m n' l K W := by
  obtain ⟨ps, f, hT, hB, hK⟩ := h
  exact ⟨ps, f, hT.mono hn, hB, hK⟩
theorem NodesAt.same {W W' : World} {v : Value} {l : List Nod} {K : Nat → Prop} (h : NodesAt W v l) (hs : SameK K W W') (hk : ∀ k, KV v k → K k) (hz : W.heap.size ≤ W'.heap.size) : NodesAt W' v l := by
  rcases h with h | ⟨g, c, rfl, hg, hc⟩
  · exact .inl h
  · have hb := hs g (hk g rfl)
    have q : ∀ k, W'.cell? ⟨g, k, none⟩ = W.cell? ⟨g, k, none⟩ := fun k => by unfold World.cell?; simp only [hb]
    refine .inr ⟨g, c, rfl, by omega, fun k x hx => ?_⟩
    obtain ⟨a1, a2, a3⟩ := hc k x hx
    exact ⟨(q _).trans a1, (q _).trans a2, (q _).trans a3⟩
theorem sw_sw (o i p j : Int) (x : Nod) : sw o i p j (sw o i p j x) = x := by
  obtain ⟨xo, xi, xd⟩ := x
  by_cases h1 : xo = o ∧ xi = i
  · rw [show sw o i p j ⟨xo, xi, xd⟩ = ⟨p, j, xd⟩ from by unfold sw; rw [if_pos h1]]
    unfold sw
    simp only
    split
    · rename_i h; rw [h.1, h.2, h1.1, h1.2]
    · rw [if_pos (by simp), h1.1, h1.2]
  · by_cases h2 : xo = p ∧ xi = j
    · rw [show sw o i p j ⟨xo, xi, xd⟩ = ⟨o, i, xd⟩ from by unfold sw; rw [if_neg h1, if_pos h2]]
      unfold sw
      rw [if_pos ⟨rfl, rfl⟩, h2.1, h2.2]
    · have e : sw o i p j ⟨xo, xi, xd⟩ = ⟨xo, xi, xd⟩ := by unfold sw; rw [if_neg h1, if_neg h2]
      rw [e, e]
theorem sw_comm (o i p j : Int) (x : Nod) : sw p j o i x = sw o i p j x := by
  obtain ⟨xo, xi, xd⟩ := x
  unfold sw
  simp only
  repeat' split
  all_goals (try simp only [Nod.mk.injEq, and_true])
  all_goals omega
theorem swapA_twice (l : List Nod) (o i p j : Int) : swapA (swapA l o i p j) o i p j = l := by
  unfold swapA
  rw [List.map_map]
  have : sw o i p j ∘ sw o i p j = id := by funext x; exact sw_sw o i p j x
  rw [this, List.map_id]
theorem swapA_comm (l : List Nod) (o i p j : Int) : swapA l p j o i = swapA l o i p j := by
  unfold swapA
  have : sw p j o i = sw o i p j := by funext x; exact sw_comm o i p j x
  rw [this]
theorem idx_iff (l : List Nod) (o i : Int) : (idx l o i).isSome = true ↔ ∃ x ∈ l, x.o = o ∧ x.i = i := by
  cases h : idx l o i with
  | none =>
    simp only [Option.isSome_none, Bool.false_eq_true, false_iff]
    rintro ⟨x, hx, e⟩
    obtain ⟨k, hk⟩ := List.getElem?_of_mem hx
    exact idx_none h hk e
  | some k =>
    obtain ⟨x, hx, e⟩ := idx_some h
    simp only [Option.isSome_some, true_iff]
    exact ⟨x, List.mem_of_getElem? hx, e⟩
theorem idx_swap {l : List Nod} {o i p j : Int} : (idx (swapA l o i p j) o i).isSome = (idx l p j).isSome ∧ (idx (swapA l o i p j) p j).isSome = (idx l o i).isSome := by
  have key : ∀ a c, (idx (swapA l o i p j) a c).isSome = true ↔ (idx l (sw o i p j ⟨a, c, 0⟩).o (sw o i p j ⟨a, c, 0⟩).i).isSome = true := by
    intro a c
    rw [idx_iff, idx_iff]
    unfold swapA
    constructor
    · rintro ⟨y, hy, e⟩
      obtain ⟨x, hx, rfl⟩ := List.mem_map.1 hy
      exact ⟨x, hx, (sw_slot o i p j x a c).1 e⟩
    · rintro ⟨x, hx, e⟩
      exact ⟨sw o i p j x, List.mem_map.2 ⟨x, hx, rfl⟩, (sw_slot o i p j x a c).2 e⟩
  have e1 := key o i
  have e2 := key p j
  have h1 : sw o i p j ⟨o, i, 0⟩ = ⟨p, j, 0⟩ := by unfold sw; rw [if_pos ⟨rfl, rfl⟩]
  have h2 : sw o i p j ⟨p, j, 0⟩ = ⟨o, i, 0⟩ := by
    unfold sw
    split
    · rename_i h; simp only at h; rw [h.1, h.2]
    · rw [if_pos ⟨rfl, rfl⟩]
  rw [h1] at e1
  rw [h2] at e2
  exact ⟨Bool.eq_iff_iff.2 e1, Bool.eq_iff_iff.2 e2⟩
theorem move_back {l : List Nod} {o i p j : Int} (h : (moveA l o i p j).2 = 0) : moveA (moveA l o i p j).1 p j o i = (l, 0) := by
  cases h1 : (idx l o i).isSome
  · unfold moveA at h; rw [h1] at h; simp at h
  · cases h2 : (idx l p j).isSome
    · have e : moveA l o i p j = (swapA l o i p j, 0) := by unfold moveA; rw [h1, h2]; simp
      rw [e]
      unfold moveA
      obtain ⟨a, c⟩ := idx_swap (l := l) (o := o) (i := i) (p := p) (j := j)
      simp only [a, c, h1, h2, if_true, Bool.false_eq_true, if_false]
      rw [swapA_comm, swapA_twice]
    · unfold moveA at h; rw [h1, h2] at h; simp at h
theorem move_not {l : List Nod} {o i p j : Int} (h : (moveA l o i p j).2 ≠ 0) : (moveA l o i p j).1 = l := by
  unfold moveA at h ⊢
  cases h1 : (idx l o i).isSome
  · rfl
  · cases h2 : (idx l p j).isSome
    · rw [h1, h2] at h; simp at h
    · rfl
theorem St.len {w0 W : World} {b m n : Nat} {l : List Nod} (h : St w0 b m n l W) : l.length ≤ n := by
  obtain ⟨ps, f, hT, _⟩ := h
  exact hT.le
end Go.Proofs.Ytebgmphbkjpfcaa
