/- package ends: blocks beside its own. -/
import Derived.Test.YtmbjaemflmbljaaEnB
namespace Go.Proofs.Ytmbjaemflmbljaa
set_option linter.unusedVariables false
set_option linter.unusedSimpArgs false
open Go.ChangeShapes Go.WideShapes Go.ChangeAt Go.RowKit Go.Shelf
open TabE

/-- The endpoints of block b, and blocks beside them. -/
structure StS (W w : World) (b n : Nat) (A : List EA) (S : Nat → Prop) : Prop where
  st : ∃ base tv L, EndsAt w b base tv L ∧ AbsE L A n ∧ ∀ k, S k → k < w.heap.size ∧ k ≠ b ∧ tv.ownBlock ≠ some k ∧ ∀ x ∈ L, x.v.ownBlock ≠ some k
  lo : W.heap.size ≤ b
  bel : Below W.heap.size W w
def SameK (S : Nat → Prop) (w w' : World) : Prop := ∀ k, S k → w'.heap[k]? = w.heap[k]?
theorem StE.beside {W w w' : World} {b n : Nat} {A : List EA} (h : StE W w b n A) (hb : Below w.heap.size w w') : StS W w' b n A (fun k => w.heap.size ≤ k ∧ k < w'.heap.size) := by
  obtain ⟨base, tv, L, hE, hA⟩ := h.st
  have h1 := hE.lt
  exact ⟨⟨base, tv, L, hE.call hb, hA, fun k hk => ⟨hk.2, by omega, fun e => by have := (hE.tab.own e).2; omega, fun x hx e => by have := ((hE.own x hx).lt k e).2; omega⟩⟩, h.lo, h.bel.trans (hb.mono h.bel.size)⟩
theorem StS.ste {W w : World} {b n : Nat} {A : List EA} {S : Nat → Prop} (h : StS W w b n A S) : StE W w b n A := by
  obtain ⟨base, tv, L, hE, hA, _⟩ := h.st
  exact ⟨⟨base, tv, L, hE, hA⟩, h.lo, h.bel⟩
theorem StS.call {W w w' : World} {b n : Nat} {A : List EA} {S : Nat → Prop} (h : StS W w b n A S) (hb : Below w.heap.size w w') : StS W w' b n A S := by
  obtain ⟨base, tv, L, hE, hA, hS⟩ := h.st
  exact ⟨⟨base, tv, L, hE.call hb, hA, fun k hk => ⟨Nat.lt_of_lt_of_le (hS k hk).1 hb.size, (hS k hk).2⟩⟩, h.lo, h.bel.trans (hb.mono h.bel.size)⟩
theorem StS.sub {W w : World} {b n : Nat} {A : List EA} {S S' : Nat → Prop} (h : StS W w b n A S) (hs : ∀ k, S' k → S k) : StS W w b n A S' := by
  obtain ⟨base, tv, L, hE, hA, hS⟩ := h.st
  exact ⟨⟨base, tv, L, hE, hA, fun k hk => hS k (hs k hk)⟩, h.lo, h.bel⟩
/-- More blocks beside: made since. -/
theorem StS.more {W w w' : World} {b n : Nat} {A : List EA} {S : Nat → Prop} (h : StS W w b n A S) (hb : Below w.heap.size w w') : StS W w' b n A (fun k => S k ∨ w.heap.size ≤ k ∧ k < w'.heap.size) := by
  obtain ⟨base, tv, L, hE, hA, hS⟩ := h.st
  have h1 := hE.lt
  refine ⟨⟨base, tv, L, hE.call hb, hA, fun k hk => ?_⟩, h.lo, h.bel.trans (hb.mono h.bel.size)⟩
  rcases hk with hk | hk
  · exact ⟨Nat.lt_of_lt_of_le (hS k hk).1 hb.size, (hS k hk).2⟩
  · exact ⟨hk.2, by omega, fun e => by have := (hE.tab.own e).2; omega, fun x hx e => by have := ((hE.own x hx).lt k e).2; omega⟩
/-- A world that is turned beside the endpoints' blocks alone. -/
theorem StS.turn {W w w' : World} {b n : Nat} {A : List EA} {S : Nat → Prop} (h : StS W w b n A S) (hs : w.heap.size ≤ w'.heap.size) (hb : ∀ k, k < w.heap.size → ¬ S k → w'.heap[k]? = w.heap[k]?) (hB : Below W.heap.size W w') : StS W w' b n A S := by
  obtain ⟨base, tv, L, hE, hA, hS⟩ := h.st
  have nb : ¬ S b := fun q => (hS b q).2.1 rfl
  have nt : ∀ k, tv.ownBlock = some k → ¬ S k := fun k e q => (hS k q).2.2.1 e
  have nl : ∀ x ∈ L, ∀ k, x.v.ownBlock = some k → ¬ S k := fun x hx k e q => (hS k q).2.2.2 x hx e
  have e0 := hb b hE.lt nb
  exact ⟨⟨base, tv, L, ⟨hE.tab.of hs (World.cell?_of_block e0) (World.frozen?_of_block e0) (fun k e => hb k (hE.tab.own e).2 (nt k e)), fun x hx => row_of_block (hE.own x hx) (fun k e => hb k ((hE.own x hx).lt k e).2 (nl x hx k e)), hE.ap, hE.nt⟩, hA, fun k hk => ⟨Nat.lt_of_lt_of_le (hS k hk).1 hs, (hS k hk).2⟩⟩, h.lo, hB⟩
theorem stS_act {W w w' : World} {b base n' : Nat} {tv tv' : Value} {L L' : List En} {A' : List EA} {S : Nat → Prop} (hE : EndsAt w b base tv L) (h1 : W.heap.size ≤ b) (h2 : Below W.heap.size W w) (hS : ∀ k, S k → k < w.heap.size ∧ k ≠ b ∧ tv.ownBlock ≠ some k ∧ ∀ x ∈ L, x.v.ownBlock ≠ some k)
    (hE' : EndsAt w' b base tv' L') (hA' : AbsE L' A' n') (hO : EOnly w w' b tv tv' L L') : StS W w' b n' A' S ∧ SameK S w w' := by
  have hf : ∀ k, S k → (tv'.ownBlock = some k ∨ ∃ x ∈ L', x.v.ownBlock = some k) → False := fun k hk e => by
    obtain ⟨q1, q2, q3, q4⟩ := hS k hk
    rcases hO.foot k q1 e with q | ⟨x, hx, q⟩
    · exact q3 q
    · exact q4 x hx q
  refine ⟨⟨⟨base, tv', L', hE', hA', fun k hk => ⟨Nat.lt_of_lt_of_le (hS k hk).1 hO.size, (hS k hk).2.1, fun e => hf k hk (.inl e), fun x hx e => hf k hk (.inr ⟨x, hx, e⟩)⟩⟩, h1, h2.trans (hO.below hE h1)⟩, fun k hk => hO.block k (hS k hk).1 (hS k hk).2.1 (hS k hk).2.2.1 (hS k hk).2.2.2⟩
section
variable {W w : World} {b n : Nat} {A : List EA} {S : Nat → Prop}
theorem StS.list (h : StS W w b n A S) (hn : n < 1000000) (id : Int) :
    Calls Try.prog 22 #[.pointer (some ⟨b, 0, none⟩), .int .i64 id] w fun e w' => ∃ r, e = .returned (.tuple #[r, .bool (listA A id).2]) ∧ w'.ownsRow w.heap.size 3 1 r (listA A id).1.length ((listA A id).1.map (Value.int .i64)) ∧ StS W w' b n A S ∧ Below w.heap.size w w' := by
  obtain ⟨base, tv, L, hE, hA, hS⟩ := h.st
  exact (list_A w b base tv L A n id hE hA hn).mono fun e w' ⟨r, h1, h2, h3⟩ => ⟨r, h1, h2, h.call h3, h3⟩
theorem StS.first (h : StS W w b n A S) (hn : n < 1000000) (id : Int) :
    Calls Try.prog 20 #[.pointer (some ⟨b, 0, none⟩), .int .i64 id] w fun e w' => e = .returned (.tuple #[.int .i64 (firstA A id).1, .bool (firstA A id).2.1, .bool (firstA A id).2.2]) ∧ StS W w' b n A S ∧ Below w.heap.size w w' := by
  obtain ⟨base, tv, L, hE, hA, hS⟩ := h.st
  exact (first_A w b base tv L A n id hE hA hn).mono fun e w' ⟨h1, h3⟩ => ⟨h1, h.call h3, h3⟩
theorem StS.wait (h : StS W w b n A S) (hn : n < 1000000) (id t : Int) (s : Bool) :
    Calls Try.prog 16 #[.pointer (some ⟨b, 0, none⟩), .int .i64 id, .int .i64 t, .bool s] w fun e w' => e = .returned (.int .i64 (waitR A id t s)) ∧ StS W w' b (n + 1) (waitL A id t s) S ∧ SameK S w w' ∧ w.heap.size ≤ w'.heap.size := by
  obtain ⟨base, tv, L, hE, hA, hS⟩ := h.st
  exact (wait_A w b base tv L A n id t s hE hA hn).mono fun e w' ⟨h1, L', h2, h3, h4⟩ => ⟨h1, (stS_act hE h.lo h.bel hS h2 h3 h4).1, (stS_act hE h.lo h.bel hS h2 h3 h4).2, h4.size⟩
theorem StS.remove (h : StS W w b n A S) (hn : n < 1000000) (t : Int) :
    Calls Try.prog 18 #[.pointer (some ⟨b, 0, none⟩), .int .i64 t] w fun e w' => e = .returned (.bool (decide (t ∈ whoA A))) ∧ StS W w' b n (remL A t) S ∧ SameK S w w' ∧ w.heap.size ≤ w'.heap.size := by
  obtain ⟨base, tv, L, hE, hA, hS⟩ := h.st
  exact (remove_A w b base tv L A n t hE hA hn).mono fun e w' ⟨h1, L', h2, h3, h4⟩ => ⟨h1, (stS_act hE h.lo h.bel hS h2 h3 h4).1, (stS_act hE h.lo h.bel hS h2 h3 h4).2, h4.size⟩
theorem StS.add (h : StS W w b n A S) (hn : n < 1000000) (id : Int) :
    Calls Try.prog 10 #[.pointer (some ⟨b, 0, none⟩), .int .i64 id] w fun e w' => e = .returned (.int .i64 (addR A id)) ∧ StS W w' b (n + 1) (addL A id) S ∧ SameK S w w' ∧ w.heap.size ≤ w'.heap.size := by
  obtain ⟨base, tv, L, hE, hA, hS⟩ := h.st
  exact (add_A w b base tv L A n id hE hA hn).mono fun e w' ⟨h1, tv', L', h2, h3, h4⟩ => ⟨h1, (stS_act hE h.lo h.bel hS h2 h3 h4).1, (stS_act hE h.lo h.bel hS h2 h3 h4).2, h4.size⟩
theorem StS.drop (h : StS W w b n A S) (hn : n < 1000000) (id : Int) :
    Calls Try.prog 12 #[.pointer (some ⟨b, 0, none⟩), .int .i64 id] w fun e w' => ∃ r, e = .returned (.tuple #[r, .int .i64 (dropR A id)]) ∧ w'.ownsRow w.heap.size 3 1 r (listA A id).1.length ((listA A id).1.map (Value.int .i64)) ∧ StS W w' b n (dropL A id) (fun k => S k ∨ r.ownBlock = some k) ∧ SameK S w w' ∧ w.heap.size ≤ w'.heap.size := by
  obtain ⟨base, tv, L, hE, hA, hS⟩ := h.st
  refine (drop_A w b base tv L A n id hE hA hn).mono ?_
  rintro e w' ⟨r, tv', L', h1, h5, h2, h3, h4, h6⟩
  obtain ⟨q1, q2⟩ := stS_act hE h.lo h.bel hS h2 h3 h4
  refine ⟨r, h1, h5, ⟨⟨base, tv', L', h2, h3, fun k hk => ?_⟩, q1.lo, q1.bel⟩, q2, h4.size⟩
  rcases hk with hk | hk
  · refine ⟨Nat.lt_of_lt_of_le (hS k hk).1 h4.size, (hS k hk).2.1, fun e => ?_, fun x hx e => ?_⟩
    · rcases h4.foot k (hS k hk).1 (.inl e) with q | ⟨x, hx, q⟩
      · exact (hS k hk).2.2.1 q
      · exact (hS k hk).2.2.2 x hx q
    · rcases h4.foot k (hS k hk).1 (.inr ⟨x, hx, e⟩) with q | ⟨x, hx, q⟩
      · exact (hS k hk).2.2.1 q
      · exact (hS k hk).2.2.2 x hx q
  · have h7 := h5.lt k hk
    have h8 := hE.lt
    exact ⟨h7.2, by omega, (h6 k hk).1, (h6 k hk).2⟩
end
end Go.Proofs.Ytmbjaemflmbljaa
