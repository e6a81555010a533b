/- TreeParents: a slot is below just its parent, its parent's parent, and so on. -/
import Derived.Test.YtebgmphbkjpfcaaTrZ
import Derived.Deep.RegionHeld3
import Derived.OwnWalk
namespace Go.Proofs.Ytebgmphbkjpfcaa
set_option linter.unusedVariables false
set_option linter.unusedSimpArgs false
open Go.ChangeShapes Go.WideShapes Go.ChangeAt Go.RowKit Go.Shelf

theorem St.belowf {w0 W : World} {b m n : Nat} {l : List Nod} {o i : Int} (h : St w0 b m n l W) (ho : InS o) (hi : InS i) (hn : n < 1000000) :
    Calls Try.prog 15 #[.pointer (some ⟨b, 0, none⟩), slV o i] W fun e w' => ∃ v, e = .returned v ∧ SlotsAt w' v (belowA l o i) ∧ Below W.heap.size W w' := by
  obtain ⟨ps, f, hT, hB⟩ := h
  refine (below_any W _ b m n ps l f o i ho hi hT hn).mono ?_
  rintro e w' ⟨v, he, hr, hb⟩
  exact ⟨v, he, slots_row hr, hb⟩
theorem St.parent {w0 W : World} {b m n : Nat} {l : List Nod} {o i : Int} (h : St w0 b m n l W) (ho : InS o) (hi : InS i) (hn : n < 1000000) :
    Calls Try.prog 13 #[.pointer (some ⟨b, 0, none⟩), slV o i] W fun e w' => e = .returned (parV (parentA l o i)) ∧ Below W.heap.size W w' := by
  obtain ⟨ps, f, hT, hB⟩ := h
  exact parent_any W _ b m n ps l f o i ho hi hT hn
/-- A slot's box. -/
structure Bx (W : World) (s : Nat) (o i : Int) : Prop where
  c0 : W.cell? ⟨s, 0, none⟩ = some (.int .i64 o)
  c1 : W.cell? ⟨s, 1, none⟩ = some (.int .i64 i)
  fz : ∀ k, W.frozen? ⟨s, k, none⟩ = false
  lt : s < W.heap.size
  blk : W.heap[s]? = some (slO o i)
theorem Bx.call {W W' : World} {s : Nat} {o i : Int} (h : Bx W s o i) (hb : Below W.heap.size W W') : Bx W' s o i :=
  ⟨(hb.cell (p := ⟨s, 0, none⟩) h.lt).trans h.c0, (hb.cell (p := ⟨s, 1, none⟩) h.lt).trans h.c1, fun k => (hb.frozen (p := ⟨s, k, none⟩) h.lt).trans (h.fz k), Nat.lt_of_lt_of_le h.lt hb.size, (hb.block _ h.lt).trans h.blk⟩
theorem Bx.fresh (W : World) (o i : Int) : Bx (W.alloc (slO o i)) W.heap.size o i := by
  have hb := World.alloc_heap_new W (slO o i)
  refine ⟨?_, ?_, fun k => Go.frozen_of_row _ _ _ _ _ hb, by simp, hb⟩ <;> (unfold World.cell?; simp only [hb]; rfl)
theorem idx_self {l : List Nod} (hO : Once l) {k : Nat} {y : Nod} (hy : l[k]? = some y) : idx l y.o y.i = some k := by
  cases e : idx l y.o y.i with
  | none => exact absurd ⟨rfl, rfl⟩ (idx_none e hy)
  | some k' =>
    obtain ⟨z, hz, h1, h2⟩ := idx_some e
    rw [hO k' k z y hz hy h1 h2]
/-- On the way up from the i-th: at the s-th, U gathered. -/
structure Up (l : List Nod) (i : Nat) (d : Int) (c s : Nat) (U : List Nod) : Prop where
  lt : s < l.length
  dep : dep l s = d - c
  len : U.length = c
  bel : ∀ (k : Nat) (y : Nod), l[k]? = some y → (Bel l k i ↔ (idx U y.o y.i).isSome = true ∨ Bel l k s)
theorem Up.start {l : List Nod} {i : Nat} {x : Nod} (hx : l[i]? = some x) : Up l i x.d 0 i [] :=
  ⟨(List.getElem?_eq_some_iff.1 hx).1, by rw [dep_at hx]; simp, rfl, fun k y hy => by simp [idx]⟩
theorem Up.step {l : List Nod} (hO : Once l) (hP : Dep l) {i : Nat} {d : Int} {c s : Nat} {U : List Nod} {xs : Nod} (h : Up l i d c s U) (hs : l[s]? = some xs) (hc : (c : Int) < d) :
    ∃ j z, l[j]? = some z ∧ parentA l xs.o xs.i = some z ∧ Up l i d (c + 1) j (U ++ [z]) := by
  have hd := h.dep
  obtain ⟨j, hj⟩ := par_has hP h.lt (by omega)
  have hjs := parUp_some (by have := h.lt; omega) hj
  have hjl : j < l.length := by have := h.lt; omega
  have hz : l[j]? = some (l[j]'hjl) := List.getElem?_eq_getElem _
  have hpd := par_dep hP h.lt hj
  refine ⟨j, l[j]'hjl, hz, ?_, hjl, by omega, by simp [h.len], fun k y hy => ?_⟩
  · unfold parentA
    rw [idx_self hO hs]
    simp only [Option.bind_some]
    rw [show ((l[s]?).map Nod.d).getD 0 = Proofs.Ytebgmphbkjpfcaa.dep l s from rfl, hj]
    exact hz
  · rw [h.bel k y hy, bel_step h.lt hj k]
    have e : (idx (U ++ [l[j]'hjl]) y.o y.i).isSome = true ↔ (idx U y.o y.i).isSome = true ∨ k = j := by
      rw [idx_iff, idx_iff]
      constructor
      · rintro ⟨q, hq, h1, h2⟩
        rcases List.mem_append.1 hq with hq | hq
        · exact .inl ⟨q, hq, h1, h2⟩
        · rw [List.mem_singleton] at hq
          subst hq
          exact .inr (hO k j y _ hy hz h1.symm h2.symm)
      · rintro (⟨q, hq, h1, h2⟩ | rfl)
        · exact ⟨q, List.mem_append.2 (.inl hq), h1, h2⟩
        · rw [hy] at hz
          injection hz with hz
          exact ⟨y, List.mem_append.2 (.inr (by rw [← hz]; simp)), rfl, rfl⟩
    rw [e]
    constructor
    · rintro (q | q | q)
      · exact .inl (.inl q)
      · exact .inl (.inr q)
      · exact .inr q
    · rintro ((q | q) | q)
      · exact .inl q
      · exact .inr (.inl q)
      · exact .inr (.inr q)
theorem Up.stop {l : List Nod} (hO : Once l) (hP : Dep l) {i : Nat} {d : Int} {c s : Nat} {U : List Nod} {xs : Nod} (h : Up l i d c s U) (hs : l[s]? = some xs) (hc : (c : Int) = d) :
    parentA l xs.o xs.i = none ∧ ∀ (k : Nat) (y x : Nod), l[k]? = some y → l[i]? = some x → (idx (belowA l y.o y.i) x.o x.i).isSome = (idx U y.o y.i).isSome := by
  have hd := h.dep
  have hp : ∀ t, t < l.length → 0 ≤ Proofs.Ytebgmphbkjpfcaa.dep l t := fun t ht => by
    have hx : l[t]? = some (l[t]'ht) := List.getElem?_eq_getElem _
    rw [dep_at hx]; exact hP.pos _ _ hx
  constructor
  · unfold parentA
    rw [idx_self hO hs]
    simp only [Option.bind_some]
    rw [show ((l[s]?).map Nod.d).getD 0 = Proofs.Ytebgmphbkjpfcaa.dep l s from rfl]
    cases e : parUp l (Proofs.Ytebgmphbkjpfcaa.dep l s) s with
    | none => rfl
    | some j =>
      obtain ⟨h1, h2, h3⟩ := parUp_some (by have := h.lt; omega) e
      have := hp j (by have := h.lt; omega)
      omega
  · intro k y x hy hx
    rw [Bool.eq_iff_iff, bel_iff hO hy hx, h.bel k y hy]
    constructor
    · rintro (q | ⟨q1, q2, q3⟩)
      · exact q
      · have := q3 s q1 (Nat.le_refl _)
        have := hp k (List.getElem?_eq_some_iff.1 hy).1
        omega
    · exact .inl
end Go.Proofs.Ytebgmphbkjpfcaa
