import Derived.Test.YtnjdljjmengjbaaDoorPkd
import Derived.Deep.RegionHeld3
import Derived.Test.YtnjdljjmengjbaaDoorPka
import Derived.WalkSmall
import Derived.Deep.RegionWith
import Derived.Laws.Rows
import Derived.LoopN
import Derived.OwnWalk
import Derived.StillTailTactics
import Derived.Outline
import Derived.Laws.Externs
import Derived.Deep.Cut
import Derived.BigRegion
import Derived.Deep.MidRow
namespace Go.Proofs.YtnjdljjmengjbaaDoor

section
/- chapter 15: package slots and the own answer side by side. -/
section
set_option linter.unusedVariables false
set_option linter.unusedSimpArgs false
open Go.ChangeShapes Go.WideShapes Go.ChangeAt Go.RowKit Go.Shelf

namespace TabS
/-- A node without its block. -/
def abS (x : Sn) : Int × List Cp := (x.id, x.l)
def SameS (L M : List Sn) : Prop := L.map abS = M.map abS
theorem SameS.len {L M : List Sn} (h : SameS L M) : L.length = M.length := by
  have := congrArg List.length h
  simpa using this
theorem SameS.get {L M : List Sn} (h : SameS L M) {k : Nat} {x : Sn} (hx : L[k]? = some x) : ∃ y, M[k]? = some y ∧ y.id = x.id ∧ y.l = x.l := by
  have e : (L.map abS)[k]? = (M.map abS)[k]? := by rw [show L.map abS = M.map abS from h]
  rw [List.getElem?_map, List.getElem?_map, hx] at e
  cases hy : M[k]? with
  | none => rw [hy] at e; cases e
  | some y =>
    rw [hy] at e
    simp [abS] at e
    exact ⟨y, rfl, e.1.symm, e.2.symm⟩
theorem SameS.symm {L M : List Sn} (h : SameS L M) : SameS M L := Eq.symm h
theorem SameS.keys {L M : List Sn} (h : SameS L M) : (rowsS L).map Prod.fst = (rowsS M).map Prod.fst := by
  have e : ∀ N : List Sn, (rowsS N).map Prod.fst = (N.map abS).map Prod.fst := fun N => by simp [rowsS, rowS, abS, Function.comp_def]
  rw [e, e, show L.map abS = M.map abS from h]
theorem SameS.pos {L M : List Sn} (h : SameS L M) (id : Int) : posS L id = posS M id := by
  have e : ∀ N : List Sn, posS N id = ((rowsS N).map Prod.fst).countP (fun i => decide (i < id)) := fun N => by
    unfold posS posR
    rw [List.countP_map]
    rfl
  rw [e, e, h.keys]
theorem SameS.has {L M : List Sn} (h : SameS L M) (id : Int) : hasS L id = hasS M id := by
  have e : ∀ N : List Sn, hasS N id = ((rowsS N).map Prod.fst).any (fun i => decide (i = id)) := fun N => by
    unfold hasS hasR
    rw [List.any_map]
    rfl
  rw [e, e, h.keys]
theorem SameS.held {L M : List Sn} (h : SameS L M) : heldA L = heldA M := by
  have e : ∀ N : List Sn, heldA N = (N.map abS).flatMap fun p => heldL p.1 0 p.2 := fun N => by
    unfold heldA
    rw [List.flatMap_map]
    rfl
  rw [e, e, show L.map abS = M.map abS from h]
theorem SameS.asc {L M : List Sn} (h : SameS L M) (hA : Asc (rowsS L)) : Asc (rowsS M) := by
  unfold Asc at *
  rw [← h.keys]
  exact hA
theorem SameS.ins {L M : List Sn} (h : SameS L M) (id : Int) (g g' : Nat) (l : List Cp) : SameS (insS L ⟨id, g, l⟩) (insS M ⟨id, g', l⟩) := by
  unfold SameS insS
  rw [show posS L (⟨id, g, l⟩ : Sn).id = posS M (⟨id, g', l⟩ : Sn).id from h.pos id]
  simp only [List.map_append, List.map_cons, List.map_take, List.map_drop]
  rw [show L.map abS = M.map abS from h]
  rfl
theorem SameS.del {L M : List Sn} (h : SameS L M) (k : Nat) : SameS (L.take k ++ L.drop (k + 1)) (M.take k ++ M.drop (k + 1)) := by
  unfold SameS
  simp only [List.map_append, List.map_take, List.map_drop]
  rw [show L.map abS = M.map abS from h]
theorem SameS.put {L M : List Sn} (h : SameS L M) {k : Nat} {x y : Sn} (hi : y.id = x.id) (hl : y.l = x.l) (i : Nat) (c : Cp) : SameS (putS L k x i c) (putS M k y i c) := by
  unfold SameS putS
  rw [List.map_set, List.map_set, show L.map abS = M.map abS from h]
  simp [abS, hi, hl]
theorem no_of {M : List Sn} {id : Int} (hh : hasS M id = false) : ∀ x ∈ M, x.id ≠ id := by
  intro x hx e
  have : hasS M id = true := by
    unfold hasS hasR
    rw [List.any_eq_true]
    exact ⟨rowS x, List.mem_map.2 ⟨x, hx, rfl⟩, decide_eq_true e⟩
  rw [hh] at this
  cases this
/-- The node of that number, on both sides. -/
theorem first_of {L M : List Sn} (h : SameS L M) (hA : Asc (rowsS L)) {id : Int} {x : Sn} (hx : L[posS L id]? = some x) (hid : x.id = id) : ∃ y, FirstS M id (posS L id) y ∧ y.id = x.id ∧ y.l = x.l := by
  obtain ⟨y, hy, h1, h2⟩ := h.get hx
  refine ⟨y, ⟨hy, by rw [h1, hid], fun i z hi hz => ?_⟩, h1, h2⟩
  have hlt := (posR_facts (k := id) (h.asc hA)).1 i (rowS z) (by rw [show posR (rowsS M) id = posS M id from rfl, ← h.pos]; exact hi) (by rw [rowsS_get, hz]; rfl)
  have : z.id < id := hlt
  omega
/-- The blocks of each side. -/
def FootP (b : Nat) (tv : Value) (L : List Sn) (k : Nat) : Prop := k = b ∨ tv.ownBlock = some k ∨ ∃ x ∈ L, x.g = k
/-- Both sides, and blocks beside them. -/
structure Two (W w : World) (b base : Nat) (tv : Value) (L : List Sn) (rb rbase : Nat) (v : Value) (M : List Sn) (S : Nat → Prop) : Prop where
  pk : SlotsAt w b base tv L
  rf : RefS w rb rbase v M
  lo : W.heap.size ≤ b
  lr : W.heap.size ≤ rb
  bl : Below W.heap.size W w
  ap : ∀ k, FootP b tv L k → ¬ FootP rb v M k
  bs : ∀ k, S k → k < w.heap.size ∧ ¬ FootP b tv L k ∧ ¬ FootP rb v M k
theorem foot_ltP {w : World} {b base : Nat} {tv : Value} {L : List Sn} (h : SlotsAt w b base tv L) {k : Nat} (hk : FootP b tv L k) : k < w.heap.size := by
  rcases hk with rfl | e | ⟨x, hx, rfl⟩
  · exact h.lt
  · exact (h.tab.own e).2
  · exact h.glt hx
theorem foot_ltR {w : World} {rb base : Nat} {v : Value} {M : List Sn} (h : RefS w rb base v M) {k : Nat} (hk : FootP rb v M k) : k < w.heap.size := by
  rcases hk with rfl | e | ⟨x, hx, rfl⟩
  · exact Nat.lt_of_lt_of_le h.lt h.bs
  · exact (h.row.lt k e).2
  · exact h.glt hx
theorem foot_loP {w : World} {b base : Nat} {tv : Value} {L : List Sn} (h : SlotsAt w b base tv L) {k : Nat} (hk : FootP b tv L k) : b ≤ k := by
  have := h.tab.ne
  rcases hk with rfl | e | ⟨x, hx, rfl⟩
  · exact Nat.le_refl _
  · have := (h.tab.own e).1; omega
  · have := (h.blk x hx).2; omega
theorem foot_loR {w : World} {rb base : Nat} {v : Value} {M : List Sn} (h : RefS w rb base v M) {k : Nat} (hk : FootP rb v M k) : rb ≤ k := by
  have := h.lt
  rcases hk with rfl | e | ⟨x, hx, rfl⟩
  · exact Nat.le_refl _
  · have := (h.row.lt k e).1; omega
  · have := (h.cb x hx).2; omega
theorem RefS.of {w w' : World} {rb base : Nat} {v : Value} {M : List Sn} (h : RefS w rb base v M) (hs : w.heap.size ≤ w'.heap.size) (hb : ∀ k, FootP rb v M k → w'.heap[k]? = w.heap[k]?) : RefS w' rb base v M :=
  ⟨(hb rb (.inl rfl)).trans h.blk, row_of_block h.row (fun g hg => hb g (.inr (.inl hg))), h.lt, Nat.le_trans h.bs hs, fun x hx => ⟨(hb x.g (.inr (.inr ⟨x, hx, rfl⟩))).trans (h.cb x hx).1, (h.cb x hx).2⟩, h.ap, h.nt, h.bd⟩
theorem SlotsAt.of {w w' : World} {b base : Nat} {tv : Value} {L : List Sn} (h : SlotsAt w b base tv L) (hs : w.heap.size ≤ w'.heap.size) (hb : ∀ k, FootP b tv L k → w'.heap[k]? = w.heap[k]?) : SlotsAt w' b base tv L :=
  ⟨h.tab.of hs (World.cell?_of_block (hb b (.inl rfl))) (World.frozen?_of_block (hb b (.inl rfl))) (fun g hg => hb g (.inr (.inl hg))), fun x hx => ⟨(hb x.g (.inr (.inr ⟨x, hx, rfl⟩))).trans (h.blk x hx).1, (h.blk x hx).2⟩, h.ap, h.nt, h.bd⟩
theorem Two.call {W w w' : World} {b base : Nat} {tv : Value} {L : List Sn} {rb rbase : Nat} {v : Value} {M : List Sn} {S : Nat → Prop} (h : Two W w b base tv L rb rbase v M S) (hb : Below w.heap.size w w') : Two W w' b base tv L rb rbase v M S :=
  ⟨h.pk.call hb, h.rf.call hb, h.lo, h.lr, h.bl.trans (hb.mono h.bl.size), h.ap, fun k hk => ⟨Nat.lt_of_lt_of_le (h.bs k hk).1 hb.size, (h.bs k hk).2⟩⟩
/-- An act of the package. -/
theorem Two.actP {W w w' : World} {b base : Nat} {tv tv' : Value} {L L' : List Sn} {rb rbase : Nat} {v : Value} {M : List Sn} {S : Nat → Prop} (h : Two W w b base tv L rb rbase v M S) (hA : SlotsAt w' b base tv' L') (hO : SOnly w w' b tv tv' L L') : Two W w' b base tv' L' rb rbase v M S ∧ SameK S w w' := by
  have hk : ∀ k, k < w.heap.size → ¬ FootP b tv L k → w'.heap[k]? = w.heap[k]? := fun k hl hn => hO.block k hl (fun e => hn (.inl e)) (fun e => hn (.inr (.inl e))) (fun x hx e => hn (.inr (.inr ⟨x, hx, e⟩)))
  have hf : ∀ k, k < w.heap.size → FootP b tv' L' k → FootP b tv L k := fun k hl hk => by
    rcases hk with e | e
    · exact .inl e
    · exact .inr (hO.foot k hl e)
  refine ⟨⟨hA, h.rf.of hO.size (fun k q => hk k (foot_ltR h.rf q) (fun p => h.ap k p q)), h.lo, h.lr, ⟨hO.os.trans h.bl.os, hO.tape.trans h.bl.tape, hO.output.trans h.bl.output, Nat.le_trans h.bl.size hO.size, fun k hl => (hk k (by have := h.bl.size; omega) (fun p => by have := foot_loP h.pk p; have := h.lo; omega)).trans (h.bl.block k hl)⟩, fun k p q => ?_, fun k hs => ?_⟩, fun k hs => hk k (h.bs k hs).1 (h.bs k hs).2.1⟩
  · exact h.ap k (hf k (foot_ltR h.rf q) p) q
  · exact ⟨Nat.lt_of_lt_of_le (h.bs k hs).1 hO.size, fun p => (h.bs k hs).2.1 (hf k (h.bs k hs).1 p), (h.bs k hs).2.2⟩
/-- An act of the own answer. -/
theorem Two.actR {W w w' : World} {b base : Nat} {tv : Value} {L : List Sn} {rb rbase : Nat} {v v' : Value} {M M' : List Sn} {S : Nat → Prop} (h : Two W w b base tv L rb rbase v M S) (hA : RefS w' rb rbase v' M') (hO : OnlyS w w' rb v v' M M') : Two W w' b base tv L rb rbase v' M' S ∧ SameK S w w' := by
  have hk : ∀ k, k < w.heap.size → ¬ FootP rb v M k → w'.heap[k]? = w.heap[k]? := fun k hl hn => hO.block k hl (fun e => hn (.inl e)) (fun e => hn (.inr (.inl e))) (fun x hx e => hn (.inr (.inr ⟨x, hx, e⟩)))
  have hf : ∀ k, k < w.heap.size → FootP rb v' M' k → FootP rb v M k := fun k hl hk => by
    rcases hk with e | e
    · exact .inl e
    · exact .inr (hO.foot k hl e)
  refine ⟨⟨h.pk.of hO.size (fun k q => hk k (foot_ltP h.pk q) (fun p => h.ap k q p)), hA, h.lo, h.lr, ⟨hO.os.trans h.bl.os, hO.tape.trans h.bl.tape, hO.output.trans h.bl.output, Nat.le_trans h.bl.size hO.size, fun k hl => (hk k (by have := h.bl.size; omega) (fun p => by have := foot_loR h.rf p; have := h.lr; omega)).trans (h.bl.block k hl)⟩, fun k p q => ?_, fun k hs => ?_⟩, fun k hs => hk k (h.bs k hs).1 (h.bs k hs).2.2⟩
  · exact h.ap k p (hf k (foot_ltP h.pk p) q)
  · exact ⟨Nat.lt_of_lt_of_le (h.bs k hs).1 hO.size, (h.bs k hs).2.1, fun p => (h.bs k hs).2.2 (hf k (h.bs k hs).1 p)⟩
end TabS
end
/- chapter 15, both sides: each act on one side, then on the other. -/
section
set_option linter.unusedVariables false
set_option linter.unusedSimpArgs false
open Go.ChangeShapes Go.WideShapes Go.ChangeAt Go.RowKit Go.Shelf

namespace TabS
def Pr (W w : World) (b rb : Nat) (S : Nat → Prop) (L M : List Sn) : Prop := ∃ base tv rbase v, Two W w b base tv L rb rbase v M S
theorem Pr.call {W w w' : World} {b rb : Nat} {S : Nat → Prop} {L M : List Sn} (h : Pr W w b rb S L M) (hb : Below w.heap.size w w') : Pr W w' b rb S L M := by
  obtain ⟨base, tv, rbase, v, hT⟩ := h
  exact ⟨base, tv, rbase, v, hT.call hb⟩
theorem Pr.below {W w : World} {b rb : Nat} {S : Nat → Prop} {L M : List Sn} (h : Pr W w b rb S L M) : Below W.heap.size W w := h.choose_spec.choose_spec.choose_spec.choose_spec.bl
theorem Pr.asc {W w : World} {b rb : Nat} {S : Nat → Prop} {L M : List Sn} (h : Pr W w b rb S L M) : Asc (rowsS L) := h.choose_spec.choose_spec.choose_spec.choose_spec.pk.tab.asc
theorem Pr.lt {W w : World} {b rb k : Nat} {S : Nat → Prop} {L M : List Sn} (h : Pr W w b rb S L M) (hk : S k) : k < w.heap.size := (h.choose_spec.choose_spec.choose_spec.choose_spec.bs k hk).1
theorem SameK.of_below {S : Nat → Prop} {w w' : World} (hb : Below w.heap.size w w') (hS : ∀ k, S k → k < w.heap.size) : SameK S w w' := fun k hk => hb.block k (hS k hk)
/-- What Add makes of the list. -/
def AddRel (L : List Sn) (id n : Int) (L' : List Sn) : Prop := (addSR L id n = 0 ∧ ∃ g, L' = insS L ⟨id, g, List.replicate n.toNat zC⟩) ∨ (addSR L id n ≠ 0 ∧ L' = L)
theorem add_same {L M L' M' : List Sn} {id n : Int} (h : SameS L M) (h1 : AddRel L id n L') (h2 : AddRel M id n M') : SameS L' M' ∧ addSR L id n = addSR M id n := by
  have e : addSR L id n = addSR M id n := by unfold addSR; rw [h.has]
  refine ⟨?_, e⟩
  rcases h1 with ⟨a, g, rfl⟩ | ⟨a, rfl⟩
  · rcases h2 with ⟨_, g', rfl⟩ | ⟨a', rfl⟩
    · exact h.ins id g g' _
    · exact absurd (e ▸ a) a'
  · rcases h2 with ⟨a', g', rfl⟩ | ⟨_, rfl⟩
    · exact absurd (e.symm ▸ a') a
    · exact h
theorem Pr.addP {W w : World} {b rb : Nat} {S : Nat → Prop} {L M : List Sn} (h : Pr W w b rb S L M) (hl : L.length < 1000000) (id n : Int) :
    Calls Tryd.prog 23 #[.pointer (some ⟨b, 0, none⟩), .int .i64 id, .int .i64 n] w fun e w' => e = .returned (.int .i64 (addSR L id n)) ∧ ∃ L', AddRel L id n L' ∧ Pr W w' b rb S L' M ∧ SameK S w w' := by
  obtain ⟨base, tv, rbase, v, hT⟩ := h
  by_cases ha : id < 1 ∨ n < 1 ∨ 16 < n
  · have e0 : addSR L id n = 2 := by unfold addSR; rw [if_pos ha]
    rw [e0]
    refine (sadd_arg w b id n ha).mono ?_
    rintro e w' ⟨rfl, rfl⟩
    exact ⟨rfl, L, .inr ⟨by rw [e0]; decide, rfl⟩, ⟨base, tv, rbase, v, hT⟩, fun k hk => rfl⟩
  · obtain ⟨m, rfl⟩ : ∃ m : Nat, n = m := ⟨n.toNat, by omega⟩
    cases hh : hasS L id with
    | true =>
      have e0 : addSR L id m = 11 := by unfold addSR; rw [if_neg ha, hh, if_pos rfl]
      rw [e0]
      refine (sadd_full w b base tv L id m hT.pk (by omega) (by omega) (by omega) hh).mono ?_
      rintro e w' ⟨rfl, hb⟩
      exact ⟨rfl, L, .inr ⟨by rw [e0]; decide, rfl⟩, ⟨base, tv, rbase, v, hT.call hb⟩, SameK.of_below hb (fun k hk => (hT.bs k hk).1)⟩
    | false =>
      have e0 : addSR L id m = 0 := by unfold addSR; rw [if_neg ha, hh, if_neg (by decide)]
      rw [e0]
      refine (sadd_yes w b base tv L id m hT.pk hl (by omega) (by omega) (by omega) hh).mono ?_
      rintro e w' ⟨rfl, tv', g, hg, hA, hO⟩
      obtain ⟨q1, q2⟩ := hT.actP hA hO
      exact ⟨rfl, _, .inl ⟨e0, g, by simp⟩, ⟨base, tv', rbase, v, q1⟩, q2⟩
theorem Pr.addR {W w : World} {b rb : Nat} {S : Nat → Prop} {L M : List Sn} (h : Pr W w b rb S L M) (hA : Asc (rowsS M)) (hl : M.length < 1000000) (id n : Int) :
    Calls Tryd.prog 24 #[.pointer (some ⟨rb, 0, none⟩), .int .i64 id, .int .i64 n] w fun e w' => e = .returned (.int .i64 (addSR M id n)) ∧ ∃ M', AddRel M id n M' ∧ Pr W w' b rb S L M' ∧ SameK S w w' := by
  obtain ⟨base, tv, rbase, v, hT⟩ := h
  by_cases ha : id < 1 ∨ n < 1 ∨ 16 < n
  · have e0 : addSR M id n = 2 := by unfold addSR; rw [if_pos ha]
    rw [e0]
    refine (radd_arg w rb id n ha).mono ?_
    rintro e w' ⟨rfl, rfl⟩
    exact ⟨rfl, M, .inr ⟨by rw [e0]; decide, rfl⟩, ⟨base, tv, rbase, v, hT⟩, fun k hk => rfl⟩
  · obtain ⟨m, rfl⟩ : ∃ m : Nat, n = m := ⟨n.toNat, by omega⟩
    cases hh : hasS M id with
    | true =>
      have e0 : addSR M id m = 11 := by unfold addSR; rw [if_neg ha, hh, if_pos rfl]
      rw [e0]
      obtain ⟨r, hr, hri⟩ := (hasR_at hA).1 (show hasR (rowsS M) id = true from hh)
      rw [rowsS_get] at hr
      cases hx : M[posR (rowsS M) id]? with
      | none => rw [hx] at hr; cases hr
      | some x =>
        rw [hx] at hr
        cases hr
        obtain ⟨y, hF, _⟩ := first_of (L := M) (M := M) rfl hA (show M[posS M id]? = some x from hx) hri
        refine (radd_full w rb rbase v M id m _ y hT.rf hl (by omega) (by omega) (by omega) hF).mono ?_
        rintro e w' ⟨rfl, rfl⟩
        exact ⟨rfl, M, .inr ⟨by rw [e0]; decide, rfl⟩, ⟨base, tv, rbase, v, hT⟩, fun k hk => rfl⟩
    | false =>
      have e0 : addSR M id m = 0 := by unfold addSR; rw [if_neg ha, hh, if_neg (by decide)]
      rw [e0]
      refine (radd_yes w rb rbase v M id m hT.rf hA hl (by omega) (by omega) (by omega) (no_of hh)).mono ?_
      rintro e w' ⟨rfl, u, G, hG, hR, hO⟩
      obtain ⟨q1, q2⟩ := hT.actR hR hO
      exact ⟨rfl, _, .inl ⟨e0, G, by simp⟩, ⟨base, tv, rbase, u, q1⟩, q2⟩
/-- How many slots a node has. -/
def sizS (L : List Sn) (id : Int) : Int := if hasS L id = true then (match L[posS L id]? with | some x => (x.l.length : Int) | none => 0) else 0
theorem size_same {L M : List Sn} (h : SameS L M) (id : Int) : sizS L id = sizS M id := by
  unfold sizS
  rw [h.has, h.pos]
  split
  · cases hx : L[posS M id]? with
    | none =>
      cases hy : M[posS M id]? with
      | none => rfl
      | some y => obtain ⟨z, hz, _⟩ := h.symm.get hy; rw [hx] at hz; cases hz
    | some x =>
      obtain ⟨y, hy, _, e⟩ := h.get hx
      rw [hy]
      simp only []
      rw [e]
  · rfl
theorem Pr.size {W w : World} {b rb : Nat} {S : Nat → Prop} {L M : List Sn} (h : Pr W w b rb S L M) (id : Int) :
    Calls Tryd.prog 72 #[.pointer (some ⟨b, 0, none⟩), .int .i64 id] w fun e w' => e = .returned (.int .i64 (sizS L id)) ∧ Below w.heap.size w w' := by
  obtain ⟨base, tv, rbase, v, hT⟩ := h
  unfold sizS
  cases hh : hasS L id with
  | false => exact ssize_no w b base tv L id hT.pk hh
  | true =>
    obtain ⟨x, hx, hid⟩ := (hasS_at hT.pk).1 hh
    rw [if_pos rfl, hx]
    exact ssize_yes w b base tv L id x hT.pk hx hid
/-- The node of a number, in the own answer's list. -/
theorem first_self {M : List Sn} (hA : Asc (rowsS M)) {id : Int} (hh : hasS M id = true) : ∃ x, M[posS M id]? = some x ∧ FirstS M id (posS M id) x := by
  obtain ⟨r, hr, hri⟩ := (hasR_at hA).1 (show hasR (rowsS M) id = true from hh)
  rw [rowsS_get] at hr
  cases hx : M[posR (rowsS M) id]? with
  | none => rw [hx] at hr; cases hr
  | some x =>
    rw [hx] at hr
    cases hr
    obtain ⟨y, hF, _⟩ := first_of (L := M) (M := M) rfl hA (show M[posS M id]? = some x from hx) hri
    exact ⟨y, hF.1, hF⟩
theorem Pr.rsize {W w : World} {b rb : Nat} {S : Nat → Prop} {L M : List Sn} (h : Pr W w b rb S L M) (hA : Asc (rowsS M)) (hl : M.length < 1000000) (id : Int) :
    Calls Tryd.prog 53 #[.pointer (some ⟨rb, 0, none⟩), .int .i64 id] w fun e w' => e = .returned (.int .i64 (sizS M id)) ∧ w = w' := by
  obtain ⟨base, tv, rbase, v, hT⟩ := h
  unfold sizS
  cases hh : hasS M id with
  | false => exact rsize_no w rb rbase v M id hT.rf hl (no_of hh)
  | true =>
    obtain ⟨x, hx, hF⟩ := first_self hA hh
    rw [if_pos rfl, hx]
    exact rsize_yes w rb rbase v M id _ x hT.rf hl hF
/-- What Drop answers, and what it makes of the list. -/
def dropSR (L : List Sn) (id : Int) : Int := if hasS L id = true then (match L[posS L id]? with | some x => if (heldL id 0 x.l).length = 0 then 0 else 16 | none => 2) else 2
def dropSL (L : List Sn) (id : Int) : List Sn := if dropSR L id = 0 then L.take (posS L id) ++ L.drop (posS L id + 1) else L
theorem drop_same {L M : List Sn} (h : SameS L M) (id : Int) : dropSR L id = dropSR M id ∧ SameS (dropSL L id) (dropSL M id) := by
  have e : dropSR L id = dropSR M id := by
    unfold dropSR
    rw [h.has, h.pos]
    split
    · cases hx : L[posS M id]? with
      | none =>
        cases hy : M[posS M id]? with
        | none => rfl
        | some y => obtain ⟨z, hz, _⟩ := h.symm.get hy; rw [hx] at hz; cases hz
      | some x =>
        obtain ⟨y, hy, _, e⟩ := h.get hx
        rw [hy]
        simp only []
        rw [e]
    · rfl
  refine ⟨e, ?_⟩
  unfold dropSL
  rw [e, h.pos]
  split
  · exact h.del _
  · exact h
end TabS
end
/- chapter 15, both sides: Get, Set. -/
section
set_option linter.unusedVariables false
set_option linter.unusedSimpArgs false
open Go.ChangeShapes Go.WideShapes Go.ChangeAt Go.RowKit Go.Shelf

namespace TabS
/-- What a slot holds, if there is one. -/
def getR (L : List Sn) (id ix : Int) : Option Cp := if hasS L id = true ∧ 0 ≤ ix then (match L[posS L id]? with | some x => x.l[ix.toNat]? | none => none) else none
theorem getR_same {L M : List Sn} (h : SameS L M) (id ix : Int) : getR L id ix = getR M id ix := by
  unfold getR
  rw [h.has, h.pos]
  split
  · cases hx : L[posS M id]? with
    | none =>
      cases hy : M[posS M id]? with
      | none => rfl
      | some y => obtain ⟨z, hz, _⟩ := h.symm.get hy; rw [hx] at hz; cases hz
    | some x =>
      obtain ⟨y, hy, _, e⟩ := h.get hx
      rw [hy]
      simp only []
      rw [e]
  · rfl
theorem getR_no {w : World} {b base : Nat} {tv : Value} {L : List Sn} (h : SlotsAt w b base tv L) {id ix : Int} (hn : NoSlot L id ix) : getR L id ix = none := by
  unfold getR
  rcases hn with hh | ⟨x, hx, hid, hi⟩
  · rw [if_neg (by rw [hh]; simp)]
  · by_cases h0 : hasS L id = true ∧ 0 ≤ ix
    · rw [if_pos h0, hx]
      exact List.getElem?_eq_none (by omega)
    · rw [if_neg h0]
theorem getR_yes {L : List Sn} {id : Int} {x : Sn} {i : Nat} (hh : hasS L id = true) (hx : L[posS L id]? = some x) : getR L id i = x.l[i]? := by
  unfold getR
  rw [if_pos ⟨hh, by omega⟩, hx]
  simp
/-- There is no such slot in the own answer's list, or which. -/
theorem slot_orR {M : List Sn} (hA : Asc (rowsS M)) (id ix : Int) : (NoSlotR M id ix ∧ getR M id ix = none) ∨ ∃ (x : Sn) (i : Nat) (c : Cp), FirstS M id (posS M id) x ∧ ix = i ∧ x.l[i]? = some c ∧ getR M id ix = some c := by
  cases hh : hasS M id with
  | false => exact .inl ⟨.inl (no_of hh), by unfold getR; rw [if_neg (by rw [hh]; simp)]⟩
  | true =>
    obtain ⟨x, hx, hF⟩ := first_self hA hh
    by_cases h1 : ix < 0 ∨ (x.l.length : Int) ≤ ix
    · refine .inl ⟨.inr ⟨_, x, hF, h1⟩, ?_⟩
      unfold getR
      by_cases h0 : hasS M id = true ∧ 0 ≤ ix
      · rw [if_pos h0, hx]
        exact List.getElem?_eq_none (by omega)
      · rw [if_neg h0]
    · obtain ⟨i, rfl⟩ : ∃ i : Nat, ix = i := ⟨ix.toNat, by omega⟩
      have hi : i < x.l.length := by omega
      exact .inr ⟨x, i, x.l[i]'hi, hF, rfl, List.getElem?_eq_getElem hi, by rw [getR_yes hh hx]; exact List.getElem?_eq_getElem hi⟩
def getN (o : Option Cp) : Int := match o with | some _ => 0 | none => 3
theorem Pr.getP {W w : World} {b rb : Nat} {S : Nat → Prop} {L M : List Sn} (h : Pr W w b rb S L M) (id ix : Int) :
    Calls Tryd.prog 49 #[.pointer (some ⟨b, 0, none⟩), .agg #[.int .i64 id, .int .i64 ix]] w fun e w' => e = .returned (.tuple #[((getR L id ix).getD zC).V, .int .i64 (getN (getR L id ix))]) ∧ Below w.heap.size w w' := by
  obtain ⟨base, tv, rbase, v, hT⟩ := h
  rcases slot_or hT.pk id ix with hn | ⟨x, i, hx, hid, rfl, hi⟩
  · rw [getR_no hT.pk hn]
    exact sget_no w b base tv L id ix hT.pk hn
  · rw [getR_yes ((hasS_at hT.pk).2 ⟨x, hx, hid⟩) hx, List.getElem?_eq_getElem hi]
    exact sget_yes w b base tv L id i x _ hT.pk hx hid (List.getElem?_eq_getElem hi)
theorem Pr.rget {W w : World} {b rb : Nat} {S : Nat → Prop} {L M : List Sn} (h : Pr W w b rb S L M) (hA : Asc (rowsS M)) (hl : M.length < 1000000) (id ix : Int) :
    Calls Tryd.prog 33 #[.pointer (some ⟨rb, 0, none⟩), .agg #[.int .i64 id, .int .i64 ix]] w fun e w' => e = .returned (.tuple #[((getR M id ix).getD zC).V, .int .i64 (getN (getR M id ix))]) ∧ Below w.heap.size w w' := by
  obtain ⟨base, tv, rbase, v, hT⟩ := h
  rcases slot_orR hA id ix with ⟨hn, e⟩ | ⟨x, i, c, hF, rfl, hc, e⟩
  · rw [e]
    exact rget_no w rb rbase v M id ix hT.rf hl hn
  · rw [e]
    exact rget_yes w rb rbase v M id i _ x c hT.rf hl hF hc
/-- What Set answers, and what it makes of the list. -/
def setN (L : List Sn) (id ix : Int) (c : Cp) : Int := match getR L id ix with | none => 3 | some _ => if mayC c = true then 0 else 5
def setM (L : List Sn) (id ix : Int) (c : Cp) : List Sn := if setN L id ix c = 0 then (match L[posS L id]? with | some x => putS L (posS L id) x ix.toNat c | none => L) else L
theorem set_same {L M : List Sn} (h : SameS L M) (id ix : Int) (c : Cp) : setN L id ix c = setN M id ix c ∧ SameS (setM L id ix c) (setM M id ix c) := by
  have e : setN L id ix c = setN M id ix c := by unfold setN; rw [getR_same h]
  refine ⟨e, ?_⟩
  unfold setM
  rw [e, h.pos]
  split
  · cases hx : L[posS M id]? with
    | none =>
      cases hy : M[posS M id]? with
      | none => exact h
      | some y => obtain ⟨z, hz, _⟩ := h.symm.get hy; rw [hx] at hz; cases hz
    | some x =>
      obtain ⟨y, hy, e1, e2⟩ := h.get hx
      rw [hy]
      exact h.put e1 e2 _ c
  · exact h
theorem Pr.setP {W w : World} {b rb : Nat} {S : Nat → Prop} {L M : List Sn} (h : Pr W w b rb S L M) (hT0 : CX.TabG w) (id ix : Int) (c : Cp) (he : c.e ≤ 9223372036854775807) :
    Calls Tryd.prog 25 #[.pointer (some ⟨b, 0, none⟩), .agg #[.int .i64 id, .int .i64 ix], c.V] w fun e w' => e = .returned (.int .i64 (setN L id ix c)) ∧ Pr W w' b rb S (setM L id ix c) M ∧ SameK S w w' := by
  obtain ⟨base, tv, rbase, v, hT⟩ := h
  rcases slot_or hT.pk id ix with hn | ⟨x, i, hx, hid, rfl, hi⟩
  · have e0 : setN L id ix c = 3 := by unfold setN; rw [getR_no hT.pk hn]
    have e1 : setM L id ix c = L := by unfold setM; rw [e0, if_neg (by decide)]
    rw [e0, e1]
    refine (sset_no w b base tv L id ix c hT.pk hn).mono ?_
    rintro e w' ⟨rfl, hb⟩
    exact ⟨rfl, ⟨base, tv, rbase, v, hT.call hb⟩, SameK.of_below hb (fun k hk => (hT.bs k hk).1)⟩
  · have eg : getR L id i = some (x.l[i]'hi) := by rw [getR_yes ((hasS_at hT.pk).2 ⟨x, hx, hid⟩) hx]; exact List.getElem?_eq_getElem hi
    cases hm : mayC c with
    | true =>
      have e0 : setN L id i c = 0 := by unfold setN; rw [eg]; simp [hm]
      have e1 : setM L id i c = putS L (posS L id) x i c := by unfold setM; rw [e0, if_pos rfl, hx]; simp
      rw [e0, e1]
      refine (sset_yes w b base tv L id i x c hT.pk hT0 he hx hid hi hm).mono ?_
      rintro e w' ⟨rfl, hA, hO⟩
      obtain ⟨q1, q2⟩ := hT.actP hA hO
      exact ⟨rfl, ⟨base, tv, rbase, v, q1⟩, q2⟩
    | false =>
      have e0 : setN L id i c = 5 := by unfold setN; rw [eg]; simp [hm]
      have e1 : setM L id i c = L := by unfold setM; rw [e0, if_neg (by decide)]
      rw [e0, e1]
      refine (sset_form w b base tv L id i x c hT.pk hT0 he hx hid hi hm).mono ?_
      rintro e w' ⟨rfl, hb⟩
      exact ⟨rfl, ⟨base, tv, rbase, v, hT.call hb⟩, SameK.of_below hb (fun k hk => (hT.bs k hk).1)⟩
theorem Pr.rset {W w : World} {b rb : Nat} {S : Nat → Prop} {L M : List Sn} (h : Pr W w b rb S L M) (hA : Asc (rowsS M)) (hl : M.length < 1000000) (id ix : Int) (c : Cp) :
    Calls Tryd.prog 26 #[.pointer (some ⟨rb, 0, none⟩), .agg #[.int .i64 id, .int .i64 ix], c.V] w fun e w' => e = .returned (.int .i64 (setN M id ix c)) ∧ Pr W w' b rb S L (setM M id ix c) ∧ SameK S w w' := by
  obtain ⟨base, tv, rbase, v, hT⟩ := h
  rcases slot_orR hA id ix with ⟨hn, eg⟩ | ⟨x, i, c0, hF, rfl, hc, eg⟩
  · have e0 : setN M id ix c = 3 := by unfold setN; rw [eg]
    have e1 : setM M id ix c = M := by unfold setM; rw [e0, if_neg (by decide)]
    rw [e0, e1]
    refine (rset_no w rb rbase v M id ix c hT.rf hl hn).mono ?_
    rintro e w' ⟨rfl, hb⟩
    exact ⟨rfl, ⟨base, tv, rbase, v, hT.call hb⟩, SameK.of_below hb (fun k hk => (hT.bs k hk).1)⟩
  · have hi := (List.getElem?_eq_some_iff.1 hc).1
    cases hm : mayC c with
    | true =>
      have e0 : setN M id i c = 0 := by unfold setN; rw [eg]; simp [hm]
      have e1 : setM M id i c = putS M (posS M id) x i c := by unfold setM; rw [e0, if_pos rfl, hF.1]; simp
      rw [e0, e1]
      refine (rset_yes w rb rbase v M id i _ x c hT.rf hl hF hi hm).mono ?_
      rintro e w' ⟨rfl, hR, hO⟩
      obtain ⟨q1, q2⟩ := hT.actR hR hO
      exact ⟨rfl, ⟨base, tv, rbase, v, q1⟩, q2⟩
    | false =>
      have e0 : setN M id i c = 5 := by unfold setN; rw [eg]; simp [hm]
      have e1 : setM M id i c = M := by unfold setM; rw [e0, if_neg (by decide)]
      rw [e0, e1]
      refine (rset_form w rb rbase v M id i _ x c hT.rf hl hF hi hm).mono ?_
      rintro e w' ⟨rfl, hb⟩
      exact ⟨rfl, ⟨base, tv, rbase, v, hT.call hb⟩, SameK.of_below hb (fun k hk => (hT.bs k hk).1)⟩
end TabS
end
/- chapter 15, both sides: what the law's walk wants beside. -/
section
set_option linter.unusedVariables false
set_option linter.unusedSimpArgs false
open Go.ChangeShapes Go.WideShapes Go.ChangeAt Go.RowKit Go.Shelf

namespace TabS
theorem num_s (x : Int) (w : World) : Calls Tryd.prog 14 #[.int .i64 x] w fun e w' => e = .returned (.int .i64 x) ∧ w = w' := by
  go_enter Tryd.func14, Tryd.ntmps14
  go_wp2
  go_ret
  exact ⟨rfl, rfl⟩
theorem Two.mono {W w : World} {b base : Nat} {tv : Value} {L : List Sn} {rb rbase : Nat} {v : Value} {M : List Sn} {S T : Nat → Prop} (h : Two W w b base tv L rb rbase v M S) (hs : ∀ k, T k → S k) : Two W w b base tv L rb rbase v M T :=
  ⟨h.pk, h.rf, h.lo, h.lr, h.bl, h.ap, fun k hk => h.bs k (hs k hk)⟩
theorem Pr.mono {W w : World} {b rb : Nat} {S T : Nat → Prop} {L M : List Sn} (h : Pr W w b rb S L M) (hs : ∀ k, T k → S k) : Pr W w b rb T L M := by
  obtain ⟨base, tv, rbase, v, hT⟩ := h
  exact ⟨base, tv, rbase, v, hT.mono hs⟩
/-- What a call that makes memory leaves stands beside. -/
theorem Pr.fresh {W w w' : World} {b rb : Nat} {S : Nat → Prop} {L M : List Sn} (h : Pr W w b rb S L M) (hb : Below w.heap.size w w') : Pr W w' b rb (fun k => S k ∨ (w.heap.size ≤ k ∧ k < w'.heap.size)) L M := by
  obtain ⟨base, tv, rbase, v, hT⟩ := h
  have hc := hT.call hb
  refine ⟨base, tv, rbase, v, ⟨hc.pk, hc.rf, hc.lo, hc.lr, hc.bl, hc.ap, fun k hk => ?_⟩⟩
  rcases hk with hk | ⟨h1, h2⟩
  · exact hc.bs k hk
  · exact ⟨h2, fun p => by have := foot_ltP hT.pk p; omega, fun p => by have := foot_ltR hT.rf p; omega⟩
/-- A block that stands beside, made since W, is turned, and more memory is made. -/
theorem Pr.turn {W w w' : World} {b rb B : Nat} {S : Nat → Prop} {L M : List Sn} (h : Pr W w b rb S L M) (hS : S B) (hB : W.heap.size ≤ B) (hg : w.grownBy w' (some B)) : Pr W w' b rb S L M := by
  obtain ⟨base, tv, rbase, v, hT⟩ := h
  have hk : ∀ k, k < w.heap.size → k ≠ B → w'.heap[k]? = w.heap[k]? := fun k hl hn => hg.block k hl (fun e => hn (Option.some.inj e))
  obtain ⟨p1, p2, p3⟩ := hT.bs B hS
  refine ⟨base, tv, rbase, v, ⟨hT.pk.of hg.size (fun k q => hk k (foot_ltP hT.pk q) (fun e => p2 (e ▸ q))), hT.rf.of hg.size (fun k q => hk k (foot_ltR hT.rf q) (fun e => p3 (e ▸ q))), hT.lo, hT.lr, ⟨hg.os.trans hT.bl.os, hg.tape.trans hT.bl.tape, hg.output.trans hT.bl.output, Nat.le_trans hT.bl.size hg.size, fun k hl => (hk k (Nat.lt_of_lt_of_le hl hT.bl.size) (by omega)).trans (hT.bl.block k hl)⟩, hT.ap, fun k hk => ⟨Nat.lt_of_lt_of_le (hT.bs k hk).1 hg.size, (hT.bs k hk).2⟩⟩⟩
theorem Pr.over {W w w' : World} {b rb : Nat} {S : Nat → Prop} {L M : List Sn} (h : Pr W w b rb S L M) (o : Option Nat) (ho : ∀ g, o = some g → S g ∧ W.heap.size ≤ g) (hg : w.grownBy w' o) : Pr W w' b rb (fun _ => False) L M := by
  cases o with
  | none => exact (h.call ⟨hg.os, hg.tape, hg.output, hg.size, fun k hk => hg.block k hk (by simp)⟩).mono (fun k hk => hk.elim)
  | some g => exact (h.turn (ho g rfl).1 (ho g rfl).2 hg).mono (fun k hk => hk.elim)
theorem add_len {L L' : List Sn} {id n : Int} (h : AddRel L id n L') : L'.length ≤ L.length + 1 := by
  rcases h with ⟨_, g, rfl⟩ | ⟨_, rfl⟩
  · unfold insS
    rw [List.length_append, List.length_cons, List.length_take, List.length_drop]
    omega
  · omega
theorem drop_len (L : List Sn) (id : Int) : (dropSL L id).length ≤ L.length := by
  unfold dropSL
  split
  · rw [List.length_append, List.length_take, List.length_drop]
    omega
  · exact Nat.le_refl _
theorem set_len (L : List Sn) (id ix : Int) (c : Cp) : (setM L id ix c).length = L.length := by
  unfold setM
  split
  · split
    · unfold putS; rw [List.length_set]
    · rfl
  · rfl
/-- Where both begin: package slots' new object, and the own answer's zero block. -/
theorem pr_start {W w1 : World} (ha : SlotsAt w1 W.heap.size (W.heap.size + 1) (.slice none 0 0) []) (hb : Below W.heap.size W w1) :
    Pr W (w1.alloc (.cells #[.slice none 0 0] 65)) W.heap.size w1.heap.size (fun _ => False) [] [] := by
  have hal : Below w1.heap.size w1 (w1.alloc (.cells #[.slice none 0 0] 65)) := bal (Below.refl _ _) _
  have hlt := ha.lt
  refine ⟨_, _, w1.heap.size + 1, .slice none 0 0, ⟨ha.call hal, ⟨heap_alloc_new w1 _, World.ownsRow_nil _ _ _ _, Nat.lt_succ_self _, by simp, (fun x hx => by cases hx), List.Pairwise.nil, (fun x hx => by cases hx), (fun x hx => by cases hx)⟩, Nat.le_refl _, hb.size, hb.trans (hal.mono hb.size), fun k p q => ?_, fun k h => h.elim⟩⟩
  rcases p with rfl | e | ⟨x, hx, _⟩
  · rcases q with e | e | ⟨x, hx, _⟩
    · omega
    · cases e
    · cases hx
  · cases e
  · cases hx
/-- Both sides at one list, and how long it is. -/
structure Sc (W w : World) (b rb t : Nat) (S : Nat → Prop) (L M : List Sn) : Prop where
  pr : Pr W w b rb S L M
  same : SameS L M
  len : L.length ≤ t
theorem Sc.ascM {W w : World} {b rb t : Nat} {S : Nat → Prop} {L M : List Sn} (h : Sc W w b rb t S L M) : Asc (rowsS M) := h.same.asc h.pr.asc
theorem Sc.call {W w w' : World} {b rb t : Nat} {S : Nat → Prop} {L M : List Sn} (h : Sc W w b rb t S L M) (hb : Below w.heap.size w w') : Sc W w' b rb t S L M := ⟨h.pr.call hb, h.same, h.len⟩
end TabS
end
end
/- kinds.Frames, carve.Meet and Within. -/
section
set_option linter.unusedVariables false
set_option linter.unusedSimpArgs false
open Go.ChangeShapes Go.WideShapes Go.ChangeAt Go.RowKit

def framesN (k s : Int) : Int :=
  if k = 1 then (if 1 ≤ s ∧ s ≤ 64 then s else 0)
  else if k = 2 then (if s = 1 ∨ s = 2 then 1 else if s = 3 then 2 else if s = 4 then 4 else 0)
  else if (k = 3 ∨ k = 4 ∨ k = 5 ∨ k = 6 ∨ k = 8 ∨ k = 9) ∧ s = 0 then 1 else 0
set_option maxHeartbeats 1000000 in
theorem frames_any (k s : Int) (w : World) : Calls Tryd.prog 34 #[.int .i64 k, .int .i64 s] w fun e w' => e = .returned (.int .i64 (framesN k s)) ∧ w = w' := by
  go_enter Tryd.func34, Tryd.ntmps34
  go_wp2
  all_goals go_ret
  all_goals refine ⟨ret_int ?_, rfl⟩
  all_goals (simp only [beq_iff_eq, beq_eq_false_iff_ne, ne_eq] at *)
  all_goals unfold framesN
  all_goals first
    | (repeat' split) <;> omega
    | (obtain rfl | rfl : s = 3 ∨ s = 4 := by omega
       all_goals (subst k; decide +kernel))
/-- All four are so small that sums do not wrap round. -/
def nearB (a n b k : Int) : Bool := decide (0 ≤ a ∧ a ≤ 1048576) && decide (0 ≤ n ∧ n ≤ 1048576) && decide (0 ≤ b ∧ b ≤ 1048576) && decide (0 ≤ k ∧ k ≤ 1048576)
theorem near_any (a n b k : Int) (B : Nat) (w : World) (c0 : w.cell? ⟨B, 0, none⟩ = some (.int .i64 a)) (c1 : w.cell? ⟨B, 1, none⟩ = some (.int .i64 n)) (c2 : w.cell? ⟨B, 2, none⟩ = some (.int .i64 b)) (c3 : w.cell? ⟨B, 3, none⟩ = some (.int .i64 k)) :
    Calls Tryd.prog 74 #[.slice (some ⟨B, 0, none⟩) 4 4] w fun e w' => e = .returned (.bool (nearB a n b k)) ∧ w = w' := by
  go_enter Tryd.func74, Tryd.ntmps74
  go_wp2
  refine wp_loop_rounds 5 ?_
  all_goals rw [rounds_succ]
  all_goals go_wp2
  all_goals try (go_ret; refine ⟨ret_bool ?_, rfl⟩; simp [nearB]; omega)
  all_goals rw [rounds_succ]
  all_goals go_wp2
  all_goals try (go_ret; refine ⟨ret_bool ?_, rfl⟩; simp [nearB]; omega)
  all_goals rw [rounds_succ]
  all_goals go_wp2
  all_goals try (go_ret; refine ⟨ret_bool ?_, rfl⟩; simp [nearB]; omega)
  all_goals rw [rounds_succ]
  all_goals go_wp2
  all_goals try (go_ret; refine ⟨ret_bool ?_, rfl⟩; simp [nearB]; omega)
  all_goals rw [rounds_succ]
  all_goals go_wp2
  all_goals try (go_ret; refine ⟨ret_bool ?_, rfl⟩; simp [nearB]; omega)
/-- What Meet tells, and Within. -/
def meetB (a n b k : Int) : Bool := nearB a n b k && decide (0 < n ∧ 0 < k ∧ a < b + k ∧ b < a + n)
def withinB (a n b k : Int) : Bool := nearB a n b k && decide (n = 0 ∨ (b ≤ a ∧ a + n ≤ b + k))
theorem near_bd {a n b k : Int} (h : nearB a n b k = true) : (0 ≤ a ∧ a ≤ 1048576) ∧ (0 ≤ n ∧ n ≤ 1048576) ∧ (0 ≤ b ∧ b ≤ 1048576) ∧ 0 ≤ k ∧ k ≤ 1048576 := by
  simp [nearB] at h; omega
theorem cellQ {W : World} {b : Nat} {cs : Array Value} {t : TypeId} (h : W.heap[b]? = some (.cells cs t (0, 0))) (j : Nat) : W.cell? ⟨b, j, none⟩ = cs[j]? := by
  simp [World.cell?, h]
theorem box4 (w : World) (a n b k : Int) (t : TypeId) : (w.alloc (.cells #[.int .i64 a, .int .i64 n, .int .i64 b, .int .i64 k] t)).cell? ⟨w.heap.size, 0, none⟩ = some (.int .i64 a) ∧ (w.alloc (.cells #[.int .i64 a, .int .i64 n, .int .i64 b, .int .i64 k] t)).cell? ⟨w.heap.size, 1, none⟩ = some (.int .i64 n) ∧
    (w.alloc (.cells #[.int .i64 a, .int .i64 n, .int .i64 b, .int .i64 k] t)).cell? ⟨w.heap.size, 2, none⟩ = some (.int .i64 b) ∧ (w.alloc (.cells #[.int .i64 a, .int .i64 n, .int .i64 b, .int .i64 k] t)).cell? ⟨w.heap.size, 3, none⟩ = some (.int .i64 k) := by
  have h := heap_alloc_new w (.cells #[.int .i64 a, .int .i64 n, .int .i64 b, .int .i64 k] t)
  exact ⟨cellQ h 0, cellQ h 1, cellQ h 2, cellQ h 3⟩
theorem meet_any (a n b k : Int) (w : World) : Calls Tryd.prog 56 #[.int .i64 a, .int .i64 n, .int .i64 b, .int .i64 k] w fun e w' => e = .returned (.bool (meetB a n b k)) ∧ Below w.heap.size w w' := by
  obtain ⟨q0, q1, q2, q3⟩ := box4 w a n b k 3
  cases h : nearB a n b k with
  | false =>
    go_enter Tryd.func56, Tryd.ntmps56
    go_wp2_with (go_at_call 74; refine (near_any a n b k _ _ q0 q1 q2 q3).mono ?_; rw [h]; rintro e w1 ⟨rfl, rfl⟩)
    go_ret
    exact ⟨ret_bool (by unfold meetB; rw [h]; rfl), bal (Below.refl _ _) _⟩
  | true =>
    obtain ⟨⟨a0, a1⟩, ⟨n0, n1⟩, ⟨b0, b1⟩, k0, k1⟩ := near_bd h
    go_enter Tryd.func56, Tryd.ntmps56
    go_wp2_with (go_at_call 74; refine (near_any a n b k _ _ q0 q1 q2 q3).mono ?_; rw [h]; rintro e w1 ⟨rfl, rfl⟩)
    all_goals go_ret
    all_goals refine ⟨ret_bool ?_, bal (Below.refl _ _) _⟩
    all_goals unfold meetB
    all_goals rw [h, Bool.eq_iff_iff]
    all_goals simp
    all_goals omega
theorem within_any (a n b k : Int) (w : World) : Calls Tryd.prog 75 #[.int .i64 a, .int .i64 n, .int .i64 b, .int .i64 k] w fun e w' => e = .returned (.bool (withinB a n b k)) ∧ Below w.heap.size w w' := by
  obtain ⟨q0, q1, q2, q3⟩ := box4 w a n b k 3
  cases h : nearB a n b k with
  | false =>
    go_enter Tryd.func75, Tryd.ntmps75
    go_wp2_with (go_at_call 74; refine (near_any a n b k _ _ q0 q1 q2 q3).mono ?_; rw [h]; rintro e w1 ⟨rfl, rfl⟩)
    go_ret
    exact ⟨ret_bool (by unfold withinB; rw [h]; rfl), bal (Below.refl _ _) _⟩
  | true =>
    obtain ⟨⟨a0, a1⟩, ⟨n0, n1⟩, ⟨b0, b1⟩, k0, k1⟩ := near_bd h
    go_enter Tryd.func75, Tryd.ntmps75
    go_wp2_with (go_at_call 74; refine (near_any a n b k _ _ q0 q1 q2 q3).mono ?_; rw [h]; rintro e w1 ⟨rfl, rfl⟩)
    all_goals go_ret
    all_goals refine ⟨ret_bool ?_, bal (Below.refl _ _) _⟩
    all_goals unfold withinB
    all_goals rw [h, Bool.eq_iff_iff]
    all_goals simp
    all_goals omega
set_option maxHeartbeats 1000000 in
theorem refMeet_any (a n b k : Int) (w : World) : Calls Tryd.prog 60 #[.int .i64 a, .int .i64 n, .int .i64 b, .int .i64 k] w fun e w' => e = .returned (.bool (meetB a n b k)) ∧ w = w' := by
  by_cases hk : k = 0
  all_goals
    go_enter Tryd.func60, Tryd.ntmps60
    go_wp2
    all_goals go_ret
    all_goals refine ⟨ret_bool ?_, rfl⟩
    all_goals unfold meetB nearB
    all_goals rw [Bool.eq_iff_iff]
    all_goals simp
    all_goals first | omega | (exfalso; rcases ‹(_ == _) = true ∨ (_ == _) = true› with h | h <;> (rw [beq_iff_eq] at h; omega))
set_option maxHeartbeats 1000000 in
theorem refWithin_any (a n b k : Int) (w : World) : Calls Tryd.prog 61 #[.int .i64 a, .int .i64 n, .int .i64 b, .int .i64 k] w fun e w' => e = .returned (.bool (withinB a n b k)) ∧ w = w' := by
  by_cases hk : k ≤ 1048576
  all_goals
    go_enter Tryd.func61, Tryd.ntmps61
    go_wp2
    all_goals go_ret
    all_goals refine ⟨ret_bool ?_, rfl⟩
    all_goals unfold withinB nearB
    all_goals rw [Bool.eq_iff_iff]
    all_goals simp
    all_goals omega
end
/- The objects of an arena: around, collide. -/
section
set_option linter.unusedVariables false
set_option linter.unusedSimpArgs false
open Go.ChangeShapes Go.WideShapes Go.ChangeAt Go.RowKit

/-- An object. -/
structure Ob where
  id : Int
  kd : Int
  sz : Int
  fi : Int
  fr : Int
  ma : Int
  se : Int
  pg : Int
  lv : Int
deriving DecidableEq
def Ob.cells (x : Ob) : List Value := [.int .i64 x.id, .int .i64 x.kd, .int .i64 x.sz, .int .i64 x.fi, .int .i64 x.fr, .int .i64 x.ma, .int .i64 x.se, .int .i64 x.pg, .int .i64 x.lv]
abbrev obV (x : Ob) : Value := .agg #[.int .i64 x.id, .int .i64 x.kd, .int .i64 x.sz, .int .i64 x.fi, .int .i64 x.fr, .int .i64 x.ma, .int .i64 x.se, .int .i64 x.pg, .int .i64 x.lv]
def aroundA (x y : Ob) : Bool := decide (x.kd = 1) && withinB y.fi y.fr x.fi x.fr
def collideA (x y : Ob) : Bool := meetB x.fi x.fr y.fi y.fr && !aroundA x y && !aroundA y x
set_option maxRecDepth 100000 in
set_option maxHeartbeats 1000000 in
theorem around_any (w : World) (x y : Ob) : Calls Tryd.prog 57 #[obV x, obV y] w fun e w' => e = .returned (.bool (aroundA x y)) ∧ Below w.heap.size w w' := by
  obtain ⟨i1, k1, s1, f1, n1, m1, e1, p1, l1⟩ := x
  obtain ⟨i2, k2, s2, f2, n2, m2, e2, p2, l2⟩ := y
  unfold aroundA
  by_cases h : k1 = 1
  · subst h
    go_enter Tryd.func57, Tryd.ntmps57
    go_wp2_with (go_at_call 75; refine (within_any _ _ _ _ _).mono ?_; rintro e w1 ⟨rfl, hb1⟩)
    all_goals go_ret
    all_goals exact ⟨ret_bool (by simp), (by repeat (first | with_reducible exact Below.refl _ _ | refine bal ?_ _ | refine bgo ?_ (by assumption)))⟩
  · go_enter Tryd.func57, Tryd.ntmps57
    go_wp2_with (go_at_call 75; refine (within_any _ _ _ _ _).mono ?_; rintro e w1 ⟨rfl, hb1⟩)
    all_goals go_ret
    all_goals exact ⟨ret_bool (by simp [h]), (by repeat (first | with_reducible exact Below.refl _ _ | refine bal ?_ _ | refine bgo ?_ (by assumption)))⟩
set_option maxRecDepth 100000 in
set_option maxHeartbeats 2000000 in
theorem collide_any (w : World) (x y : Ob) : Calls Tryd.prog 36 #[obV x, obV y] w fun e w' => e = .returned (.bool (collideA x y)) ∧ Below w.heap.size w w' := by
  have hxy := fun w => around_any w x y
  have hyx := fun w => around_any w y x
  have HXY := Lib.hid hxy
  have HYX := Lib.hid hyx
  clear hxy hyx
  unfold collideA
  obtain ⟨i1, k1, s1, f1, n1, m1, e1, p1, l1⟩ := x
  obtain ⟨i2, k2, s2, f2, n2, m2, e2, p2, l2⟩ := y
  generalize hA : aroundA _ _ = A at HXY ⊢
  generalize hB : aroundA _ _ = B at HYX ⊢
  cases hm : meetB f1 n1 f2 n2
  · have HM := Lib.hid hm
    clear hm
    go_enter Tryd.func36, Tryd.ntmps36
    go_wp2_with (go_at_call 56; refine (meet_any _ _ _ _ _).mono ?_; rw [HM.out]; rintro e w1 ⟨rfl, hb1⟩)
    all_goals go_ret
    all_goals exact ⟨ret_bool (by simp), (by repeat (first | with_reducible exact Below.refl _ _ | refine bal ?_ _ | refine bgo ?_ (by assumption)))⟩
  · have HM := Lib.hid hm
    clear hm hA hB
    have hB2 : Below w.heap.size w ((w.alloc (.cells #[.int .i64 i1, .int .i64 k1, .int .i64 s1, .int .i64 f1, .int .i64 n1, .int .i64 m1, .int .i64 e1, .int .i64 p1, .int .i64 l1] 84)).alloc (.cells #[.int .i64 i2, .int .i64 k2, .int .i64 s2, .int .i64 f2, .int .i64 n2, .int .i64 m2, .int .i64 e2, .int .i64 p2, .int .i64 l2] 84)) := bal (bal (Below.refl _ _) _) _
    have HB2 := Lib.hid hB2
    clear hB2
    cases A
    all_goals
      go_enter Tryd.func36, Tryd.ntmps36
      go_wp2_with (first | (go_at_call 56; refine (meet_any _ _ _ _ _).mono ?_; rw [HM.out]; rintro e w1 ⟨rfl, hb1⟩; obtain ⟨hc1, hf1⟩ := bcell hb1; have hz1 := hb1.size; have hz2 : w.heap.size + 1 < w1.heap.size := (by simp at hz1; omega); have hz20 : w.heap.size < w1.heap.size := (by omega)) | (go_at_call 57; refine (HYX.out w2).mono ?_; rintro e w3 ⟨rfl, hb3⟩) | (go_at_call 57; refine (HXY.out w1).mono ?_; rintro e w2 ⟨rfl, hb2⟩; obtain ⟨hc2, hf2⟩ := bcell hb2; have hz3 := hb2.size; have hz4 : w.heap.size + 1 < w2.heap.size := (by omega); have hz40 : w.heap.size < w2.heap.size := (by omega)))
      all_goals go_ret
      all_goals first | exact ⟨ret_bool (by simp), HB2.out.trans ((hb1.mono (by simp only [World.size_alloc]; omega)).trans ((hb2.mono (by omega)).trans (hb3.mono (by omega))))⟩ | exact ⟨ret_bool (by simp), HB2.out.trans ((hb1.mono (by simp only [World.size_alloc]; omega)).trans (hb2.mono (by omega)))⟩
end
/- A table by whole numbers, of any number of rows: search. -/
section
set_option linter.unusedVariables false
set_option linter.unusedSimpArgs false
open Go.ChangeShapes Go.WideShapes Go.ChangeAt Go.RowKit

namespace TabA
def C : Nat := 10
theorem infoR : (Tryd.prog.info? 128).map (fun i => (i.zero, i.size, i.bytes)) = some (some (.agg #[.int .i64 0, .int .i64 0, .int .i64 0, .int .i64 0, .int .i64 0, .int .i64 0, .int .i64 0, .int .i64 0, .int .i64 0, .int .i64 0]), 10, 80) := by kernel_rfl
/-- What a comparison of two numbers answers. -/
def cmpI (a b : Int) : Int := if a < b then -1 else if b < a then 1 else 0
set_option maxHeartbeats 1000000 in
theorem cmp_any (w : World) (a b : Int) (r : List Value) : Calls Tryd.prog 77 #[.agg (.int .i64 a :: r).toArray, .int .i64 b] w fun e w' => e = .returned (.int .i64 (cmpI a b)) ∧ Below w.heap.size w w' := by
  unfold cmpI
  rcases Int.lt_trichotomy a b with h | h | h
  · have h2 : ¬ b < a := by omega
    rw [if_pos h]
    go_enter Tryd.func77, Tryd.ntmps77
    go_wp2_with go_in
    go_ret
    exact ⟨rfl, bal (Below.refl _ _) _⟩
  · subst h
    rw [if_neg (by omega), if_neg (by omega)]
    go_enter Tryd.func77, Tryd.ntmps77
    go_wp2_with go_in
    go_ret
    exact ⟨by simp, bal (Below.refl _ _) _⟩
  · have h2 : ¬ a < b := by omega
    rw [if_neg h2, if_pos h]
    go_enter Tryd.func77, Tryd.ntmps77
    go_wp2_with go_in
    go_ret
    exact ⟨rfl, bal (Below.refl _ _) _⟩
end TabA
end
/- A table by whole numbers, of any number of rows: binary search. -/
section
set_option linter.unusedVariables false
set_option linter.unusedSimpArgs false
open Go.ChangeShapes Go.WideShapes Go.ChangeAt Go.RowKit

namespace TabA
/-- The rows lie in block g, from its head. -/
def RowsIn (w : World) (g : Nat) (R : List Rw) : Prop := ∀ (i j : Nat) (r : Rw) (v : Value), R[i]? = some r → (rcells r)[j]? = some v → w.cell? ⟨g, i * 10 + j, none⟩ = some v
theorem RowsIn.call {w w' : World} {g : Nat} {R : List Rw} (h : RowsIn w g R) (hg : g < w.heap.size) (hb : Below w.heap.size w w') : RowsIn w' g R := fun i j r v hi hj => (hb.cell (p := ⟨g, _, none⟩) hg).trans (h i j r v hi hj)
theorem RowsIn.load {w : World} {g i : Nat} {R : List Rw} {r : Rw} (h : RowsIn w g R) (hi : R[i]? = some r) (A : Addr) (hA : A = ⟨g, i * 10, none⟩) : ∀ j v, (rcells r)[j]? = some v → w.cell? (A.add j) = some v := by
  intro j v hj
  subst hA
  have : ((⟨g, i * 10, none⟩ : Addr).add j) = ⟨g, i * 10 + j, none⟩ := by unfold Addr.add; split <;> simp_all
  rw [this]
  exact h i j r v hi hj
theorem intOf_nat (k : IntKind) (n : Nat) : (intOf (.int k n)).toNat = n := by simp [intOf]
set_option maxRecDepth 100000 in
set_option maxHeartbeats 2000000 in
theorem bsf_any (w : World) (g c : Nat) (R : List Rw) (k : Int) (hg : g < w.heap.size) (hw : Wide 10 R) (hA : Asc R) (hl : R.length ≤ 1000000) (hR : RowsIn w g R) :
    Calls Tryd.prog 76 #[.slice (some ⟨g, 0, none⟩) R.length c, .int .i64 k, .func (.func 77) #[] #[]] w fun e w' => e = .returned (.tuple #[.int .i64 (posR R k : Nat), .bool (hasR R k)]) ∧ Below w.heap.size w w' := by
  have HW := Lib.hid hw
  have HA := Lib.hid hA
  have HR := Lib.hid hR
  generalize hn : R.length = n at *
  have HN := Lib.hid hn
  clear hw hA hR hn
  go_enter Tryd.func76, Tryd.ntmps76
  go_wp2
  go_loopw [9, 10, 11] (fun x y z wr => ∃ i j : Nat, i ≤ j ∧ j ≤ n ∧ x = .int .i64 i ∧ y = .int .i64 j ∧ Below w.heap.size w wr ∧ Hid ((∀ t r, t < i → R[t]? = some r → r.1 < k) ∧ (∀ t r, j ≤ t → R[t]? = some r → k ≤ r.1))) (fun x y _ _ => (intOf y).toNat - (intOf x).toNat)
  case atStart => exact ⟨0, n, by omega, by omega, rfl, rfl, Below.refl _ _, Lib.hid ⟨fun t r h => by omega, fun t r h hr => by have := (List.getElem?_eq_some_iff.1 hr).1; have := HN.out; omega⟩⟩
  case round =>
    obtain ⟨i, j, hij, hjn, rfl, rfl, hb, HF⟩ := hrel
    by_cases hlt : i < j
    · have HNN := HN.out
      obtain ⟨r, hr⟩ : ∃ r, R[(i + j) / 2]? = some r := ⟨R[(i + j) / 2]'(by omega), List.getElem?_eq_getElem _⟩
      have hrc : (rcells r).length = 10 := (HW.out r (List.mem_of_getElem? hr)).1
      have HL := Lib.hid ((HR.out.call hg hb).load hr ⟨g, (i + j) / 2 * 10, none⟩ rfl)
      have HRC := Lib.hid hrc
      have HRR := Lib.hid hr
      have hlt' : (i : Int) < j := by omega
      clear HNN hr hrc
      by_cases hk : r.1 < k
      · have hcv : cmpI r.1 k = -1 := if_pos hk
        have HCV := Lib.hid hcv
        have HK := Lib.hid hk
        clear hcv hk
        go_wp2_with (first | (refine wpList_load_list (by first | rfl | simp [Region.wanted, yielded]) 128 _ rfl ⟨g, (i + j) / 2 * 10, none⟩ rfl (rcells r) HL.out _ Tryd.underlying128 rfl (by rw [HRC.out]; kernel_rfl) ?_) | (go_at_call 77; refine (cmp_any _ _ _ _).mono ?_; rw [HCV.out]; rintro e w1 ⟨rfl, hb1⟩))
        go_roundw
        case rel => exact ⟨(i + j) / 2 + 1, j, by omega, by omega, by go_num, by go_num, hb.trans (hb1.mono hb.size), Lib.hid ⟨fun t x h hx => by
          rcases Nat.lt_or_ge t ((i + j) / 2) with q | q
          · exact Int.lt_trans ((HA.out.at q hx HRR.out)) HK.out
          · obtain rfl : t = (i + j) / 2 := by omega
            rw [HRR.out] at hx
            cases hx
            exact HK.out, HF.out.2⟩⟩
        case measure => first | (simp [intOf]; done) | (simp [intOf]; omega)
      · obtain ⟨cv, hcv, hc0⟩ : ∃ cv, cmpI r.1 k = cv ∧ ¬ cv < 0 := ⟨_, rfl, by unfold cmpI; rw [if_neg hk]; split <;> omega⟩
        have HCV := Lib.hid hcv
        have HK := Lib.hid hk
        clear hcv hk
        go_wp2_with (first | (refine wpList_load_list (by first | rfl | simp [Region.wanted, yielded]) 128 _ rfl ⟨g, (i + j) / 2 * 10, none⟩ rfl (rcells r) HL.out _ Tryd.underlying128 rfl (by rw [HRC.out]; kernel_rfl) ?_) | (go_at_call 77; refine (cmp_any _ _ _ _).mono ?_; rw [HCV.out]; rintro e w1 ⟨rfl, hb1⟩))
        go_roundw
        case rel => exact ⟨i, (i + j) / 2, by omega, by omega, by go_num, by go_num, hb.trans (hb1.mono hb.size), Lib.hid ⟨HF.out.1, fun t x h hx => by
          have hKK := HK.out
          rcases Nat.lt_or_ge ((i + j) / 2) t with q | q
          · have := HA.out.at q HRR.out hx
            omega
          · obtain rfl : t = (i + j) / 2 := by omega
            rw [HRR.out] at hx
            cases hx
            omega⟩⟩
        case measure => first | (simp [intOf]; done) | (simp [intOf]; omega)
    · obtain rfl : i = j := by omega
      have HNN := HN.out
      obtain ⟨e1, e2, e3⟩ := found_at HA.out (by omega : i ≤ R.length) HF.out.1 HF.out.2
      have E1 := Lib.hid e1
      by_cases hin : i < n
      · obtain ⟨r, hr⟩ : ∃ r, R[i]? = some r := ⟨R[i]'(by omega), List.getElem?_eq_getElem _⟩
        have hrc : (rcells r).length = 10 := (HW.out r (List.mem_of_getElem? hr)).1
        have HL := Lib.hid ((HR.out.call hg hb).load hr ⟨g, i * 10, none⟩ rfl)
        have HRC := Lib.hid hrc
        obtain ⟨cv, hcv, hc0⟩ : ∃ cv, cmpI r.1 k = cv ∧ (cv = 0 ↔ r.1 = k) := ⟨_, rfl, by unfold cmpI; constructor <;> intro q <;> (try split at q) <;> (try split at q) <;> (try split) <;> (try split) <;> omega⟩
        have HCV := Lib.hid hcv
        have hdd : decide (r.1 = k) = decide (cv = 0) := by rw [decide_eq_decide]; exact hc0.symm
        have E2 := Lib.hid ((e2 r hr).trans hdd)
        have hin' : (i : Int) < n := by omega
        clear HNN hr hrc e1 e2 e3 hcv hc0 hdd
        go_wp2_with (first | (refine wpList_load_list (by first | rfl | simp [Region.wanted, yielded]) 128 _ rfl ⟨g, i * 10, none⟩ rfl (rcells r) HL.out _ Tryd.underlying128 rfl (by rw [HRC.out]; kernel_rfl) ?_) | (go_at_call 77; refine (cmp_any _ _ _ _).mono ?_; rw [HCV.out]; rintro e w1 ⟨rfl, hb1⟩))
        go_ret2
        rw [E1.out, E2.out]
        exact ⟨by first | rfl | simp, hb.trans (hb1.mono hb.size)⟩
      · have E2 := Lib.hid (e3 (by omega))
        have hin' : ¬ (i : Int) < n := by omega
        clear HNN e1 e2 e3
        go_wp2
        go_ret2
        rw [E1.out, E2.out]
        exact ⟨by first | rfl | simp, hb⟩
end TabA
end
/- A table by whole numbers, of any number of rows: slices.Insert of one row. -/
section
set_option linter.unusedVariables false
set_option linter.unusedSimpArgs false
open Go.ChangeShapes Go.WideShapes Go.ChangeAt Go.RowKit

namespace TabA
/-- What an Insert leaves. -/
def InsPost (w w' : World) (base : Nat) (v v' : Value) (R' : List Rw) : Prop :=
  w'.ownsRow base 128 10 v' R'.length (flat R') ∧ w.grownBy w' v.ownBlock ∧ (v'.ownBlock = v.ownBlock ∨ ∃ g, v'.ownBlock = some g ∧ w.heap.size ≤ g)
theorem mul_bytes {n : Nat} (h : n ≤ 1000001) : n * 80 ≤ 140737488355328 := by omega
set_option maxRecDepth 100000 in
set_option maxHeartbeats 2000000 in
theorem ins_end (w : World) (base : Nat) (v : Value) (R : List Rw) (r : Rw) (nb : Nat) (hw : Wide 10 R) (hr : Wide 10 [r]) (hl : R.length ≤ 1000000) (hown : w.ownsRow base 128 10 v R.length (flat R)) (hb : base ≤ w.heap.size)
    (hn : w.heap[nb]? = some (.cells (rcells r).toArray 128 (0, 0))) :
    Calls Tryd.prog 59 #[v, .int .i64 (R.length : Nat), .slice (some ⟨nb, 0, none⟩) 1 1] w fun e w' => ∃ v', e = .returned v' ∧ InsPost w w' base v v' (R ++ [r]) := by
  obtain ⟨i0, hi, hz0, hz1, hz2⟩ := info_parts infoR
  have hlr : (rcells r).length = 1 * 10 := by rw [(hr r (by simp)).1]
  have h1 : ∀ u ∈ rcells r, u.oneCell' = true := (hr r (by simp)).2
  have hcs := add_cells (w := w) (g := nb) (cs := rcells r) (fun j u hj => by rw [cell_cur hn]; exact hj)
  have e1 : flat (R ++ [r]) = flat R ++ rcells r := by rw [flat_append, flat_cons, flat_nil, List.append_nil]
  have e2 : (R ++ [r]).length = R.length + 1 := by simp
  unfold InsPost
  rw [e1, e2]
  have HI := Lib.hid hi
  have HO := Lib.hid hown
  have HL := Lib.hid hlr
  have H1 := Lib.hid h1
  have HC := Lib.hid hcs
  have hform := hown.2
  generalize flat R = xs at HO hform ⊢
  clear hi hlr h1 hcs hown e1 e2 hw hr hn
  generalize R.length = n at *
  rcases hform with ⟨rfl, rfl⟩ | ⟨g, cap, cur, rfl, q1, q2, q3, q4, q5, q6⟩
  · go_enter Tryd.func59, Tryd.ntmps59
    go_wp2_with (at_builtin; refine wpList_append_at rfl _ _ 56 rfl base 128 i0 (.agg #[.int .i64 0, .int .i64 0, .int .i64 0, .int .i64 0, .int .i64 0, .int .i64 0, .int .i64 0, .int .i64 0, .int .i64 0, .int .i64 0]) 10 80 Tryd.underlying56 HI.out hz0 hz1 hz2 rfl (by decide) (.slice none 0 0) 0 xs rfl HO.out ⟨nb, 0, none⟩ 1 1 (rcells r) rfl HL.out HC.out H1.out (by unfold maxLen; omega) (mul_bytes (by omega)) hb ?_; intro v' w1 hown' hgrow hat)
    go_ret
    exact ⟨v', rfl, hown', hgrow, hat.imp id (fun h => ⟨_, h, Nat.le_refl _⟩)⟩
  · clear q2 q5 q6
    go_enter Tryd.func59, Tryd.ntmps59
    go_wp2_with (at_builtin; refine wpList_append_at rfl _ _ 56 rfl base 128 i0 (.agg #[.int .i64 0, .int .i64 0, .int .i64 0, .int .i64 0, .int .i64 0, .int .i64 0, .int .i64 0, .int .i64 0, .int .i64 0, .int .i64 0]) 10 80 Tryd.underlying56 HI.out hz0 hz1 hz2 rfl (by decide) (.slice (some ⟨g, 0, none⟩) n cap) n xs rfl HO.out ⟨nb, 0, none⟩ 1 1 (rcells r) rfl HL.out HC.out H1.out (by unfold maxLen; omega) (mul_bytes (by omega)) hb ?_; intro v' w1 hown' hgrow hat)
    all_goals
      go_ret
      exact ⟨v', rfl, hown', hgrow, hat.imp id (fun h => ⟨_, h, Nat.le_refl _⟩)⟩
end TabA
end
/- A table by whole numbers, of any number of rows: slices.Insert of one row in the midst. -/
section
set_option linter.unusedVariables false
set_option linter.unusedSimpArgs false
open Go.ChangeShapes Go.WideShapes Go.ChangeAt Go.RowKit

namespace TabA
theorem sizeR (w : World) : (Go.sizeOf 128).run Tryd.prog w = .ok 10 w := by
  obtain ⟨i0, hi, hz0, hz1, hz2⟩ := info_parts infoR
  simp [Go.sizeOf, typeInfo, hi, hz1]
theorem overlaps_no (w : World) (nb g off la ca lb cb kA kB : Nat) (tA tB : TypeId) (hne : nb ≠ g) (hA : w.shape? nb = some (tA, kA)) (hB : w.shape? g = some (tB, kB)) (hk : kB ≠ 0) (hfa : w.frozen? ⟨nb, 0, none⟩ = false) (hfe : w.frozen? ⟨nb, kA, none⟩ = false) :
    (callFunc 79 #[.slice (some ⟨nb, 0, none⟩) la ca, .slice (some ⟨g, off, none⟩) lb cb]).run Tryd.prog w = .ok (.value (.bool false)) w := by
  rw [run_callFunc_extern Tryd.func79 (by kernel_rfl) (by kernel_rfl) (by kernel_rfl) (e := Extern.SlicesOverlaps.overlaps #[56, 56] #[4]) (by kernel_rfl),
    Lib.run_overlaps_apart w 56 4 128 Tryd.underlying56 10 sizeR ⟨nb, 0, none⟩ ⟨g, off, none⟩ la ca lb cb hne tA tB kA kB hA hB hk hfa hfe]
  rfl
theorem shape_row {w : World} {g : Nat} {cur : Array Value} {t : TypeId} {fr : Nat × Nat} (h : w.heap[g]? = some (.cells cur t fr)) : w.shape? g = some (t, cur.size) := by simp [World.shape?, h]
theorem froz_row {w : World} {g o : Nat} {cur : Array Value} {t : TypeId} (h : w.heap[g]? = some (.cells cur t (0, 0))) : w.frozen? ⟨g, o, none⟩ = false := by simp [World.frozen?, h]
set_option maxRecDepth 100000 in
set_option maxHeartbeats 800000 in
/-- There is room. -/
theorem ins_room (w : World) (base g cap p : Nat) (R : List Rw) (D : List Value) (r : Rw) (nb : Nat) (hw : Wide 10 R) (hr : Wide 10 [r]) (hl : R.length ≤ 1000000) (hp : p < R.length) (hcap : R.length + 1 ≤ cap) (hcm : cap ≤ maxLen) (hbg : base ≤ g)
    (hg : w.heap[g]? = some (.cells (flat R ++ D).toArray 128 (0, 0))) (hD : (flat R ++ D).length = cap * 10) (hne : nb ≠ g)
    (hn : w.heap[nb]? = some (.cells (rcells r).toArray 128 (0, 0))) :
    Calls Tryd.prog 59 #[.slice (some ⟨g, 0, none⟩) R.length cap, .int .i64 p, .slice (some ⟨nb, 0, none⟩) 1 1] w fun e w' => ∃ v', e = .returned v' ∧ InsPost w w' base (.slice (some ⟨g, 0, none⟩) R.length cap) v' (R.take p ++ r :: R.drop p) := by
  obtain ⟨i0, hi, hz0, hz1, hz2⟩ := info_parts infoR
  have hlr : (rcells r).length = 10 := (hr r (by simp)).1
  have h1 : ∀ u ∈ rcells r, u.oneCell' = true := (hr r (by simp)).2
  have hcur : flat R ++ D = flat (R.take p) ++ (flat (R.drop p) ++ D) := by
    rw [← List.append_assoc, ← flat_append, List.take_append_drop]
  have lA : (flat (R.take p)).length = p * 10 := by rw [flat_length (hw.take p), List.length_take, Nat.min_eq_left (by omega)]
  have lX : (flat (R.drop p)).length = (R.length - p) * 10 := by rw [flat_length (hw.drop p), List.length_drop]
  have oX := flat_one (hw.drop p)
  have e2 : (R.take p ++ r :: R.drop p).length = R.length + 1 := by simp; omega
  have e1 : flat (R.take p ++ r :: R.drop p) = flat (R.take p) ++ (rcells r ++ flat (R.drop p)) := by rw [flat_append, flat_cons]
  rw [hcur] at hg hD
  unfold InsPost
  rw [e1, e2]
  have lD : (flat (R.take p)).length + ((flat (R.drop p)).length + D.length) = cap * 10 := by rw [← hD]; simp
  generalize flat (R.take p) = A at *
  generalize flat (R.drop p) = X at *
  generalize R.length = n at *
  clear hcur e1 e2 hw hr hD
  generalize hY : rcells r = Y at *
  clear hY
  have hDl : 10 ≤ D.length := by rw [lA, lX] at lD; omega
  have hov := fun la ca lb cb => overlaps_no w nb g ((p + 1) * 10) la ca lb cb Y.toArray.size _ _ _ hne (shape_row hn) (shape_row hg) (by rw [List.size_toArray]; simp only [List.length_append]; omega) (froz_row hn) (froz_row hn)
  have hlt : (p : Int) < n := by omega
  have hpn : ¬ (p : Int) = n := by omega
  have hcc : ¬ (cap : Int) < (n : Int) + 1 := by omega
  have hc1 : ¬ cap = p + 1 := by omega
  have hc0 : ¬ cap = p := by omega
  have hcap63 : cap ≤ 9223372036854775807 := by unfold maxLen at hcm; omega
  have hx1 : ∀ j u, X[j]? = some u → w.cell? ((⟨g, p * 10, none⟩ : Addr).add j) = some u := add_cells_off (fun j u hj => by
    rw [cell_cur hg, ← lA, List.getElem?_append_right (by omega), Nat.add_sub_cancel_left, List.getElem?_append_left (List.getElem?_eq_some_iff.1 hj).1]
    exact hj)
  have hy1 : ∀ j u, Y[j]? = some u → w.cell? ((⟨nb, 0, none⟩ : Addr).add j) = some u := add_cells (fun j u hj => by rw [cell_cur hn]; exact hj)
  have HG := Lib.hid hg
  have hgd : w.drew.heap[g]? = some (.cells (A ++ (X ++ D)).toArray 128 (0, 0)) := hg
  have hxd : ∀ j u, X[j]? = some u → w.drew.cell? ((⟨g, p * 10, none⟩ : Addr).add j) = some u := hx1
  have HGD := Lib.hid hgd
  have HXD := Lib.hid hxd
  have HN := Lib.hid hn
  have HX := Lib.hid hx1
  have HY := Lib.hid hy1
  have LA := Lib.hid lA
  have LX := Lib.hid lX
  have LD := Lib.hid lD
  have LR := Lib.hid hlr
  have OX := Lib.hid oX
  have OY := Lib.hid h1
  have HI := Lib.hid hi
  have HZ := Lib.hid hz1
  have HDL := Lib.hid hDl
  clear hg hgd hxd hn hx1 hy1 lA lX lD hlr oX h1 hi hz0 hz1 hz2 hDl
  go_enter Tryd.func59, Tryd.ntmps59
  go_upto_region 15 with (simp only [hov])
  have LAo := LA.out
  have LXo := LX.out
  have LDo := LD.out
  have hDl2 := HDL.out
  have LRo := LR.out
  have hn1 : ∀ s d : Nat, s = n + 1 - p → d = n + 1 - (p + 1) → X.length = Nat.min s d * i0.size := by
    intro s d hs hd
    rw [LXo, HZ.out, show Nat.min s d = d from Nat.min_eq_right (by omega)]
    congr 1; omega
  have hn2 : ∀ s d : Nat, s = 1 → d = n + 1 - p → Y.length = Nat.min s d * i0.size := by
    intro s d hs hd
    rw [LRo, HZ.out, show Nat.min s d = s from Nat.min_eq_left (by omega)]
    omega
  have hf1 : (p + 1) * 10 + X.length ≤ (A ++ (X ++ D)).length := by simp only [List.length_append]; omega
  have hf2 : p * 10 + Y.length ≤ (splice (A ++ (X ++ D)) ((p + 1) * 10) X).length := by
    rw [length_splice' _ _ _ hf1]; simp only [List.length_append]; omega
  have hsp : splice (splice (A ++ (X ++ D)) ((p + 1) * 10) X) (p * 10) Y = A ++ (Y ++ (X ++ D.drop Y.length)) := by
    have := splice_up A X Y D (by omega)
    rw [LAo, LRo] at this
    rw [LRo, ← this, show (p + 1) * 10 = p * 10 + 10 by omega]
  have hq1 : IntKind.i64.wrap ((p : Int) + 1) = (p : Int) + 1 := IntWalk.i64_in _ (by omega)
  have hq2 : ((p : Int) + 1).toNat = p + 1 := by omega
  have hq3 : (0 : Int) ≤ (p : Int) + 1 := by omega
  have hq4 : p ≤ n := by omega
  have hq5 : (p : Int) ≤ (n : Int) + 1 := by omega
  have HN1 := Lib.hid hn1
  have HN2 := Lib.hid hn2
  have HF1 := Lib.hid hf1
  have HF2 := Lib.hid hf2
  have HSP := Lib.hid hsp
  clear hn1 hn2 hf1 hf2 hsp hDl2 LAo LXo LDo LRo
  go_region_law (refine step_copy_rowN rfl _ _ 56 56 rfl 128 i0 Tryd.underlying56 HI.out g ((p + 1) * 10) (n - p) (cap - (p + 1)) ⟨g, p * 10, none⟩ (n + 1 - p) (cap - p) (by simp [Act.eval, Act.put]) (by simp [Act.eval, Act.put]) (A ++ (X ++ D)) 128 HGD.out X (HN1.out (n + 1 - p) (n - p) rfl (by omega)) HXD.out HF1.out OX.out ?_; intro w1 hw1)
  obtain ⟨w1, hw1⟩ : ∃ x, x = w.drew.setRow g (splice (A ++ (X ++ D)) ((p + 1) * 10) X).toArray := ⟨_, rfl⟩
  rw [← hw1]
  have hg1 : w1.heap[g]? = some (.cells (splice (A ++ (X ++ D)) ((p + 1) * 10) X).toArray 128 (0, 0)) := by rw [hw1]; exact setRow_heap w.drew g _ _ _ _ HGD.out
  have hn1 : w1.heap[nb]? = some (.cells Y.toArray 128 (0, 0)) := by rw [hw1]; exact (setRow_other w.drew g nb _ hne).trans HN.out
  have hgr1 : w.grownBy w1 (some g) := by rw [hw1]; exact grown_trans (⟨rfl, rfl, rfl, Nat.le_refl _, fun _ _ _ => rfl⟩ : w.grownBy w.drew (some g)) (grown_setRow _ _ _)
  have hy1 : ∀ j u, Y[j]? = some u → w1.cell? ((⟨nb, 0, none⟩ : Addr).add j) = some u := add_cells (fun j u hj => by rw [cell_cur hn1]; exact hj)
  have HG1 := Lib.hid hg1
  have HGR := Lib.hid hgr1
  have HY1 := Lib.hid hy1
  clear hw1 hg1 hn1 hgr1 hy1 hov
  go_wp2_with (first | refine wpList_copy_rowN rfl _ _ 56 56 rfl 128 i0 Tryd.underlying56 HI.out g (p * 10) (n + 1 - p) (cap - p) ⟨nb, 0, none⟩ 1 1 (by simp [Act.eval, Act.put]) (by simp [Act.eval, Act.put]) (splice (A ++ (X ++ D)) ((p + 1) * 10) X) 128 HG1.out Y (HN2.out 1 (n + 1 - p) rfl rfl) HY1.out HF2.out OY.out ?_; intro w2 hw2; have hg2 : w2.heap[g]? = some (.cells (splice (splice (A ++ (X ++ D)) ((p + 1) * 10) X) (p * 10) Y).toArray 128 (0, 0)) := (by rw [hw2]; exact setRow_heap w1 g _ _ _ _ HG1.out); have HG2 := Lib.hid hg2; have HGR2 := Lib.hid (show w.grownBy w2 (some g) by rw [hw2]; exact grown_trans HGR.out (grown_setRow _ _ _)); clear hg2 hw2)
  go_ret
  have hg2 := HG2.out
  rw [HSP.out] at hg2
  have LAo := LA.out
  have LXo := LX.out
  have LDo := LD.out
  have LRo := LR.out
  have hDl2 := HDL.out
  have hlen : (A ++ (Y ++ X)).length = (n + 1) * 10 := by simp only [List.length_append]; omega
  refine ⟨_, rfl, ⟨hlen, .inr ⟨g, cap, _, rfl, hbg, hg2, hcap, hcm, ?_, ?_⟩⟩, HGR2.out, .inl rfl⟩
  · simp only [List.size_toArray, List.length_append, List.length_drop]; omega
  · rw [← hlen]
    have : A ++ (Y ++ (X ++ D.drop Y.length)) = (A ++ (Y ++ X)) ++ D.drop Y.length := by simp
    simp only [this]
    exact List.take_left
end TabA
end
/- A table by whole numbers, of any number of rows: slices.Insert of one row in the midst, where there is no room. -/
section
set_option linter.unusedVariables false
set_option linter.unusedSimpArgs false
open Go.ChangeShapes Go.WideShapes Go.ChangeAt Go.RowKit

namespace TabA
theorem zeros_len (k : Nat) : (Builtin.zeroCells (Value.cells (.agg #[.int .i64 0, .int .i64 0, .int .i64 0, .int .i64 0, .int .i64 0, .int .i64 0, .int .i64 0, .int .i64 0, .int .i64 0, .int .i64 0])) k).toList.length = k * 10 := by
  rw [Array.length_toList, size_zeroCells]
  rfl
set_option maxRecDepth 100000 in
set_option maxHeartbeats 2000000 in
/-- There is no room. -/
theorem ins_grow (w : World) (base g cap p : Nat) (R : List Rw) (D : List Value) (r : Rw) (nb : Nat) (hw : Wide 10 R) (hr : Wide 10 [r]) (hl : R.length ≤ 1000000) (hp : p < R.length) (hle : R.length ≤ cap) (hcap : cap < R.length + 1) (hbw : base ≤ w.heap.size)
    (hg : w.heap[g]? = some (.cells (flat R ++ D).toArray 128 (0, 0)))
    (hn : w.heap[nb]? = some (.cells (rcells r).toArray 128 (0, 0))) :
    Calls Tryd.prog 59 #[.slice (some ⟨g, 0, none⟩) R.length cap, .int .i64 p, .slice (some ⟨nb, 0, none⟩) 1 1] w fun e w' => ∃ v', e = .returned v' ∧ InsPost w w' base (.slice (some ⟨g, 0, none⟩) R.length cap) v' (R.take p ++ r :: R.drop p) := by
  obtain ⟨i0, hi, hz0, hz1, hz2⟩ := info_parts infoR
  have hlr : (rcells r).length = 10 := (hr r (by simp)).1
  have h1 : ∀ u ∈ rcells r, u.oneCell' = true := (hr r (by simp)).2
  have hcur : flat R ++ D = flat (R.take p) ++ (flat (R.drop p) ++ D) := by
    rw [← List.append_assoc, ← flat_append, List.take_append_drop]
  have lA : (flat (R.take p)).length = p * 10 := by rw [flat_length (hw.take p), List.length_take, Nat.min_eq_left (by omega)]
  have lX : (flat (R.drop p)).length = (R.length - p) * 10 := by rw [flat_length (hw.drop p), List.length_drop]
  have oX := flat_one (hw.drop p)
  have e2 : (R.take p ++ r :: R.drop p).length = R.length + 1 := by simp; omega
  have e1 : flat (R.take p ++ r :: R.drop p) = flat (R.take p) ++ (rcells r ++ flat (R.drop p)) := by rw [flat_append, flat_cons]
  rw [hcur] at hg
  unfold InsPost
  rw [e1, e2]
  generalize flat (R.take p) = A at *
  generalize flat (R.drop p) = X at *
  generalize R.length = n at *
  clear hcur e1 e2 hw hr
  generalize hY : rcells r = Y at *
  clear hY
  obtain rfl : cap = n := by omega
  have hgl : g < w.heap.size := (Array.getElem?_eq_some_iff.1 hg).1
  have hnl : nb < w.heap.size := (Array.getElem?_eq_some_iff.1 hn).1
  have hlt : (p : Int) < cap := by omega
  have hpn : ¬ (p : Int) = cap := by omega
  have hcc : (cap : Int) < (cap : Int) + 1 := by omega
  have hc0 : ¬ cap = p := by omega
  have ha1 : ∀ j u, A[j]? = some u → w.drew.cell? ((⟨g, 0, none⟩ : Addr).add j) = some u := add_cells (fun j u hj => by
    rw [cell_cur (w := w.drew) hg, List.getElem?_append_left (List.getElem?_eq_some_iff.1 hj).1]
    exact hj)
  have hap := Lib.run_append_grow_zeros (P := Tryd.prog) w 56 3 56 128 i0 (.agg #[.int .i64 0, .int .i64 0, .int .i64 0, .int .i64 0, .int .i64 0, .int .i64 0, .int .i64 0, .int .i64 0, .int .i64 0, .int .i64 0]) .i64 .i64 Tryd.underlying56 Tryd.underlying3 hi hz0 (some ⟨g, 0, none⟩) p cap A
    (run_firstCells_some (P := Tryd.prog) w.drew i0.size p ⟨g, 0, none⟩ p cap A (by rw [lA, hz1]) ha1) (cap + 1 - p) (by omega) (by rw [hz1]; omega) (by omega) (by omega) (by rw [hz2]; omega) (by rw [hz2]; exact growslice_fits (by omega) (by omega))
  have hk1 : p + (cap + 1 - p) = cap + 1 := by omega
  have hk2 : ((cap + 1 - p : Nat) : Int) = (cap : Int) + 1 - (p : Int) := by omega
  rw [hk1, hk2] at hap
  have hgc1 := grownCap_ge w (cap + 1) cap 128
  have hgc2 : grownCap w (cap + 1) cap 128 ≤ maxLen := grownCap_le_maxLen w (cap + 1) cap 128 (by unfold maxLen; omega)
  generalize grownCap w (cap + 1) cap 128 = gc at hap hgc1 hgc2
  obtain ⟨Z1, hZ1⟩ : ∃ L, L = (Builtin.zeroCells (Value.cells (.agg #[.int .i64 0, .int .i64 0, .int .i64 0, .int .i64 0, .int .i64 0, .int .i64 0, .int .i64 0, .int .i64 0, .int .i64 0, .int .i64 0])) (cap + 1 - p)).toList := ⟨_, rfl⟩
  obtain ⟨Z2, hZ2⟩ : ∃ L, L = (Builtin.zeroCells (Value.cells (.agg #[.int .i64 0, .int .i64 0, .int .i64 0, .int .i64 0, .int .i64 0, .int .i64 0, .int .i64 0, .int .i64 0, .int .i64 0, .int .i64 0])) (gc - (cap + 1))).toList := ⟨_, rfl⟩
  have lZ1 : Z1.length = (cap + 1 - p) * 10 := by rw [hZ1]; exact zeros_len _
  have lZ2 : Z2.length = (gc - (cap + 1)) * 10 := by rw [hZ2]; exact zeros_len _
  have hLz : A.toArray ++ Builtin.zeroCells (Value.cells (.agg #[.int .i64 0, .int .i64 0, .int .i64 0, .int .i64 0, .int .i64 0, .int .i64 0, .int .i64 0, .int .i64 0, .int .i64 0, .int .i64 0])) (cap + 1 - p) ++ Builtin.zeroCells (Value.cells (.agg #[.int .i64 0, .int .i64 0, .int .i64 0, .int .i64 0, .int .i64 0, .int .i64 0, .int .i64 0, .int .i64 0, .int .i64 0, .int .i64 0])) (gc - (cap + 1)) = (A ++ (Z1 ++ Z2)).toArray := by
    apply Array.ext'
    simp [hZ1, hZ2]
  rw [hLz] at hap
  clear hZ1 hZ2 hLz
  obtain ⟨w1, hw1⟩ : ∃ x, x = w.drew.alloc (.cells (A ++ (Z1 ++ Z2)).toArray 128) := ⟨_, rfl⟩
  rw [← hw1] at hap
  have hG1 : w1.heap[w.heap.size]? = some (.cells (A ++ (Z1 ++ Z2)).toArray 128 (0, 0)) := by rw [hw1]; exact heap_alloc_new w.drew _
  have hO1 : ∀ k, k < w.heap.size → w1.heap[k]? = w.heap[k]? := fun k hk => by rw [hw1]; exact heap_alloc_old w.drew _ hk
  have hgr1 : w.grownBy w1 (some g) := by rw [hw1]; exact grown_trans (⟨rfl, rfl, rfl, Nat.le_refl _, fun _ _ _ => rfl⟩ : w.grownBy w.drew (some g)) (World.grownBy_alloc _ _ _)
  generalize hG : w.heap.size = G at *
  have hg1 := (hO1 g hgl).trans hg
  have hn1 := (hO1 nb hnl).trans hn
  have hy1 : ∀ j u, Y[j]? = some u → w1.cell? ((⟨nb, 0, none⟩ : Addr).add j) = some u := add_cells (fun j u hj => by rw [cell_cur hn1]; exact hj)
  have hn1' : ∀ s d : Nat, s = 1 → d = cap + 1 - p → Y.length = Nat.min s d * i0.size := by
    intro s d hs hd
    rw [hlr, hz1, hs, hd, show Nat.min 1 (cap + 1 - p) = 1 from Nat.min_eq_left (by omega)]
  have hn2' : ∀ s d : Nat, s = cap - p → d = cap + 1 - (p + 1) → X.length = Nat.min s d * i0.size := by
    intro s d hs hd
    rw [lX, hz1, hs, hd, show Nat.min (cap - p) (cap + 1 - (p + 1)) = cap - p from Nat.min_eq_left (by omega)]
  have hB : Z1 = Z1.take 10 ++ Z1.drop 10 := (List.take_append_drop _ _).symm
  have hs1 : splice (A ++ (Z1 ++ Z2)) (p * 10) Y = (A ++ Y) ++ (Z1.drop 10 ++ Z2) := by
    have := splice_at A (Z1.take 10) Y (Z1.drop 10 ++ Z2) (by rw [List.length_take, hlr]; omega)
    rw [lA, ← List.append_assoc (Z1.take 10), List.take_append_drop] at this
    rw [this, List.append_assoc]
  have hs2 : splice ((A ++ Y) ++ (Z1.drop 10 ++ Z2)) ((p + 1) * 10) X = (A ++ Y) ++ (X ++ Z2) := by
    have := splice_at (A ++ Y) (Z1.drop 10) X Z2 (by rw [List.length_drop]; omega)
    rw [List.length_append, lA, hlr] at this
    rw [← this, show (p + 1) * 10 = p * 10 + 10 by omega]
  have hf1 : p * 10 + Y.length ≤ (A ++ (Z1 ++ Z2)).length := by simp only [List.length_append]; omega
  have hf2 : (p + 1) * 10 + X.length ≤ ((A ++ Y) ++ (Z1.drop 10 ++ Z2)).length := by simp only [List.length_append, List.length_drop]; omega
  have hq1 : IntKind.i64.wrap ((p : Int) + 1) = (p : Int) + 1 := IntWalk.i64_in _ (by omega)
  have hq2 : ((p : Int) + 1).toNat = p + 1 := by omega
  have hq3 : (0 : Int) ≤ (p : Int) + 1 := by omega
  have hq4 : p ≤ cap := by omega
  have hq5 : (p : Int) ≤ (cap : Int) + 1 := by omega
  have hq6 : ¬ gc = p := by omega
  have hq7 : ¬ gc = p + 1 := by omega
  have hq8 : gc ≤ 9223372036854775807 := by unfold maxLen at hgc2; omega
  have hlen : ((A ++ Y) ++ X).length = (cap + 1) * 10 := by simp only [List.length_append]; omega
  have hlenZ : (((A ++ Y) ++ X) ++ Z2).length = gc * 10 := by simp only [List.length_append]; omega
  have hxx : ∀ j u, X[j]? = some u → w.cell? ((⟨g, p * 10, none⟩ : Addr).add j) = some u := add_cells_off (fun j u hj => by
    rw [cell_cur hg, ← lA, List.getElem?_append_right (by omega), Nat.add_sub_cancel_left, List.getElem?_append_left (List.getElem?_eq_some_iff.1 hj).1]
    exact hj)
  have HAP := Lib.hid hap
  have HG1 := Lib.hid hG1
  have HI := Lib.hid hi
  have HY1 := Lib.hid hy1
  have HN1 := Lib.hid hn1'
  have HN2 := Lib.hid hn2'
  have HF1 := Lib.hid hf1
  rw [List.append_assoc] at hf2 hs2
  have HF2 := Lib.hid hf2
  have HS1 := Lib.hid hs1
  have HS2 := Lib.hid hs2
  have OY := Lib.hid h1
  have OX := Lib.hid oX
  have HLEN := Lib.hid hlen
  have HLENZ := Lib.hid hlenZ
  have HXX := Lib.hid hxx
  have HO1 := Lib.hid hO1
  have HGR := Lib.hid hgr1
  have HGS := Lib.hid hG
  clear hap hG1 hi hy1 hn1' hn2' hf1 hf2 hs1 hs2 h1 oX hlen hlenZ hxx hO1 hgr1 hG hg1 hn1 hg hn ha1 hw1 hB lA lX lZ1 lZ2 hlr hz0 hz1 hz2 hk1 hk2
  go_enter Tryd.func59, Tryd.ntmps59
  go_upto_region 11 with (first
    | (at_builtin; refine Lib.wpList_append_run _ rfl _ _ 56 3 rfl (.slice (some ⟨g, 0, none⟩) p cap) (.int .i64 ((cap : Int) + 1 - (p : Int))) (by simp [Act.eval, Act.put]) (by simp [Act.eval, Act.put]) _ _ HAP.out ?_)
    | (refine wpList_copy_rowN rfl _ _ 56 56 rfl 128 i0 Tryd.underlying56 HI.out G (p * 10) (cap + 1 - p) (gc - p) ⟨nb, 0, none⟩ 1 1 (by simp [Act.eval, Act.put]) (by simp [Act.eval, Act.put]) (A ++ (Z1 ++ Z2)) 128 HG1.out Y (HN1.out 1 (cap + 1 - p) rfl rfl) HY1.out HF1.out OY.out ?_; intro w2 hw2; have hg2 : w2.heap[G]? = some (.cells (splice (A ++ (Z1 ++ Z2)) (p * 10) Y).toArray 128 (0, 0)) := (by rw [hw2]; exact setRow_heap w1 G _ _ _ _ HG1.out); have HG2 := Lib.hid hg2; have HGR2 := Lib.hid (show w.grownBy w2 (some g) by rw [hw2]; exact grown_fresh HGR.out (grown_setRow _ _ _) (Nat.le_of_eq HGS.out)); have HO2 := Lib.hid (show ∀ k, k < G → w2.heap[k]? = w.heap[k]? by intro k hk; rw [hw2]; exact (setRow_other w1 G k _ (by omega)).trans (HO1.out k hk)); clear hg2 hw2))
  have hg2 := HG2.out
  rw [HS1.out] at hg2
  have hgd : w2.drew.heap[G]? = some (.cells ((A ++ Y) ++ (Z1.drop 10 ++ Z2)).toArray 128 (0, 0)) := hg2
  have hxd : ∀ j u, X[j]? = some u → w2.drew.cell? ((⟨g, p * 10, none⟩ : Addr).add j) = some u := fun j u hj => by
    have hh : w2.drew.heap[g]? = w.heap[g]? := HO2.out g hgl
    have hbk : ((⟨g, p * 10, none⟩ : Addr).add j).block = g := by unfold Addr.add; split <;> rfl
    exact (World.cell?_of_block (by rw [hbk]; exact hh)).trans (HXX.out j u hj)
  rw [List.append_assoc] at hgd
  have HGD := Lib.hid hgd
  have HXD := Lib.hid hxd
  clear hg2 hgd hxd
  go_region_law (refine step_copy_rowN rfl _ _ 56 56 rfl 128 i0 Tryd.underlying56 HI.out G ((p + 1) * 10) (cap - p) (gc - (p + 1)) ⟨g, p * 10, none⟩ (cap - p) (cap - p) (by simp [Act.eval, Act.put]) (by simp [Act.eval, Act.put]) (A ++ (Y ++ (Z1.drop 10 ++ Z2))) 128 HGD.out X (HN2.out (cap - p) (cap - p) rfl (by omega)) HXD.out HF2.out OX.out ?_; intro w3 hw3)
  obtain ⟨w3, hw3⟩ : ∃ x, x = w2.drew.setRow G (splice (A ++ (Y ++ (Z1.drop 10 ++ Z2))) ((p + 1) * 10) X).toArray := ⟨_, rfl⟩
  rw [← hw3]
  have hg3 : w3.heap[G]? = some (.cells (((A ++ Y) ++ X) ++ Z2).toArray 128 (0, 0)) := by
    rw [hw3, List.append_assoc (A ++ Y), ← HS2.out]; exact setRow_heap w2.drew G _ _ _ _ HGD.out
  have hgr3 : w.grownBy w3 (some g) := by rw [hw3]; exact grown_fresh (grown_drew HGR2.out) (grown_setRow _ _ _) (by have := HGS.out; omega)
  have HG3 := Lib.hid hg3
  have HGR3 := Lib.hid hgr3
  clear hw3 hg3 hgr3 hq1 hq2 hq3
  go_wp2
  go_ret
  refine ⟨_, rfl, ⟨by rw [← List.append_assoc]; exact HLEN.out, .inr ⟨G, gc, _, rfl, by have := HGS.out; omega, HG3.out, hgc1, hgc2, ?_, ?_⟩⟩, HGR3.out, .inr ⟨G, rfl, by have := HGS.out; omega⟩⟩
  · rw [List.size_toArray]; exact HLENZ.out
  · rw [← HLEN.out, ← List.append_assoc]
    simp only []
    exact List.take_left
end TabA
end
/- A table by whole numbers, of any number of rows: slices.Delete of one row. -/
section
set_option linter.unusedVariables false
set_option linter.unusedSimpArgs false
open Go.ChangeShapes Go.WideShapes Go.ChangeAt Go.RowKit

namespace TabA
theorem zero_run (w : World) : (zeroValue 128).run Tryd.prog w = .ok (.agg #[.int .i64 0, .int .i64 0, .int .i64 0, .int .i64 0, .int .i64 0, .int .i64 0, .int .i64 0, .int .i64 0, .int .i64 0, .int .i64 0]) w := by
  obtain ⟨i0, hi, hz0, hz1, hz2⟩ := info_parts infoR
  simp [zeroValue, typeInfo, hi, hz0]
theorem zone : ∀ u ∈ (Value.cells (.agg #[.int .i64 0, .int .i64 0, .int .i64 0, .int .i64 0, .int .i64 0, .int .i64 0, .int .i64 0, .int .i64 0, .int .i64 0, .int .i64 0])).toList, u.oneCell' = true := by
  intro u hu
  have h : (Value.cells (.agg #[.int .i64 0, .int .i64 0, .int .i64 0, .int .i64 0, .int .i64 0, .int .i64 0, .int .i64 0, .int .i64 0, .int .i64 0, .int .i64 0])).toList.all (·.oneCell') = true := by decide +kernel
  exact List.all_eq_true.1 h u hu
end TabA
end
/- A table by whole numbers, of any number of rows: find, Get, Add, Drop. -/
section
set_option linter.unusedVariables false
set_option linter.unusedSimpArgs false
open Go.ChangeShapes Go.WideShapes Go.ChangeAt Go.RowKit

namespace TabA
theorem bsf_none (w : World) (c : Int) (k : Int) (f : Value) : Calls Tryd.prog 76 #[.slice none 0 0, .int .i64 k, f] w fun e w' => e = .returned (.tuple #[.int .i64 0, .bool false]) ∧ w = w' := by
  go_enter Tryd.func76, Tryd.ntmps76
  go_wp2
  refine wp_loop_rounds 1 ?_
  rw [rounds_succ]
  go_wp2
  go_ret2
  exact ⟨by simp, rfl⟩
theorem ins_any (w : World) (base : Nat) (v : Value) (R : List Rw) (r : Rw) (nb p : Nat) (hw : Wide 10 R) (hr : Wide 10 [r]) (hl : R.length ≤ 1000000) (hp : p ≤ R.length) (hown : w.ownsRow base 128 10 v R.length (flat R)) (hb : base ≤ w.heap.size) (hne : v.ownBlock ≠ some nb)
    (hn : w.heap[nb]? = some (.cells (rcells r).toArray 128 (0, 0))) :
    Calls Tryd.prog 59 #[v, .int .i64 p, .slice (some ⟨nb, 0, none⟩) 1 1] w fun e w' => ∃ v', e = .returned v' ∧ InsPost w w' base v v' (R.take p ++ r :: R.drop p) := by
  by_cases h : p = R.length
  · subst h
    rw [List.take_length, List.drop_length]
    exact ins_end w base v R r nb hw hr hl hown hb hn
  · rcases hown.2 with ⟨_, h0⟩ | ⟨g, cap, cur, rfl, q1, q2, q3, q4, q5, q6⟩
    · omega
    · have hcur : cur = (flat R ++ cur.toList.drop (R.length * 10)).toArray := by
        rw [← q6, List.take_append_drop]
      have hlen : (flat R ++ cur.toList.drop (R.length * 10)).length = cap * 10 := by
        rw [← q5, ← Array.length_toList, ← q6, List.take_append_drop]
      rw [hcur] at q2
      by_cases hroom : R.length + 1 ≤ cap
      · exact ins_room w base g cap p R _ r nb hw hr hl (by omega) hroom q4 q1 q2 hlen (by intro e; subst e; exact hne rfl) hn
      · exact ins_grow w base g cap p R _ r nb hw hr hl (by omega) q3 (by omega) hb q2 hn
/-- A table at a place: its rows, in a slice v of its own. -/
structure TabAt (w : World) (b o base : Nat) (v : Value) (R : List Rw) : Prop where
  cell : w.cell? ⟨b, o, none⟩ = some v
  froz : w.frozen? ⟨b, o, none⟩ = false
  row : w.ownsRow base 128 10 v R.length (flat R)
  ne : b < base
  base : base ≤ w.heap.size
  wide : Wide 10 R
  asc : Asc R
  le : R.length ≤ 1000000
/-- What a table's own acts leave of the world. -/
structure Only (w w' : World) (b o : Nat) (v v' : Value) : Prop where
  os : w'.os = w.os
  tape : w'.tape = w.tape
  output : w'.output = w.output
  size : w.heap.size ≤ w'.heap.size
  block : ∀ k, k < w.heap.size → k ≠ b → v.ownBlock ≠ some k → w'.heap[k]? = w.heap[k]?
  cells : ∀ j, j ≠ o → w'.cell? ⟨b, j, none⟩ = w.cell? ⟨b, j, none⟩
  frozs : ∀ j, w'.frozen? ⟨b, j, none⟩ = w.frozen? ⟨b, j, none⟩
  foot : v'.ownBlock = v.ownBlock ∨ ∃ g, v'.ownBlock = some g ∧ w.heap.size ≤ g
theorem row_of_block {w w' : World} {base : Nat} {e : TypeId} {s : Nat} {v : Value} {n : Nat} {xs : List Value} (h : w.ownsRow base e s v n xs) (k : ∀ g, v.ownBlock = some g → w'.heap[g]? = w.heap[g]?) : w'.ownsRow base e s v n xs := by
  refine ⟨h.1, ?_⟩
  rcases h.2 with h2 | ⟨g, cap, cur, rfl, q1, q2, q3⟩
  · exact .inl h2
  · exact .inr ⟨g, cap, cur, rfl, q1, (k g rfl).trans q2, q3⟩
theorem TabAt.lt {w : World} {b o base : Nat} {v : Value} {R : List Rw} (h : TabAt w b o base v R) : b < w.heap.size := Nat.lt_of_lt_of_le h.ne h.base
theorem TabAt.own {w : World} {b o base g : Nat} {v : Value} {R : List Rw} (h : TabAt w b o base v R) (hg : v.ownBlock = some g) : base ≤ g ∧ g < w.heap.size := h.row.lt g hg
theorem TabAt.of {w w' : World} {b o base : Nat} {v : Value} {R : List Rw} (h : TabAt w b o base v R) (hs : w.heap.size ≤ w'.heap.size) (hc : w'.cell? ⟨b, o, none⟩ = w.cell? ⟨b, o, none⟩) (hf : w'.frozen? ⟨b, o, none⟩ = w.frozen? ⟨b, o, none⟩) (hg : ∀ g, v.ownBlock = some g → w'.heap[g]? = w.heap[g]?) : TabAt w' b o base v R :=
  ⟨hc.trans h.cell, hf.trans h.froz, row_of_block h.row hg, h.ne, Nat.le_trans h.base hs, h.wide, h.asc, h.le⟩
theorem TabAt.call {w w' : World} {b o base : Nat} {v : Value} {R : List Rw} (h : TabAt w b o base v R) (hb : Below w.heap.size w w') : TabAt w' b o base v R :=
  h.of hb.size (hb.cell (p := ⟨b, o, none⟩) h.lt) (hb.frozen (p := ⟨b, o, none⟩) h.lt) (fun g hg => hb.block g (h.own hg).2)
/-- The rows, as the search wants them. -/
theorem TabAt.form {w : World} {b o base : Nat} {v : Value} {R : List Rw} (h : TabAt w b o base v R) : (v = .slice none 0 0 ∧ R = []) ∨ ∃ g c, v = .slice (some ⟨g, 0, none⟩) R.length c ∧ g < w.heap.size ∧ base ≤ g ∧ R.length ≤ c ∧ c ≤ maxLen ∧ RowsIn w g R := by
  rcases h.row.2 with ⟨h1, h2⟩ | ⟨g, cap, cur, rfl, q1, q2, q3, q4, q5, q6⟩
  · exact .inl ⟨h1, List.length_eq_zero_iff.1 h2⟩
  · refine .inr ⟨g, cap, rfl, (Array.getElem?_eq_some_iff.1 q2).1, q1, q3, q4, fun i j r u hi hj => ?_⟩
    have e := h.row.cells (g := g) rfl _ _ (flat_get h.wide hi hj)
    have ha : ((⟨g, 0, none⟩ : Addr).add (i * 10 + j)) = ⟨g, i * 10 + j, none⟩ := by unfold Addr.add; split <;> simp_all
    rwa [ha] at e
set_option maxRecDepth 100000 in
set_option maxHeartbeats 1000000 in
theorem find_any (w : World) (b o base : Nat) (v : Value) (R : List Rw) (k : Int) (h : TabAt w b o base v R) :
    Calls Tryd.prog 58 #[.pointer (some ⟨b, o, none⟩), .int .i64 k] w fun e w' => e = .returned (.tuple #[.int .i64 (posR R k : Nat), .bool (hasR R k)]) ∧ Below w.heap.size w w' := by
  have hc := h.cell
  have HT := Lib.hid h
  rcases h.form with ⟨rfl, rfl⟩ | ⟨g, c, rfl, hg, _, _, _, hr⟩
  · clear h
    go_enter Tryd.func58, Tryd.ntmps58
    go_wp2_with (go_at_call 76; refine (bsf_none _ 0 _ _).mono ?_; rintro e w1 ⟨rfl, rfl⟩)
    go_ret2
    exact ⟨rfl, Below.refl _ _⟩
  · have HR := Lib.hid hr
    clear h hr
    go_enter Tryd.func58, Tryd.ntmps58
    go_wp2_with (go_at_call 76; refine (bsf_any _ g c R k hg HT.out.wide HT.out.asc HT.out.le HR.out).mono ?_; rintro e w1 ⟨rfl, hb1⟩)
    go_ret2
    exact ⟨rfl, hb1⟩
/-- Where a row's value lies. -/
def placeV (v : Value) (p : Nat) : Bool → Value
  | true => .pointer (v.ownBlock.map fun g => ⟨g, p * 10 + 1, none⟩)
  | false => .pointer none
set_option maxRecDepth 100000 in
set_option maxHeartbeats 1000000 in
theorem get_any (w : World) (b o base : Nat) (v : Value) (R : List Rw) (k : Int) (h : TabAt w b o base v R) :
    Calls Tryd.prog 92 #[.pointer (some ⟨b, o, none⟩), .int .i64 k] w fun e w' => e = .returned (.tuple #[placeV v (posR R k) (hasR R k), .bool (hasR R k)]) ∧ Below w.heap.size w w' := by
  have HT := Lib.hid h
  cases hh : hasR R k with
  | false =>
    have HH := Lib.hid hh
    clear h hh
    go_enter Tryd.func92, Tryd.ntmps92
    go_wp2_with (go_at_call 58; refine (find_any _ b o base v R k HT.out).mono ?_; rw [HH.out]; rintro e w1 ⟨rfl, hb1⟩)
    go_ret2
    exact ⟨rfl, hb1⟩
  | true =>
    obtain ⟨x, hx, _⟩ := (hasR_at h.asc).1 hh
    have hpl := (List.getElem?_eq_some_iff.1 hx).1
    have hle := h.le
    have HH := Lib.hid hh
    have hc := h.cell
    have hbl := h.lt
    rcases h.form with ⟨rfl, rfl⟩ | ⟨g, c, rfl, hg, _, _, _, hr⟩
    · simp at hx
    · clear h hh hr hx
      generalize hp : posR R k = p at *
      have HP := Lib.hid hp
      clear hp
      go_enter Tryd.func92, Tryd.ntmps92
      go_wp2_with (go_at_call 58; refine (find_any _ b o base _ R k HT.out).mono ?_; rw [HH.out, HP.out]; rintro e w1 ⟨rfl, hb1⟩; obtain ⟨hc1, hf1⟩ := bcell hb1; have hz1 : w.heap.size ≤ w1.heap.size := hb1.size)
      go_ret2
      exact ⟨rfl, hb1⟩
end TabA
end
/- A table by whole numbers, of any number of rows: Add. -/
section
set_option linter.unusedVariables false
set_option linter.unusedSimpArgs false
open Go.ChangeShapes Go.WideShapes Go.ChangeAt Go.RowKit

namespace TabA
theorem asc_ins {R : List Rw} {r : Rw} (hA : Asc R) (hn : hasR R r.1 = false) : Asc (insR R r) := by
  obtain ⟨h1, h2⟩ := posR_facts (k := r.1) hA
  have hne : ∀ x ∈ R, x.1 ≠ r.1 := by
    intro x hx e
    have : hasR R r.1 = true := by unfold hasR; rw [List.any_eq_true]; exact ⟨x, hx, by simpa using e⟩
    rw [hn] at this
    cases this
  unfold insR Asc
  rw [List.map_append, List.map_cons, List.pairwise_append, List.pairwise_cons]
  have hT : ∀ x ∈ (R.take (posR R r.1)).map Prod.fst, x < r.1 := by
    intro x hx
    obtain ⟨y, hy, rfl⟩ := List.mem_map.1 hx
    obtain ⟨j, hj⟩ := List.getElem?_of_mem hy
    have hjl := (List.getElem?_eq_some_iff.1 hj).1
    rw [List.length_take] at hjl
    rw [List.getElem?_take_of_lt (by omega)] at hj
    exact h1 j y (by omega) hj
  have hD : ∀ x ∈ (R.drop (posR R r.1)).map Prod.fst, r.1 < x := by
    intro x hx
    obtain ⟨y, hy, rfl⟩ := List.mem_map.1 hx
    obtain ⟨j, hj⟩ := List.getElem?_of_mem hy
    rw [List.getElem?_drop] at hj
    have := h2 _ y (by omega) hj
    have := hne y (List.mem_of_getElem? hj)
    omega
  refine ⟨?_, ⟨hD, ?_⟩, ?_⟩
  · rw [List.map_take]
    exact hA.sublist (List.take_sublist _ _)
  · rw [List.map_drop]
    exact hA.sublist (List.drop_sublist _ _)
  · intro x hx y hy
    rcases List.mem_cons.1 hy with rfl | hy
    · exact hT x hx
    · exact Int.lt_trans (hT x hx) (hD y hy)
theorem asc_del {R : List Rw} {k : Int} (hA : Asc R) : Asc (delR R k) := by
  unfold delR Asc
  rw [List.map_append]
  have : (R.take (posR R k)).map Prod.fst ++ (R.drop (posR R k + 1)).map Prod.fst = (R.map Prod.fst).take (posR R k) ++ (R.map Prod.fst).drop (posR R k + 1) := by rw [List.map_take, List.map_drop]
  rw [this]
  refine hA.sublist ?_
  conv => rhs; rw [← List.take_append_drop (posR R k) (R.map Prod.fst)]
  refine List.Sublist.append (List.Sublist.refl _) ?_
  rw [← List.drop_drop]
  exact List.drop_sublist _ _
theorem len_ins {R : List Rw} {r : Rw} : (insR R r).length = R.length + 1 := by
  unfold insR
  have := posR_le R r.1
  simp
  omega
theorem wide_ins {C : Nat} {R : List Rw} {r : Rw} (h : Wide C R) (hr : Wide C [r]) : Wide C (insR R r) := by
  intro x hx
  unfold insR at hx
  rcases List.mem_append.1 hx with q | q
  · exact h x (List.mem_of_mem_take q)
  · rcases List.mem_cons.1 q with rfl | q
    · exact hr _ (by simp)
    · exact h x (List.mem_of_mem_drop q)
theorem wide_del {C : Nat} {R : List Rw} {k : Int} (h : Wide C R) : Wide C (delR R k) := (h.take _).append (h.drop _)
/-- The table behind a store of its slice. -/
theorem tab_store {w w2 : World} {b o base : Nat} {v v' : Value} {R R' : List Rw} (h : TabAt w b o base v R) (hb : b < w2.heap.size)
    (hcell : w2.cell? ⟨b, o, none⟩ = w.cell? ⟨b, o, none⟩) (hf : w2.frozen? ⟨b, o, none⟩ = false) (hr : w2.ownsRow base 128 10 v' R'.length (flat R')) (hsz : w.heap.size ≤ w2.heap.size)
    (hW : Wide 10 R') (hA : Asc R') (hl : R'.length ≤ 1000000) : TabAt (w2.setCell ⟨b, o, none⟩ v') b o base v' R' := by
  refine ⟨?_, ?_, row_of_block hr (fun g hg => ?_), h.ne, by have := h.base; simp; omega, hW, hA, hl⟩
  · have := h.cell
    rw [← hcell] at this
    simp [go_sem, this, hf]
  · simpa [go_sem] using hf
  · have := (hr.lt g hg).1
    have := h.ne
    exact Go.heap_setCell_other _ _ _ _ (by simp; omega)
attribute [-go_sem] loadVar
set_option maxRecDepth 100000 in
set_option maxHeartbeats 2000000 in
theorem add_no (w : World) (b o base : Nat) (v : Value) (R : List Rw) (k : Int) (x0 x1 x2 x3 x4 x5 x6 x7 x8 : Value) (h : TabAt w b o base v R) (hh : hasR R k = true) :
    Calls Tryd.prog 38 #[.pointer (some ⟨b, o, none⟩), .int .i64 k, .agg #[x0, x1, x2, x3, x4, x5, x6, x7, x8]] w fun e w' => e = .returned (.bool false) ∧ Below w.heap.size w w' := by
  have HT := Lib.hid (h.call (bal (Below.refl _ _) (.cells #[x0, x1, x2, x3, x4, x5, x6, x7, x8] 84)))
  have HH := Lib.hid hh
  have HB : Hid (Below w.heap.size w (w.alloc (.cells #[x0, x1, x2, x3, x4, x5, x6, x7, x8] 84))) := Lib.hid (bal (Below.refl _ _) _)
  clear h hh
  go_enter Tryd.func38, Tryd.ntmps38
  go_wp2_with (go_at_call 58; refine (find_any _ b o base v R k HT.out).mono ?_; rw [HH.out]; rintro e w1 ⟨rfl, hb1⟩)
  go_ret
  exact ⟨rfl, HB.out.trans (hb1.mono (by simp))⟩
set_option maxRecDepth 100000 in
set_option maxHeartbeats 2000000 in
theorem add_yes (w : World) (b o base : Nat) (v : Value) (R : List Rw) (k : Int) (x0 x1 x2 x3 x4 x5 x6 x7 x8 : Value) (h : TabAt w b o base v R) (hh : hasR R k = false) (hl : R.length < 1000000) (hx : Wide 10 [(k, [x0, x1, x2, x3, x4, x5, x6, x7, x8])]) :
    Calls Tryd.prog 38 #[.pointer (some ⟨b, o, none⟩), .int .i64 k, .agg #[x0, x1, x2, x3, x4, x5, x6, x7, x8]] w fun e w' => e = .returned (.bool true) ∧ ∃ v', TabAt w' b o base v' (insR R (k, [x0, x1, x2, x3, x4, x5, x6, x7, x8])) ∧ Only w w' b o v v' := by
  obtain ⟨W0, hW0⟩ : ∃ x, x = w.alloc (.cells #[x0, x1, x2, x3, x4, x5, x6, x7, x8] 84) := ⟨_, rfl⟩
  have hB0 : Below w.heap.size w W0 := by rw [hW0]; exact bal (Below.refl _ _) _
  have hs0 : W0.heap.size = w.heap.size + 1 := by rw [hW0]; simp
  have hx0 : W0.heap[w.heap.size]? = some (.cells #[x0, x1, x2, x3, x4, x5, x6, x7, x8] 84 (0, 0)) := by rw [hW0]; exact heap_alloc_new w _
  have hT0 : TabAt W0 b o base v R := h.call hB0
  have HT0 := Lib.hid hT0
  have HT := Lib.hid h
  have HH := Lib.hid hh
  have HB0 := Lib.hid hB0
  have HX0 := Lib.hid hx0
  have hbl := h.lt
  have HX := Lib.hid hx
  clear h hh hT0 hB0 hx0 hx
  go_enter Tryd.func38, Tryd.ntmps38
  go_upto_region 4 with (go_at_call 58; rw [← hW0]; refine (find_any _ b o base v R k HT0.out).mono ?_; rw [HH.out]; rintro e w1 ⟨rfl, hb1⟩)
  have hb1o := HB0.out
  have hx0o := HX0.out
  have hbz := hb1.size
  have hT1 : TabAt w1 b o base v R := HT0.out.call hb1
  have hB1 : Below w.heap.size w w1 := hb1o.trans (hb1.mono (by omega))
  have hx1 : w1.heap[w.heap.size]? = some (.cells #[x0, x1, x2, x3, x4, x5, x6, x7, x8] 84 (0, 0)) := (hb1.block _ (by omega)).trans hx0o
  have hr0 : w1.rangeAt w.heap.size 0 [x0, x1, x2, x3, x4, x5, x6, x7, x8] := by
    intro j u hj
    rw [Nat.zero_add, cell_cur (cur := [x0, x1, x2, x3, x4, x5, x6, x7, x8]) hx1]
    exact hj
  have hcb := hT1.cell
  have hfb := hT1.froz
  have hbl1 := hT1.lt
  have e1 : Sem.run Tryd.prog (loadVar 84 ⟨w.heap.size, 0, none⟩) w1.drew = .ok (.agg #[x0, x1, x2, x3, x4, x5, x6, x7, x8]) w1.drew := run_loadVar_mid _ _ _ _ ([x0, x1, x2, x3, x4, x5, x6, x7, x8] : List Value) _ hr0 Tryd.underlying84 rfl (by kernel_rfl)
  have e2 : Sem.run Tryd.prog (loadVar 56 ⟨b, o, none⟩) w1.drew = .ok v w1.drew := by simp [go_sem, loadVar, hcb]
  have e3 : ∀ ob, Sem.run Tryd.prog (loadVar 56 ⟨b, o, none⟩) (w1.alloc ob).drew = .ok v (w1.alloc ob).drew := fun ob => by simp [go_sem, loadVar, hcb, hbl1]
  have hins : ∀ ob, ob = Obj.cells #[.int .i64 k, x0, x1, x2, x3, x4, x5, x6, x7, x8] 128 →
      Calls Tryd.prog 59 #[v, .int .i64 (posR R k : Nat), .slice (some ⟨w1.heap.size, 0, none⟩) 1 1] (w1.alloc ob).drew fun e w' =>
        ∃ g c, e = .returned (.slice (some ⟨g, 0, none⟩) (R.length + 1) c) ∧ TabAt (w'.setCell ⟨b, o, none⟩ (.slice (some ⟨g, 0, none⟩) (R.length + 1) c)) b o base (.slice (some ⟨g, 0, none⟩) (R.length + 1) c) (insR R (k, [x0, x1, x2, x3, x4, x5, x6, x7, x8])) ∧
          Only w (w'.setCell ⟨b, o, none⟩ (.slice (some ⟨g, 0, none⟩) (R.length + 1) c)) b o v (.slice (some ⟨g, 0, none⟩) (R.length + 1) c) ∧ w'.cell? ⟨b, o, none⟩ = some v ∧ w'.frozen? ⟨b, o, none⟩ = false ∧ b < w'.heap.size := by
    rintro ob rfl
    have hbo : Below w1.heap.size w1 (w1.alloc (Obj.cells #[.int .i64 k, x0, x1, x2, x3, x4, x5, x6, x7, x8] 128)).drew := (bal (Below.refl _ _) _).drew
    have hT2 := hT1.call hbo
    have hown : v.ownBlock ≠ some w1.heap.size := by
      intro e
      have := (hT1.own e).2
      omega
    refine (ins_any _ base v R (k, [x0, x1, x2, x3, x4, x5, x6, x7, x8]) w1.heap.size (posR R k) hT2.wide HX.out hT2.le (posR_le R k) hT2.row hT2.base hown (heap_alloc_new w1 _)).mono ?_
    rintro e w2 ⟨v', rfl, hrow, hgr, hat⟩
    have hR' : R.take (posR R k) ++ (k, [x0, x1, x2, x3, x4, x5, x6, x7, x8]) :: R.drop (posR R k) = insR R (k, [x0, x1, x2, x3, x4, x5, x6, x7, x8]) := rfl
    rw [hR'] at hrow
    have hfm := hrow
    rw [len_ins] at hfm
    obtain ⟨g, c, rfl⟩ := row_form hfm
    have hsz := hgr.size
    simp at hsz
    have hne : some b ≠ v.ownBlock := by
      intro e
      have := (hT1.own e.symm).1
      have := hT1.ne
      omega
    have hbk : w2.heap[b]? = w1.heap[b]? := (hgr.block b (by simp; omega) hne).trans (heap_alloc_old w1 _ hbl1)
    have hc2 : w2.cell? ⟨b, o, none⟩ = w1.cell? ⟨b, o, none⟩ := World.cell?_of_block hbk
    have hf2 : w2.frozen? ⟨b, o, none⟩ = w1.frozen? ⟨b, o, none⟩ := World.frozen?_of_block hbk
    refine ⟨g, c, rfl, ?_, ⟨hgr.os.trans hB1.os, hgr.tape.trans hB1.tape, hgr.output.trans hB1.output, ?_, ?_, ?_, ?_, ?_⟩, hc2.trans hcb, hf2.trans hfb, by omega⟩
    · have hrow2 := hrow
      rw [len_ins] at hrow
      exact tab_store hT1 (by omega) hc2 (hf2.trans hfb) (by rw [len_ins]; exact hrow) (by omega) (wide_ins hT1.wide HX.out) (asc_ins hT1.asc HH.out) (by rw [len_ins]; omega)
    · simp; omega
    · intro j hj hjb hjv
      rw [Go.heap_setCell_other _ _ _ _ (by simpa using hjb)]
      exact (hgr.block j (by simp; omega) (fun e => hjv e.symm)).trans ((heap_alloc_old w1 _ (by omega)).trans (hB1.block j hj))
    · intro j hj
      have : (w2.setCell ⟨b, o, none⟩ (.slice (some ⟨g, 0, none⟩) (R.length + 1) c)).cell? ⟨b, j, none⟩ = w2.cell? ⟨b, j, none⟩ := by
        apply World.cell?_setCell_other
        intro e
        simp at e
        try exact hj e.symm
      rw [this, show w2.cell? ⟨b, j, none⟩ = w1.cell? ⟨b, j, none⟩ from World.cell?_of_block hbk]
      exact hB1.cell (p := ⟨b, j, none⟩) hbl
    · intro j
      have : (w2.setCell ⟨b, o, none⟩ (.slice (some ⟨g, 0, none⟩) (R.length + 1) c)).frozen? ⟨b, j, none⟩ = w2.frozen? ⟨b, j, none⟩ := by simp [go_sem]
      rw [this, show w2.frozen? ⟨b, j, none⟩ = w1.frozen? ⟨b, j, none⟩ from World.frozen?_of_block hbk]
      exact hB1.frozen (p := ⟨b, j, none⟩) hbl
    · rcases hat with h | ⟨g2, h1, h2⟩
      · exact .inl h
      · refine .inr ⟨g2, h1, ?_⟩
        simp at h2
        omega
  have HINS := Lib.hid hins
  clear hins hr0 hx1 hT1 hB1 hb1o hx0o hW0
  go_region_with (first | (go_at_call 59; with_reducible refine (HINS.out _ rfl).mono ?_; rintro e w2 ⟨g, c, rfl, hT3, hO3, hc3, hf3, hz3⟩; have HT3 := Lib.hid hT3; have HO3 := Lib.hid hO3; clear hT3 hO3))
  all_goals go_wp2
  all_goals go_ret
  all_goals exact ⟨rfl, _, HT3.out, HO3.out⟩
end TabA
end
/- A table by whole numbers, of any number of rows: Drop. -/
section
set_option linter.unusedVariables false
set_option linter.unusedSimpArgs false
open Go.ChangeShapes Go.WideShapes Go.ChangeAt Go.RowKit

namespace TabA
theorem len_del {R : List Rw} {k : Int} (hA : Asc R) (h : hasR R k = true) : (delR R k).length + 1 = R.length := by
  obtain ⟨x, hx, _⟩ := (hasR_at hA).1 h
  have := (List.getElem?_eq_some_iff.1 hx).1
  unfold delR
  simp
  omega
end TabA
end
end Go.Proofs.YtnjdljjmengjbaaDoor
