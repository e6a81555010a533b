import Derived.Test.YtchjfeafkmpmbaaGreatDoorPkaj
import Derived.Test.YtchjfeafkmpmbaaGreatDoorPkak
import Derived.Deep.RegionHeld3
import Derived.Deep.Cut
import Derived.BigRegion
import Derived.Deep.RegionWith
import Derived.Maps.Keyed
import Derived.Maps.Own
import Derived.DeepKeys4
namespace Go.Proofs.YtchjfeafkmpmbaaGreatDoor
set_option linter.unusedVariables false
set_option linter.unusedSimpArgs false
set_option maxRecDepth 100000
set_option maxHeartbeats 8000000
open Lib (hid)
section
section
open Go.ChangeShapes Go.WideShapes Go.ChangeAt Go.RowKit Go.Shelf
namespace TabS
def abS (x : Sn) : Int × List Cp := (x.id, x.l)
def SameS (L M : List Sn) : Prop := L.map abS = M.map abS
theorem SameS.len {L M : List Sn} (h : SameS L M) : L.length = M.length := by
 have := congrArg List.length h
 simpa using this
theorem SameS.get {L M : List Sn} (h : SameS L M) {k : Nat} {x : Sn} (hx : L[k]? = some x) : ∃ y, M[k]? = some y ∧ y.id = x.id ∧ y.l = x.l := by
 have e : (L.map abS)[k]? = (M.map abS)[k]? := by rw [show L.map abS = M.map abS from h]
 rw [List.getElem?_map, List.getElem?_map, hx] at e
 cases hy : M[k]? with
 | none => rw [hy] at e; cases e
 | some y =>
  rw [hy] at e
  simp [abS] at e
  exact ⟨y, rfl, e.1.symm, e.2.symm⟩
theorem SameS.symm {L M : List Sn} (h : SameS L M) : SameS M L := Eq.symm h
theorem SameS.keys {L M : List Sn} (h : SameS L M) : (rowsS L).map Prod.fst = (rowsS M).map Prod.fst := by
 have e : ∀ N : List Sn, (rowsS N).map Prod.fst = (N.map abS).map Prod.fst := fun N => by simp [rowsS, rowS, abS, Function.comp_def]
 rw [e, e, show L.map abS = M.map abS from h]
theorem SameS.pos {L M : List Sn} (h : SameS L M) (id : Int) : posS L id = posS M id := by
 have e : ∀ N : List Sn, posS N id = ((rowsS N).map Prod.fst).countP (fun i => decide (i < id)) := fun N => by
  unfold posS posR
  rw [List.countP_map]
  rfl
 rw [e, e, h.keys]
theorem SameS.has {L M : List Sn} (h : SameS L M) (id : Int) : hasS L id = hasS M id := by
 have e : ∀ N : List Sn, hasS N id = ((rowsS N).map Prod.fst).any (fun i => decide (i = id)) := fun N => by
  unfold hasS hasR
  rw [List.any_map]
  rfl
 rw [e, e, h.keys]
theorem SameS.held {L M : List Sn} (h : SameS L M) : heldA L = heldA M := by
 have e : ∀ N : List Sn, heldA N = (N.map abS).flatMap fun p => heldL p.1 0 p.2 := fun N => by
  unfold heldA
  rw [List.flatMap_map]
  rfl
 rw [e, e, show L.map abS = M.map abS from h]
theorem SameS.asc {L M : List Sn} (h : SameS L M) (hA : Asc (rowsS L)) : Asc (rowsS M) := by
 unfold Asc at *
 rw [← h.keys]
 exact hA
theorem SameS.ins {L M : List Sn} (h : SameS L M) (id : Int) (g g' : Nat) (l : List Cp) : SameS (insS L ⟨id, g, l⟩) (insS M ⟨id, g', l⟩) := by
 unfold SameS insS
 rw [show posS L (⟨id, g, l⟩ : Sn).id = posS M (⟨id, g', l⟩ : Sn).id from h.pos id]
 simp only [List.map_append, List.map_cons, List.map_take, List.map_drop]
 rw [show L.map abS = M.map abS from h]
 rfl
theorem SameS.del {L M : List Sn} (h : SameS L M) (k : Nat) : SameS (L.take k ++ L.drop (k + 1)) (M.take k ++ M.drop (k + 1)) := by
 unfold SameS
 simp only [List.map_append, List.map_take, List.map_drop]
 rw [show L.map abS = M.map abS from h]
theorem SameS.put {L M : List Sn} (h : SameS L M) {k : Nat} {x y : Sn} (hi : y.id = x.id) (hl : y.l = x.l) (i : Nat) (c : Cp) : SameS (putS L k x i c) (putS M k y i c) := by
 unfold SameS putS
 rw [List.map_set, List.map_set, show L.map abS = M.map abS from h]
 simp [abS, hi, hl]
theorem no_of {M : List Sn} {id : Int} (hh : hasS M id = false) : ∀ x ∈ M, x.id ≠ id := by
 intro x hx e
 have : hasS M id = true := by
  unfold hasS hasR
  rw [List.any_eq_true]
  exact ⟨rowS x, List.mem_map.2 ⟨x, hx, rfl⟩, decide_eq_true e⟩
 rw [hh] at this
 cases this
theorem first_of {L M : List Sn} (h : SameS L M) (hA : Asc (rowsS L)) {id : Int} {x : Sn} (hx : L[posS L id]? = some x) (hid : x.id = id) : ∃ y, FirstS M id (posS L id) y ∧ y.id = x.id ∧ y.l = x.l := by
 obtain ⟨y, hy, h1, h2⟩ := h.get hx
 refine ⟨y, ⟨hy, by rw [h1, hid], fun i z hi hz => ?_⟩, h1, h2⟩
 have hlt := (posR_facts (k := id) (h.asc hA)).1 i (rowS z) (by rw [show posR (rowsS M) id = posS M id from rfl, ← h.pos]; exact hi) (by rw [rowsS_get, hz]; rfl)
 have : z.id < id := hlt
 omega
def FootP (b : Nat) (tv : Value) (L : List Sn) (k : Nat) : Prop := k = b ∨ tv.ownBlock = some k ∨ ∃ x ∈ L, x.g = k
structure Two (W w : World) (b base : Nat) (tv : Value) (L : List Sn) (rb rbase : Nat) (v : Value) (M : List Sn) (S : Nat → Prop) : Prop where
 pk : SlotsAt w b base tv L
 rf : RefS w rb rbase v M
 lo : W.heap.size ≤ b
 lr : W.heap.size ≤ rb
 bl : Below W.heap.size W w
 ap : ∀ k, FootP b tv L k → ¬ FootP rb v M k
 bs : ∀ k, S k → k < w.heap.size ∧ ¬ FootP b tv L k ∧ ¬ FootP rb v M k
theorem foot_ltP {w : World} {b base : Nat} {tv : Value} {L : List Sn} (h : SlotsAt w b base tv L) {k : Nat} (hk : FootP b tv L k) : k < w.heap.size := by
 rcases hk with rfl | e | ⟨x, hx, rfl⟩
 ·exact h.lt
 ·exact (h.tab.own e).2
 ·exact h.glt hx
theorem foot_ltR {w : World} {rb base : Nat} {v : Value} {M : List Sn} (h : RefS w rb base v M) {k : Nat} (hk : FootP rb v M k) : k < w.heap.size := by
 rcases hk with rfl | e | ⟨x, hx, rfl⟩
 ·exact Nat.lt_of_lt_of_le h.lt h.bs
 ·exact (h.row.lt k e).2
 ·exact h.glt hx
theorem foot_loP {w : World} {b base : Nat} {tv : Value} {L : List Sn} (h : SlotsAt w b base tv L) {k : Nat} (hk : FootP b tv L k) : b ≤ k := by
 have := h.tab.ne
 rcases hk with rfl | e | ⟨x, hx, rfl⟩
 ·exact Nat.le_refl _
 ·have := (h.tab.own e).1; omega
 ·have := (h.blk x hx).2; omega
theorem foot_loR {w : World} {rb base : Nat} {v : Value} {M : List Sn} (h : RefS w rb base v M) {k : Nat} (hk : FootP rb v M k) : rb ≤ k := by
 have := h.lt
 rcases hk with rfl | e | ⟨x, hx, rfl⟩
 ·exact Nat.le_refl _
 ·have := (h.row.lt k e).1; omega
 ·have := (h.cb x hx).2; omega
theorem RefS.of {w w' : World} {rb base : Nat} {v : Value} {M : List Sn} (h : RefS w rb base v M) (hs : w.heap.size ≤ w'.heap.size) (hb : ∀ k, FootP rb v M k → w'.heap[k]? = w.heap[k]?) : RefS w' rb base v M :=
 ⟨(hb rb (.inl rfl)).trans h.blk, row_of_block h.row (fun g hg => hb g (.inr (.inl hg))), h.lt, Nat.le_trans h.bs hs, fun x hx => ⟨(hb x.g (.inr (.inr ⟨x, hx, rfl⟩))).trans (h.cb x hx).1, (h.cb x hx).2⟩, h.ap, h.nt, h.bd⟩
theorem SlotsAt.of {w w' : World} {b base : Nat} {tv : Value} {L : List Sn} (h : SlotsAt w b base tv L) (hs : w.heap.size ≤ w'.heap.size) (hb : ∀ k, FootP b tv L k → w'.heap[k]? = w.heap[k]?) : SlotsAt w' b base tv L :=
 ⟨h.tab.of hs (World.cell?_of_block (hb b (.inl rfl))) (World.frozen?_of_block (hb b (.inl rfl))) (fun g hg => hb g (.inr (.inl hg))), fun x hx => ⟨(hb x.g (.inr (.inr ⟨x, hx, rfl⟩))).trans (h.blk x hx).1, (h.blk x hx).2⟩, h.ap, h.nt, h.bd⟩
theorem Two.call {W w w' : World} {b base : Nat} {tv : Value} {L : List Sn} {rb rbase : Nat} {v : Value} {M : List Sn} {S : Nat → Prop} (h : Two W w b base tv L rb rbase v M S) (hb : Below w.heap.size w w') : Two W w' b base tv L rb rbase v M S :=
 ⟨h.pk.call hb, h.rf.call hb, h.lo, h.lr, h.bl.trans (hb.mono h.bl.size), h.ap, fun k hk => ⟨Nat.lt_of_lt_of_le (h.bs k hk).1 hb.size, (h.bs k hk).2⟩⟩
theorem Two.actP {W w w' : World} {b base : Nat} {tv tv' : Value} {L L' : List Sn} {rb rbase : Nat} {v : Value} {M : List Sn} {S : Nat → Prop} (h : Two W w b base tv L rb rbase v M S) (hA : SlotsAt w' b base tv' L') (hO : SOnly w w' b tv tv' L L') : Two W w' b base tv' L' rb rbase v M S ∧ SameK S w w' := by
 have hk : ∀ k, k < w.heap.size → ¬ FootP b tv L k → w'.heap[k]? = w.heap[k]? := fun k hl hn => hO.block k hl (fun e => hn (.inl e)) (fun e => hn (.inr (.inl e))) (fun x hx e => hn (.inr (.inr ⟨x, hx, e⟩)))
 have hf : ∀ k, k < w.heap.size → FootP b tv' L' k → FootP b tv L k := fun k hl hk => by
  rcases hk with e | e
  ·exact .inl e
  ·exact .inr (hO.foot k hl e)
 refine ⟨⟨hA, h.rf.of hO.size (fun k q => hk k (foot_ltR h.rf q) (fun p => h.ap k p q)), h.lo, h.lr, ⟨hO.os.trans h.bl.os, hO.tape.trans h.bl.tape, hO.output.trans h.bl.output, Nat.le_trans h.bl.size hO.size, fun k hl => (hk k (by have := h.bl.size; omega) (fun p => by have := foot_loP h.pk p; have := h.lo; omega)).trans (h.bl.block k hl)⟩, fun k p q => ?_, fun k hs => ?_⟩, fun k hs => hk k (h.bs k hs).1 (h.bs k hs).2.1⟩
 ·exact h.ap k (hf k (foot_ltR h.rf q) p) q
 ·exact ⟨Nat.lt_of_lt_of_le (h.bs k hs).1 hO.size, fun p => (h.bs k hs).2.1 (hf k (h.bs k hs).1 p), (h.bs k hs).2.2⟩
theorem Two.actR {W w w' : World} {b base : Nat} {tv : Value} {L : List Sn} {rb rbase : Nat} {v v' : Value} {M M' : List Sn} {S : Nat → Prop} (h : Two W w b base tv L rb rbase v M S) (hA : RefS w' rb rbase v' M') (hO : OnlyS w w' rb v v' M M') : Two W w' b base tv L rb rbase v' M' S ∧ SameK S w w' := by
 have hk : ∀ k, k < w.heap.size → ¬ FootP rb v M k → w'.heap[k]? = w.heap[k]? := fun k hl hn => hO.block k hl (fun e => hn (.inl e)) (fun e => hn (.inr (.inl e))) (fun x hx e => hn (.inr (.inr ⟨x, hx, e⟩)))
 have hf : ∀ k, k < w.heap.size → FootP rb v' M' k → FootP rb v M k := fun k hl hk => by
  rcases hk with e | e
  ·exact .inl e
  ·exact .inr (hO.foot k hl e)
 refine ⟨⟨h.pk.of hO.size (fun k q => hk k (foot_ltP h.pk q) (fun p => h.ap k q p)), hA, h.lo, h.lr, ⟨hO.os.trans h.bl.os, hO.tape.trans h.bl.tape, hO.output.trans h.bl.output, Nat.le_trans h.bl.size hO.size, fun k hl => (hk k (by have := h.bl.size; omega) (fun p => by have := foot_loR h.rf p; have := h.lr; omega)).trans (h.bl.block k hl)⟩, fun k p q => ?_, fun k hs => ?_⟩, fun k hs => hk k (h.bs k hs).1 (h.bs k hs).2.2⟩
 ·exact h.ap k p (hf k (foot_ltP h.pk p) q)
 ·exact ⟨Nat.lt_of_lt_of_le (h.bs k hs).1 hO.size, (h.bs k hs).2.1, fun p => (h.bs k hs).2.2 (hf k (h.bs k hs).1 p)⟩
end TabS
end
section
open Go.ChangeShapes Go.WideShapes Go.ChangeAt Go.RowKit Go.Shelf
namespace TabS
def Pr (W w : World) (b rb : Nat) (S : Nat → Prop) (L M : List Sn) : Prop := ∃ base tv rbase v, Two W w b base tv L rb rbase v M S
theorem Pr.call {W w w' : World} {b rb : Nat} {S : Nat → Prop} {L M : List Sn} (h : Pr W w b rb S L M) (hb : Below w.heap.size w w') : Pr W w' b rb S L M := by
 obtain ⟨base, tv, rbase, v, hT⟩ := h
 exact ⟨base, tv, rbase, v, hT.call hb⟩
theorem Pr.below {W w : World} {b rb : Nat} {S : Nat → Prop} {L M : List Sn} (h : Pr W w b rb S L M) : Below W.heap.size W w := h.choose_spec.choose_spec.choose_spec.choose_spec.bl
theorem Pr.asc {W w : World} {b rb : Nat} {S : Nat → Prop} {L M : List Sn} (h : Pr W w b rb S L M) : Asc (rowsS L) := h.choose_spec.choose_spec.choose_spec.choose_spec.pk.tab.asc
theorem Pr.lt {W w : World} {b rb k : Nat} {S : Nat → Prop} {L M : List Sn} (h : Pr W w b rb S L M) (hk : S k) : k < w.heap.size := (h.choose_spec.choose_spec.choose_spec.choose_spec.bs k hk).1
theorem SameK.of_below {S : Nat → Prop} {w w' : World} (hb : Below w.heap.size w w') (hS : ∀ k, S k → k < w.heap.size) : SameK S w w' := fun k hk => hb.block k (hS k hk)
def AddRel (L : List Sn) (id n : Int) (L' : List Sn) : Prop := (addSR L id n = 0 ∧ ∃ g, L' = insS L ⟨id, g, List.replicate n.toNat zC⟩) ∨ (addSR L id n ≠ 0 ∧ L' = L)
theorem add_same {L M L' M' : List Sn} {id n : Int} (h : SameS L M) (h1 : AddRel L id n L') (h2 : AddRel M id n M') : SameS L' M' ∧ addSR L id n = addSR M id n := by
 have e : addSR L id n = addSR M id n := by unfold addSR; rw [h.has]
 refine ⟨?_, e⟩
 rcases h1 with ⟨a, g, rfl⟩ | ⟨a, rfl⟩
 ·rcases h2 with ⟨_, g', rfl⟩ | ⟨a', rfl⟩
  ·exact h.ins id g g' _
  ·exact absurd (e ▸ a) a'
 ·rcases h2 with ⟨a', g', rfl⟩ | ⟨_, rfl⟩
  ·exact absurd (e.symm ▸ a') a
  ·exact h
theorem Pr.addP {W w : World} {b rb : Nat} {S : Nat → Prop} {L M : List Sn} (h : Pr W w b rb S L M) (hl : L.length < 1000000) (id n : Int) :
  Calls Tryz.prog 75 #[.pointer (some ⟨b, 0, none⟩), .int .i64 id, .int .i64 n] w fun e w' => e = .returned (.int .i64 (addSR L id n)) ∧ ∃ L', AddRel L id n L' ∧ Pr W w' b rb S L' M ∧ SameK S w w' := by
 obtain ⟨base, tv, rbase, v, hT⟩ := h
 by_cases ha : id < 1 ∨ n < 1 ∨ 16 < n
 ·have e0 : addSR L id n = 2 := by unfold addSR; rw [if_pos ha]
  rw [e0]
  refine (sadd_arg w b id n ha).mono ?_
  rintro e w' ⟨rfl, rfl⟩
  exact ⟨rfl, L, .inr ⟨by rw [e0]; decide, rfl⟩, ⟨base, tv, rbase, v, hT⟩, fun k hk => rfl⟩
 ·obtain ⟨m, rfl⟩ : ∃ m : Nat, n = m := ⟨n.toNat, by omega⟩
  cases hh : hasS L id with
  | true =>
   have e0 : addSR L id m = 11 := by unfold addSR; rw [if_neg ha, hh, if_pos rfl]
   rw [e0]
   refine (sadd_full w b base tv L id m hT.pk (by omega) (by omega) (by omega) hh).mono ?_
   rintro e w' ⟨rfl, hb⟩
   exact ⟨rfl, L, .inr ⟨by rw [e0]; decide, rfl⟩, ⟨base, tv, rbase, v, hT.call hb⟩, SameK.of_below hb (fun k hk => (hT.bs k hk).1)⟩
  | false =>
   have e0 : addSR L id m = 0 := by unfold addSR; rw [if_neg ha, hh, if_neg (by decide)]
   rw [e0]
   refine (sadd_yes w b base tv L id m hT.pk hl (by omega) (by omega) (by omega) hh).mono ?_
   rintro e w' ⟨rfl, tv', g, hg, hA, hO⟩
   obtain ⟨q1, q2⟩ := hT.actP hA hO
   exact ⟨rfl, _, .inl ⟨e0, g, by simp⟩, ⟨base, tv', rbase, v, q1⟩, q2⟩
theorem Pr.addR {W w : World} {b rb : Nat} {S : Nat → Prop} {L M : List Sn} (h : Pr W w b rb S L M) (hA : Asc (rowsS M)) (hl : M.length < 1000000) (id n : Int) :
  Calls Tryz.prog 32 #[.pointer (some ⟨rb, 0, none⟩), .int .i64 id, .int .i64 n] w fun e w' => e = .returned (.int .i64 (addSR M id n)) ∧ ∃ M', AddRel M id n M' ∧ Pr W w' b rb S L M' ∧ SameK S w w' := by
 obtain ⟨base, tv, rbase, v, hT⟩ := h
 by_cases ha : id < 1 ∨ n < 1 ∨ 16 < n
 ·have e0 : addSR M id n = 2 := by unfold addSR; rw [if_pos ha]
  rw [e0]
  refine (radd_arg w rb id n ha).mono ?_
  rintro e w' ⟨rfl, rfl⟩
  exact ⟨rfl, M, .inr ⟨by rw [e0]; decide, rfl⟩, ⟨base, tv, rbase, v, hT⟩, fun k hk => rfl⟩
 ·obtain ⟨m, rfl⟩ : ∃ m : Nat, n = m := ⟨n.toNat, by omega⟩
  cases hh : hasS M id with
  | true =>
   have e0 : addSR M id m = 11 := by unfold addSR; rw [if_neg ha, hh, if_pos rfl]
   rw [e0]
   obtain ⟨r, hr, hri⟩ := (hasR_at hA).1 (show hasR (rowsS M) id = true from hh)
   rw [rowsS_get] at hr
   cases hx : M[posR (rowsS M) id]? with
   | none => rw [hx] at hr; cases hr
   | some x =>
    rw [hx] at hr
    cases hr
    obtain ⟨y, hF, _⟩ := first_of (L := M) (M := M) rfl hA (show M[posS M id]? = some x from hx) hri
    refine (radd_full w rb rbase v M id m _ y hT.rf hl (by omega) (by omega) (by omega) hF).mono ?_
    rintro e w' ⟨rfl, rfl⟩
    exact ⟨rfl, M, .inr ⟨by rw [e0]; decide, rfl⟩, ⟨base, tv, rbase, v, hT⟩, fun k hk => rfl⟩
  | false =>
   have e0 : addSR M id m = 0 := by unfold addSR; rw [if_neg ha, hh, if_neg (by decide)]
   rw [e0]
   refine (radd_yes w rb rbase v M id m hT.rf hA hl (by omega) (by omega) (by omega) (no_of hh)).mono ?_
   rintro e w' ⟨rfl, u, G, hG, hR, hO⟩
   obtain ⟨q1, q2⟩ := hT.actR hR hO
   exact ⟨rfl, _, .inl ⟨e0, G, by simp⟩, ⟨base, tv, rbase, u, q1⟩, q2⟩
theorem Pr.used {W w : World} {b rb : Nat} {S : Nat → Prop} {L M : List Sn} (h : Pr W w b rb S L M) (hl : L.length < 1000000) :
  Calls Tryz.prog 52 #[.pointer (some ⟨b, 0, none⟩)] w fun e w' => ∃ r, e = .returned r ∧ w'.ownsRow w.heap.size 46 10 r (heldA L).length (hdsC (heldA L)) ∧ Below w.heap.size w w' := by
 obtain ⟨base, tv, rbase, v, hT⟩ := h
 exact used_all w b base tv L hT.pk hl
def sizS (L : List Sn) (id : Int) : Int := if hasS L id = true then (match L[posS L id]? with | some x => (x.l.length : Int) | none => 0) else 0
theorem first_self {M : List Sn} (hA : Asc (rowsS M)) {id : Int} (hh : hasS M id = true) : ∃ x, M[posS M id]? = some x ∧ FirstS M id (posS M id) x := by
 obtain ⟨r, hr, hri⟩ := (hasR_at hA).1 (show hasR (rowsS M) id = true from hh)
 rw [rowsS_get] at hr
 cases hx : M[posR (rowsS M) id]? with
 | none => rw [hx] at hr; cases hr
 | some x =>
  rw [hx] at hr
  cases hr
  obtain ⟨y, hF, _⟩ := first_of (L := M) (M := M) rfl hA (show M[posS M id]? = some x from hx) hri
  exact ⟨y, hF.1, hF⟩
def dropSR (L : List Sn) (id : Int) : Int := if hasS L id = true then (match L[posS L id]? with | some x => if (heldL id 0 x.l).length = 0 then 0 else 16 | none => 2) else 2
def dropSL (L : List Sn) (id : Int) : List Sn := if dropSR L id = 0 then L.take (posS L id) ++ L.drop (posS L id + 1) else L
theorem drop_same {L M : List Sn} (h : SameS L M) (id : Int) : dropSR L id = dropSR M id ∧ SameS (dropSL L id) (dropSL M id) := by
 have e : dropSR L id = dropSR M id := by
  unfold dropSR
  rw [h.has, h.pos]
  split
  ·cases hx : L[posS M id]? with
   | none =>
    cases hy : M[posS M id]? with
    | none => rfl
    | some y => obtain ⟨z, hz, _⟩ := h.symm.get hy; rw [hx] at hz; cases hz
   | some x =>
    obtain ⟨y, hy, _, e⟩ := h.get hx
    rw [hy]
    simp only []
    rw [e]
  ·rfl
 refine ⟨e, ?_⟩
 unfold dropSL
 rw [e, h.pos]
 split
 ·exact h.del _
 ·exact h
theorem Pr.dropP {W w : World} {b rb : Nat} {S : Nat → Prop} {L M : List Sn} (h : Pr W w b rb S L M) (id : Int) :
  Calls Tryz.prog 94 #[.pointer (some ⟨b, 0, none⟩), .int .i64 id] w fun e w' => e = .returned (.int .i64 (dropSR L id)) ∧ Pr W w' b rb S (dropSL L id) M ∧ SameK S w w' := by
 obtain ⟨base, tv, rbase, v, hT⟩ := h
 cases hh : hasS L id with
 | false =>
  have e0 : dropSR L id = 2 := by unfold dropSR; rw [hh, if_neg (by decide)]
  have e1 : dropSL L id = L := by unfold dropSL; rw [e0, if_neg (by decide)]
  rw [e0, e1]
  refine (sdrop_no w b base tv L id hT.pk hh).mono ?_
  rintro e w' ⟨rfl, hb⟩
  exact ⟨rfl, ⟨base, tv, rbase, v, hT.call hb⟩, SameK.of_below hb (fun k hk => (hT.bs k hk).1)⟩
 | true =>
  obtain ⟨x, hx, hid⟩ := (hasS_at hT.pk).1 hh
  have e0 : dropSR L id = if (heldL id 0 x.l).length = 0 then 0 else 16 := by unfold dropSR; rw [hh, if_pos rfl, hx]
  refine (sdrop_yes w b base tv L id x hT.pk hx hid).mono ?_
  rintro e w' (⟨hN, rfl, hb⟩ | ⟨hN, rfl, tv', hA, hO⟩)
  ·rw [if_neg hN] at e0
   have e1 : dropSL L id = L := by unfold dropSL; rw [e0, if_neg (by decide)]
   rw [e0, e1]
   exact ⟨rfl, ⟨base, tv, rbase, v, hT.call hb⟩, SameK.of_below hb (fun k hk => (hT.bs k hk).1)⟩
  ·rw [if_pos hN] at e0
   have e1 : dropSL L id = delS L id := by unfold dropSL delS; rw [e0, if_pos rfl]
   rw [e0, e1]
   obtain ⟨q1, q2⟩ := hT.actP hA hO
   exact ⟨rfl, ⟨base, tv', rbase, v, q1⟩, q2⟩
theorem Pr.dropRf {W w : World} {b rb : Nat} {S : Nat → Prop} {L M : List Sn} (h : Pr W w b rb S L M) (hA : Asc (rowsS M)) (hl : M.length < 1000000) (id : Int) :
  Calls Tryz.prog 46 #[.pointer (some ⟨rb, 0, none⟩), .int .i64 id] w fun e w' => e = .returned (.int .i64 (dropSR M id)) ∧ Pr W w' b rb S L (dropSL M id) ∧ SameK S w w' := by
 obtain ⟨base, tv, rbase, v, hT⟩ := h
 cases hh : hasS M id with
 | false =>
  have e0 : dropSR M id = 2 := by unfold dropSR; rw [hh, if_neg (by decide)]
  have e1 : dropSL M id = M := by unfold dropSL; rw [e0, if_neg (by decide)]
  rw [e0, e1]
  refine (rdrop_no w rb rbase v M id hT.rf hl (no_of hh)).mono ?_
  rintro e w' ⟨rfl, rfl⟩
  exact ⟨rfl, ⟨base, tv, rbase, v, hT⟩, fun k hk => rfl⟩
 | true =>
  obtain ⟨x, hx, hF⟩ := first_self hA hh
  have e0 : dropSR M id = if (heldL id 0 x.l).length = 0 then 0 else 16 := by unfold dropSR; rw [hh, if_pos rfl, hx]
  by_cases hN : (heldL id 0 x.l).length = 0
  ·rw [if_pos hN] at e0
   have e1 : dropSL M id = M.take (posS M id) ++ M.drop (posS M id + 1) := by unfold dropSL; rw [e0, if_pos rfl]
   rw [e0, e1]
   refine (rdrop_ok w rb rbase v M id _ x hT.rf hl hF hN).mono ?_
   rintro e w' ⟨rfl, u, hR, hO⟩
   obtain ⟨q1, q2⟩ := hT.actR hR hO
   exact ⟨rfl, ⟨base, tv, rbase, u, q1⟩, q2⟩
  ·rw [if_neg hN] at e0
   have e1 : dropSL M id = M := by unfold dropSL; rw [e0, if_neg (by decide)]
   rw [e0, e1]
   refine (rdrop_busy w rb rbase v M id _ x hT.rf hl hF hN).mono ?_
   rintro e w' ⟨rfl, rfl⟩
   exact ⟨rfl, ⟨base, tv, rbase, v, hT⟩, fun k hk => rfl⟩
end TabS
end
section
open Go.ChangeShapes Go.WideShapes Go.ChangeAt Go.RowKit Go.Shelf
namespace TabS
def getR (L : List Sn) (id ix : Int) : Option Cp := if hasS L id = true ∧ 0 ≤ ix then (match L[posS L id]? with | some x => x.l[ix.toNat]? | none => none) else none
theorem getR_same {L M : List Sn} (h : SameS L M) (id ix : Int) : getR L id ix = getR M id ix := by
 unfold getR
 rw [h.has, h.pos]
 split
 ·cases hx : L[posS M id]? with
  | none =>
   cases hy : M[posS M id]? with
   | none => rfl
   | some y => obtain ⟨z, hz, _⟩ := h.symm.get hy; rw [hx] at hz; cases hz
  | some x =>
   obtain ⟨y, hy, _, e⟩ := h.get hx
   rw [hy]
   simp only []
   rw [e]
 ·rfl
theorem getR_no {w : World} {b base : Nat} {tv : Value} {L : List Sn} (h : SlotsAt w b base tv L) {id ix : Int} (hn : NoSlot L id ix) : getR L id ix = none := by
 unfold getR
 rcases hn with hh | ⟨x, hx, hid, hi⟩
 ·rw [if_neg (by rw [hh]; simp)]
 ·by_cases h0 : hasS L id = true ∧ 0 ≤ ix
  ·rw [if_pos h0, hx]
   exact List.getElem?_eq_none (by omega)
  ·rw [if_neg h0]
theorem getR_yes {L : List Sn} {id : Int} {x : Sn} {i : Nat} (hh : hasS L id = true) (hx : L[posS L id]? = some x) : getR L id i = x.l[i]? := by
 unfold getR
 rw [if_pos ⟨hh, by omega⟩, hx]
 simp
theorem slot_orR {M : List Sn} (hA : Asc (rowsS M)) (id ix : Int) : (NoSlotR M id ix ∧ getR M id ix = none) ∨ ∃ (x : Sn) (i : Nat) (c : Cp), FirstS M id (posS M id) x ∧ ix = i ∧ x.l[i]? = some c ∧ getR M id ix = some c := by
 cases hh : hasS M id with
 | false => exact .inl ⟨.inl (no_of hh), by unfold getR; rw [if_neg (by rw [hh]; simp)]⟩
 | true =>
  obtain ⟨x, hx, hF⟩ := first_self hA hh
  by_cases h1 : ix < 0 ∨ (x.l.length : Int) ≤ ix
  ·refine .inl ⟨.inr ⟨_, x, hF, h1⟩, ?_⟩
   unfold getR
   by_cases h0 : hasS M id = true ∧ 0 ≤ ix
   ·rw [if_pos h0, hx]
    exact List.getElem?_eq_none (by omega)
   ·rw [if_neg h0]
  ·obtain ⟨i, rfl⟩ : ∃ i : Nat, ix = i := ⟨ix.toNat, by omega⟩
   have hi : i < x.l.length := by omega
   exact .inr ⟨x, i, x.l[i]'hi, hF, rfl, List.getElem?_eq_getElem hi, by rw [getR_yes hh hx]; exact List.getElem?_eq_getElem hi⟩
def getN (o : Option Cp) : Int := match o with | some _ => 0 | none => 3
theorem Pr.getP {W w : World} {b rb : Nat} {S : Nat → Prop} {L M : List Sn} (h : Pr W w b rb S L M) (id ix : Int) :
  Calls Tryz.prog 66 #[.pointer (some ⟨b, 0, none⟩), .agg #[.int .i64 id, .int .i64 ix]] w fun e w' => e = .returned (.tuple #[((getR L id ix).getD zC).V, .int .i64 (getN (getR L id ix))]) ∧ Below w.heap.size w w' := by
 obtain ⟨base, tv, rbase, v, hT⟩ := h
 rcases slot_or hT.pk id ix with hn | ⟨x, i, hx, hid, rfl, hi⟩
 ·rw [getR_no hT.pk hn]
  exact sget_no w b base tv L id ix hT.pk hn
 ·rw [getR_yes ((hasS_at hT.pk).2 ⟨x, hx, hid⟩) hx, List.getElem?_eq_getElem hi]
  exact sget_yes w b base tv L id i x _ hT.pk hx hid (List.getElem?_eq_getElem hi)
theorem Pr.rget {W w : World} {b rb : Nat} {S : Nat → Prop} {L M : List Sn} (h : Pr W w b rb S L M) (hA : Asc (rowsS M)) (hl : M.length < 1000000) (id ix : Int) :
  Calls Tryz.prog 47 #[.pointer (some ⟨rb, 0, none⟩), .agg #[.int .i64 id, .int .i64 ix]] w fun e w' => e = .returned (.tuple #[((getR M id ix).getD zC).V, .int .i64 (getN (getR M id ix))]) ∧ Below w.heap.size w w' := by
 obtain ⟨base, tv, rbase, v, hT⟩ := h
 rcases slot_orR hA id ix with ⟨hn, e⟩ | ⟨x, i, c, hF, rfl, hc, e⟩
 ·rw [e]
  exact rget_no w rb rbase v M id ix hT.rf hl hn
 ·rw [e]
  exact rget_yes w rb rbase v M id i _ x c hT.rf hl hF hc
def setN (L : List Sn) (id ix : Int) (c : Cp) : Int := match getR L id ix with | none => 3 | some _ => if mayC c = true then 0 else 5
def setM (L : List Sn) (id ix : Int) (c : Cp) : List Sn := if setN L id ix c = 0 then (match L[posS L id]? with | some x => putS L (posS L id) x ix.toNat c | none => L) else L
theorem set_same {L M : List Sn} (h : SameS L M) (id ix : Int) (c : Cp) : setN L id ix c = setN M id ix c ∧ SameS (setM L id ix c) (setM M id ix c) := by
 have e : setN L id ix c = setN M id ix c := by unfold setN; rw [getR_same h]
 refine ⟨e, ?_⟩
 unfold setM
 rw [e, h.pos]
 split
 ·cases hx : L[posS M id]? with
  | none =>
   cases hy : M[posS M id]? with
   | none => exact h
   | some y => obtain ⟨z, hz, _⟩ := h.symm.get hy; rw [hx] at hz; cases hz
  | some x =>
   obtain ⟨y, hy, e1, e2⟩ := h.get hx
   rw [hy]
   exact h.put e1 e2 _ c
 ·exact h
theorem Pr.setP {W w : World} {b rb : Nat} {S : Nat → Prop} {L M : List Sn} (h : Pr W w b rb S L M) (hT0 : CX.TabG w) (id ix : Int) (c : Cp) (he : c.e ≤ 9223372036854775807) :
  Calls Tryz.prog 71 #[.pointer (some ⟨b, 0, none⟩), .agg #[.int .i64 id, .int .i64 ix], c.V] w fun e w' => e = .returned (.int .i64 (setN L id ix c)) ∧ Pr W w' b rb S (setM L id ix c) M ∧ SameK S w w' := by
 obtain ⟨base, tv, rbase, v, hT⟩ := h
 rcases slot_or hT.pk id ix with hn | ⟨x, i, hx, hid, rfl, hi⟩
 ·have e0 : setN L id ix c = 3 := by unfold setN; rw [getR_no hT.pk hn]
  have e1 : setM L id ix c = L := by unfold setM; rw [e0, if_neg (by decide)]
  rw [e0, e1]
  refine (sset_no w b base tv L id ix c hT.pk hn).mono ?_
  rintro e w' ⟨rfl, hb⟩
  exact ⟨rfl, ⟨base, tv, rbase, v, hT.call hb⟩, SameK.of_below hb (fun k hk => (hT.bs k hk).1)⟩
 ·have eg : getR L id i = some (x.l[i]'hi) := by rw [getR_yes ((hasS_at hT.pk).2 ⟨x, hx, hid⟩) hx]; exact List.getElem?_eq_getElem hi
  cases hm : mayC c with
  | true =>
   have e0 : setN L id i c = 0 := by unfold setN; rw [eg]; simp [hm]
   have e1 : setM L id i c = putS L (posS L id) x i c := by unfold setM; rw [e0, if_pos rfl, hx]; simp
   rw [e0, e1]
   refine (sset_yes w b base tv L id i x c hT.pk hT0 he hx hid hi hm).mono ?_
   rintro e w' ⟨rfl, hA, hO⟩
   obtain ⟨q1, q2⟩ := hT.actP hA hO
   exact ⟨rfl, ⟨base, tv, rbase, v, q1⟩, q2⟩
  | false =>
   have e0 : setN L id i c = 5 := by unfold setN; rw [eg]; simp [hm]
   have e1 : setM L id i c = L := by unfold setM; rw [e0, if_neg (by decide)]
   rw [e0, e1]
   refine (sset_form w b base tv L id i x c hT.pk hT0 he hx hid hi hm).mono ?_
   rintro e w' ⟨rfl, hb⟩
   exact ⟨rfl, ⟨base, tv, rbase, v, hT.call hb⟩, SameK.of_below hb (fun k hk => (hT.bs k hk).1)⟩
theorem Pr.rset {W w : World} {b rb : Nat} {S : Nat → Prop} {L M : List Sn} (h : Pr W w b rb S L M) (hA : Asc (rowsS M)) (hl : M.length < 1000000) (id ix : Int) (c : Cp) :
  Calls Tryz.prog 82 #[.pointer (some ⟨rb, 0, none⟩), .agg #[.int .i64 id, .int .i64 ix], c.V] w fun e w' => e = .returned (.int .i64 (setN M id ix c)) ∧ Pr W w' b rb S L (setM M id ix c) ∧ SameK S w w' := by
 obtain ⟨base, tv, rbase, v, hT⟩ := h
 rcases slot_orR hA id ix with ⟨hn, eg⟩ | ⟨x, i, c0, hF, rfl, hc, eg⟩
 ·have e0 : setN M id ix c = 3 := by unfold setN; rw [eg]
  have e1 : setM M id ix c = M := by unfold setM; rw [e0, if_neg (by decide)]
  rw [e0, e1]
  refine (rset_no w rb rbase v M id ix c hT.rf hl hn).mono ?_
  rintro e w' ⟨rfl, hb⟩
  exact ⟨rfl, ⟨base, tv, rbase, v, hT.call hb⟩, SameK.of_below hb (fun k hk => (hT.bs k hk).1)⟩
 ·have hi := (lgs hc).1
  cases hm : mayC c with
  | true =>
   have e0 : setN M id i c = 0 := by unfold setN; rw [eg]; simp [hm]
   have e1 : setM M id i c = putS M (posS M id) x i c := by unfold setM; rw [e0, if_pos rfl, hF.1]; simp
   rw [e0, e1]
   refine (rset_yes w rb rbase v M id i _ x c hT.rf hl hF hi hm).mono ?_
   rintro e w' ⟨rfl, hR, hO⟩
   obtain ⟨q1, q2⟩ := hT.actR hR hO
   exact ⟨rfl, ⟨base, tv, rbase, v, q1⟩, q2⟩
  | false =>
   have e0 : setN M id i c = 5 := by unfold setN; rw [eg]; simp [hm]
   have e1 : setM M id i c = M := by unfold setM; rw [e0, if_neg (by decide)]
   rw [e0, e1]
   refine (rset_form w rb rbase v M id i _ x c hT.rf hl hF hi hm).mono ?_
   rintro e w' ⟨rfl, hb⟩
   exact ⟨rfl, ⟨base, tv, rbase, v, hT.call hb⟩, SameK.of_below hb (fun k hk => (hT.bs k hk).1)⟩
end TabS
end
section
open Go.ChangeShapes Go.WideShapes Go.ChangeAt Go.RowKit Go.Shelf
namespace TabS
theorem num_s (x : Int) (w : World) : Calls Tryz.prog 33 #[.int .i64 x] w fun e w' => e = .returned (.int .i64 x) ∧ w = w' := by
 go_enter Tryz.func33, Tryz.ntmps33
 go_wp2
 go_ret
 exact ⟨rfl, rfl⟩
theorem Two.mono {W w : World} {b base : Nat} {tv : Value} {L : List Sn} {rb rbase : Nat} {v : Value} {M : List Sn} {S T : Nat → Prop} (h : Two W w b base tv L rb rbase v M S) (hs : ∀ k, T k → S k) : Two W w b base tv L rb rbase v M T :=
 ⟨h.pk, h.rf, h.lo, h.lr, h.bl, h.ap, fun k hk => h.bs k (hs k hk)⟩
theorem Pr.mono {W w : World} {b rb : Nat} {S T : Nat → Prop} {L M : List Sn} (h : Pr W w b rb S L M) (hs : ∀ k, T k → S k) : Pr W w b rb T L M := by
 obtain ⟨base, tv, rbase, v, hT⟩ := h
 exact ⟨base, tv, rbase, v, hT.mono hs⟩
theorem Pr.fresh {W w w' : World} {b rb : Nat} {S : Nat → Prop} {L M : List Sn} (h : Pr W w b rb S L M) (hb : Below w.heap.size w w') : Pr W w' b rb (fun k => S k ∨ (w.heap.size ≤ k ∧ k < w'.heap.size)) L M := by
 obtain ⟨base, tv, rbase, v, hT⟩ := h
 have hc := hT.call hb
 refine ⟨base, tv, rbase, v, ⟨hc.pk, hc.rf, hc.lo, hc.lr, hc.bl, hc.ap, fun k hk => ?_⟩⟩
 rcases hk with hk | ⟨h1, h2⟩
 ·exact hc.bs k hk
 ·exact ⟨h2, fun p => by have := foot_ltP hT.pk p; omega, fun p => by have := foot_ltR hT.rf p; omega⟩
theorem Pr.turn {W w w' : World} {b rb B : Nat} {S : Nat → Prop} {L M : List Sn} (h : Pr W w b rb S L M) (hS : S B) (hB : W.heap.size ≤ B) (hg : w.grownBy w' (some B)) : Pr W w' b rb S L M := by
 obtain ⟨base, tv, rbase, v, hT⟩ := h
 have hk : ∀ k, k < w.heap.size → k ≠ B → w'.heap[k]? = w.heap[k]? := fun k hl hn => hg.block k hl (fun e => hn (Option.some.inj e))
 obtain ⟨p1, p2, p3⟩ := hT.bs B hS
 refine ⟨base, tv, rbase, v, ⟨hT.pk.of hg.size (fun k q => hk k (foot_ltP hT.pk q) (fun e => p2 (e ▸ q))), hT.rf.of hg.size (fun k q => hk k (foot_ltR hT.rf q) (fun e => p3 (e ▸ q))), hT.lo, hT.lr, ⟨hg.os.trans hT.bl.os, hg.tape.trans hT.bl.tape, hg.output.trans hT.bl.output, Nat.le_trans hT.bl.size hg.size, fun k hl => (hk k (Nat.lt_of_lt_of_le hl hT.bl.size) (by omega)).trans (hT.bl.block k hl)⟩, hT.ap, fun k hk => ⟨Nat.lt_of_lt_of_le (hT.bs k hk).1 hg.size, (hT.bs k hk).2⟩⟩⟩
theorem add_len {L L' : List Sn} {id n : Int} (h : AddRel L id n L') : L'.length ≤ L.length + 1 := by
 rcases h with ⟨_, g, rfl⟩ | ⟨_, rfl⟩
 ·unfold insS
  rw [List.length_append, List.length_cons, List.length_take, List.length_drop]
  omega
 ·omega
theorem drop_len (L : List Sn) (id : Int) : (dropSL L id).length ≤ L.length := by
 unfold dropSL
 split
 ·rw [List.length_append, List.length_take, List.length_drop]
  omega
 ·exact Nat.le_refl _
theorem set_len (L : List Sn) (id ix : Int) (c : Cp) : (setM L id ix c).length = L.length := by
 unfold setM
 split
 ·split
  ·unfold putS; rw [List.length_set]
  ·rfl
 ·rfl
structure Sc (W w : World) (b rb t : Nat) (S : Nat → Prop) (L M : List Sn) : Prop where
 pr : Pr W w b rb S L M
 same : SameS L M
 len : L.length ≤ t
end TabS
end
end
section
open Go.RowKit Go.Shelf
variable {P : Program} {F : Fence} {n : Nat}
def SeqLinked {α : Type} (F : Fence) (n : Nat) (P : Program) (g : Nat) (lb : Array Value) (encs : α → Array Value) (V : α → Prop) (I : List α → World → Prop) (S : List α → Prop) (N B : Nat) : Prop :=
 ∀ (l : Nat) (J : List α → World → Prop) (W : World), B ≤ W.heap.size → AbidesFrom W.heap.size J → (∀ pre W1, J pre W1 → I pre W1) →
  (∀ pre x W1, V x → J pre W1 → pre.length < N → YieldAt F (n - 1) P l (encs x) W1 fun e W' => e = .returned (.bool true) ∧ J (pre ++ [x]) W') →
  J [] W → CallsIn F n P g (#[.func (.yield l) #[] #[]] ++ lb) W fun e W' => (∃ v, e = .returned v) ∧ ∃ xs, S xs ∧ J xs W'
end
section
open Go.ChangeShapes Go.WideShapes Go.ChangeAt Go.RowKit
abbrev slV (o i : Int) : Value := .agg #[.int .i64 o, .int .i64 i]
end
section
open Go.ChangeShapes Go.WideShapes Go.ChangeAt Go.RowKit
open Go.Maps (Keyed IsMap)
theorem laidS : laidOutB Tryz.prog = true := by kernel_rfl
theorem lawS : Keyed Tryz.prog 30 := Keyed.of_law (deep_law_laid laidS (m := 4) (by decide) (of_decide_eq_true (by kernel_rfl)) (by kernel_rfl) (by kernel_rfl))
def InS (x : Int) : Prop := -9223372036854775808 ≤ x ∧ x ≤ 9223372036854775807
theorem wfS {x : Int} (h : InS x) : (Lit.int .i64 x).wf = true := by
 obtain ⟨a, b⟩ := h
 have e1 : IntKind.i64.min = -9223372036854775808 := by decide
 have e2 : IntKind.i64.max = 9223372036854775807 := by decide
 simp only [Lit.wf, e1, e2, Bool.and_eq_true, decide_eq_true_eq]
 exact ⟨a, b⟩
def KS (o i : Int) : Lit := .string (keyBytes [.int .i64 o, .int .i64 i])
theorem keyS (o i : Int) (ho : InS o) (hi : InS i) : keyOf Tryz.prog 30 (slV o i) = some (KS o i) := by
 have e1 := wfS ho
 have e2 := wfS hi
 obtain ⟨N, hN⟩ : ∃ N, Tryz.prog.types.size = N + 1 + 1 := ⟨Tryz.prog.types.size - 2, by kernel_rfl⟩
 have hf : (slV o i).formed Tryz.prog 30 = true := by kernel_rfl
 have hc : Tryz.prog.cellsOf 3 = 1 := by kernel_rfl
 unfold keyOf KS
 rw [Tryz.underlying30]
 simp only [hf, if_true, hN]
 unfold Program.keyLits
 simp only [Tryz.underlying30]
 unfold Program.keyLits
 simp [Tryz.underlying3, mapKey, e1, e2, hc, Value.cells]
 exact ⟨by kernel_rfl, by kernel_rfl⟩
theorem KS_inj {o i p j : Int} (ho : InS o) (hi : InS i) (hp : InS p) (hj : InS j) (h : KS o i = KS p j) : o = p ∧ i = j := by
 have := lawS.inj (keyS o i ho hi) (h ▸ keyS p j hp hj)
 simpa using this
end
end Go.Proofs.YtchjfeafkmpmbaaGreatDoor
