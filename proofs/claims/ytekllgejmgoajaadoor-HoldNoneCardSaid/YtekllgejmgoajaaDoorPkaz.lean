import Derived.Test.YtekllgejmgoajaaDoorPkay
namespace Go.Proofs.YtekllgejmgoajaaDoor
set_option linter.unusedVariables false
set_option linter.unusedSimpArgs false
set_option maxRecDepth 100000
set_option maxHeartbeats 8000000
open Lib (hid)
section
open Go.ChangeShapes Go.WideShapes Go.ChangeAt Go.RowKit Go.Shelf
namespace TabP
open TabS (Cp Sn zC mayC sizS getR getN FootP foot_ltP foot_loP SlotsAt SOnly SameK AddRel addSR setN setM rowsS hasS posS putS insS heldA hdsC slot_or hasS_at sget_no sget_yes getR_no getR_yes sset_no sset_yes sset_form sadd_arg sadd_full sadd_yes used_all)
structure Two (W w : World) (b base : Nat) (tv : Value) (L : List Sn) (S : Nat → Prop) : Prop where
 pk : TabS.SlotsAt w b base tv L
 lo : W.heap.size ≤ b
 bl : Below W.heap.size W w
 bs : ∀ k, S k → k < w.heap.size ∧ ¬ FootP b tv L k
theorem Two.call {W w w' : World} {b base : Nat} {tv : Value} {L : List Sn} {S : Nat → Prop} (h : Two W w b base tv L S) (hb : Below w.heap.size w w') : Two W w' b base tv L S :=
 ⟨h.pk.call hb, h.lo, h.bl.trans (hb.mono h.bl.size), fun k hk => ⟨Nat.lt_of_lt_of_le (h.bs k hk).1 hb.size, (h.bs k hk).2⟩⟩
theorem Two.actP {W w w' : World} {b base : Nat} {tv tv' : Value} {L L' : List Sn} {S : Nat → Prop} (h : Two W w b base tv L S) (hA : TabS.SlotsAt w' b base tv' L') (hO : SOnly w w' b tv tv' L L') : Two W w' b base tv' L' S ∧ SameK S w w' := by
 have hk : ∀ k, k < w.heap.size → ¬ FootP b tv L k → w'.heap[k]? = w.heap[k]? := fun k hl hn => hO.block k hl (fun e => hn (.inl e)) (fun e => hn (.inr (.inl e))) (fun x hx e => hn (.inr (.inr ⟨x, hx, e⟩)))
 have hf : ∀ k, k < w.heap.size → FootP b tv' L' k → FootP b tv L k := fun k hl hk => by
  rcases hk with e | e
  ·exact .inl e
  ·exact .inr (hO.foot k hl e)
 refine ⟨⟨hA, h.lo, ⟨hO.os.trans h.bl.os, hO.tape.trans h.bl.tape, hO.output.trans h.bl.output, Nat.le_trans h.bl.size hO.size, fun k hl => (hk k (by have := h.bl.size; omega) (fun p => by have := foot_loP h.pk p; have := h.lo; omega)).trans (h.bl.block k hl)⟩, fun k hs => ?_⟩, fun k hs => hk k (h.bs k hs).1 (h.bs k hs).2⟩
 exact ⟨Nat.lt_of_lt_of_le (h.bs k hs).1 hO.size, fun p => (h.bs k hs).2 (hf k (h.bs k hs).1 p)⟩
theorem Two.of {W w w' : World} {b base : Nat} {tv : Value} {L : List Sn} {S C T : Nat → Prop} (h : Two W w b base tv L S) (o1 : w'.os = w.os) (o2 : w'.tape = w.tape) (o3 : w'.output = w.output) (hs : w.heap.size ≤ w'.heap.size) (hC : ∀ k, C k → S k ∧ W.heap.size ≤ k) (hb : ∀ k, k < w.heap.size → ¬ C k → w'.heap[k]? = w.heap[k]?) (hT : ∀ k, T k → k < w'.heap.size ∧ (S k ∨ w.heap.size ≤ k)) : Two W w' b base tv L T := by
 refine ⟨TabS.SlotsAt.of h.pk hs (fun k q => hb k (foot_ltP h.pk q) (fun s => (h.bs k (hC k s).1).2 q)), h.lo, ⟨o1.trans h.bl.os, o2.trans h.bl.tape, o3.trans h.bl.output, Nat.le_trans h.bl.size hs, fun k hk => (hb k (Nat.lt_of_lt_of_le hk h.bl.size) (fun s => by have := (hC k s).2; omega)).trans (h.bl.block k hk)⟩, fun k hk => ?_⟩
 obtain ⟨h1, h2⟩ := hT k hk
 refine ⟨h1, fun p => ?_⟩
 rcases h2 with s | s
 ·exact (h.bs k s).2 p
 ·have := foot_ltP h.pk p; omega
def Pr (W w : World) (b rb : Nat) (S : Nat → Prop) (L M : List Sn) : Prop := ∃ base tv, Two W w b base tv L S
theorem Pr.call {W w w' : World} {b rb : Nat} {S : Nat → Prop} {L M : List Sn} (h : Pr W w b rb S L M) (hb : Below w.heap.size w w') : Pr W w' b rb S L M := by
 obtain ⟨base, tv, hT⟩ := h
 exact ⟨base, tv, hT.call hb⟩
theorem Pr.below {W w : World} {b rb : Nat} {S : Nat → Prop} {L M : List Sn} (h : Pr W w b rb S L M) : Below W.heap.size W w := h.choose_spec.choose_spec.bl
theorem Pr.lt {W w : World} {b rb k : Nat} {S : Nat → Prop} {L M : List Sn} (h : Pr W w b rb S L M) (hk : S k) : k < w.heap.size := (h.choose_spec.choose_spec.bs k hk).1
theorem SameK.of_below {S : Nat → Prop} {w w' : World} (hb : Below w.heap.size w w') (hS : ∀ k, S k → k < w.heap.size) : SameK S w w' := fun k hk => hb.block k (hS k hk)
theorem Pr.mono {W w : World} {b rb : Nat} {S T : Nat → Prop} {L M : List Sn} (h : Pr W w b rb S L M) (hs : ∀ k, T k → S k) : Pr W w b rb T L M := by
 obtain ⟨base, tv, hT⟩ := h
 exact ⟨base, tv, ⟨hT.pk, hT.lo, hT.bl, fun k hk => hT.bs k (hs k hk)⟩⟩
theorem Pr.fresh {W w w' : World} {b rb : Nat} {S : Nat → Prop} {L M : List Sn} (h : Pr W w b rb S L M) (hb : Below w.heap.size w w') : Pr W w' b rb (fun k => S k ∨ (w.heap.size ≤ k ∧ k < w'.heap.size)) L M := by
 obtain ⟨base, tv, hT⟩ := h
 have h1 := hT.call hb
 refine ⟨base, tv, ⟨h1.pk, h1.lo, h1.bl, fun k hk => ?_⟩⟩
 rcases hk with q | ⟨q1, q2⟩
 ·exact h1.bs k q
 ·exact ⟨q2, fun p => by have := foot_ltP hT.pk p; omega⟩
theorem Pr.addP {W w : World} {b rb : Nat} {S : Nat → Prop} {L M : List Sn} (h : Pr W w b rb S L M) (hl : L.length < 1000000) (id n : Int) :
  Calls Tryd.prog 36 #[.pointer (some ⟨b, 0, none⟩), .int .i64 id, .int .i64 n] w fun e w' => e = .returned (.int .i64 (addSR L id n)) ∧ ∃ L', AddRel L id n L' ∧ Pr W w' b rb S L' M ∧ SameK S w w' := by
 obtain ⟨base, tv, hT⟩ := h
 by_cases ha : id < 1 ∨ n < 1 ∨ 16 < n
 ·have e0 : addSR L id n = 2 := by unfold addSR; rw [if_pos ha]
  rw [e0]
  refine (sadd_arg w b id n ha).mono ?_
  rintro e w' ⟨rfl, rfl⟩
  exact ⟨rfl, L, .inr ⟨by rw [e0]; decide, rfl⟩, ⟨base, tv, hT⟩, fun k hk => rfl⟩
 ·obtain ⟨m, rfl⟩ : ∃ m : Nat, n = m := ⟨n.toNat, by omega⟩
  cases hh : hasS L id with
  | true =>
   have e0 : addSR L id m = 11 := by unfold addSR; rw [if_neg ha, hh, if_pos rfl]
   rw [e0]
   refine (sadd_full w b base tv L id m hT.pk (by omega) (by omega) (by omega) hh).mono ?_
   rintro e w' ⟨rfl, hb⟩
   exact ⟨rfl, L, .inr ⟨by rw [e0]; decide, rfl⟩, ⟨base, tv, hT.call hb⟩, SameK.of_below hb (fun k hk => (hT.bs k hk).1)⟩
  | false =>
   have e0 : addSR L id m = 0 := by unfold addSR; rw [if_neg ha, hh, if_neg (by decide)]
   rw [e0]
   refine (sadd_yes w b base tv L id m hT.pk hl (by omega) (by omega) (by omega) hh).mono ?_
   rintro e w' ⟨rfl, tv', g, hg, hA, hO⟩
   obtain ⟨q1, q2⟩ := hT.actP hA hO
   exact ⟨rfl, _, .inl ⟨e0, g, by simp⟩, ⟨base, tv', q1⟩, q2⟩
theorem Pr.setP {W w : World} {b rb : Nat} {S : Nat → Prop} {L M : List Sn} (h : Pr W w b rb S L M) (hT0 : CX.TabG w) (id ix : Int) (c : Cp) (he : c.e ≤ 9223372036854775807) :
  Calls Tryd.prog 23 #[.pointer (some ⟨b, 0, none⟩), .agg #[.int .i64 id, .int .i64 ix], c.V] w fun e w' => e = .returned (.int .i64 (setN L id ix c)) ∧ Pr W w' b rb S (setM L id ix c) M ∧ SameK S w w' := by
 obtain ⟨base, tv, hT⟩ := h
 rcases slot_or hT.pk id ix with hn | ⟨x, i, hx, hid, rfl, hi⟩
 ·have e0 : setN L id ix c = 3 := by unfold setN; rw [getR_no hT.pk hn]
  have e1 : setM L id ix c = L := by unfold setM; rw [e0, if_neg (by decide)]
  rw [e0, e1]
  refine (sset_no w b base tv L id ix c hT.pk hn).mono ?_
  rintro e w' ⟨rfl, hb⟩
  exact ⟨rfl, ⟨base, tv, hT.call hb⟩, SameK.of_below hb (fun k hk => (hT.bs k hk).1)⟩
 ·have eg : getR L id i = some (x.l[i]'hi) := by rw [getR_yes ((hasS_at hT.pk).2 ⟨x, hx, hid⟩) hx]; exact List.getElem?_eq_getElem hi
  cases hm : mayC c with
  | true =>
   have e0 : setN L id i c = 0 := by unfold setN; rw [eg]; simp [hm]
   have e1 : setM L id i c = putS L (posS L id) x i c := by unfold setM; rw [e0, if_pos rfl, hx]; simp
   rw [e0, e1]
   refine (sset_yes w b base tv L id i x c hT.pk hT0 he hx hid hi hm).mono ?_
   rintro e w' ⟨rfl, hA, hO⟩
   obtain ⟨q1, q2⟩ := hT.actP hA hO
   exact ⟨rfl, ⟨base, tv, q1⟩, q2⟩
  | false =>
   have e0 : setN L id i c = 5 := by unfold setN; rw [eg]; simp [hm]
   have e1 : setM L id i c = L := by unfold setM; rw [e0, if_neg (by decide)]
   rw [e0, e1]
   refine (sset_form w b base tv L id i x c hT.pk hT0 he hx hid hi hm).mono ?_
   rintro e w' ⟨rfl, hb⟩
   exact ⟨rfl, ⟨base, tv, hT.call hb⟩, SameK.of_below hb (fun k hk => (hT.bs k hk).1)⟩
theorem Pr.getP {W w : World} {b rb : Nat} {S : Nat → Prop} {L M : List Sn} (h : Pr W w b rb S L M) (id ix : Int) :
  Calls Tryd.prog 21 #[.pointer (some ⟨b, 0, none⟩), .agg #[.int .i64 id, .int .i64 ix]] w fun e w' => e = .returned (.tuple #[((getR L id ix).getD zC).V, .int .i64 (getN (getR L id ix))]) ∧ Below w.heap.size w w' := by
 obtain ⟨base, tv, hT⟩ := h
 rcases slot_or hT.pk id ix with hn | ⟨x, i, hx, hid, rfl, hi⟩
 ·rw [getR_no hT.pk hn]
  exact sget_no w b base tv L id ix hT.pk hn
 ·rw [getR_yes ((hasS_at hT.pk).2 ⟨x, hx, hid⟩) hx, List.getElem?_eq_getElem hi]
  exact sget_yes w b base tv L id i x _ hT.pk hx hid (List.getElem?_eq_getElem hi)
theorem Pr.used {W w : World} {b rb : Nat} {S : Nat → Prop} {L M : List Sn} (h : Pr W w b rb S L M) (hl : L.length < 1000000) :
  Calls Tryd.prog 40 #[.pointer (some ⟨b, 0, none⟩)] w fun e w' => ∃ r, e = .returned r ∧ w'.ownsRow w.heap.size 100 10 r (heldA L).length (hdsC (heldA L)) ∧ Below w.heap.size w w' := by
 obtain ⟨base, tv, hT⟩ := h
 exact used_all w b base tv L hT.pk hl
end TabP
namespace HpS
open TabS (Cp Sn zC mayC sizS getR getN FootP foot_ltP SameS AddRel addSR setN setM rowsS hasS heldA hdsC)
open TabP (Two Pr)
def Ft (b m : Nat) (ps : List Nat) (K : Nat → Prop) (k : Nat) : Prop := foot b m ps k ∨ K k
structure BoAt (W w : World) (sb srb tb m n trb : Nat) (L M : List Sn) (l l2 : List Nod) (K : Nat → Prop) (ps : List Nat) (f : Int → Int → Option Nat) (u : Value) : Prop where
 tr : TreeAt w W.heap.size tb m n ps l f
 pr : Pr W w sb srb (Ft tb m ps K) L M
 bs : ∀ k, K k → ¬ foot tb m ps k
def Bo (W w : World) (sb srb tb m n trb : Nat) (L M : List Sn) (l l2 : List Nod) (K : Nat → Prop) : Prop := ∃ ps f u, BoAt W w sb srb tb m n trb L M l l2 K ps f u
theorem BoAt.ltK {W w : World} {sb srb tb m n trb : Nat} {L M : List Sn} {l l2 : List Nod} {K : Nat → Prop} {ps : List Nat} {f : Int → Int → Option Nat} {u : Value} (h : BoAt W w sb srb tb m n trb L M l l2 K ps f u) {k : Nat} (hk : Ft tb m ps K k) : k < w.heap.size := h.pr.lt hk
theorem BoAt.slots {W w w' : World} {sb srb tb m n trb : Nat} {L M L' M' : List Sn} {l l2 : List Nod} {K : Nat → Prop} {ps : List Nat} {f : Int → Int → Option Nat} {u : Value} (h : BoAt W w sb srb tb m n trb L M l l2 K ps f u) (hS : Pr W w' sb srb (Ft tb m ps K) L' M') (hk : TabS.SameK (Ft tb m ps K) w w') : Bo W w' sb srb tb m n trb L' M' l l2 K ∧ SameK K w w' :=
 ⟨⟨ps, f, u, h.tr.of_blocks (fun k q => hk k (.inl q)), hS, h.bs⟩, fun k q => hk k (.inr q)⟩
theorem BoAt.tree {W w w' : World} {sb srb tb m n n' trb : Nat} {L M : List Sn} {l l2 l' : List Nod} {K : Nat → Prop} {ps ps' : List Nat} {f f' : Int → Int → Option Nat} {u : Value} (h : BoAt W w sb srb tb m n trb L M l l2 K ps f u) (hT : TreeAt w' W.heap.size tb m n' ps' l' f') (hO : TOnly w w' tb m ps ps') : Bo W w' sb srb tb m n' trb L M l' l2 K ∧ SameK K w w' := by
 have hK : SameK K w w' := fun k q => hO.block k (h.ltK (.inr q)) (h.bs k q)
 have hf : ∀ k, k < w.heap.size → ¬ foot tb m ps k → ¬ foot tb m ps' k := fun k h1 h2 h3 => h2 (hO.foot k h1 h3)
 obtain ⟨base, tv, hTw⟩ := h.pr
 refine ⟨⟨ps', f', u, hT, ⟨base, tv, TabP.Two.of (C := foot tb m ps) hTw hO.os hO.tape hO.output hO.size (fun k q => ⟨.inl q, h.tr.ge q⟩) hO.block (fun k q => ?_)⟩, fun k q => hf k (h.ltK (.inr q)) (h.bs k q)⟩, hK⟩
 rcases q with q | q
 ·refine ⟨hT.lt q, ?_⟩
  by_cases hk : k < w.heap.size
  ·exact .inl (.inl (hO.foot k hk q))
  ·exact .inr (by omega)
 ·exact ⟨Nat.lt_of_lt_of_le (h.ltK (.inr q)) hO.size, .inl (.inr q)⟩
theorem Bo.call {W w w' : World} {sb srb tb m n trb : Nat} {L M : List Sn} {l l2 : List Nod} {K : Nat → Prop} (h : Bo W w sb srb tb m n trb L M l l2 K) (hb : Below w.heap.size w w') : Bo W w' sb srb tb m n trb L M l l2 K ∧ SameK K w w' := by
 obtain ⟨ps, f, u, h⟩ := h
 exact h.slots (h.pr.call hb) (fun k q => hb.block k (h.ltK q))
theorem Bo.below {W w : World} {sb srb tb m n trb : Nat} {L M : List Sn} {l l2 : List Nod} {K : Nat → Prop} (h : Bo W w sb srb tb m n trb L M l l2 K) : Below W.heap.size W w := by
 obtain ⟨ps, f, u, h⟩ := h
 exact h.pr.below
theorem Bo.mono {W w : World} {sb srb tb m n n' trb : Nat} {L M : List Sn} {l l2 : List Nod} {K : Nat → Prop} (h : Bo W w sb srb tb m n trb L M l l2 K) (hn : n ≤ n') : Bo W w sb srb tb m n' trb L M l l2 K := by
 obtain ⟨ps, f, u, h⟩ := h
 exact ⟨ps, f, u, h.tr.mono hn, h.pr, h.bs⟩
structure Sh where
 sb : Nat
 srb : Nat
 tb : Nat
 m : Nat
 trb : Nat
abbrev BoS (W : World) (s : Sh) (n : Nat) (L M : List Sn) (l l2 : List Nod) (K : Nat → Prop) (w : World) : Prop := Bo W w s.sb s.srb s.tb s.m n s.trb L M l l2 K
variable {W w : World} {s : Sh} {n : Nat} {L M : List Sn} {l l2 : List Nod} {K : Nat → Prop}
theorem Bo.sl {F : FuncId} {args : Array Value} {Q : Ending → List Sn → List Sn → Prop} (h : BoS W s n L M l l2 K w) (hc : ∀ S : Nat → Prop, Pr W w s.sb s.srb S L M → Calls Tryd.prog F args w fun e w' => ∃ L' M', Q e L' M' ∧ Pr W w' s.sb s.srb S L' M' ∧ TabS.SameK S w w') :
  Calls Tryd.prog F args w fun e w' => ∃ L' M', Q e L' M' ∧ BoS W s n L' M' l l2 K w' ∧ SameK K w w' := by
 obtain ⟨ps, f, u, h⟩ := h
 refine (hc _ h.pr).mono ?_
 rintro e w' ⟨L', M', hq, hS, hk⟩
 exact ⟨L', M', hq, h.slots hS hk⟩
theorem Bo.tree {F : FuncId} {args : Array Value} {n' : Nat} {l' : List Nod} {r : Value} (h : BoS W s n L M l l2 K w) (hc : ∀ ps f, TreeAt w W.heap.size s.tb s.m n ps l f → Calls Tryd.prog F args w fun e w' => e = .returned r ∧ Left w w' W.heap.size s.tb s.m n' ps l') :
  Calls Tryd.prog F args w fun e w' => e = .returned r ∧ BoS W s n' L M l' l2 K w' ∧ SameK K w w' := by
 obtain ⟨ps, f, u, h⟩ := h
 refine (hc ps f h.tr).mono ?_
 rintro e w' ⟨he, ps', f', hT, hO⟩
 exact ⟨he, h.tree hT hO⟩
theorem Bo.set (h : BoS W s n L M l l2 K w) (hT0 : CX.TabG W) (id ix : Int) (c : Cp) (he : c.e ≤ 9223372036854775807) :
  Calls Tryd.prog 23 #[.pointer (some ⟨s.sb, 0, none⟩), .agg #[.int .i64 id, .int .i64 ix], c.V] w fun e w' => e = .returned (.int .i64 (setN L id ix c)) ∧ BoS W s n (setM L id ix c) M l l2 K w' ∧ SameK K w w' := by
 refine (h.sl (Q := fun e L' M' => e = .returned (.int .i64 (setN L id ix c)) ∧ L' = setM L id ix c ∧ M' = M) (fun S hp => (hp.setP (hT0.call hp.below) id ix c he).mono fun e w' ⟨he, hS, hk⟩ => ⟨_, _, ⟨he, rfl, rfl⟩, hS, hk⟩)).mono ?_
 rintro e w' ⟨_, _, ⟨he, rfl, rfl⟩, h1, h2⟩
 exact ⟨he, h1, h2⟩
theorem Bo.add (h : BoS W s n L M l l2 K w) (hl : L.length < 1000000) (id k : Int) :
  Calls Tryd.prog 36 #[.pointer (some ⟨s.sb, 0, none⟩), .int .i64 id, .int .i64 k] w fun e w' => e = .returned (.int .i64 (addSR L id k)) ∧ ∃ L', AddRel L id k L' ∧ BoS W s n L' M l l2 K w' ∧ SameK K w w' := by
 refine (h.sl (Q := fun e L' M' => e = .returned (.int .i64 (addSR L id k)) ∧ AddRel L id k L' ∧ M' = M) (fun S hp => (hp.addP hl id k).mono fun e w' ⟨he, L', hr, hS, hk⟩ => ⟨L', _, ⟨he, hr, rfl⟩, hS, hk⟩)).mono ?_
 rintro e w' ⟨L', _, ⟨he, hr, rfl⟩, h1, h2⟩
 exact ⟨he, L', hr, h1, h2⟩
theorem Bo.get (h : BoS W s n L M l l2 K w) (id ix : Int) :
  Calls Tryd.prog 21 #[.pointer (some ⟨s.sb, 0, none⟩), .agg #[.int .i64 id, .int .i64 ix]] w fun e w' => e = .returned (.tuple #[((getR L id ix).getD zC).V, .int .i64 (getN (getR L id ix))]) ∧ Below w.heap.size w w' := by
 obtain ⟨ps, f, u, h⟩ := h
 exact h.pr.getP id ix
theorem Bo.used (h : BoS W s n L M l l2 K w) (hl : L.length < 1000000) :
  Calls Tryd.prog 40 #[.pointer (some ⟨s.sb, 0, none⟩)] w fun e w' => ∃ r, e = .returned r ∧ w'.ownsRow w.heap.size 100 10 r (heldA L).length (hdsC (heldA L)) ∧ Below w.heap.size w w' := by
 obtain ⟨ps, f, u, h⟩ := h
 exact h.pr.used hl
theorem Bo.root (h : BoS W s n L M l l2 K w) (o i : Int) (ho : InS o) (hi : InS i) (hn : n < 1000000) :
  Calls Tryd.prog 26 #[.pointer (some ⟨s.tb, 0, none⟩), slV o i] w fun e w' => e = .returned (.int .i64 (rootA l o i).2) ∧ BoS W s (n + 1) L M (rootA l o i).1 l2 K w' ∧ SameK K w w' :=
 h.tree fun ps f hT => root_any w W.heap.size s.tb s.m n ps l f o i ho hi hT (by unfold maxLen; omega) h.below.size
theorem Bo.child (h : BoS W s n L M l l2 K w) (o i p j : Int) (ho : InS o) (hi : InS i) (hp : InS p) (hj : InS j) (hn : n < 1000000) :
  Calls Tryd.prog 28 #[.pointer (some ⟨s.tb, 0, none⟩), slV o i, slV p j] w fun e w' => e = .returned (.int .i64 (childA l o i p j).2) ∧ BoS W s (n + 1) L M (childA l o i p j).1 l2 K w' ∧ SameK K w w' :=
 h.tree fun ps f hT => child_any w W.heap.size s.tb s.m n ps l f o i p j ho hi hp hj hT hn h.below.size
theorem Bo.under (h : BoS W s n L M l l2 K w) (o i : Int) (ho : InS o) (hi : InS i) (hn : n < 1000000) :
  Calls Tryd.prog 39 #[.pointer (some ⟨s.tb, 0, none⟩), slV o i] w fun e w' => ∃ v, e = .returned v ∧ w'.ownsRow w.heap.size 23 2 v (belowA l o i).length (slsC (belowA l o i)) ∧ Below w.heap.size w w' := by
 obtain ⟨ps, f, u, h⟩ := h
 exact below_any w W.heap.size s.tb s.m n ps l f o i ho hi h.tr hn
end HpS
end
end Go.Proofs.YtekllgejmgoajaaDoor
