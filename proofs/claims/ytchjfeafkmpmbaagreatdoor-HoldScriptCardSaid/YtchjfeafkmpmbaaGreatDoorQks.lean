import Derived.Test.YtchjfeafkmpmbaaGreatDoorQkr
import Derived.StillTailTactics
import Derived.Deep.RegionWith
import Derived.Deep.RegionHeld3
namespace Go.Proofs.YtchjfeafkmpmbaaGreatDoor
set_option linter.unusedVariables false
set_option linter.unusedSimpArgs false
set_option maxRecDepth 100000
set_option maxHeartbeats 8000000
open Lib (hid)
open Go.ChangeShapes Go.WideShapes Go.ChangeAt Go.RowKit Go.Shelf
section
namespace HdS
open TabS (Cp Sn zC mayC sizS getR getN Two Pr FootP foot_ltP foot_ltR SameS AddRel addSR setN setM rowsS hasS dropSR dropSL heldA hdsC)
variable {W w w' : World} {s : Sh} {hb rhb n n' t : Nat} {L M L' M' : List Sn} {l l2 l' l2' : List Nod} {S T : Nat → Prop}
theorem done_7 (hT0 : CX.TabG W) (ht : t ≤ 110) (h : HSt W s hb rhb t S w) (o i p j ca cb cx cd ce cf cg ch m : Int) (u : Nat) (ho : InS o) (hi : InS i) (hp : InS p) (hj : InS j) (he : ce ≤ 9223372036854775807) (hu : u < 2 ^ 64) :
  Calls Tryz.prog 10 #[.pointer (some ⟨hb, 0, none⟩), .pointer (some ⟨rhb, 0, none⟩), .agg #[.int .i64 7, .int .i64 o, .int .i64 i, .int .i64 p, .int .i64 j, .int .i64 ca, .int .i64 cb, .int .i64 cx, .int .u64 cd, .int .i64 ce, .int .i64 cf, .int .i64 cg, .int .i64 ch, .int .i64 m, .int .u64 u]] w fun e w' => e = .returned (.bool true) ∧ HSt W s hb rhb (t + 1) S w' ∧ SameK S w w' := by
 obtain ⟨wA, hwA⟩ : ∃ y, y = w.alloc (.cells #[.int .i64 7, .int .i64 o, .int .i64 i, .int .i64 p, .int .i64 j, .int .i64 ca, .int .i64 cb, .int .i64 cx, .int .u64 cd, .int .i64 ce, .int .i64 cf, .int .i64 cg, .int .i64 ch, .int .i64 m, .int .u64 u] 35) := ⟨_, rfl⟩
 have hb1 : Below w.heap.size w wA := hwA ▸ bal (Below.refl _ _) _
 have hx1 : wA.heap[w.heap.size]? = some (.cells #[.int .i64 7, .int .i64 o, .int .i64 i, .int .i64 p, .int .i64 j, .int .i64 ca, .int .i64 cb, .int .i64 cx, .int .u64 cd, .int .i64 ce, .int .i64 cf, .int .i64 cg, .int .i64 ch, .int .i64 m, .int .u64 u] 35 (0, 0)) := by rw [hwA]; exact heap_alloc_new w _
 have hf := (h.fresh hb1)
 obtain ⟨c, k, hk⟩ := act_clear hT0 ht hf o i ho hi
 have hq : ∀ v, (binOp .eql 33 c.V c.V).run Tryz.prog v = .ok (.bool true) v := fun v => TabS.eqCp c v
 have HT1 := hid hk
 have HX1 := hid hx1
 have HN : Hid (New w wA w.heap.size) := hid ⟨Nat.le_refl _, (ags hx1).1⟩
 have HS0 : Hid (SameK S w wA) := hid (fun k q => hb1.block k (h.lt q))
 obtain ⟨e1, e2, -⟩ := ac15 (s := s) (rhb := rhb) hx1 hf.rc.1
 have HF := hid hf
 have HF0 := hid (fun (k : Nat) (q : S k) => h.lt q)
 have HBA := hid hb1
 have HW := hid hwA
 obtain ⟨xa, xb, xx, xd, xe, xf, xg, xh⟩ := c
 simp only [TabS.Cp.V] at hq
 clear hk hx1 hf hwA hb1 h hT0 ho hi hp hj he hu ht
 go_enter Tryz.func10, Tryz.ntmps10
 go_upto_region 17 with fail
 rw [show w.alloc (.cells #[.int .i64 7, .int .i64 o, .int .i64 i, .int .i64 p, .int .i64 j, .int .i64 ca, .int .i64 cb, .int .i64 cx, .int .u64 cd, .int .i64 ce, .int .i64 cf, .int .i64 cg, .int .i64 ch, .int .i64 m, .int .u64 u] 35) = wA from HW.out.symm]
 go_upto_region 18 with (go_at_call 27; (with_reducible refine HT1.out.mono ?_); rintro e w2 ⟨rfl, hk2, hr2, h2⟩; have HT2 := hid h2; have HK2 := hid hk2; clear h2 hk2 hr2)
 obtain ⟨w3, hw3⟩ : ∃ y, y = w2.alloc (.cells #[.int .i64 xa, .int .i64 xb, .int .i64 xx, .int .u64 xd, .int .i64 xe, .int .i64 xf, .int .i64 xg, .int .i64 xh] 33) := ⟨_, rfl⟩
 have hb3 : Below w2.heap.size w2 w3 := hw3 ▸ bal (Below.refl _ _) _
 have HB3 := hid hb3
 have hx3 : w3.heap[w2.heap.size]? = some (.cells (⟨xa, xb, xx, xd, xe, xf, xg, xh⟩ : Cp).L.toArray 33 (0, 0)) := by rw [hw3]; exact heap_alloc_new w2 _
 have hx2 := (HK2.out _ (.inr HN.out)).trans HX1.out
 have HXX := hid ((hb3.block _ (ags hx2).1).trans hx2)
 have HC := hid (HT2.out w3 hb3)
 rw [← hw3]
 clear e1 e2 hx2
 obtain ⟨e1, e2⟩ := act2 HXX.out
 have HX3 := hid hx3
 have HNB : Hid (New w2 w3 w2.heap.size) := hid ⟨Nat.le_refl _, (ags HX3.out).1⟩
 have HLT : Hid (∀ k, S k → k < w2.heap.size) := hid (fun k q => (ags (((HK2.out k (.inl q)).trans (HBA.out.block k (HF0.out k q))).trans (Array.getElem?_eq_getElem (HF0.out k q)))).1)
 obtain ⟨xB, hxB⟩ : ∃ y, y = w2.heap.size := ⟨_, rfl⟩
 rw [← hxB] at HX3 HNB ⊢
 clear hw3 hb3 hx3 hxB
 go_upto_region 19 with (go_at_call 44; (with_reducible refine HC.out.mono ?_); rintro e w4 ⟨rfl, h4, hk4⟩; have H4 := hid h4; have HK4 := hid hk4; clear h4 hk4)
 have HX4 := hid ((HK4.out _ (.inr HNB.out)).trans HX3.out)
 obtain ⟨w5, hw5⟩ : ∃ y, y = w4.alloc (.cells #[.int .i64 xa, .int .i64 xb, .int .i64 xx, .int .u64 xd, .int .i64 xe, .int .i64 xf, .int .i64 xg, .int .i64 xh] 33) := ⟨_, rfl⟩
 have hb5 : Below w4.heap.size w4 w5 := hw5 ▸ bal (Below.refl _ _) _
 have HH5 := hid (H4.out.call hb5)
 have HK5 := hid (fun (k : Nat) (q : S k) => hb5.block k (H4.out.lt (.inl (.inl q))))
 have hx5 : w5.heap[w4.heap.size]? = some (.cells (⟨xa, xb, xx, xd, xe, xf, xg, xh⟩ : Cp).L.toArray 33 (0, 0)) := by rw [hw5]; exact heap_alloc_new w4 _
 have hy5 := (hb5.block _ (ags HX4.out).1).trans HX4.out
 rw [← hw5]
 generalize w4.heap.size = yB at *
 obtain ⟨x0, x1, x2, x3, x4, x5, x6, x7⟩ := cap_cells hx5
 simp only [] at x0 x1 x2 x3 x4 x5 x6 x7
 obtain ⟨y0, y1, y2, y3, y4, y5, y6, y7⟩ := cap_cells hy5
 simp only [] at y0 y1 y2 y3 y4 y5 y6 y7
 clear hw5 hb5 hx5 hy5 e1 e2
 go_wp2_with (go_at_call 33; (with_reducible refine (TabS.num_s _ _).mono ?_); rintro e w6 ⟨rfl, rfl⟩)
 go_ret
 exact ⟨rfl, HH5.out.weak (fun k q => .inl (.inl q)), fun k q => (HK5.out k q).trans ((HK4.out k (.inl (.inl q))).trans ((HB3.out.block k (HLT.out k q)).trans ((HK2.out k (.inl q)).trans (HS0.out k q))))⟩
end HdS
end
section
namespace TabP
open TabS (Cp Sn zC mayC sizS getR getN FootP foot_ltP foot_loP SlotsAt SOnly SameK AddRel addSR setN setM rowsS hasS posS putS insS heldA hdsC slot_or hasS_at sget_no sget_yes getR_no getR_yes sset_no sset_yes sset_form sadd_arg sadd_full sadd_yes used_all)
structure Two (W w : World) (b base : Nat) (tv : Value) (L : List Sn) (S : Nat → Prop) : Prop where
 pk : TabS.SlotsAt w b base tv L
 lo : W.heap.size ≤ b
 bl : Below W.heap.size W w
 bs : ∀ k, S k → k < w.heap.size ∧ ¬ FootP b tv L k
theorem Two.call {W w w' : World} {b base : Nat} {tv : Value} {L : List Sn} {S : Nat → Prop} (h : Two W w b base tv L S) (hb : Below w.heap.size w w') : Two W w' b base tv L S :=
 ⟨h.pk.call hb, h.lo, h.bl.trans (hb.mono h.bl.size), fun k hk => ⟨Nat.lt_of_lt_of_le (h.bs k hk).1 hb.size, (h.bs k hk).2⟩⟩
theorem Two.actP {W w w' : World} {b base : Nat} {tv tv' : Value} {L L' : List Sn} {S : Nat → Prop} (h : Two W w b base tv L S) (hA : TabS.SlotsAt w' b base tv' L') (hO : SOnly w w' b tv tv' L L') : Two W w' b base tv' L' S ∧ SameK S w w' := by
 have hk : ∀ k, k < w.heap.size → ¬ FootP b tv L k → w'.heap[k]? = w.heap[k]? := fun k hl hn => hO.block k hl (fun e => hn (.inl e)) (fun e => hn (.inr (.inl e))) (fun x hx e => hn (.inr (.inr ⟨x, hx, e⟩)))
 have hf : ∀ k, k < w.heap.size → FootP b tv' L' k → FootP b tv L k := fun k hl hk => by
  rcases hk with e | e
  ·exact .inl e
  ·exact .inr (hO.foot k hl e)
 refine ⟨⟨hA, h.lo, ⟨hO.os.trans h.bl.os, hO.tape.trans h.bl.tape, hO.output.trans h.bl.output, Nat.le_trans h.bl.size hO.size, fun k hl => (hk k (by have := h.bl.size; omega) (fun p => by have := foot_loP h.pk p; have := h.lo; omega)).trans (h.bl.block k hl)⟩, fun k hs => ?_⟩, fun k hs => hk k (h.bs k hs).1 (h.bs k hs).2⟩
 exact ⟨Nat.lt_of_lt_of_le (h.bs k hs).1 hO.size, fun p => (h.bs k hs).2 (hf k (h.bs k hs).1 p)⟩
theorem Two.of {W w w' : World} {b base : Nat} {tv : Value} {L : List Sn} {S C T : Nat → Prop} (h : Two W w b base tv L S) (o1 : w'.os = w.os) (o2 : w'.tape = w.tape) (o3 : w'.output = w.output) (hs : w.heap.size ≤ w'.heap.size) (hC : ∀ k, C k → S k ∧ W.heap.size ≤ k) (hb : ∀ k, k < w.heap.size → ¬ C k → w'.heap[k]? = w.heap[k]?) (hT : ∀ k, T k → k < w'.heap.size ∧ (S k ∨ w.heap.size ≤ k)) : Two W w' b base tv L T := by
 refine ⟨TabS.SlotsAt.of h.pk hs (fun k q => hb k (foot_ltP h.pk q) (fun s => (h.bs k (hC k s).1).2 q)), h.lo, ⟨o1.trans h.bl.os, o2.trans h.bl.tape, o3.trans h.bl.output, Nat.le_trans h.bl.size hs, fun k hk => (hb k (Nat.lt_of_lt_of_le hk h.bl.size) (fun s => by have := (hC k s).2; omega)).trans (h.bl.block k hk)⟩, fun k hk => ?_⟩
 obtain ⟨h1, h2⟩ := hT k hk
 refine ⟨h1, fun p => ?_⟩
 rcases h2 with s | s
 ·exact (h.bs k s).2 p
 ·have := foot_ltP h.pk p; omega
def Pr (W w : World) (b rb : Nat) (S : Nat → Prop) (L M : List Sn) : Prop := ∃ base tv, Two W w b base tv L S
theorem Pr.call {W w w' : World} {b rb : Nat} {S : Nat → Prop} {L M : List Sn} (h : Pr W w b rb S L M) (hb : Below w.heap.size w w') : Pr W w' b rb S L M := by
 obtain ⟨base, tv, hT⟩ := h
 exact ⟨base, tv, hT.call hb⟩
theorem Pr.below {W w : World} {b rb : Nat} {S : Nat → Prop} {L M : List Sn} (h : Pr W w b rb S L M) : Below W.heap.size W w := h.choose_spec.choose_spec.bl
theorem Pr.lt {W w : World} {b rb k : Nat} {S : Nat → Prop} {L M : List Sn} (h : Pr W w b rb S L M) (hk : S k) : k < w.heap.size := (h.choose_spec.choose_spec.bs k hk).1
theorem SameK.of_below {S : Nat → Prop} {w w' : World} (hb : Below w.heap.size w w') (hS : ∀ k, S k → k < w.heap.size) : SameK S w w' := fun k hk => hb.block k (hS k hk)
theorem Pr.mono {W w : World} {b rb : Nat} {S T : Nat → Prop} {L M : List Sn} (h : Pr W w b rb S L M) (hs : ∀ k, T k → S k) : Pr W w b rb T L M := by
 obtain ⟨base, tv, hT⟩ := h
 exact ⟨base, tv, ⟨hT.pk, hT.lo, hT.bl, fun k hk => hT.bs k (hs k hk)⟩⟩
theorem Pr.fresh {W w w' : World} {b rb : Nat} {S : Nat → Prop} {L M : List Sn} (h : Pr W w b rb S L M) (hb : Below w.heap.size w w') : Pr W w' b rb (fun k => S k ∨ (w.heap.size ≤ k ∧ k < w'.heap.size)) L M := by
 obtain ⟨base, tv, hT⟩ := h
 have h1 := hT.call hb
 refine ⟨base, tv, ⟨h1.pk, h1.lo, h1.bl, fun k hk => ?_⟩⟩
 rcases hk with q | ⟨q1, q2⟩
 ·exact h1.bs k q
 ·exact ⟨q2, fun p => by have := foot_ltP hT.pk p; omega⟩
theorem Pr.addP {W w : World} {b rb : Nat} {S : Nat → Prop} {L M : List Sn} (h : Pr W w b rb S L M) (hl : L.length < 1000000) (id n : Int) :
  Calls Tryz.prog 75 #[.pointer (some ⟨b, 0, none⟩), .int .i64 id, .int .i64 n] w fun e w' => e = .returned (.int .i64 (addSR L id n)) ∧ ∃ L', AddRel L id n L' ∧ Pr W w' b rb S L' M ∧ SameK S w w' := by
 obtain ⟨base, tv, hT⟩ := h
 by_cases ha : id < 1 ∨ n < 1 ∨ 16 < n
 ·have e0 : addSR L id n = 2 := by unfold addSR; rw [if_pos ha]
  rw [e0]
  refine (sadd_arg w b id n ha).mono ?_
  rintro e w' ⟨rfl, rfl⟩
  exact ⟨rfl, L, .inr ⟨by rw [e0]; decide, rfl⟩, ⟨base, tv, hT⟩, fun k hk => rfl⟩
 ·obtain ⟨m, rfl⟩ : ∃ m : Nat, n = m := ⟨n.toNat, by omega⟩
  cases hh : hasS L id with
  | true =>
   have e0 : addSR L id m = 11 := by unfold addSR; rw [if_neg ha, hh, if_pos rfl]
   rw [e0]
   refine (sadd_full w b base tv L id m hT.pk (by omega) (by omega) (by omega) hh).mono ?_
   rintro e w' ⟨rfl, hb⟩
   exact ⟨rfl, L, .inr ⟨by rw [e0]; decide, rfl⟩, ⟨base, tv, hT.call hb⟩, SameK.of_below hb (fun k hk => (hT.bs k hk).1)⟩
  | false =>
   have e0 : addSR L id m = 0 := by unfold addSR; rw [if_neg ha, hh, if_neg (by decide)]
   rw [e0]
   refine (sadd_yes w b base tv L id m hT.pk hl (by omega) (by omega) (by omega) hh).mono ?_
   rintro e w' ⟨rfl, tv', g, hg, hA, hO⟩
   obtain ⟨q1, q2⟩ := hT.actP hA hO
   exact ⟨rfl, _, .inl ⟨e0, g, by simp⟩, ⟨base, tv', q1⟩, q2⟩
theorem Pr.setP {W w : World} {b rb : Nat} {S : Nat → Prop} {L M : List Sn} (h : Pr W w b rb S L M) (hT0 : CX.TabG w) (id ix : Int) (c : Cp) (he : c.e ≤ 9223372036854775807) :
  Calls Tryz.prog 71 #[.pointer (some ⟨b, 0, none⟩), .agg #[.int .i64 id, .int .i64 ix], c.V] w fun e w' => e = .returned (.int .i64 (setN L id ix c)) ∧ Pr W w' b rb S (setM L id ix c) M ∧ SameK S w w' := by
 obtain ⟨base, tv, hT⟩ := h
 rcases slot_or hT.pk id ix with hn | ⟨x, i, hx, hid, rfl, hi⟩
 ·have e0 : setN L id ix c = 3 := by unfold setN; rw [getR_no hT.pk hn]
  have e1 : setM L id ix c = L := by unfold setM; rw [e0, if_neg (by decide)]
  rw [e0, e1]
  refine (sset_no w b base tv L id ix c hT.pk hn).mono ?_
  rintro e w' ⟨rfl, hb⟩
  exact ⟨rfl, ⟨base, tv, hT.call hb⟩, SameK.of_below hb (fun k hk => (hT.bs k hk).1)⟩
 ·have eg : getR L id i = some (x.l[i]'hi) := by rw [getR_yes ((hasS_at hT.pk).2 ⟨x, hx, hid⟩) hx]; exact List.getElem?_eq_getElem hi
  cases hm : mayC c with
  | true =>
   have e0 : setN L id i c = 0 := by unfold setN; rw [eg]; simp [hm]
   have e1 : setM L id i c = putS L (posS L id) x i c := by unfold setM; rw [e0, if_pos rfl, hx]; simp
   rw [e0, e1]
   refine (sset_yes w b base tv L id i x c hT.pk hT0 he hx hid hi hm).mono ?_
   rintro e w' ⟨rfl, hA, hO⟩
   obtain ⟨q1, q2⟩ := hT.actP hA hO
   exact ⟨rfl, ⟨base, tv, q1⟩, q2⟩
  | false =>
   have e0 : setN L id i c = 5 := by unfold setN; rw [eg]; simp [hm]
   have e1 : setM L id i c = L := by unfold setM; rw [e0, if_neg (by decide)]
   rw [e0, e1]
   refine (sset_form w b base tv L id i x c hT.pk hT0 he hx hid hi hm).mono ?_
   rintro e w' ⟨rfl, hb⟩
   exact ⟨rfl, ⟨base, tv, hT.call hb⟩, SameK.of_below hb (fun k hk => (hT.bs k hk).1)⟩
theorem Pr.getP {W w : World} {b rb : Nat} {S : Nat → Prop} {L M : List Sn} (h : Pr W w b rb S L M) (id ix : Int) :
  Calls Tryz.prog 66 #[.pointer (some ⟨b, 0, none⟩), .agg #[.int .i64 id, .int .i64 ix]] w fun e w' => e = .returned (.tuple #[((getR L id ix).getD zC).V, .int .i64 (getN (getR L id ix))]) ∧ Below w.heap.size w w' := by
 obtain ⟨base, tv, hT⟩ := h
 rcases slot_or hT.pk id ix with hn | ⟨x, i, hx, hid, rfl, hi⟩
 ·rw [getR_no hT.pk hn]
  exact sget_no w b base tv L id ix hT.pk hn
 ·rw [getR_yes ((hasS_at hT.pk).2 ⟨x, hx, hid⟩) hx, List.getElem?_eq_getElem hi]
  exact sget_yes w b base tv L id i x _ hT.pk hx hid (List.getElem?_eq_getElem hi)
theorem Pr.used {W w : World} {b rb : Nat} {S : Nat → Prop} {L M : List Sn} (h : Pr W w b rb S L M) (hl : L.length < 1000000) :
  Calls Tryz.prog 52 #[.pointer (some ⟨b, 0, none⟩)] w fun e w' => ∃ r, e = .returned r ∧ w'.ownsRow w.heap.size 46 10 r (heldA L).length (hdsC (heldA L)) ∧ Below w.heap.size w w' := by
 obtain ⟨base, tv, hT⟩ := h
 exact used_all w b base tv L hT.pk hl
end TabP
namespace HpS
open TabS (Cp Sn zC mayC sizS getR getN FootP foot_ltP SameS AddRel addSR setN setM rowsS hasS heldA hdsC)
open TabP (Two Pr)
def Ft (b m : Nat) (ps : List Nat) (K : Nat → Prop) (k : Nat) : Prop := foot b m ps k ∨ K k
structure BoAt (W w : World) (sb srb tb m n trb : Nat) (L M : List Sn) (l l2 : List Nod) (K : Nat → Prop) (ps : List Nat) (f : Int → Int → Option Nat) (u : Value) : Prop where
 tr : TreeAt w W.heap.size tb m n ps l f
 pr : Pr W w sb srb (Ft tb m ps K) L M
 bs : ∀ k, K k → ¬ foot tb m ps k
def Bo (W w : World) (sb srb tb m n trb : Nat) (L M : List Sn) (l l2 : List Nod) (K : Nat → Prop) : Prop := ∃ ps f u, BoAt W w sb srb tb m n trb L M l l2 K ps f u
theorem BoAt.ltK {W w : World} {sb srb tb m n trb : Nat} {L M : List Sn} {l l2 : List Nod} {K : Nat → Prop} {ps : List Nat} {f : Int → Int → Option Nat} {u : Value} (h : BoAt W w sb srb tb m n trb L M l l2 K ps f u) {k : Nat} (hk : Ft tb m ps K k) : k < w.heap.size := h.pr.lt hk
theorem BoAt.slots {W w w' : World} {sb srb tb m n trb : Nat} {L M L' M' : List Sn} {l l2 : List Nod} {K : Nat → Prop} {ps : List Nat} {f : Int → Int → Option Nat} {u : Value} (h : BoAt W w sb srb tb m n trb L M l l2 K ps f u) (hS : Pr W w' sb srb (Ft tb m ps K) L' M') (hk : TabS.SameK (Ft tb m ps K) w w') : Bo W w' sb srb tb m n trb L' M' l l2 K ∧ SameK K w w' :=
 ⟨⟨ps, f, u, h.tr.of_blocks (fun k q => hk k (.inl q)), hS, h.bs⟩, fun k q => hk k (.inr q)⟩
theorem BoAt.tree {W w w' : World} {sb srb tb m n n' trb : Nat} {L M : List Sn} {l l2 l' : List Nod} {K : Nat → Prop} {ps ps' : List Nat} {f f' : Int → Int → Option Nat} {u : Value} (h : BoAt W w sb srb tb m n trb L M l l2 K ps f u) (hT : TreeAt w' W.heap.size tb m n' ps' l' f') (hO : TOnly w w' tb m ps ps') : Bo W w' sb srb tb m n' trb L M l' l2 K ∧ SameK K w w' := by
 have hK : SameK K w w' := fun k q => hO.block k (h.ltK (.inr q)) (h.bs k q)
 have hf : ∀ k, k < w.heap.size → ¬ foot tb m ps k → ¬ foot tb m ps' k := fun k h1 h2 h3 => h2 (hO.foot k h1 h3)
 obtain ⟨base, tv, hTw⟩ := h.pr
 refine ⟨⟨ps', f', u, hT, ⟨base, tv, TabP.Two.of (C := foot tb m ps) hTw hO.os hO.tape hO.output hO.size (fun k q => ⟨.inl q, h.tr.ge q⟩) hO.block (fun k q => ?_)⟩, fun k q => hf k (h.ltK (.inr q)) (h.bs k q)⟩, hK⟩
 rcases q with q | q
 ·refine ⟨hT.lt q, ?_⟩
  by_cases hk : k < w.heap.size
  ·exact .inl (.inl (hO.foot k hk q))
  ·exact .inr (by omega)
 ·exact ⟨Nat.lt_of_lt_of_le (h.ltK (.inr q)) hO.size, .inl (.inr q)⟩
theorem Bo.call {W w w' : World} {sb srb tb m n trb : Nat} {L M : List Sn} {l l2 : List Nod} {K : Nat → Prop} (h : Bo W w sb srb tb m n trb L M l l2 K) (hb : Below w.heap.size w w') : Bo W w' sb srb tb m n trb L M l l2 K ∧ SameK K w w' := by
 obtain ⟨ps, f, u, h⟩ := h
 exact h.slots (h.pr.call hb) (fun k q => hb.block k (h.ltK q))
theorem Bo.below {W w : World} {sb srb tb m n trb : Nat} {L M : List Sn} {l l2 : List Nod} {K : Nat → Prop} (h : Bo W w sb srb tb m n trb L M l l2 K) : Below W.heap.size W w := by
 obtain ⟨ps, f, u, h⟩ := h
 exact h.pr.below
theorem Bo.mono {W w : World} {sb srb tb m n n' trb : Nat} {L M : List Sn} {l l2 : List Nod} {K : Nat → Prop} (h : Bo W w sb srb tb m n trb L M l l2 K) (hn : n ≤ n') : Bo W w sb srb tb m n' trb L M l l2 K := by
 obtain ⟨ps, f, u, h⟩ := h
 exact ⟨ps, f, u, h.tr.mono hn, h.pr, h.bs⟩
structure Sh where
 sb : Nat
 srb : Nat
 tb : Nat
 m : Nat
 trb : Nat
abbrev BoS (W : World) (s : Sh) (n : Nat) (L M : List Sn) (l l2 : List Nod) (K : Nat → Prop) (w : World) : Prop := Bo W w s.sb s.srb s.tb s.m n s.trb L M l l2 K
variable {W w : World} {s : Sh} {n : Nat} {L M : List Sn} {l l2 : List Nod} {K : Nat → Prop}
theorem Bo.sl {F : FuncId} {args : Array Value} {Q : Ending → List Sn → List Sn → Prop} (h : BoS W s n L M l l2 K w) (hc : ∀ S : Nat → Prop, Pr W w s.sb s.srb S L M → Calls Tryz.prog F args w fun e w' => ∃ L' M', Q e L' M' ∧ Pr W w' s.sb s.srb S L' M' ∧ TabS.SameK S w w') :
  Calls Tryz.prog F args w fun e w' => ∃ L' M', Q e L' M' ∧ BoS W s n L' M' l l2 K w' ∧ SameK K w w' := by
 obtain ⟨ps, f, u, h⟩ := h
 refine (hc _ h.pr).mono ?_
 rintro e w' ⟨L', M', hq, hS, hk⟩
 exact ⟨L', M', hq, h.slots hS hk⟩
theorem Bo.tree {F : FuncId} {args : Array Value} {n' : Nat} {l' : List Nod} {r : Value} (h : BoS W s n L M l l2 K w) (hc : ∀ ps f, TreeAt w W.heap.size s.tb s.m n ps l f → Calls Tryz.prog F args w fun e w' => e = .returned r ∧ Left w w' W.heap.size s.tb s.m n' ps l') :
  Calls Tryz.prog F args w fun e w' => e = .returned r ∧ BoS W s n' L M l' l2 K w' ∧ SameK K w w' := by
 obtain ⟨ps, f, u, h⟩ := h
 refine (hc ps f h.tr).mono ?_
 rintro e w' ⟨he, ps', f', hT, hO⟩
 exact ⟨he, h.tree hT hO⟩
theorem Bo.set (h : BoS W s n L M l l2 K w) (hT0 : CX.TabG W) (id ix : Int) (c : Cp) (he : c.e ≤ 9223372036854775807) :
  Calls Tryz.prog 71 #[.pointer (some ⟨s.sb, 0, none⟩), .agg #[.int .i64 id, .int .i64 ix], c.V] w fun e w' => e = .returned (.int .i64 (setN L id ix c)) ∧ BoS W s n (setM L id ix c) M l l2 K w' ∧ SameK K w w' := by
 refine (h.sl (Q := fun e L' M' => e = .returned (.int .i64 (setN L id ix c)) ∧ L' = setM L id ix c ∧ M' = M) (fun S hp => (hp.setP (hT0.call hp.below) id ix c he).mono fun e w' ⟨he, hS, hk⟩ => ⟨_, _, ⟨he, rfl, rfl⟩, hS, hk⟩)).mono ?_
 rintro e w' ⟨_, _, ⟨he, rfl, rfl⟩, h1, h2⟩
 exact ⟨he, h1, h2⟩
theorem Bo.add (h : BoS W s n L M l l2 K w) (hl : L.length < 1000000) (id k : Int) :
  Calls Tryz.prog 75 #[.pointer (some ⟨s.sb, 0, none⟩), .int .i64 id, .int .i64 k] w fun e w' => e = .returned (.int .i64 (addSR L id k)) ∧ ∃ L', AddRel L id k L' ∧ BoS W s n L' M l l2 K w' ∧ SameK K w w' := by
 refine (h.sl (Q := fun e L' M' => e = .returned (.int .i64 (addSR L id k)) ∧ AddRel L id k L' ∧ M' = M) (fun S hp => (hp.addP hl id k).mono fun e w' ⟨he, L', hr, hS, hk⟩ => ⟨L', _, ⟨he, hr, rfl⟩, hS, hk⟩)).mono ?_
 rintro e w' ⟨L', _, ⟨he, hr, rfl⟩, h1, h2⟩
 exact ⟨he, L', hr, h1, h2⟩
theorem Bo.get (h : BoS W s n L M l l2 K w) (id ix : Int) :
  Calls Tryz.prog 66 #[.pointer (some ⟨s.sb, 0, none⟩), .agg #[.int .i64 id, .int .i64 ix]] w fun e w' => e = .returned (.tuple #[((getR L id ix).getD zC).V, .int .i64 (getN (getR L id ix))]) ∧ Below w.heap.size w w' := by
 obtain ⟨ps, f, u, h⟩ := h
 exact h.pr.getP id ix
theorem Bo.used (h : BoS W s n L M l l2 K w) (hl : L.length < 1000000) :
  Calls Tryz.prog 52 #[.pointer (some ⟨s.sb, 0, none⟩)] w fun e w' => ∃ r, e = .returned r ∧ w'.ownsRow w.heap.size 46 10 r (heldA L).length (hdsC (heldA L)) ∧ Below w.heap.size w w' := by
 obtain ⟨ps, f, u, h⟩ := h
 exact h.pr.used hl
theorem Bo.root (h : BoS W s n L M l l2 K w) (o i : Int) (ho : InS o) (hi : InS i) (hn : n < 1000000) :
  Calls Tryz.prog 77 #[.pointer (some ⟨s.tb, 0, none⟩), slV o i] w fun e w' => e = .returned (.int .i64 (rootA l o i).2) ∧ BoS W s (n + 1) L M (rootA l o i).1 l2 K w' ∧ SameK K w w' :=
 h.tree fun ps f hT => root_any w W.heap.size s.tb s.m n ps l f o i ho hi hT (by unfold maxLen; omega) h.below.size
theorem Bo.child (h : BoS W s n L M l l2 K w) (o i p j : Int) (ho : InS o) (hi : InS i) (hp : InS p) (hj : InS j) (hn : n < 1000000) :
  Calls Tryz.prog 84 #[.pointer (some ⟨s.tb, 0, none⟩), slV o i, slV p j] w fun e w' => e = .returned (.int .i64 (childA l o i p j).2) ∧ BoS W s (n + 1) L M (childA l o i p j).1 l2 K w' ∧ SameK K w w' :=
 h.tree fun ps f hT => child_any w W.heap.size s.tb s.m n ps l f o i p j ho hi hp hj hT hn h.below.size
theorem Bo.under (h : BoS W s n L M l l2 K w) (o i : Int) (ho : InS o) (hi : InS i) (hn : n < 1000000) :
  Calls Tryz.prog 67 #[.pointer (some ⟨s.tb, 0, none⟩), slV o i] w fun e w' => ∃ v, e = .returned v ∧ w'.ownsRow w.heap.size 30 2 v (belowA l o i).length (slsC (belowA l o i)) ∧ Below w.heap.size w w' := by
 obtain ⟨ps, f, u, h⟩ := h
 exact below_any w W.heap.size s.tb s.m n ps l f o i ho hi h.tr hn
end HpS
end
section
namespace HpS
open TabS (Cp Sn zC mayC sizS getR getN FootP foot_ltP SameS AddRel addSR setN setM rowsS hasS dropSR dropSL heldA hdsC)
open TabP (Two Pr)
structure Hd (W : World) (s : Sh) (hb rhb n : Nat) (L M : List Sn) (l l2 : List Nod) (S : Nat → Prop) (w : World) : Prop where
 bo : BoS W s n L M l l2 (fun k => k = hb ∨ S k) w
 hd : w.heap[hb]? = some (.cells #[.pointer (some ⟨s.sb, 0, none⟩), .pointer (some ⟨s.tb, 0, none⟩)] 93 (0, 0))
variable {W w w' : World} {s : Sh} {hb rhb n n' : Nat} {L M L' M' : List Sn} {l l2 l' l2' : List Nod} {S : Nat → Prop}
theorem Hd.lift (h : Hd W s hb rhb n L M l l2 S w) (hB : BoS W s n' L' M' l' l2' (fun k => k = hb ∨ S k) w') (hK : SameK (fun k => k = hb ∨ S k) w w') : Hd W s hb rhb n' L' M' l' l2' S w' :=
 ⟨hB, (hK hb (.inl rfl)).trans h.hd⟩
theorem Hd.call (h : Hd W s hb rhb n L M l l2 S w) (hb' : Below w.heap.size w w') : Hd W s hb rhb n L M l l2 S w' :=
 h.lift (h.bo.call hb').1 (h.bo.call hb').2
theorem Hd.below (h : Hd W s hb rhb n L M l l2 S w) : Below W.heap.size W w := h.bo.below
theorem Hd.c (h : Hd W s hb rhb n L M l l2 S w) : w.cell? ⟨hb, 0, none⟩ = some (.pointer (some ⟨s.sb, 0, none⟩)) ∧ w.cell? ⟨hb, 1, none⟩ = some (.pointer (some ⟨s.tb, 0, none⟩)) ∧ hb < w.heap.size :=
 ⟨cell_cur (cur := [.pointer (some ⟨s.sb, 0, none⟩), .pointer (some ⟨s.tb, 0, none⟩)]) h.hd 0, cell_cur (cur := [.pointer (some ⟨s.sb, 0, none⟩), .pointer (some ⟨s.tb, 0, none⟩)]) h.hd 1, (ags h.hd).1⟩
def gt (L : List Sn) (o i : Int) : Cp := (getR L o i).getD zC
def gn (L : List Sn) (o i : Int) : Int := getN (getR L o i)
theorem cap_cells {w : World} {k : Nat} {c : Cp} (h : w.heap[k]? = some (.cells c.L.toArray 33 (0, 0))) : w.cell? ⟨k, 0, none⟩ = some (.int .i64 c.a) ∧ w.cell? ⟨k, 1, none⟩ = some (.int .i64 c.b) ∧ w.cell? ⟨k, 2, none⟩ = some (.int .i64 c.c) ∧ w.cell? ⟨k, 3, none⟩ = some (.int .u64 c.d) ∧ w.cell? ⟨k, 4, none⟩ = some (.int .i64 c.e) ∧ w.cell? ⟨k, 5, none⟩ = some (.int .i64 c.f) ∧ w.cell? ⟨k, 6, none⟩ = some (.int .i64 c.g) ∧ w.cell? ⟨k, 7, none⟩ = some (.int .i64 c.h) :=
 ⟨cell_cur (cur := c.L) h 0, cell_cur (cur := c.L) h 1, cell_cur (cur := c.L) h 2, cell_cur (cur := c.L) h 3, cell_cur (cur := c.L) h 4, cell_cur (cur := c.L) h 5, cell_cur (cur := c.L) h 6, cell_cur (cur := c.L) h 7⟩
theorem cap_froz {w : World} {k : Nat} {xs : Array Value} {t : TypeId} (h : w.heap[k]? = some (.cells xs t (0, 0))) : ∀ j, w.frozen? ⟨k, j, none⟩ = false := fun j => by simp [World.frozen?, h]
theorem slot_cells {w : World} {k : Nat} {x y : Int} (h : w.heap[k]? = some (.cells #[.int .i64 x, .int .i64 y] 30 (0, 0))) : w.cell? ⟨k, 0, none⟩ = some (.int .i64 x) ∧ w.cell? ⟨k, 1, none⟩ = some (.int .i64 y) :=
 ⟨cell_cur (cur := [.int .i64 x, .int .i64 y]) h 0, cell_cur (cur := [.int .i64 x, .int .i64 y]) h 1⟩
def lay8 (w : World) (k : Nat) (n : Cp) : World := (((((((w.setCell ⟨k, 0, none⟩ (.int .i64 n.a)).setCell ⟨k, 1, none⟩ (.int .i64 n.b)).setCell ⟨k, 2, none⟩ (.int .i64 n.c)).setCell ⟨k, 3, none⟩ (.int .u64 n.d)).setCell ⟨k, 4, none⟩ (.int .i64 n.e)).setCell ⟨k, 5, none⟩ (.int .i64 n.f)).setCell ⟨k, 6, none⟩ (.int .i64 n.g)).setCell ⟨k, 7, none⟩ (.int .i64 n.h)
theorem set_step {w : World} {k : Nat} {l : List Value} {t : TypeId} (i : Nat) (v : Value) (h : w.heap[k]? = some (.cells l.toArray t (0, 0))) : (w.setCell ⟨k, i, none⟩ v).heap[k]? = some (.cells (l.set i v).toArray t (0, 0)) := by
 rw [Go.heap_setCell_same _ k i _ t v h]
 simp
theorem lay8_same {w : World} {k : Nat} {c : Cp} {t : TypeId} (n : Cp) (h : w.heap[k]? = some (.cells c.L.toArray t (0, 0))) : (lay8 w k n).heap[k]? = some (.cells n.L.toArray t (0, 0)) := by
 have e : (((((((c.L.set 0 (.int .i64 n.a)).set 1 (.int .i64 n.b)).set 2 (.int .i64 n.c)).set 3 (.int .u64 n.d)).set 4 (.int .i64 n.e)).set 5 (.int .i64 n.f)).set 6 (.int .i64 n.g)).set 7 (.int .i64 n.h) = n.L := rfl
 rw [← e]
 unfold lay8
 exact set_step 7 _ (set_step 6 _ (set_step 5 _ (set_step 4 _ (set_step 3 _ (set_step 2 _ (set_step 1 _ (set_step 0 _ h)))))))
theorem lay8_below {w0 w : World} {B k : Nat} (n : Cp) (h : Below B w0 w) (hk : B ≤ k) : Below B w0 (lay8 w k n) :=
 (((((((h.setCell (p := ⟨k, 0, none⟩) hk _).setCell (p := ⟨k, 1, none⟩) hk _).setCell (p := ⟨k, 2, none⟩) hk _).setCell (p := ⟨k, 3, none⟩) hk _).setCell (p := ⟨k, 4, none⟩) hk _).setCell (p := ⟨k, 5, none⟩) hk _).setCell (p := ⟨k, 6, none⟩) hk _).setCell (p := ⟨k, 7, none⟩) hk _
theorem hslots (h : Hd W s hb rhb n L M l l2 S w) :
  Calls Tryz.prog 51 #[.pointer (some ⟨hb, 0, none⟩)] w fun e w' => e = .returned (.pointer (some ⟨s.sb, 0, none⟩)) ∧ w = w' := by
 obtain ⟨c0, -, -⟩ := h.c
 clear h
 go_enter Tryz.func51, Tryz.ntmps51
 go_wp2
 go_ret
 exact ⟨rfl, by trivial⟩
theorem hsome (w : World) (hT : CX.TabG w) (c : Cp) (he : c.e ≤ 9223372036854775807) :
  Calls Tryz.prog 76 #[c.V] w fun e w' => e = .returned (.bool (mayC c && decide (c.a ≠ 0))) ∧ Below w.heap.size w w' := by
 obtain ⟨ca, cb, cx, cd, ce, cf, cg, ch⟩ := c
 have hal : Below w.heap.size w (w.alloc (.cells #[.int .i64 ca, .int .i64 cb, .int .i64 cx, .int .u64 cd, .int .i64 ce, .int .i64 cf, .int .i64 cg, .int .i64 ch] 33)) := bal (Below.refl _ _) _
 have HM := hid (CX.capMay ca cb cx cd ce cf cg ch _ (hT.call hal) he)
 have HAL := hid hal
 have hx : (w.alloc (.cells (⟨ca, cb, cx, cd, ce, cf, cg, ch⟩ : Cp).L.toArray 33)).heap[w.heap.size]? = some (.cells (⟨ca, cb, cx, cd, ce, cf, cg, ch⟩ : Cp).L.toArray 33 (0, 0)) := heap_alloc_new w _
 have HX := hid hx
 have hz : w.heap.size < (w.alloc (.cells (⟨ca, cb, cx, cd, ce, cf, cg, ch⟩ : Cp).L.toArray 33)).heap.size := by simp
 have HZ := hid hz
 obtain ⟨mb, hmb⟩ : ∃ y, y = mayC (⟨ca, cb, cx, cd, ce, cf, cg, ch⟩ : Cp) := ⟨_, rfl⟩
 have HM' : Hid (Calls Tryz.prog 15 #[.agg #[.int .i64 ca, .int .i64 cb, .int .i64 cx, .int .u64 cd, .int .i64 ce, .int .i64 cf, .int .i64 cg, .int .i64 ch]] (w.alloc (.cells #[.int .i64 ca, .int .i64 cb, .int .i64 cx, .int .u64 cd, .int .i64 ce, .int .i64 cf, .int .i64 cg, .int .i64 ch] 33)) fun e w' => e = .returned (.bool mb) ∧ Below (w.alloc (.cells #[.int .i64 ca, .int .i64 cb, .int .i64 cx, .int .u64 cd, .int .i64 ce, .int .i64 cf, .int .i64 cg, .int .i64 ch] 33)).heap.size (w.alloc (.cells #[.int .i64 ca, .int .i64 cb, .int .i64 cx, .int .u64 cd, .int .i64 ce, .int .i64 cf, .int .i64 cg, .int .i64 ch] 33)) w') := hid (by rw [hmb]; exact HM.out)
 rw [← hmb]
 simp only []
 clear hT hal hx hz hmb HM he
 cases mb with
 | false =>
  go_enter Tryz.func76, Tryz.ntmps76
  go_wp2_with (go_at_call 15; (with_reducible refine HM'.out.mono ?_); rintro e w1 ⟨rfl, hb1⟩; have HB1 := hid (HAL.out.trans (hb1.mono HAL.out.size)); clear hb1)
  go_ret
  exact ⟨by first | rfl | simp, HB1.out⟩
 | true =>
  by_cases h0 : ca = 0
  ·subst h0
   go_enter Tryz.func76, Tryz.ntmps76
   go_wp2_with (go_at_call 15; (with_reducible refine HM'.out.mono ?_); rintro e w1 ⟨rfl, hb1⟩; have HB1 := hid (HAL.out.trans (hb1.mono HAL.out.size)); have hx1 := (hb1.block w.heap.size HZ.out).trans HX.out; obtain ⟨x0, -⟩ := cap_cells hx1; simp only [] at x0; clear hb1 hx1)
   go_ret
   exact ⟨by first | rfl | simp, HB1.out⟩
  ·go_enter Tryz.func76, Tryz.ntmps76
   go_wp2_with (go_at_call 15; (with_reducible refine HM'.out.mono ?_); rintro e w1 ⟨rfl, hb1⟩; have HB1 := hid (HAL.out.trans (hb1.mono HAL.out.size)); have hx1 := (hb1.block w.heap.size HZ.out).trans HX.out; obtain ⟨x0, -⟩ := cap_cells hx1; simp only [] at x0; clear hb1 hx1)
   go_ret
   exact ⟨by first | rfl | simp [h0], HB1.out⟩
end HpS
end
section
namespace HpS
open TabS (Cp Sn zC mayC sizS getR getN FootP foot_ltP SameS AddRel addSR setN setM rowsS hasS dropSR dropSL heldA hdsC)
open TabP (Two Pr)
variable {W w w' : World} {s : Sh} {hb rhb n n' : Nat} {L M L' M' : List Sn} {l l2 l' l2' : List Nod} {S : Nat → Prop}
theorem two_boxes (w : World) (o i : Int) : Below w.heap.size w ((w.alloc (slO o i)).alloc (.cells zC.L.toArray 33)) ∧ ((w.alloc (slO o i)).alloc (.cells zC.L.toArray 33)).heap[w.heap.size]? = some (.cells #[.int .i64 o, .int .i64 i] 30 (0, 0)) ∧ ((w.alloc (slO o i)).alloc (.cells zC.L.toArray 33)).heap[w.heap.size + 1]? = some (.cells zC.L.toArray 33 (0, 0)) := by
 refine ⟨bal (bal (Below.refl _ _) _) _, (Below.heap_alloc _ _ _ (by simp)).trans (heap_alloc_new w _), ?_⟩
 have := heap_alloc_new (w.alloc (slO o i)) (.cells zC.L.toArray 33)
 rwa [World.size_alloc] at this
theorem lay8_cell {w : World} {k j i : Nat} (n : Cp) (h : j ≠ k) : (lay8 w k n).cell? ⟨j, i, none⟩ = w.cell? ⟨j, i, none⟩ := by
 refine World.cell?_of_block ?_
 unfold lay8
 iterate 8 rw [Go.heap_setCell_other _ _ _ _ h]
theorem hget (h : Hd W s hb rhb n L M l l2 S w) (o i : Int) :
  Calls Tryz.prog 20 #[.pointer (some ⟨hb, 0, none⟩), slV o i] w fun e w' => e = .returned (.tuple #[(gt L o i).V, .int .i64 (gn L o i)]) ∧ Below w.heap.size w w' := by
 obtain ⟨hb1, hs1, hc1⟩ := two_boxes w o i
 obtain ⟨w1, hw1⟩ : ∃ y, y = (w.alloc (slO o i)).alloc (.cells zC.L.toArray 33) := ⟨_, rfl⟩
 rw [← hw1] at hb1 hs1 hc1
 have H1 := hid (h.call hb1)
 have HB1 := hid hb1
 have HC1 := hid hc1
 have HSL := hid (fun (v : World) (hv : Hd W s hb rhb n L M l l2 S v) => hslots hv)
 have HG : Hid (∀ v, Hd W s hb rhb n L M l l2 S v → Calls Tryz.prog 66 #[.pointer (some ⟨s.sb, 0, none⟩), .agg #[.int .i64 o, .int .i64 i]] v fun e w' => e = .returned (.tuple #[(gt L o i).V, .int .i64 (gn L o i)]) ∧ Below v.heap.size v w') := hid (fun v hv => hv.bo.get o i)
 obtain ⟨k0, k1⟩ := slot_cells hs1
 have HK := hid (And.intro k0 k1)
 generalize gt L o i = c at *
 generalize gn L o i = cn at *
 obtain ⟨ca, cb, cx, cd, ce, cf, cg, ch⟩ := c
 have hz1 := (ags hc1).1
 have HZ1 := hid hz1
 have HW := hid hw1
 have HKd : Hid (w1.drew.cell? ⟨w.heap.size, 0, none⟩ = some (.int .i64 o) ∧ w1.drew.cell? ⟨w.heap.size, 1, none⟩ = some (.int .i64 i)) := hid HK.out
 have HZ0 : Hid (w.heap.size < w1.heap.size) := hid (by omega)
 have H1d := hid (H1.out.call (show Below w1.heap.size w1 w1.drew from (Below.refl _ _).drew))
 clear h hb1 hs1 hc1 hw1 hz1
 go_enter Tryz.func20, Tryz.ntmps20
 go_upto_region 1 with fail
 rw [show ((w.alloc (slO o i)).alloc (.cells #[.int .i64 0, .int .i64 0, .int .i64 0, .int .u64 0, .int .i64 0, .int .i64 0, .int .i64 0, .int .i64 0] 33)) = w1 from HW.out.symm]
 go_region_held3 (fun w' => w'.cell? ⟨w.heap.size, 0, none⟩ = some (.int .i64 o) ∧ w'.cell? ⟨w.heap.size, 1, none⟩ = some (.int .i64 i))
  (first | (with_reducible exact HK.out) | (with_reducible exact HKd.out) | (with_reducible exact K3.out) | (with_reducible exact KL.out))
  (first
   | (go_at_call 51; (with_reducible refine (HSL.out _ H1d.out).mono ?_); rintro e w2 ⟨rfl, rfl⟩)
   | (go_at_call 66; (with_reducible refine (HG.out _ H1d.out).mono ?_); rintro e w3 ⟨rfl, hb3⟩; have HB3 := hid hb3; have hc3 := (hb3.block _ HZ1.out).trans HC1.out; obtain ⟨y0, y1, y2, y3, y4, y5, y6, y7⟩ := cap_cells hc3; have g0 := cap_froz hc3 0; have g1 := cap_froz hc3 1; have g2 := cap_froz hc3 2; have g3 := cap_froz hc3 3; have g4 := cap_froz hc3 4; have g5 := cap_froz hc3 5; have g6 := cap_froz hc3 6; have g7 := cap_froz hc3 7; have hz3 := (ags hc3).1; have HC3 := hid hc3; have K3 := hid (And.intro ((hb3.cell (p := ⟨w.heap.size, 0, none⟩) HZ0.out).trans HK.out.1) ((hb3.cell (p := ⟨w.heap.size, 1, none⟩) HZ0.out).trans HK.out.2)); have kl := (And.intro ((lay8_cell (w := w3) (k := w.heap.size + 1) (i := 0) ⟨ca, cb, cx, cd, ce, cf, cg, ch⟩ (show w.heap.size ≠ w.heap.size + 1 by omega)).trans K3.out.1) ((lay8_cell (w := w3) (k := w.heap.size + 1) (i := 1) ⟨ca, cb, cx, cd, ce, cf, cg, ch⟩ (show w.heap.size ≠ w.heap.size + 1 by omega)).trans K3.out.2)); simp only [lay8] at kl; have KL := hid kl; clear hb3 hc3 kl))
 all_goals
  have HF := hid (lay8_same ⟨ca, cb, cx, cd, ce, cf, cg, ch⟩ HC3.out)
  have HFB := hid (lay8_below (k := w.heap.size + 1) ⟨ca, cb, cx, cd, ce, cf, cg, ch⟩ (HB1.out.trans ((show Below w1.heap.size w1 w3 from ((Below.refl _ _).drew).trans HB3.out).mono HB1.out.size)) (by omega))
  show Exit.then _ _ Exit.normal _ (lay8 w3 (w.heap.size + 1) ⟨ca, cb, cx, cd, ce, cf, cg, ch⟩)
  generalize lay8 w3 (w.heap.size + 1) ⟨ca, cb, cx, cd, ce, cf, cg, ch⟩ = w4 at *
  obtain ⟨x0, x1, x2, x3, x4, x5, x6, x7⟩ := cap_cells HF.out
  simp only [] at x0 x1 x2 x3 x4 x5 x6 x7
  clear y0 y1 y2 y3 y4 y5 y6 y7 g0 g1 g2 g3 g4 g5 g6 g7
  go_wp2
  exact bodyPost_ret (v := .tuple #[.agg #[.int .i64 ca, .int .i64 cb, .int .i64 cx, .int .u64 cd, .int .i64 ce, .int .i64 cf, .int .i64 cg, .int .i64 ch], .int .i64 cn]) (by simp [results, Tryz.results20, go_sem, x0, x1, x2, x3, x4, x5, x6, x7]) rfl ⟨rfl, HFB.out⟩
def fullN (L : List Sn) (o i : Int) : Int := if gn L o i = 0 ∧ (gt L o i).a = 0 then 10 else gn L o i
theorem hfull (h : Hd W s hb rhb n L M l l2 S w) (o i : Int) :
  Calls Tryz.prog 69 #[.pointer (some ⟨hb, 0, none⟩), slV o i] w fun e w' => e = .returned (.tuple #[(gt L o i).V, .int .i64 (fullN L o i)]) ∧ Below w.heap.size w w' := by
 obtain ⟨hb1, hs1, hc1⟩ := two_boxes w o i
 obtain ⟨w1, hw1⟩ : ∃ y, y = (w.alloc (slO o i)).alloc (.cells zC.L.toArray 33) := ⟨_, rfl⟩
 rw [← hw1] at hb1 hs1 hc1
 have H1 := hid (h.call hb1)
 have HB1 := hid hb1
 have HC1 := hid hc1
 have HG := hid (hget H1.out o i)
 obtain ⟨k0, k1⟩ := slot_cells hs1
 unfold fullN
 generalize gt L o i = c at *
 generalize gn L o i = cn at *
 obtain ⟨ca, cb, cx, cd, ce, cf, cg, ch⟩ := c
 obtain ⟨N, hN⟩ : ∃ y : Int, y = (if cn = 0 ∧ (⟨ca, cb, cx, cd, ce, cf, cg, ch⟩ : Cp).a = 0 then 10 else cn) := ⟨_, rfl⟩
 rw [← hN]
 have HN := hid hN
 clear hN
 have HZ1 := hid (ags hc1).1
 have HW := hid hw1
 clear h hb1 hs1 hc1 hw1
 go_enter Tryz.func69, Tryz.ntmps69
 go_upto_region 1 with fail
 rw [show ((w.alloc (slO o i)).alloc (.cells #[.int .i64 0, .int .i64 0, .int .i64 0, .int .u64 0, .int .i64 0, .int .i64 0, .int .i64 0, .int .i64 0] 33)) = w1 from HW.out.symm]
 go_upto_region 2 with (go_at_call 20; (with_reducible refine HG.out.mono ?_); rintro e w2 ⟨rfl, hb2⟩; have HB2 := hid hb2; clear hb2)
 obtain ⟨w3, hw3⟩ : ∃ y, y = w2.alloc (.cells #[.int .i64 ca, .int .i64 cb, .int .i64 cx, .int .u64 cd, .int .i64 ce, .int .i64 cf, .int .i64 cg, .int .i64 ch] 33) := ⟨_, rfl⟩
 have hb3 : Below w1.heap.size w1 w3 := hw3 ▸ bal HB2.out _
 have hx3 : w3.heap[w2.heap.size]? = some (.cells (⟨ca, cb, cx, cd, ce, cf, cg, ch⟩ : Cp).L.toArray 33 (0, 0)) := by rw [hw3]; exact heap_alloc_new w2 _
 have hc3 := (hb3.block _ HZ1.out).trans HC1.out
 have HC3 := hid hc3
 have HFB := hid (lay8_below (k := w.heap.size + 1) ⟨ca, cb, cx, cd, ce, cf, cg, ch⟩ (HB1.out.trans (hb3.mono HB1.out.size)) (by omega))
 rw [← hw3]
 generalize w2.heap.size = xB at *
 obtain ⟨x0, x1, x2, x3, x4, x5, x6, x7⟩ := cap_cells hx3
 simp only [] at x0 x1 x2 x3 x4 x5 x6 x7
 obtain ⟨y0, y1, y2, y3, y4, y5, y6, y7⟩ := cap_cells hc3
 have g0 := cap_froz hc3 0
 have g1 := cap_froz hc3 1
 have g2 := cap_froz hc3 2
 have g3 := cap_froz hc3 3
 have g4 := cap_froz hc3 4
 have g5 := cap_froz hc3 5
 have g6 := cap_froz hc3 6
 have g7 := cap_froz hc3 7
 have hz3 := (ags hc3).1
 have HF := hid (lay8_same ⟨ca, cb, cx, cd, ce, cf, cg, ch⟩ HC3.out)
 obtain ⟨w4, hw4⟩ : ∃ y, y = lay8 w3 (w.heap.size + 1) ⟨ca, cb, cx, cd, ce, cf, cg, ch⟩ := ⟨_, rfl⟩
 rw [← hw4] at HF HFB
 simp only [lay8] at hw4
 have H4 := hid hw4
 clear hw4
 clear hw3 hb3 hx3 hc3 k0 k1 HG H1
 by_cases hn : cn = 0
 ·subst hn
  by_cases h0 : ca = 0
  ·subst h0
   obtain rfl : N = 10 := by rw [HN.out]; rfl
   go_wp2
   rw [← H4.out]
   obtain ⟨q0, q1, q2, q3, q4, q5, q6, q7⟩ := cap_cells HF.out
   simp only [] at q0 q1 q2 q3 q4 q5 q6 q7
   exact bodyPost_ret (v := .tuple #[.agg #[.int .i64 0, .int .i64 cb, .int .i64 cx, .int .u64 cd, .int .i64 ce, .int .i64 cf, .int .i64 cg, .int .i64 ch], .int .i64 10]) (by simp [results, Tryz.results69, go_sem, q0, q1, q2, q3, q4, q5, q6, q7]) rfl ⟨rfl, HFB.out⟩
  ·obtain rfl : N = 0 := by rw [HN.out, if_neg (fun e => h0 e.2)]
   go_wp2
   rw [← H4.out]
   obtain ⟨q0, q1, q2, q3, q4, q5, q6, q7⟩ := cap_cells HF.out
   simp only [] at q0 q1 q2 q3 q4 q5 q6 q7
   exact bodyPost_ret (v := .tuple #[.agg #[.int .i64 ca, .int .i64 cb, .int .i64 cx, .int .u64 cd, .int .i64 ce, .int .i64 cf, .int .i64 cg, .int .i64 ch], .int .i64 0]) (by simp [results, Tryz.results69, go_sem, q0, q1, q2, q3, q4, q5, q6, q7]) rfl ⟨rfl, HFB.out⟩
 ·obtain rfl : N = cn := by rw [HN.out, if_neg (fun e => hn e.1)]
  go_wp2
  rw [← H4.out]
  obtain ⟨q0, q1, q2, q3, q4, q5, q6, q7⟩ := cap_cells HF.out
  simp only [] at q0 q1 q2 q3 q4 q5 q6 q7
  exact bodyPost_ret (v := .tuple #[.agg #[.int .i64 ca, .int .i64 cb, .int .i64 cx, .int .u64 cd, .int .i64 ce, .int .i64 cf, .int .i64 cg, .int .i64 ch], .int .i64 N]) (by simp [results, Tryz.results69, go_sem, q0, q1, q2, q3, q4, q5, q6, q7]) rfl ⟨rfl, HFB.out⟩
def pairF (cn fn : Int) (ta : Int) : Int := if cn ≠ 0 then cn else if fn ≠ 0 then fn else if ta ≠ 0 then 11 else 0
def pairN (L : List Sn) (o i p j : Int) : Int := pairF (gn L p j) (fullN L o i) (gt L p j).a
def pairC (L : List Sn) (o i p j : Int) : Cp := if pairN L o i p j = 0 then gt L o i else zC
theorem three_boxes (w : World) (o i p j : Int) : Below w.heap.size w (((w.alloc (slO o i)).alloc (slO p j)).alloc (.cells zC.L.toArray 33)) ∧ (((w.alloc (slO o i)).alloc (slO p j)).alloc (.cells zC.L.toArray 33)).heap[w.heap.size]? = some (.cells #[.int .i64 o, .int .i64 i] 30 (0, 0)) ∧ (((w.alloc (slO o i)).alloc (slO p j)).alloc (.cells zC.L.toArray 33)).heap[w.heap.size + 1]? = some (.cells #[.int .i64 p, .int .i64 j] 30 (0, 0)) ∧ (((w.alloc (slO o i)).alloc (slO p j)).alloc (.cells zC.L.toArray 33)).heap[w.heap.size + 2]? = some (.cells zC.L.toArray 33 (0, 0)) := by
 have h1 := heap_alloc_new (w.alloc (slO o i)) (slO p j)
 have h2 := heap_alloc_new ((w.alloc (slO o i)).alloc (slO p j)) (.cells zC.L.toArray 33)
 rw [World.size_alloc] at h1 h2
 rw [World.size_alloc] at h2
 exact ⟨bal (bal (bal (Below.refl _ _) _) _) _, (Below.heap_alloc _ _ _ (by simp; omega)).trans ((Below.heap_alloc _ _ _ (by simp)).trans (heap_alloc_new w _)), (Below.heap_alloc _ _ _ (by simp)).trans h1, h2⟩
theorem hpair (h : Hd W s hb rhb n L M l l2 S w) (o i p j : Int) :
  Calls Tryz.prog 68 #[.pointer (some ⟨hb, 0, none⟩), slV o i, slV p j] w fun e w' => e = .returned (.tuple #[(pairC L o i p j).V, .int .i64 (pairN L o i p j)]) ∧ Below w.heap.size w w' := by
 obtain ⟨hb1, hs1, ht1, hc1⟩ := three_boxes w o i p j
 obtain ⟨w1, hw1⟩ : ∃ y, y = ((w.alloc (slO o i)).alloc (slO p j)).alloc (.cells zC.L.toArray 33) := ⟨_, rfl⟩
 rw [← hw1] at hb1 hs1 ht1 hc1
 have H1 := hid (h.call hb1)
 have HB1 := hid hb1
 have HC1 := hid hc1
 have HS1 := hid hs1
 have HG := hid (hget H1.out p j)
 have HFU := hid (fun (v : World) (hv : Hd W s hb rhb n L M l l2 S v) => hfull hv o i)
 obtain ⟨PC, hpc⟩ : ∃ y, y = pairC L o i p j := ⟨_, rfl⟩
 obtain ⟨N, hN⟩ : ∃ y, y = pairN L o i p j := ⟨_, rfl⟩
 rw [← hpc, ← hN]
 unfold pairC at hpc
 rw [← hN] at hpc
 unfold pairN pairF at hN
 generalize gt L p j = t at *
 generalize gn L p j = cn at *
 generalize gt L o i = c at *
 generalize fullN L o i = fn at *
 obtain ⟨ca, cb, cx, cd, ce, cf, cg, ch⟩ := c
 obtain ⟨ta, tb, tx, td, te, tf, tg, th⟩ := t
 simp only [] at hN
 have HN := hid hN
 have HPC := hid hpc
 obtain ⟨k0, k1⟩ := slot_cells ht1
 have HZ1 := hid (ags hc1).1
 have HW := hid hw1
 clear h hb1 hs1 ht1 hc1 hw1 hN hpc
 go_enter Tryz.func68, Tryz.ntmps68
 go_upto_region 1 with fail
 rw [show (((w.alloc (slO o i)).alloc (slO p j)).alloc (.cells #[.int .i64 0, .int .i64 0, .int .i64 0, .int .u64 0, .int .i64 0, .int .i64 0, .int .i64 0, .int .i64 0] 33)) = w1 from HW.out.symm]
 go_upto_region 2 with (go_at_call 20; (with_reducible refine HG.out.mono ?_); rintro e w2 ⟨rfl, hb2⟩; have HB2 := hid hb2; clear hb2)
 obtain ⟨w3, hw3⟩ : ∃ y, y = w2.alloc (.cells #[.int .i64 ta, .int .i64 tb, .int .i64 tx, .int .u64 td, .int .i64 te, .int .i64 tf, .int .i64 tg, .int .i64 th] 33) := ⟨_, rfl⟩
 have hb3 : Below w1.heap.size w1 w3 := hw3 ▸ bal HB2.out _
 have hx3 : w3.heap[w2.heap.size]? = some (.cells (⟨ta, tb, tx, td, te, tf, tg, th⟩ : Cp).L.toArray 33 (0, 0)) := by rw [hw3]; exact heap_alloc_new w2 _
 have HX3 := hid hx3
 have H3 := hid (H1.out.call hb3)
 have HC3 := hid ((hb3.block _ HZ1.out).trans HC1.out)
 have HZ0 : Hid (w.heap.size < w1.heap.size) := hid (by have := HZ1.out; omega)
 have HS3 := hid ((hb3.block _ HZ0.out).trans HS1.out)
 have HB3 := hid (HB1.out.trans (hb3.mono HB1.out.size))
 rw [← hw3]
 generalize w2.heap.size = xB at *
 clear hw3 hb3 hx3 k0 k1 HG H1 HB1 HC1 HS1 HB2
 by_cases hn : cn = 0
 ·subst hn
  obtain ⟨k0, k1⟩ := slot_cells HS3.out
  have HFC := hid (HFU.out w3 H3.out)
  go_upto_region 5 with (go_at_call 69; (with_reducible refine HFC.out.mono ?_); rintro e w4 ⟨rfl, hb4⟩; have HB4 := hid hb4; clear hb4)
  obtain ⟨w5, hw5⟩ : ∃ y, y = w4.alloc (.cells #[.int .i64 ca, .int .i64 cb, .int .i64 cx, .int .u64 cd, .int .i64 ce, .int .i64 cf, .int .i64 cg, .int .i64 ch] 33) := ⟨_, rfl⟩
  have hb5 : Below w3.heap.size w3 w5 := hw5 ▸ bal HB4.out _
  have hx5 : w5.heap[w4.heap.size]? = some (.cells (⟨ca, cb, cx, cd, ce, cf, cg, ch⟩ : Cp).L.toArray 33 (0, 0)) := by rw [hw5]; exact heap_alloc_new w4 _
  have HC5 := hid ((hb5.block _ (ags HC3.out).1).trans HC3.out)
  have ht5 := (hb5.block _ (ags HX3.out).1).trans HX3.out
  have HB5 := hid (HB3.out.trans (hb5.mono HB3.out.size))
  rw [← hw5]
  generalize w4.heap.size = yB at *
  obtain ⟨t0, -⟩ := cap_cells ht5
  simp only [] at t0
  obtain ⟨x0, x1, x2, x3, x4, x5, x6, x7⟩ := cap_cells hx5
  simp only [] at x0 x1 x2 x3 x4 x5 x6 x7
  clear hw5 hb5 hx5 ht5 k0 k1 HFC HFU HB4 HB3 HC3 HS3 HX3 H3
  by_cases hf : fn = 0
  ·subst hf
   by_cases ht : ta = 0
   ·subst ht
    obtain rfl : N = 0 := by rw [HN.out]; rfl
    have hpc : PC = ⟨ca, cb, cx, cd, ce, cf, cg, ch⟩ := by rw [HPC.out]; exact if_pos rfl
    subst hpc
    have HF := hid (lay8_same ⟨ca, cb, cx, cd, ce, cf, cg, ch⟩ HC5.out)
    have HFB := hid (lay8_below (k := w.heap.size + 2) ⟨ca, cb, cx, cd, ce, cf, cg, ch⟩ HB5.out (by omega))
    obtain ⟨w9, hw9⟩ : ∃ y, y = lay8 w5 (w.heap.size + 2) ⟨ca, cb, cx, cd, ce, cf, cg, ch⟩ := ⟨_, rfl⟩
    rw [← hw9] at HF HFB
    simp only [lay8] at hw9
    have H9 := hid hw9
    clear hw9
    have hq := HC5.out
    have g0 := cap_froz hq 0
    have g1 := cap_froz hq 1
    have g2 := cap_froz hq 2
    have g3 := cap_froz hq 3
    have g4 := cap_froz hq 4
    have g5 := cap_froz hq 5
    have g6 := cap_froz hq 6
    have g7 := cap_froz hq 7
    have hzq := (ags hq).1
    obtain ⟨z0, z1, z2, z3, z4, z5, z6, z7⟩ := cap_cells hq
    clear hq
    go_wp2
    rw [← H9.out]
    obtain ⟨q0, q1, q2, q3, q4, q5, q6, q7⟩ := cap_cells HF.out
    simp only [] at q0 q1 q2 q3 q4 q5 q6 q7
    exact bodyPost_ret (v := .tuple #[.agg #[.int .i64 ca, .int .i64 cb, .int .i64 cx, .int .u64 cd, .int .i64 ce, .int .i64 cf, .int .i64 cg, .int .i64 ch], .int .i64 0]) (by simp [results, Tryz.results68, go_sem, q0, q1, q2, q3, q4, q5, q6, q7]) rfl ⟨rfl, HFB.out⟩
   ·have HNZ : Hid (¬ (11 : Int) = 0) := hid (by decide)
    obtain rfl : N = 11 := by rw [HN.out]; rw [if_neg (fun e => e rfl), if_neg (fun e => e rfl), if_pos ht]
    have hpc : PC = ⟨0, 0, 0, 0, 0, 0, 0, 0⟩ := by rw [HPC.out]; rw [if_neg HNZ.out]; rfl
    subst hpc
    have HF := hid (lay8_same ⟨0, 0, 0, 0, 0, 0, 0, 0⟩ HC5.out)
    have HFB := hid (lay8_below (k := w.heap.size + 2) ⟨0, 0, 0, 0, 0, 0, 0, 0⟩ HB5.out (by omega))
    obtain ⟨w9, hw9⟩ : ∃ y, y = lay8 w5 (w.heap.size + 2) ⟨0, 0, 0, 0, 0, 0, 0, 0⟩ := ⟨_, rfl⟩
    rw [← hw9] at HF HFB
    simp only [lay8] at hw9
    have H9 := hid hw9
    clear hw9
    have hq := HC5.out
    have g0 := cap_froz hq 0
    have g1 := cap_froz hq 1
    have g2 := cap_froz hq 2
    have g3 := cap_froz hq 3
    have g4 := cap_froz hq 4
    have g5 := cap_froz hq 5
    have g6 := cap_froz hq 6
    have g7 := cap_froz hq 7
    have hzq := (ags hq).1
    obtain ⟨z0, z1, z2, z3, z4, z5, z6, z7⟩ := cap_cells hq
    clear hq
    go_wp2
    rw [← H9.out]
    obtain ⟨q0, q1, q2, q3, q4, q5, q6, q7⟩ := cap_cells HF.out
    simp only [] at q0 q1 q2 q3 q4 q5 q6 q7
    exact bodyPost_ret (v := .tuple #[.agg #[.int .i64 0, .int .i64 0, .int .i64 0, .int .u64 0, .int .i64 0, .int .i64 0, .int .i64 0, .int .i64 0], .int .i64 11]) (by simp [results, Tryz.results68, go_sem, q0, q1, q2, q3, q4, q5, q6, q7]) rfl ⟨rfl, HFB.out⟩
  ·have HNZ := hid hf
   obtain rfl : fn = N := Eq.symm <| by rw [HN.out]; rw [if_neg (fun e => e rfl), if_pos hf]
   have hpc : PC = ⟨0, 0, 0, 0, 0, 0, 0, 0⟩ := by rw [HPC.out]; rw [if_neg HNZ.out]; rfl
   subst hpc
   have HF := hid (lay8_same ⟨0, 0, 0, 0, 0, 0, 0, 0⟩ HC5.out)
   have HFB := hid (lay8_below (k := w.heap.size + 2) ⟨0, 0, 0, 0, 0, 0, 0, 0⟩ HB5.out (by omega))
   obtain ⟨w9, hw9⟩ : ∃ y, y = lay8 w5 (w.heap.size + 2) ⟨0, 0, 0, 0, 0, 0, 0, 0⟩ := ⟨_, rfl⟩
   rw [← hw9] at HF HFB
   simp only [lay8] at hw9
   have H9 := hid hw9
   clear hw9
   have hq := HC5.out
   have g0 := cap_froz hq 0
   have g1 := cap_froz hq 1
   have g2 := cap_froz hq 2
   have g3 := cap_froz hq 3
   have g4 := cap_froz hq 4
   have g5 := cap_froz hq 5
   have g6 := cap_froz hq 6
   have g7 := cap_froz hq 7
   have hzq := (ags hq).1
   obtain ⟨z0, z1, z2, z3, z4, z5, z6, z7⟩ := cap_cells hq
   clear hq
   go_wp2
   rw [← H9.out]
   obtain ⟨q0, q1, q2, q3, q4, q5, q6, q7⟩ := cap_cells HF.out
   simp only [] at q0 q1 q2 q3 q4 q5 q6 q7
   exact bodyPost_ret (v := .tuple #[.agg #[.int .i64 0, .int .i64 0, .int .i64 0, .int .u64 0, .int .i64 0, .int .i64 0, .int .i64 0, .int .i64 0], .int .i64 fn]) (by simp [results, Tryz.results68, go_sem, q0, q1, q2, q3, q4, q5, q6, q7]) rfl ⟨rfl, HFB.out⟩
 ·have HNZ := hid hn
  obtain rfl : cn = N := Eq.symm <| by rw [HN.out]; rw [if_pos hn]
  have hpc : PC = ⟨0, 0, 0, 0, 0, 0, 0, 0⟩ := by rw [HPC.out]; rw [if_neg HNZ.out]; rfl
  subst hpc
  have HF := hid (lay8_same ⟨0, 0, 0, 0, 0, 0, 0, 0⟩ HC3.out)
  have HFB := hid (lay8_below (k := w.heap.size + 2) ⟨0, 0, 0, 0, 0, 0, 0, 0⟩ HB3.out (by omega))
  obtain ⟨w9, hw9⟩ : ∃ y, y = lay8 w3 (w.heap.size + 2) ⟨0, 0, 0, 0, 0, 0, 0, 0⟩ := ⟨_, rfl⟩
  rw [← hw9] at HF HFB
  simp only [lay8] at hw9
  have H9 := hid hw9
  clear hw9
  have hq := HC3.out
  have g0 := cap_froz hq 0
  have g1 := cap_froz hq 1
  have g2 := cap_froz hq 2
  have g3 := cap_froz hq 3
  have g4 := cap_froz hq 4
  have g5 := cap_froz hq 5
  have g6 := cap_froz hq 6
  have g7 := cap_froz hq 7
  have hzq := (ags hq).1
  obtain ⟨z0, z1, z2, z3, z4, z5, z6, z7⟩ := cap_cells hq
  clear hq
  go_wp2
  rw [← H9.out]
  obtain ⟨q0, q1, q2, q3, q4, q5, q6, q7⟩ := cap_cells HF.out
  simp only [] at q0 q1 q2 q3 q4 q5 q6 q7
  exact bodyPost_ret (v := .tuple #[.agg #[.int .i64 0, .int .i64 0, .int .i64 0, .int .u64 0, .int .i64 0, .int .i64 0, .int .i64 0, .int .i64 0], .int .i64 cn]) (by simp [results, Tryz.results68, go_sem, q0, q1, q2, q3, q4, q5, q6, q7]) rfl ⟨rfl, HFB.out⟩
def someB (c : Cp) : Bool := mayC c && decide (c.a ≠ 0)
def rootN (L : List Sn) (l : List Nod) (o i : Int) (c : Cp) : Int := if gn L o i ≠ 0 then gn L o i else if someB c = false then 5 else if (gt L o i).a ≠ 0 then 11 else (rootA l o i).2
def rootOn (L : List Sn) (o i : Int) (c : Cp) : Prop := gn L o i = 0 ∧ someB c = true ∧ (gt L o i).a = 0
theorem slot_cap_boxes (w : World) (o i : Int) (c : Cp) : Below w.heap.size w ((w.alloc (slO o i)).alloc (.cells c.L.toArray 33)) ∧ ((w.alloc (slO o i)).alloc (.cells c.L.toArray 33)).heap[w.heap.size]? = some (.cells #[.int .i64 o, .int .i64 i] 30 (0, 0)) ∧ ((w.alloc (slO o i)).alloc (.cells c.L.toArray 33)).heap[w.heap.size + 1]? = some (.cells c.L.toArray 33 (0, 0)) := by
 refine ⟨bal (bal (Below.refl _ _) _) _, (Below.heap_alloc _ _ _ (by simp)).trans (heap_alloc_new w _), ?_⟩
 have := heap_alloc_new (w.alloc (slO o i)) (.cells c.L.toArray 33)
 rwa [World.size_alloc] at this
theorem hroot_no (h : Hd W s hb rhb n L M l l2 S w) (hT0 : CX.TabG W) (o i : Int) (c : Cp) (he : c.e ≤ 9223372036854775807) (hno : ¬ rootOn L o i c) :
  Calls Tryz.prog 30 #[.pointer (some ⟨hb, 0, none⟩), slV o i, c.V] w fun e w' => e = .returned (.int .i64 (rootN L l o i c)) ∧ Below w.heap.size w w' := by
 obtain ⟨hb1, hs1, hc1⟩ := slot_cap_boxes w o i c
 obtain ⟨w1, hw1⟩ : ∃ y, y = (w.alloc (slO o i)).alloc (.cells c.L.toArray 33) := ⟨_, rfl⟩
 rw [← hw1] at hb1 hs1 hc1
 have H1 := hid (h.call hb1)
 have HB1 := hid hb1
 have HC1 := hid hc1
 have HG := hid (hget H1.out o i)
 have HT1 := hid (fun (v : World) (hv : Below w1.heap.size w1 v) => hsome v (hT0.call (H1.out.call hv).below) c he)
 have hsb : someB c = (mayC c && decide (c.a ≠ 0)) := rfl
 rw [← hsb] at HT1
 obtain ⟨N, hN⟩ : ∃ y, y = rootN L l o i c := ⟨_, rfl⟩
 rw [← hN]
 unfold rootN at hN
 unfold rootOn at hno
 generalize gt L o i = t at *
 generalize gn L o i = cn at *
 generalize someB c = sm at *
 obtain ⟨ta, tb, tx, td, te, tf, tg, th⟩ := t
 obtain ⟨ca, cb, cx, cd, ce, cf, cg, ch⟩ := c
 simp only [] at hN hno
 have HN := hid hN
 obtain ⟨k0, k1⟩ := slot_cells hs1
 have HZ1 := hid (ags hc1).1
 have HW := hid hw1
 clear h hb1 hs1 hc1 hw1 hN hsb hT0 he
 go_enter Tryz.func30, Tryz.ntmps30
 go_upto_region 1 with fail
 rw [show ((w.alloc (slO o i)).alloc (.cells #[.int .i64 ca, .int .i64 cb, .int .i64 cx, .int .u64 cd, .int .i64 ce, .int .i64 cf, .int .i64 cg, .int .i64 ch] 33)) = w1 from HW.out.symm]
 go_upto_region 2 with (go_at_call 20; (with_reducible refine HG.out.mono ?_); rintro e w2 ⟨rfl, hb2⟩; have HB2 := hid hb2; clear hb2)
 obtain ⟨w3, hw3⟩ : ∃ y, y = w2.alloc (.cells #[.int .i64 ta, .int .i64 tb, .int .i64 tx, .int .u64 td, .int .i64 te, .int .i64 tf, .int .i64 tg, .int .i64 th] 33) := ⟨_, rfl⟩
 have hb3 : Below w1.heap.size w1 w3 := hw3 ▸ bal HB2.out _
 have hx3 : w3.heap[w2.heap.size]? = some (.cells (⟨ta, tb, tx, td, te, tf, tg, th⟩ : Cp).L.toArray 33 (0, 0)) := by rw [hw3]; exact heap_alloc_new w2 _
 have HX3 := hid hx3
 have HB3w := hid hb3
 have HC3 := hid ((hb3.block _ HZ1.out).trans HC1.out)
 have HB3 := hid (HB1.out.trans (hb3.mono HB1.out.size))
 rw [← hw3]
 generalize w2.heap.size = xB at *
 clear hw3 hb3 hx3 k0 k1 HG H1 HB1 HC1 HB2
 by_cases hn : cn = 0
 ·subst hn
  obtain ⟨x0, x1, x2, x3, x4, x5, x6, x7⟩ := cap_cells HC3.out
  simp only [] at x0 x1 x2 x3 x4 x5 x6 x7
  have HSM := hid (HT1.out w3 HB3w.out)
  cases sm with
  | false =>
   obtain rfl : N = 5 := by rw [HN.out]; rfl
   go_wp2_with (go_at_call 76; (with_reducible refine HSM.out.mono ?_); rintro e w4 ⟨rfl, hb4⟩; have HB4 := hid (HB3.out.trans (hb4.mono HB3.out.size)); clear hb4)
   go_ret
   exact ⟨rfl, HB4.out⟩
  | true =>
   have ht : ta ≠ 0 := fun e => hno ⟨rfl, rfl, e⟩
   obtain rfl : N = 11 := by rw [HN.out, if_neg (fun e => e rfl), if_neg (by decide), if_pos ht]
   go_wp2_with (go_at_call 76; (with_reducible refine HSM.out.mono ?_); rintro e w4 ⟨rfl, hb4⟩; have HB4 := hid (HB3.out.trans (hb4.mono HB3.out.size)); have hx4 := (hb4.block xB (ags HX3.out).1).trans HX3.out; obtain ⟨t0, -⟩ := cap_cells hx4; simp only [] at t0; clear hb4 hx4)
   go_ret
   exact ⟨rfl, HB4.out⟩
 ·obtain rfl : cn = N := by rw [HN.out, if_pos hn]
  go_wp2
  go_ret
  exact ⟨rfl, HB3.out⟩
end HpS
end
section
namespace HpS
open TabS (Cp Sn zC mayC sizS getR getN FootP foot_ltP SameS AddRel addSR setN setM rowsS hasS dropSR dropSL heldA hdsC)
open TabP (Two Pr)
variable {W w w' : World} {s : Sh} {hb rhb n n' : Nat} {L M L' M' : List Sn} {l l2 l' l2' : List Nod} {S K T : Nat → Prop}
def New (w w' : World) (k : Nat) : Prop := w.heap.size ≤ k ∧ k < w'.heap.size
theorem Bo.fresh (h : BoS W s n L M l l2 K w) (hb : Below w.heap.size w w') : BoS W s n L M l l2 (fun k => K k ∨ New w w' k) w' := by
 obtain ⟨ps, f, u, h⟩ := h
 refine ⟨ps, f, u, h.tr.call hb, (h.pr.fresh hb).mono (fun k q => ?_), fun k q => ?_⟩
 ·rcases q with q | q | q
  ·exact .inl (.inl q)
  ·exact .inl (.inr q)
  ·exact .inr q
 ·rcases q with q | q
  ·exact h.bs k q
  ·exact fun p => by have := h.tr.lt p; have := q.1; omega
theorem Bo.weak (h : BoS W s n L M l l2 K w) (ht : ∀ k, T k → K k) : BoS W s n L M l l2 T w := by
 obtain ⟨ps, f, u, h⟩ := h
 refine ⟨ps, f, u, h.tr, h.pr.mono (fun k q => ?_), fun k q => h.bs k (ht k q)⟩
 rcases q with q | q
 ·exact .inl q
 ·exact .inr (ht k q)
theorem Hd.fresh (h : Hd W s hb rhb n L M l l2 S w) (hB : Below w.heap.size w w') : Hd W s hb rhb n L M l l2 (fun k => S k ∨ New w w' k) w' := by
 have h1 := h.bo.fresh hB
 have h2 := h.call hB
 refine ⟨h1.weak (fun k q => ?_), h2.hd⟩
 rcases q with q | q | q
 ·exact .inl (.inl q)
 ·exact .inl (.inr q)
 ·exact .inr q
theorem Hd.weak (h : Hd W s hb rhb n L M l l2 S w) (ht : ∀ k, T k → S k) : Hd W s hb rhb n L M l l2 T w :=
 ⟨h.bo.weak (fun k q => q.imp id (ht k)), h.hd⟩
theorem Hd.lt (h : Hd W s hb rhb n L M l l2 S w) {k : Nat} (hk : S k) : k < w.heap.size := by
 obtain ⟨ps, f, u, hb⟩ := h.bo
 exact hb.ltK (.inr (.inr hk))
theorem Hd.act {F : FuncId} {args : Array Value} {r : Value} (h : Hd W s hb rhb n L M l l2 S w) (hc : ∀ K, BoS W s n L M l l2 K w → Calls Tryz.prog F args w fun e w' => e = .returned r ∧ BoS W s n' L' M' l' l2' K w' ∧ SameK K w w') :
  Calls Tryz.prog F args w fun e w' => e = .returned r ∧ Hd W s hb rhb n' L' M' l' l2' S w' ∧ SameK S w w' :=
 (hc _ h.bo).mono fun e w' ⟨he, hB, hK⟩ => ⟨he, h.lift hB hK, fun k q => hK k (.inr q)⟩
structure Bx2 (w : World) (hb : Nat) (s : Sh) (o i : Int) (c : Cp) (sB cB : Nat) : Prop where
 h0 : w.cell? ⟨hb, 0, none⟩ = some (.pointer (some ⟨s.sb, 0, none⟩))
 h1 : w.cell? ⟨hb, 1, none⟩ = some (.pointer (some ⟨s.tb, 0, none⟩))
 k0 : w.cell? ⟨sB, 0, none⟩ = some (.int .i64 o)
 k1 : w.cell? ⟨sB, 1, none⟩ = some (.int .i64 i)
 x0 : w.cell? ⟨cB, 0, none⟩ = some (.int .i64 c.a)
 x1 : w.cell? ⟨cB, 1, none⟩ = some (.int .i64 c.b)
 x2 : w.cell? ⟨cB, 2, none⟩ = some (.int .i64 c.c)
 x3 : w.cell? ⟨cB, 3, none⟩ = some (.int .u64 c.d)
 x4 : w.cell? ⟨cB, 4, none⟩ = some (.int .i64 c.e)
 x5 : w.cell? ⟨cB, 5, none⟩ = some (.int .i64 c.f)
 x6 : w.cell? ⟨cB, 6, none⟩ = some (.int .i64 c.g)
 x7 : w.cell? ⟨cB, 7, none⟩ = some (.int .i64 c.h)
theorem Bx2.of {o i : Int} {c : Cp} {sB cB : Nat} (h : Hd W s hb rhb n L M l l2 S w) (hs : w.heap[sB]? = some (.cells #[.int .i64 o, .int .i64 i] 30 (0, 0))) (hc : w.heap[cB]? = some (.cells c.L.toArray 33 (0, 0))) : Bx2 w hb s o i c sB cB :=
 ⟨h.c.1, h.c.2.1, (slot_cells hs).1, (slot_cells hs).2, (cap_cells hc).1, (cap_cells hc).2.1, (cap_cells hc).2.2.1, (cap_cells hc).2.2.2.1, (cap_cells hc).2.2.2.2.1, (cap_cells hc).2.2.2.2.2.1, (cap_cells hc).2.2.2.2.2.2.1, (cap_cells hc).2.2.2.2.2.2.2⟩
end HpS
end
section
namespace HpS
open TabS (Cp Sn zC mayC sizS getR getN FootP foot_ltP SameS AddRel addSR setN setM rowsS hasS dropSR dropSL heldA hdsC)
open TabP (Two Pr)
variable {W w w' : World} {s : Sh} {hb rhb n n' : Nat} {L M L' M' : List Sn} {l l2 l' l2' : List Nod} {S : Nat → Prop}
abbrev Bx2A (w : World) (hb : Nat) (s : Sh) (o i : Int) (c : Cp) (sB cB : Nat) : Prop := w.cell? ⟨hb, 0, none⟩ = some (.pointer (some ⟨s.sb, 0, none⟩)) ∧ w.cell? ⟨sB, 0, none⟩ = some (.int .i64 o) ∧ w.cell? ⟨sB, 1, none⟩ = some (.int .i64 i) ∧ w.cell? ⟨cB, 0, none⟩ = some (.int .i64 c.a) ∧ w.cell? ⟨cB, 1, none⟩ = some (.int .i64 c.b) ∧ w.cell? ⟨cB, 2, none⟩ = some (.int .i64 c.c) ∧ w.cell? ⟨cB, 3, none⟩ = some (.int .u64 c.d) ∧ w.cell? ⟨cB, 4, none⟩ = some (.int .i64 c.e) ∧ w.cell? ⟨cB, 5, none⟩ = some (.int .i64 c.f) ∧ w.cell? ⟨cB, 6, none⟩ = some (.int .i64 c.g) ∧ w.cell? ⟨cB, 7, none⟩ = some (.int .i64 c.h)
theorem Bx2.a {o i : Int} {c : Cp} {sB cB : Nat} (h : Bx2 w hb s o i c sB cB) : Bx2A w hb s o i c sB cB := ⟨h.h0, h.k0, h.k1, h.x0, h.x1, h.x2, h.x3, h.x4, h.x5, h.x6, h.x7⟩
theorem hroot_yes (h : Hd W s hb rhb n L M l l2 S w) (hT0 : CX.TabG W) (o i : Int) (ho : InS o) (hi : InS i) (c : Cp) (he : c.e ≤ 9223372036854775807) (hnn : n < 1000000) (hon : rootOn L o i c) :
  Calls Tryz.prog 30 #[.pointer (some ⟨hb, 0, none⟩), slV o i, c.V] w fun e w' => e = .returned (.int .i64 (rootA l o i).2) ∧ Hd W s hb rhb (n + 1) (setM L o i c) M (rootA l o i).1 l2 S w' ∧ SameK S w w' := by
 obtain ⟨hb1, hs1, hc1⟩ := slot_cap_boxes w o i c
 obtain ⟨w1, hw1⟩ : ∃ y, y = (w.alloc (slO o i)).alloc (.cells c.L.toArray 33) := ⟨_, rfl⟩
 rw [← hw1] at hb1 hs1 hc1
 have H1 := hid (h.call hb1)
 have HB1 := hid hb1
 have HC1 := hid hc1
 have HG := hid (hget H1.out o i)
 have HT1 := hid (fun (v : World) (hv : Below w1.heap.size w1 v) => hsome v (hT0.call (H1.out.call hv).below) c he)
 have hsb : someB c = (mayC c && decide (c.a ≠ 0)) := rfl
 rw [← hsb] at HT1
 have HH := hid h
 have HTW := hid hT0
 have HE := hid he
 have HO := hid (And.intro ho hi)
 unfold rootOn at hon
 obtain ⟨L2, hL2⟩ : ∃ y, y = setM L o i c := ⟨_, rfl⟩
 obtain ⟨RA, hRA⟩ : ∃ y, y = rootA l o i := ⟨_, rfl⟩
 rw [← hL2, ← hRA]
 have HST : Hid (∀ v T, Hd W s hb rhb n L M l l2 T v → Calls Tryz.prog 71 #[.pointer (some ⟨s.sb, 0, none⟩), slV o i, c.V] v fun e w' => e = .returned (.int .i64 (setN L o i c)) ∧ Hd W s hb rhb n L2 M l l2 T w' ∧ SameK T v w') := hid (fun v T hv => by rw [hL2]; exact hv.act (fun K hK => hK.set hT0 o i c he))
 have HRT : Hid (∀ v T, Hd W s hb rhb n L2 M l l2 T v → Calls Tryz.prog 77 #[.pointer (some ⟨s.tb, 0, none⟩), slV o i] v fun e w' => e = .returned (.int .i64 RA.2) ∧ Hd W s hb rhb (n + 1) L2 M RA.1 l2 T w' ∧ SameK T v w') := hid (fun v T hv => by rw [hRA]; exact hv.act (fun K hK => hK.root o i ho hi hnn))
 clear hL2 hRA
 generalize setN L o i c = sn at *
 generalize gt L o i = t at *
 generalize gn L o i = cn at *
 generalize someB c = sm at *
 obtain ⟨ta, tb, tx, td, te, tf, tg, th⟩ := t
 obtain ⟨ca, cb, cx, cd, ce, cf, cg, ch⟩ := c
 simp only [] at hon
 obtain ⟨rfl, rfl, rfl⟩ := hon
 obtain ⟨k0, k1⟩ := slot_cells hs1
 have HZ1 := hid (ags hc1).1
 have HW := hid hw1
 have HS1 := hid hs1
 clear h hb1 hs1 hc1 hw1 hsb hT0 he ho hi hnn
 go_enter Tryz.func30, Tryz.ntmps30
 go_upto_region 1 with fail
 rw [show ((w.alloc (slO o i)).alloc (.cells #[.int .i64 ca, .int .i64 cb, .int .i64 cx, .int .u64 cd, .int .i64 ce, .int .i64 cf, .int .i64 cg, .int .i64 ch] 33)) = w1 from HW.out.symm]
 go_upto_region 2 with (go_at_call 20; (with_reducible refine HG.out.mono ?_); rintro e w2 ⟨rfl, hb2⟩; have HB2 := hid hb2; clear hb2)
 obtain ⟨w3, hw3⟩ : ∃ y, y = w2.alloc (.cells #[.int .i64 0, .int .i64 tb, .int .i64 tx, .int .u64 td, .int .i64 te, .int .i64 tf, .int .i64 tg, .int .i64 th] 33) := ⟨_, rfl⟩
 have hb3 : Below w1.heap.size w1 w3 := hw3 ▸ bal HB2.out _
 have hx3 : w3.heap[w2.heap.size]? = some (.cells (⟨0, tb, tx, td, te, tf, tg, th⟩ : Cp).L.toArray 33 (0, 0)) := by rw [hw3]; exact heap_alloc_new w2 _
 have HX3 := hid hx3
 have HB3w := hid hb3
 have HC3 := hid ((hb3.block _ HZ1.out).trans HC1.out)
 have HB3 := hid (HB1.out.trans (hb3.mono HB1.out.size))
 rw [← hw3]
 generalize w2.heap.size = xB at *
 have HZ0 : Hid (w.heap.size < w1.heap.size) := hid (by have := HZ1.out; omega)
 have HS3 := hid ((hb3.block _ HZ0.out).trans HS1.out)
 clear hw3 hb3 hx3 k0 k1 HG H1 HB1 HC1 HB2 HS1
 obtain ⟨x0, x1, x2, x3, x4, x5, x6, x7⟩ := cap_cells HC3.out
 simp only [] at x0 x1 x2 x3 x4 x5 x6 x7
 have HSM := hid (HT1.out w3 HB3w.out)
 go_upto_region 8 with (go_at_call 76; (with_reducible refine HSM.out.mono ?_); rintro e w4 ⟨rfl, hb4⟩; have HB4 := hid hb4; have hx4 := (hb4.block xB (ags HX3.out).1).trans HX3.out; obtain ⟨t0, -⟩ := cap_cells hx4; simp only [] at t0; clear hb4 hx4)
 have HC4 := hid ((HB4.out.block _ (ags HC3.out).1).trans HC3.out)
 have HS4 := hid ((HB4.out.block _ (ags HS3.out).1).trans HS3.out)
 have HW4 := hid (HB3.out.trans (HB4.out.mono HB3.out.size))
 have HE4 := hid (HH.out.fresh HW4.out)
 have HE4d := hid (HE4.out.call (show Below w4.heap.size w4 w4.drew from (Below.refl _ _).drew))
 have HBX4 := hid (Bx2.of HE4.out HS4.out HC4.out).a
 have HNS : Hid (New w w4 w.heap.size ∧ New w w4 (w.heap.size + 1)) := hid ⟨⟨Nat.le_refl _, (ags HS4.out).1⟩, ⟨by omega, (ags HC4.out).1⟩⟩
 have HSC := hid (HST.out _ _ HE4d.out)
 have HBd : Hid (Bx2A w4.drew hb s o i ⟨ca, cb, cx, cd, ce, cf, cg, ch⟩ w.heap.size (w.heap.size + 1)) := hid HBX4.out
 clear x0 x1 x2 x3 x4 x5 x6 x7 t0 HT1 HSM HX3 HB3w HB3 HC3 HS3 HB4 HST
 go_region_held3 (fun w' => w'.cell? ⟨hb, 0, none⟩ = some (.pointer (some ⟨s.sb, 0, none⟩)) ∧ w'.cell? ⟨w.heap.size, 0, none⟩ = some (.int .i64 o) ∧ w'.cell? ⟨w.heap.size, 1, none⟩ = some (.int .i64 i) ∧ w'.cell? ⟨w.heap.size + 1, 0, none⟩ = some (.int .i64 ca) ∧ w'.cell? ⟨w.heap.size + 1, 1, none⟩ = some (.int .i64 cb) ∧ w'.cell? ⟨w.heap.size + 1, 2, none⟩ = some (.int .i64 cx) ∧ w'.cell? ⟨w.heap.size + 1, 3, none⟩ = some (.int .u64 cd) ∧ w'.cell? ⟨w.heap.size + 1, 4, none⟩ = some (.int .i64 ce) ∧ w'.cell? ⟨w.heap.size + 1, 5, none⟩ = some (.int .i64 cf) ∧ w'.cell? ⟨w.heap.size + 1, 6, none⟩ = some (.int .i64 cg) ∧ w'.cell? ⟨w.heap.size + 1, 7, none⟩ = some (.int .i64 ch))
  (first | (with_reducible exact HBX4.out) | (with_reducible exact HBd.out) | (with_reducible exact HB5.out))
  (first | (go_at_call 71; (with_reducible refine HSC.out.mono ?_); rintro e w5 ⟨rfl, h5, hk5⟩; have H5 := hid h5; have HK5 := hid hk5; have hs5 := (hk5 _ (.inr HNS.out.1)).trans HS4.out; have hc5 := (hk5 _ (.inr HNS.out.2)).trans HC4.out; have HS5 := hid hs5; have HB5 := hid (Bx2.of h5 hs5 hc5).a; have HT5 := hid (Bx2.of h5 hs5 hc5); clear h5 hk5 hs5 hc5))
 have HBX5 : Hid (w5.cell? ⟨hb, 1, none⟩ = some (.pointer (some ⟨s.tb, 0, none⟩)) ∧ w5.cell? ⟨w.heap.size, 0, none⟩ = some (.int .i64 o) ∧ w5.cell? ⟨w.heap.size, 1, none⟩ = some (.int .i64 i)) := hid ⟨HT5.out.h1, HT5.out.k0, HT5.out.k1⟩
 have HBX5d : Hid (w5.drew.cell? ⟨hb, 1, none⟩ = some (.pointer (some ⟨s.tb, 0, none⟩)) ∧ w5.drew.cell? ⟨w.heap.size, 0, none⟩ = some (.int .i64 o) ∧ w5.drew.cell? ⟨w.heap.size, 1, none⟩ = some (.int .i64 i)) := hid HBX5.out
 have H5d := hid (H5.out.call (show Below w5.heap.size w5 w5.drew from (Below.refl _ _).drew))
 have HRC := hid (HRT.out _ _ H5d.out)
 have HS0 : Hid (∀ k, S k → w5.heap[k]? = w.heap[k]?) := hid (fun k q => (HK5.out k (.inl q)).trans (HW4.out.block k (HH.out.lt q)))
 clear HB5 HT5 HSC HRT HBX4 HBd HC4 HS4 HE4 HE4d
 go_upto_region 9 with fail
 go_region_held3 (fun w' => w'.cell? ⟨hb, 1, none⟩ = some (.pointer (some ⟨s.tb, 0, none⟩)) ∧ w'.cell? ⟨w.heap.size, 0, none⟩ = some (.int .i64 o) ∧ w'.cell? ⟨w.heap.size, 1, none⟩ = some (.int .i64 i))
  (first | (with_reducible exact HBX5.out) | (with_reducible exact HBX5d.out) | (with_reducible exact HB6.out))
  (first | (go_at_call 77; (with_reducible refine HRC.out.mono ?_); rintro e w6 ⟨rfl, h6, hk6⟩; have H6 := hid h6; have HK6 := hid hk6; have hs6 := (hk6 _ (.inr HNS.out.1)).trans HS5.out; have HB6 := hid (And.intro h6.c.2.1 (slot_cells hs6)); clear h6 hk6 hs6))
 all_goals
  go_wp2
  go_ret
  exact ⟨rfl, H6.out.weak (fun k q => .inl q), fun k q => (HK6.out k (.inl q)).trans (HS0.out k q)⟩
end HpS
end
end Go.Proofs.YtchjfeafkmpmbaaGreatDoor
