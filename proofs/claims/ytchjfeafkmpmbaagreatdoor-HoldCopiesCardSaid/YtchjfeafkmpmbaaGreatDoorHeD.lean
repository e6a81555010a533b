import Derived.Test.YtchjfeafkmpmbaaGreatDoorHeC
import Derived.Test.YtchjfeafkmpmbaaGreatDoorHeV
import Derived.Test.YtchjfeafkmpmbaaGreatDoorHeK
import Derived.Deep.QuietTactic
import Derived.BigQuiet
namespace Go.Proofs.YtchjfeafkmpmbaaGreatDoor
set_option linter.unusedVariables false
set_option linter.unusedSimpArgs false
set_option maxRecDepth 100000
set_option maxHeartbeats 8000000
open Lib (hid)
open Go.ChangeShapes Go.WideShapes Go.ChangeAt Go.RowKit Go.Shelf
namespace HdS
open TabS (Cp Sn zC mayC sizS getR getN Two Pr FootP foot_ltP foot_ltR SameS AddRel addSR setN setM rowsS hasS dropSR dropSL heldA hdsC)
variable {W w w' : World} {s : Sh} {hb rhb n n' t : Nat} {L M L' M' : List Sn} {l l2 l' l2' : List Nod} {S T : Nat → Prop} {o i p j : Int} {r : Cp}
def RwC (N0 : Nat) (w : World) (e : TypeId) (sz : Nat) (r : Value) (n : Nat) (cs : List Value) : Prop := ∃ b, N0 ≤ b ∧ w.ownsRow b e sz r n cs
theorem RwC.call {N0 : Nat} {e : TypeId} {sz : Nat} {r : Value} {n : Nat} {cs : List Value} (h : RwC N0 w e sz r n cs) (hb : Below w.heap.size w w') : RwC N0 w' e sz r n cs := by
 obtain ⟨b, h1, h2⟩ := h
 exact ⟨b, h1, row_kept h2 hb⟩
theorem RwC.kept {w1 w5 v : World} {e : TypeId} {sz : Nat} {r : Value} {n : Nat} {cs : List Value} (h : RwC w1.heap.size w5 e sz r n cs) (hk : SameK (New w1 w5) w5 v) : RwC w1.heap.size v e sz r n cs := by
 obtain ⟨b, h1, h2⟩ := h
 exact ⟨b, h1, own_block h2 fun g hg => hk g ⟨Nat.le_trans h1 (h2.lt g hg).1, (h2.lt g hg).2⟩⟩
theorem hd_at {base : Nat} {ra : Option Addr} {rc : Nat} {H : List TabS.Hd} (h : w.ownsRow base 46 10 (.slice ra H.length rc) H.length (hdsC H)) : ∃ g, HdRow w ra g H := by
 obtain ⟨a, c, g, e, h1⟩ := hd_row h
 cases e
 exact ⟨g, h1⟩
theorem duoC_cells {v : World} {a b : Nat} {o i p j : Int} (hs : v.heap[a]? = some (.cells #[.int .i64 o, .int .i64 i] 30 (0, 0))) (ht : v.heap[b]? = some (.cells #[.int .i64 p, .int .i64 j] 30 (0, 0))) : v.cell? ⟨a, 0, none⟩ = some (.int .i64 o) ∧ v.cell? ⟨a, 1, none⟩ = some (.int .i64 i) ∧ v.cell? ⟨b, 0, none⟩ = some (.int .i64 p) ∧ v.cell? ⟨b, 1, none⟩ = some (.int .i64 j) :=
 ⟨(slot_cells hs).1, (slot_cells hs).2, (slot_cells ht).1, (slot_cells ht).2⟩
structure Did (W : World) (s : Sh) (hb rhb n : Nat) (L M : List Sn) (l l2 : List Nod) (S : Nat → Prop) (o i p j : Int) (r : Cp) (w : World) : Prop where
 hd : Hd W s hb rhb n (setM L p j r) M (childA l o i p j).1 l2 S w
 inv : Inv (setM L p j r) (childA l o i p j).1
 pair : pairN L o i p j = 0
 of : OfC (gt L o i) r
 some : someB r = true
theorem Did.call (h : Did W s hb rhb n L M l l2 S o i p j r w) (hB : Below w.heap.size w w') : Did W s hb rhb n L M l l2 S o i p j r w' :=
 ⟨h.hd.call hB, h.inv, h.pair, h.of, h.some⟩
theorem copies (h : Hd W s hb rhb n L M l l2 S w) (hT0 : CX.TabG W) (hI : Inv L l) (o i p j : Int) (ho : InS o) (hi : InS i) (hp : InS p) (hj : InS j) (m : Int) (hnn : n < 1000000) :
  ∃ k : Int, Calls Tryz.prog 16 #[.pointer (some ⟨hb, 0, none⟩), slV o i, slV p j, .int .i64 m] w fun e w' => e = .returned (.int .i64 k) ∧ SameK S w w' ∧ ((k = 0 ∧ ∃ r, Did W s hb rhb (n + 1) L M l l2 S o i p j r w') ∨ (k ≠ 0 ∧ Hd W s hb rhb (n + 1) L M l l2 S w')) := by
 have he := cpy_e (gt L o i) m (hI.e o i)
 refine ⟨derN L l o i p j (cpy (gt L o i) m), (hcopy h hT0 o i p j ho hi hp hj m (hI.e o i) he hnn).mono ?_⟩
 rintro e w' ⟨rfl, hh, hk⟩
 obtain ⟨hI', h0⟩ := hI.der he hh.once
 refine ⟨rfl, hk, ?_⟩
 by_cases hz : derN L l o i p j (cpy (gt L o i) m) = 0
 ·obtain ⟨z1, z2, z3, z4, z5⟩ := der_zero hz
  rw [z4, z5] at hh hI'
  exact .inl ⟨hz, _, hh, hI', z1, copy_of (hI.may o i) z2, z3⟩
 ·obtain ⟨z1, z2⟩ := der_no hI h0 hz
  rw [z1, z2] at hh
  exact .inr ⟨hz, hh⟩
theorem mints (h : Hd W s hb rhb n L M l l2 S w) (hT0 : CX.TabG W) (hI : Inv L l) (o i p j : Int) (ho : InS o) (hi : InS i) (hp : InS p) (hj : InS j) (m : Int) (d : Nat) (hd : d < 2 ^ 64) (hnn : n < 1000000) :
  ∃ k : Int, Calls Tryz.prog 17 #[.pointer (some ⟨hb, 0, none⟩), slV o i, slV p j, .int .i64 m, .int .u64 d] w fun e w' => e = .returned (.int .i64 k) ∧ SameK S w w' ∧ ((k = 0 ∧ ∃ r, Did W s hb rhb (n + 1) L M l l2 S o i p j r w') ∨ (k ≠ 0 ∧ Hd W s hb rhb (n + 1) L M l l2 S w')) := by
 have he := mnt_e (gt L o i) m d (hI.e o i)
 refine ⟨derN L l o i p j (mnt (gt L o i) m d), (hmint h hT0 o i p j ho hi hp hj m d (hI.e o i) he hd hnn).mono ?_⟩
 rintro e w' ⟨rfl, hh, hk⟩
 obtain ⟨hI', h0⟩ := hI.der he hh.once
 refine ⟨rfl, hk, ?_⟩
 by_cases hz : derN L l o i p j (mnt (gt L o i) m d) = 0
 ·obtain ⟨z1, z2, z3, z4, z5⟩ := der_zero hz
  rw [z4, z5] at hh hI'
  exact .inl ⟨hz, _, hh, hI', z1, mint_of (hI.may o i) z2, z3⟩
 ·obtain ⟨z1, z2⟩ := der_no hI h0 hz
  rw [z1, z2] at hh
  exact .inr ⟨hz, hh⟩
structure Told (L : List Sn) (l : List Nod) (L1 : List Sn) (l1 : List Nod) (o i p j : Int) (r : Cp) : Prop where
 a : gt L1 o i = gt L o i
 an : gn L1 o i = 0
 b : gt L1 p j = r
 bn : gn L1 p j = 0
 keep : ∀ (k : Nat) (x : TabS.Hd), (heldA L)[k]? = some x → gt L1 x.n (x.i : Int) = x.c ∧ gn L1 x.n (x.i : Int) = 0
 len : (heldA L1).length = (heldA L).length + 1
 first : ∃ q, belowA l1 o i = q :: belowA l o i ∧ q.o = p ∧ q.i = j
 same : sameC (gt L o i) r = true
theorem Did.told (h : Did W s hb rhb n L M l l2 S o i p j r w) (hI : Inv L l) : Told L l (setM L p j r) (childA l o i p j).1 o i p j r := by
 obtain ⟨h1, hf, ha⟩ := pairN_zero h.pair
 obtain ⟨h0, ha'⟩ := fullN_zero hf
 have hm : mayC r = true := by have := h.some; unfold someB at this; rw [Bool.and_eq_true] at this; exact this.1
 have hg := gt_set hI.asc h1 hm
 have hn := gn_set hI.asc h1 hm
 have hne : ¬ (o = p ∧ i = j) := by rintro ⟨rfl, rfl⟩; exact ha' ha
 have hon := hI.full.2 hf
 have hnp : ¬ (idx l p j).isSome = true := fun e => (hI.tr p j).1 e ha
 refine ⟨by rw [hg, if_neg hne], (hn o i).trans h0, by rw [hg, if_pos ⟨rfl, rfl⟩], (hn p j).trans h1, fun k x hx => ?_, ?_, child_first h.inv.once hon hnp, ?_⟩
 ·obtain ⟨g1, g2⟩ := held_out hI.asc (List.mem_of_getElem? hx)
  have hx0 : fullN L x.n (x.i : Int) = 0 := full_iff.2 (by rw [g1]; exact g2)
  refine ⟨?_, (hn _ _).trans (fullN_zero hx0).1⟩
  rw [hg, if_neg, g1]
  rintro ⟨e1, e2⟩
  rw [e1, e2] at g1
  rw [g1] at ha
  exact g2 ha
 ·rw [h.inv.count, hI.count, child_len hon hnp]
 ·unfold sameC CX.alikeB
  rw [hI.may o i, hm, h.of.a, h.of.b]
  simp [ha']
theorem copies_any (q : Option Addr) (n c : Nat) (D : Nat → A18) (W : World) (o i p j m : Int) (d : Nat) (mint : Bool) (hn : n ≤ 60) (hD : Acts18 W q n D) (hT0 : CX.TabG W) (ho : InS o) (hi : InS i) (hp : InS p) (hj : InS j) (hd : d < 2 ^ 64) :
  Calls Tryz.prog 5 #[.slice q n c, slV o i, slV p j, .int .i64 m, .int .u64 (d : Int), .bool mint] W fun e w' => e = .returned (.bool true) ∧ Below W.heap.size W w' := by
 obtain ⟨hb0, hs0, ht0⟩ := duo_boxes W o i p j
 obtain ⟨w0, hw0⟩ : ∃ y, y = (W.alloc (slO o i)).alloc (slO p j) := ⟨_, rfl⟩
 rw [← hw0] at hb0 hs0 ht0
 have HPL := hid (played_any q n c D w0 (by omega) (hD.below hb0) (hT0.call hb0))
 have HAW : Hid (∀ v, Below w0.heap.size w0 v → Calls Tryz.prog 8 #[] v fun e w' => e = .returned (.bool true) ∧ Below v.heap.size v w') := hid (fun v hv => HpS.awake18 v (hT0.call (bgo hb0 hv)))
 have HT := hid (hT0.call hb0)
 have HIN := hid (And.intro ho (And.intro hi (And.intro hp (And.intro hj hd))))
 have hn' : ¬ (n : Int) > 60 := by omega
 have HN := hid hn
 have HB0 := hid hb0
 have HW := hid hw0
 have HBX : Hid (∀ v, Below w0.heap.size w0 v → v.cell? ⟨W.heap.size, 0, none⟩ = some (.int .i64 o) ∧ v.cell? ⟨W.heap.size, 1, none⟩ = some (.int .i64 i) ∧ v.cell? ⟨W.heap.size + 1, 0, none⟩ = some (.int .i64 p) ∧ v.cell? ⟨W.heap.size + 1, 1, none⟩ = some (.int .i64 j)) := hid (fun v hv => duoC_cells ((hv.block _ (ags hs0).1).trans hs0) ((hv.block _ (ags ht0).1).trans ht0))
 clear hD hT0 hn ho hi hp hj hd hb0 hs0 ht0 hw0
 go_enter Tryz.func5, Tryz.ntmps5
 go_upto_region 1 with fail
 rw [show (W.alloc (slO o i)).alloc (slO p j) = w0 from HW.out.symm]
 go_upto_region 6 with (go_at_call 12; (with_reducible refine HPL.out.mono ?_); rintro e w1 ⟨s, hb, rhb, rfl, hS⟩; have HS := hid hS; clear hS)
 obtain ⟨L, M, l, hH, hI, -, hLn⟩ := HS.out
 have hNn := HN.out
 have hlens := hH.lens.1
 have hsm := hH.hsmall (by omega)
 obtain ⟨NN, hNN⟩ : ∃ y, y = 2 * (3 + n) := ⟨_, rfl⟩
 rw [← hNN] at hH hlens
 have HU : Hid (∀ v, Below w1.heap.size w1 v → Calls Tryz.prog 13 #[.pointer (some ⟨hb, 0, none⟩)] v fun e w' => ∃ ra rc, e = .returned (.slice ra (heldA L).length rc) ∧ RwC w1.heap.size w' 46 10 (.slice ra (heldA L).length rc) (heldA L).length (hdsC (heldA L)) ∧ Below v.heap.size v w') := hid (fun v hv => by
  refine (hused (hH.call hv) (by omega)).mono ?_
  rintro e w' ⟨r, rfl, e2, e3⟩
  obtain ⟨ra, rc, g, rfl, -⟩ := hd_row e2
  exact ⟨ra, rc, rfl, ⟨_, hv.size, e2⟩, e3⟩)
 have HTR : Hid (∀ v, Below w1.heap.size w1 v → Calls Tryz.prog 14 #[.pointer (some ⟨hb, 0, none⟩)] v fun e w' => ∃ r, e = .returned r ∧ RwC w1.heap.size w' 44 3 r l.length (nodsC l) ∧ Below v.heap.size v w') := hid (fun v hv => (htree (hH.call hv) (by omega)).mono (fun e w' ⟨r, e1, e2, e3⟩ => ⟨r, e1, ⟨_, hv.size, e2⟩, e3⟩))
 have HE : Hid (∀ v, Below w1.heap.size w1 v → Hd w0 s hb rhb NN L M l l (fun _ => False) v) := hid (fun v hv => hH.call hv)
 have HI := hid hI
 have HLN : Hid ((heldA L).length < 100000 ∧ l.length < 1000000 ∧ NN < 1000 ∧ L.length < 1000) := hid ⟨by have := hI.count; omega, by omega, by omega, by omega⟩
 have HB1 := hid hH.below
 clear hH hI hLn hlens HS hNn hsm hNN HPL
 go_upto_region 7 with (first
  | (go_at_call 13; (with_reducible refine (HU.out _ (Below.refl _ _)).mono ?_); rintro e w2 ⟨ua, uc, rfl, hr, hv⟩; have HV2 := hid hv; have HR2 := hid hr; clear hr hv)
  | (go_at_call 14; (with_reducible refine (HTR.out _ HV2.out).mono ?_); rintro e w3 ⟨r3, rfl, hr, hv⟩; have HV3 := hid hv; have HR3 := hid hr; clear hr hv))
 have HV13 := hid (bgo HV2.out HV3.out)
 have HR2' := hid (HR2.out.call HV3.out)
 have HRK : Hid (∀ v, KpM w1 w3 v → HeldAt v (.slice ua (heldA L).length uc) (heldA L) ∧ NodesAt v r3 l ∧ ∃ g, HdRow v ua g (heldA L)) := hid (fun v hv => by
  obtain ⟨b, _, h2⟩ := HR2'.out.kept hv.k
  obtain ⟨b', _, h3⟩ := HR3.out.kept hv.k
  exact ⟨held_row h2, nodes_row h3, hd_at h2⟩)
 have H3 : Hid (Hd w0 s hb rhb NN L M l l (New w1 w3) w3) := hid (((HE.out w1 (Below.refl _ _)).fresh HV13.out).weak (fun k q => .inr q))
 obtain ⟨k1, hC1⟩ := copies H3.out HT.out HI.out o i p j HIN.out.1 HIN.out.2.1 HIN.out.2.2.1 HIN.out.2.2.2.1 m (by have := HLN.out.2.2.1; omega)
 have HC1 := hid hC1
 have HCM : Hid (∀ v, Hd w0 s hb rhb (NN + 1) L M l l (New w1 w3) v → ∃ k : Int, Calls Tryz.prog 17 #[.pointer (some ⟨hb, 0, none⟩), .agg #[.int .i64 o, .int .i64 i], .agg #[.int .i64 p, .int .i64 j], .int .i64 m, .int .u64 (d : Int)] v fun e w' => e = .returned (.int .i64 k) ∧ SameK (New w1 w3) v w' ∧ ((k = 0 ∧ ∃ r, Did w0 s hb rhb (NN + 2) L M l l (New w1 w3) o i p j r w') ∨ (k ≠ 0 ∧ Hd w0 s hb rhb (NN + 2) L M l l (New w1 w3) w'))) := hid (fun v hv => mints hv HT.out HI.out o i p j HIN.out.1 HIN.out.2.1 HIN.out.2.2.1 HIN.out.2.2.2.1 m d HIN.out.2.2.2.2 (by have := HLN.out.2.2.1; omega))
 obtain ⟨x0, x1, x2, x3⟩ := HBX.out w3 H3.out.below
 clear hC1 HU HTR HE HR2 HR3 HR2' HV2 HV3
 go_upto_region 8 with (go_at_call 16; (with_reducible refine HC1.out.mono ?_); rintro e V ⟨rfl, hk, hway⟩; have K0 := hid hk; have HWAY := hid hway; clear hk hway x0 x1 x2 x3)
 rcases HWAY.out with ⟨rfl, r, hdid⟩ | ⟨hk1, hh⟩
 rotate_left
 focus
  have H4 := hid hh
  have K4 := hid ((KpM.refl w1 w3).turn K0.out hh)
  have hkb : (k1 == 0) = false := beq_eq_false_iff_ne.2 hk1
  clear hh HWAY HC1
  cases mint
  ·clear HCM
   have HU5 : Hid (∀ v, Below V.heap.size V v → Calls Tryz.prog 13 #[.pointer (some ⟨hb, 0, none⟩)] v fun e w' => ∃ r, e = .returned r ∧ HeldAt w' r (heldA L) ∧ Below v.heap.size v w') := hid (fun v hv => by
    refine (hused (H4.out.call hv) (by have := HLN.out.2.2.2; omega)).mono ?_
    rintro e w' ⟨r, e1, e2, e3⟩
    exact ⟨r, e1, held_row e2, e3⟩)
   have HT5 : Hid (∀ v, Below V.heap.size V v → Calls Tryz.prog 14 #[.pointer (some ⟨hb, 0, none⟩)] v fun e w' => ∃ r, e = .returned r ∧ NodesAt w' r l ∧ Below v.heap.size v w') := hid (fun v hv => by
    refine (htree (H4.out.call hv) (by have := HLN.out.2.2.1; omega)).mono ?_
    rintro e w' ⟨r, e1, e2, e3⟩
    exact ⟨r, e1, nodes_row e2, e3⟩)
   have HBV := hid H4.out.below
   go_wp2_with (first
    | (go_at_call 13; (with_reducible refine (HU5.out _ (Below.refl _ _)).mono ?_); rintro e w14 ⟨r14, rfl, hr, hv⟩; have HR14 := hid hr; have HV14 := hid hv; have K14 := hid (K4.out.call hv); clear hr hv)
    | (go_at_call 18; (with_reducible refine (same_held_t HR14.out (HRK.out _ K14.out).1 (by have := HLN.out.1; omega)).mono ?_); rintro e w15 ⟨rfl, hv⟩; have HV15 := hid (bgo HV14.out hv); have K15 := hid (K14.out.call hv); clear hv)
    | (go_at_call 14; (with_reducible refine (HT5.out _ HV15.out).mono ?_); rintro e w16 ⟨r16, rfl, hr, hv⟩; have HR16 := hid hr; have HV16 := hid (bgo HV15.out hv); have K16 := hid (K15.out.call hv); clear hr hv)
    | (go_at_call 19; (with_reducible refine (same_nodes_t HR16.out (HRK.out _ K16.out).2.1 HLN.out.2.1).mono ?_); rintro e w17 ⟨rfl, hv⟩; have HV17 := hid (bgo HV16.out hv); clear hv)
    | (go_at_call 8; (with_reducible refine (HAW.out _ (bgo HBV.out HV17.out)).mono ?_); rintro e w18 ⟨rfl, hv⟩))
   go_ret
   exact ⟨rfl, bgo (bgo (bgo HB0.out HBV.out) HV17.out) hv⟩
  obtain ⟨k2, hC2⟩ := HCM.out V H4.out
  have HC2 := hid hC2
  obtain ⟨x0, x1, x2, x3⟩ := HBX.out V H4.out.below
  clear hC2 HCM
  go_upto_region 10 with (go_at_call 17; (with_reducible refine HC2.out.mono ?_); rintro e V ⟨rfl, hk, hway⟩; have K00 := hid hk; have HWAY := hid hway; clear hk hway x0 x1 x2 x3)
  clear hkb hk1
  rcases HWAY.out with ⟨rfl, r, hdid⟩ | ⟨hk2, hh⟩
  rotate_left
  ·have H5 := hid hh
   have K5 := hid (K4.out.turn K00.out hh)
   have hkb : (k2 == 0) = false := beq_eq_false_iff_ne.2 hk2
   clear hh HWAY HC2 H4 K4
   have HU5 : Hid (∀ v, Below V.heap.size V v → Calls Tryz.prog 13 #[.pointer (some ⟨hb, 0, none⟩)] v fun e w' => ∃ r, e = .returned r ∧ HeldAt w' r (heldA L) ∧ Below v.heap.size v w') := hid (fun v hv => by
    refine (hused (H5.out.call hv) (by have := HLN.out.2.2.2; omega)).mono ?_
    rintro e w' ⟨r, e1, e2, e3⟩
    exact ⟨r, e1, held_row e2, e3⟩)
   have HT5 : Hid (∀ v, Below V.heap.size V v → Calls Tryz.prog 14 #[.pointer (some ⟨hb, 0, none⟩)] v fun e w' => ∃ r, e = .returned r ∧ NodesAt w' r l ∧ Below v.heap.size v w') := hid (fun v hv => by
    refine (htree (H5.out.call hv) (by have := HLN.out.2.2.1; omega)).mono ?_
    rintro e w' ⟨r, e1, e2, e3⟩
    exact ⟨r, e1, nodes_row e2, e3⟩)
   have HBV := hid H5.out.below
   go_wp2_with (first
    | (go_at_call 13; (with_reducible refine (HU5.out _ (Below.refl _ _)).mono ?_); rintro e w14 ⟨r14, rfl, hr, hv⟩; have HR14 := hid hr; have HV14 := hid hv; have K14 := hid (K5.out.call hv); clear hr hv)
    | (go_at_call 18; (with_reducible refine (same_held_t HR14.out (HRK.out _ K14.out).1 (by have := HLN.out.1; omega)).mono ?_); rintro e w15 ⟨rfl, hv⟩; have HV15 := hid (bgo HV14.out hv); have K15 := hid (K14.out.call hv); clear hv)
    | (go_at_call 14; (with_reducible refine (HT5.out _ HV15.out).mono ?_); rintro e w16 ⟨r16, rfl, hr, hv⟩; have HR16 := hid hr; have HV16 := hid (bgo HV15.out hv); have K16 := hid (K15.out.call hv); clear hr hv)
    | (go_at_call 19; (with_reducible refine (same_nodes_t HR16.out (HRK.out _ K16.out).2.1 HLN.out.2.1).mono ?_); rintro e w17 ⟨rfl, hv⟩; have HV17 := hid (bgo HV16.out hv); clear hv)
    | (go_at_call 8; (with_reducible refine (HAW.out _ (bgo HBV.out HV17.out)).mono ?_); rintro e w18 ⟨rfl, hv⟩))
   go_ret
   exact ⟨rfl, bgo (bgo (bgo HB0.out HBV.out) HV17.out) hv⟩
  have HDD := hid hdid
  have K5 := hid (K4.out.turn K00.out hdid.hd)
  clear hdid HWAY HC2 H4 K4
 rotate_left
 focus
  have HDD := hid (show Did w0 s hb rhb (NN + 2) L M l l (New w1 w3) o i p j r V from ⟨hdid.hd.mono (by omega), hdid.inv, hdid.pair, hdid.of, hdid.some⟩)
  have K5 := hid ((KpM.refl w1 w3).turn K0.out hdid.hd)
  clear hdid HWAY HCM HC1
 all_goals
  have hT := HDD.out.told HI.out
  have hof := HDD.out.of
  have hye := HDD.out.inv.e p j
  rw [hT.b] at hye
  have hce := HI.out.e o i
  obtain ⟨ya, yb, yx, yd, ye, yf, yg, yh⟩ := r
  obtain ⟨⟨ca, cb, cx, cd, ce, cf, cg, ch⟩, hc⟩ : ∃ y, y = gt L o i := ⟨_, rfl⟩
  rw [← hc] at hof hce
  have hBV := HDD.out.hd.below
  have HGA : Hid (∀ v, Below V.heap.size V v → Calls Tryz.prog 20 #[.pointer (some ⟨hb, 0, none⟩), .agg #[.int .i64 o, .int .i64 i]] v fun e w' => e = .returned (.tuple #[.agg #[.int .i64 ca, .int .i64 cb, .int .i64 cx, .int .u64 cd, .int .i64 ce, .int .i64 cf, .int .i64 cg, .int .i64 ch], .int .i64 0]) ∧ Below v.heap.size v w') := hid (fun v hv => by have := hget (HDD.out.call hv).hd o i; rw [hT.a, hT.an, ← hc] at this; exact this)
  have HGB : Hid (∀ v, Below V.heap.size V v → Calls Tryz.prog 20 #[.pointer (some ⟨hb, 0, none⟩), .agg #[.int .i64 p, .int .i64 j]] v fun e w' => e = .returned (.tuple #[.agg #[.int .i64 ya, .int .i64 yb, .int .i64 yx, .int .u64 yd, .int .i64 ye, .int .i64 yf, .int .i64 yg, .int .i64 yh], .int .i64 0]) ∧ Below v.heap.size v w') := hid (fun v hv => by have := hget (HDD.out.call hv).hd p j; rw [hT.b, hT.bn] at this; exact this)
  have HBL : Hid (∀ v, Below V.heap.size V v → Calls Tryz.prog 21 #[.pointer (some ⟨hb, 0, none⟩), .agg #[.int .i64 o, .int .i64 i]] v fun e w' => ∃ g n c, e = .returned (.slice (some ⟨g, 0, none⟩) (n + 1) c) ∧ n < 1000000 ∧ g < w'.heap.size ∧ (w'.cell? ⟨g, 0, none⟩ = some (.int .i64 p) ∧ w'.cell? ⟨g, 1, none⟩ = some (.int .i64 j)) ∧ Below v.heap.size v w') := hid (fun v hv => by
   refine (hunder (HDD.out.call hv).hd o i HIN.out.1 HIN.out.2.1 (by have := HLN.out.2.2.1; omega)).mono ?_
   rintro e w' ⟨r, rfl, e2, e3⟩
   have hlen := belowA_len (childA l o i p j).1 o i
   have hll := (HDD.out.call hv).hd.lens.1
   have hNN := HLN.out.2.2.1
   obtain ⟨qn, hq, q1, q2⟩ := hT.first
   rw [hq] at e2 hlen
   rcases slots_row e2 with ⟨_, e4⟩ | ⟨g, cc, rfl, hg, hcell⟩
   ·cases e4
   ·obtain ⟨z0, z1⟩ := hcell 0 qn rfl
    rw [q1] at z0
    rw [q2] at z1
    simp only [List.length_cons] at hlen
    exact ⟨g, (belowA l o i).length, cc, rfl, by omega, hg, ⟨by simpa using z0, by simpa using z1⟩, e3⟩)
  have HUU : Hid (∀ v, Below V.heap.size V v → Calls Tryz.prog 13 #[.pointer (some ⟨hb, 0, none⟩)] v fun e w' => ∃ a c, e = .returned (.slice a ((heldA L).length + 1) c) ∧ Below v.heap.size v w') := hid (fun v hv => by
   refine (hused (HDD.out.call hv).hd (by rw [TabS.set_len]; have := HLN.out.2.2.2; omega)).mono ?_
   rintro e w' ⟨r, rfl, e2, e3⟩
   obtain ⟨a, c, g, rfl, -⟩ := hd_row e2
   exact ⟨a, c, by rw [hT.len], e3⟩)
  have HAL : Hid (∀ v, Below V.heap.size V v → Calls Tryz.prog 22 #[.agg #[.int .i64 ca, .int .i64 cb, .int .i64 cx, .int .u64 cd, .int .i64 ce, .int .i64 cf, .int .i64 cg, .int .i64 ch], .agg #[.int .i64 ya, .int .i64 yb, .int .i64 yx, .int .u64 yd, .int .i64 ye, .int .i64 yf, .int .i64 yg, .int .i64 yh]] v fun e w' => e = .returned (.bool true) ∧ Below v.heap.size v w') := hid (fun v hv => by
   have := halike v (HT.out.call (bgo hBV hv)) ⟨ca, cb, cx, cd, ce, cf, cg, ch⟩ ⟨ya, yb, yx, yd, ye, yf, yg, yh⟩ hce hye
   rw [show sameC ⟨ca, cb, cx, cd, ce, cf, cg, ch⟩ ⟨ya, yb, yx, yd, ye, yf, yg, yh⟩ = true by rw [hc]; exact hT.same] at this
   exact this)
  have HHS : Hid (∀ v, Calls Tryz.prog 23 #[.int .i64 cx, .int .i64 yx] v fun e w' => e = .returned (.bool true) ∧ v = w') := hid (fun v => by
   have := CX.has_any cx yx v hof.c0.1 hof.c0.2 hof.r0.1 hof.r0.2
   rw [show CX.hasB cx yx = true from hof.has] at this
   exact this)
  have HGW : Hid (∀ (k : Nat) (x : TabS.Hd), (heldA L)[k]? = some x → ∀ v, Below V.heap.size V v → Calls Tryz.prog 20 #[.pointer (some ⟨hb, 0, none⟩), .agg #[.int .i64 x.n, .int .i64 (x.i : Int)]] v fun e w' => e = .returned (.tuple #[x.c.V, .int .i64 0]) ∧ Below v.heap.size v w') := hid (fun k x hx v hv => by
   obtain ⟨t1, t2⟩ := hT.keep k x hx
   have := hget (HDD.out.call hv).hd x.n (x.i : Int)
   rw [t1, t2] at this
   exact this)
  have HKV : Hid (∀ v, Below V.heap.size V v → ∃ g, HdRow v ua g (heldA L)) := hid (fun v hv => (HRK.out v (K5.out.call hv)).2.2)
  have HBV := hid hBV
  have hHL := HLN.out.1
  obtain ⟨x0, x1, x2, x3⟩ := HBX.out V hBV
  clear hT hof hye hce hc hBV HDD HI HT HRK HIN K5
  generalize heldA L = H at *
  go_upto_region 13 with (go_at_call 20; (with_reducible refine (HGA.out _ (Below.refl _ _)).mono ?_); rintro e w6 ⟨rfl, hv⟩; have HV6 := hid hv; clear hv)
  obtain ⟨w7, hw7⟩ : ∃ y, y = w6.alloc (.cells #[.int .i64 ca, .int .i64 cb, .int .i64 cx, .int .u64 cd, .int .i64 ce, .int .i64 cf, .int .i64 cg, .int .i64 ch] 33) := ⟨_, rfl⟩
  rw [← hw7]
  have hx7 : w7.heap[w6.heap.size]? = some (.cells (⟨ca, cb, cx, cd, ce, cf, cg, ch⟩ : Cp).L.toArray 33 (0, 0)) := by rw [hw7]; exact heap_alloc_new w6 _
  have HX7 := hid hx7
  have HV7 := hid (show Below V.heap.size V w7 from bgo HV6.out (hw7 ▸ bal (Below.refl _ _) _))
  clear x0 x1 x2 x3 hx7 hw7 HV6 HGA
  generalize w6.heap.size = xB at *
  obtain ⟨x0, x1, x2, x3⟩ := HBX.out w7 (bgo HBV.out HV7.out)
  go_upto_region 14 with (go_at_call 20; (with_reducible refine (HGB.out _ HV7.out).mono ?_); rintro e w8 ⟨rfl, hv⟩; have HV8 := hid hv; clear hv)
  obtain ⟨w9, hw9⟩ : ∃ y, y = w8.alloc (.cells #[.int .i64 ya, .int .i64 yb, .int .i64 yx, .int .u64 yd, .int .i64 ye, .int .i64 yf, .int .i64 yg, .int .i64 yh] 33) := ⟨_, rfl⟩
  rw [← hw9]
  have hx9 : w9.heap[w8.heap.size]? = some (.cells (⟨ya, yb, yx, yd, ye, yf, yg, yh⟩ : Cp).L.toArray 33 (0, 0)) := by rw [hw9]; exact heap_alloc_new w8 _
  have hv79 : Below w7.heap.size w7 w9 := bgo HV8.out (hw9 ▸ bal (Below.refl _ _) _)
  have HX9 := hid hx9
  have HX79 := hid ((hv79.block _ (ags HX7.out).1).trans HX7.out)
  have HV9 := hid (bgo HV7.out hv79)
  clear x0 x1 x2 x3 hx9 hw9 hv79 HV8 HGB
  generalize w8.heap.size = yB at *
  obtain ⟨x0, x1, x2, x3⟩ := HBX.out w9 (bgo HBV.out HV9.out)
  go_upto_region 15 with (go_at_call 21; (with_reducible refine (HBL.out _ HV9.out).mono ?_); rintro e w10 ⟨g, bn, bc, rfl, hbn, hg, hgc, hv⟩; have HV10 := hid hv; have HGC := hid (And.intro hg hgc); have HBN := hid hbn; clear hv hg hgc)
  have hgp := HGC.out.1
  have HV410 := hid (bgo HV9.out HV10.out)
  have HC5 : Hid (∀ v, Below w10.heap.size w10 v → (v.cell? ⟨xB, 0, none⟩ = some (.int .i64 ca) ∧ v.cell? ⟨xB, 1, none⟩ = some (.int .i64 cb) ∧ v.cell? ⟨xB, 2, none⟩ = some (.int .i64 cx) ∧ v.cell? ⟨xB, 3, none⟩ = some (.int .u64 cd) ∧ v.cell? ⟨xB, 4, none⟩ = some (.int .i64 ce) ∧ v.cell? ⟨xB, 5, none⟩ = some (.int .i64 cf) ∧ v.cell? ⟨xB, 6, none⟩ = some (.int .i64 cg) ∧ v.cell? ⟨xB, 7, none⟩ = some (.int .i64 ch)) ∧ (v.cell? ⟨yB, 0, none⟩ = some (.int .i64 ya) ∧ v.cell? ⟨yB, 1, none⟩ = some (.int .i64 yb) ∧ v.cell? ⟨yB, 2, none⟩ = some (.int .i64 yx) ∧ v.cell? ⟨yB, 3, none⟩ = some (.int .u64 yd) ∧ v.cell? ⟨yB, 4, none⟩ = some (.int .i64 ye) ∧ v.cell? ⟨yB, 5, none⟩ = some (.int .i64 yf) ∧ v.cell? ⟨yB, 6, none⟩ = some (.int .i64 yg) ∧ v.cell? ⟨yB, 7, none⟩ = some (.int .i64 yh)) ∧ (v.cell? ⟨g, 0, none⟩ = some (.int .i64 p) ∧ v.cell? ⟨g, 1, none⟩ = some (.int .i64 j)) ∧ (v.cell? ⟨W.heap.size + 1, 0, none⟩ = some (.int .i64 p) ∧ v.cell? ⟨W.heap.size + 1, 1, none⟩ = some (.int .i64 j))) := hid (fun v hv => ⟨cap_cells (((bgo HV10.out hv).block _ (ags HX79.out).1).trans HX79.out), cap_cells (((bgo HV10.out hv).block _ (ags HX9.out).1).trans HX9.out), ⟨(hv.cell (p := ⟨g, 0, none⟩) hgp).trans HGC.out.2.1, (hv.cell (p := ⟨g, 1, none⟩) hgp).trans HGC.out.2.2⟩, (HBX.out v (bgo HBV.out (bgo HV410.out hv))).2.2⟩)
  have hes : ∀ v, (binOp .neq 30 (slV p j) (slV p j)).run Tryz.prog v = .ok (.bool false) v := fun v => by rw [neS]; simp
  have hbI : ((bn : Int) + 1 == 0) = false := beq_eq_false_iff_ne.2 (by omega)
  have hwa : IntKind.i64.wrap ((H.length : Int) + 1) = (H.length : Int) + 1 := IntWalk.i64_in _ (by omega)
  clear x0 x1 x2 x3 HX7 HX79 HX9 HGC HBL hgp
  go_region_held3 (fun v => (v.cell? ⟨xB, 0, none⟩ = some (.int .i64 ca) ∧ v.cell? ⟨xB, 1, none⟩ = some (.int .i64 cb) ∧ v.cell? ⟨xB, 2, none⟩ = some (.int .i64 cx) ∧ v.cell? ⟨xB, 3, none⟩ = some (.int .u64 cd) ∧ v.cell? ⟨xB, 4, none⟩ = some (.int .i64 ce) ∧ v.cell? ⟨xB, 5, none⟩ = some (.int .i64 cf) ∧ v.cell? ⟨xB, 6, none⟩ = some (.int .i64 cg) ∧ v.cell? ⟨xB, 7, none⟩ = some (.int .i64 ch)) ∧ (v.cell? ⟨yB, 0, none⟩ = some (.int .i64 ya) ∧ v.cell? ⟨yB, 1, none⟩ = some (.int .i64 yb) ∧ v.cell? ⟨yB, 2, none⟩ = some (.int .i64 yx) ∧ v.cell? ⟨yB, 3, none⟩ = some (.int .u64 yd) ∧ v.cell? ⟨yB, 4, none⟩ = some (.int .i64 ye) ∧ v.cell? ⟨yB, 5, none⟩ = some (.int .i64 yf) ∧ v.cell? ⟨yB, 6, none⟩ = some (.int .i64 yg) ∧ v.cell? ⟨yB, 7, none⟩ = some (.int .i64 yh)) ∧ (v.cell? ⟨g, 0, none⟩ = some (.int .i64 p) ∧ v.cell? ⟨g, 1, none⟩ = some (.int .i64 j)) ∧ (v.cell? ⟨W.heap.size + 1, 0, none⟩ = some (.int .i64 p) ∧ v.cell? ⟨W.heap.size + 1, 1, none⟩ = some (.int .i64 j)))
   (first | ((with_reducible refine HC5.out _ ?_); (repeat (first | (with_reducible exact Below.refl _ _) | (with_reducible refine Below.drew ?_) | (with_reducible refine bgo ?_ HV11.out) | (with_reducible refine bgo ?_ HV13.out)))))
   (first
    | (go_at_call 22; (with_reducible refine (HAL.out _ (bgo HV410.out (by (repeat (first | (with_reducible exact Below.refl _ _) | (with_reducible refine Below.drew ?_) | (with_reducible refine bgo ?_ HV11.out) | (with_reducible refine bgo ?_ HV13.out)))))).mono ?_); rintro e w11 ⟨rfl, hv⟩; have HV11 := hid hv; clear hv)
    | (go_at_call 23; (with_reducible refine (HHS.out _).mono ?_); rintro e w12 ⟨rfl, rfl⟩)
    | (go_at_call 13; (with_reducible refine (HUU.out _ (bgo HV410.out (by (repeat (first | (with_reducible exact Below.refl _ _) | (with_reducible refine Below.drew ?_) | (with_reducible refine bgo ?_ HV11.out) | (with_reducible refine bgo ?_ HV13.out)))))).mono ?_); rintro e w13 ⟨a13, c13, rfl, hv⟩; have HV13 := hid hv; clear hv))
  all_goals
   have HV14 := hid (show Below V.heap.size V w13 from bgo HV410.out (by (repeat (first | (with_reducible exact Below.refl _ _) | (with_reducible refine Below.drew ?_) | (with_reducible refine bgo ?_ HV11.out) | (with_reducible refine bgo ?_ HV13.out)))))
   clear HC5 HV11 HV13 HV10 HV9 HV410 HAL HHS HUU hes hbI hwa
   go_wp2
   go_loopw [22] (fun i wr => ∃ k : Nat, k ≤ H.length ∧ i = .int .i64 k ∧ Hid (Below V.heap.size V wr)) (fun i _ => H.length - (intOf i).toNat)
   case atStart => exact ⟨0, by omega, rfl, HV14⟩
   case round =>
    obtain ⟨k, hk, rfl, HBr⟩ := hrel
    by_cases hlt : k < H.length
    ·have hltI : (k : Int) < H.length := by omega
     obtain ⟨x, hx⟩ : ∃ x, H[k]? = some x := ⟨H[k], List.getElem?_eq_getElem _⟩
     obtain ⟨g2, hrow⟩ := HKV.out wr HBr.out
     have HG3 := hid (HGW.out k x hx wr HBr.out)
     obtain ⟨rfl, hg2, hrr⟩ := hrow.at_ k x hx
     obtain ⟨xn, xi, ⟨xa, xb, xx, xd, xe, xf, xg, xh⟩⟩ := x
     simp only [TabS.Cp.V] at HG3 hrr
     have hqc : ∀ v, (binOp .neq 33 (.agg #[.int .i64 xa, .int .i64 xb, .int .i64 xx, .int .u64 xd, .int .i64 xe, .int .i64 xf, .int .i64 xg, .int .i64 xh]) (.agg #[.int .i64 xa, .int .i64 xb, .int .i64 xx, .int .u64 xd, .int .i64 xe, .int .i64 xf, .int .i64 xg, .int .i64 xh])).run Tryz.prog v = .ok (.bool false) v := fun v => TabS.neCp ⟨xa, xb, xx, xd, xe, xf, xg, xh⟩ v
     have hx0 := hrr 0 _ rfl
     rw [Nat.add_zero] at hx0
     have hx1 := hrr 1 _ rfl
     simp only [] at hx0 hx1
     have HRR : Hid (∀ v, Below wr.heap.size wr v → v.rangeAt g2 (k * 10) (TabS.Hd.L ⟨xn, xi, ⟨xa, xb, xx, xd, xe, xf, xg, xh⟩⟩)) := hid (fun v hv => ((hrow.call hv).at_ k _ hx).2.2)
     clear hx hrow hrr hg2
     go_upto_region 21 with (go_at_call 20; (with_reducible refine HG3.out.mono ?_); rintro e w15 ⟨rfl, hv⟩; have HV15 := hid hv; clear hv)
     obtain ⟨w16, hw16⟩ : ∃ y, y = w15.alloc (.cells #[.int .i64 xa, .int .i64 xb, .int .i64 xx, .int .u64 xd, .int .i64 xe, .int .i64 xf, .int .i64 xg, .int .i64 xh] 33) := ⟨_, rfl⟩
     rw [← hw16]
     have hx16 : w16.heap[w15.heap.size]? = some (.cells (⟨xa, xb, xx, xd, xe, xf, xg, xh⟩ : Cp).L.toArray 33 (0, 0)) := by rw [hw16]; exact heap_alloc_new w15 _
     have hv16 : Below wr.heap.size wr w16 := bgo HV15.out (hw16 ▸ bal (Below.refl _ _) _)
     have HB16 := hid (bgo HBr.out hv16)
     obtain ⟨y0, y1, y2, y3, y4, y5, y6, y7⟩ := cap_cells hx16
     have hr2 := HRR.out w16 hv16
     have c0 := hr2 2 _ rfl
     have c1 := hr2 3 _ rfl
     have c2 := hr2 4 _ rfl
     have c3 := hr2 5 _ rfl
     have c4 := hr2 6 _ rfl
     have c5 := hr2 7 _ rfl
     have c6 := hr2 8 _ rfl
     have c7 := hr2 9 _ rfl
     simp only [] at c0 c1 c2 c3 c4 c5 c6 c7
     clear hw16 hx16 hv16 hr2 HRR HV15 HG3 hx0 hx1
     generalize w15.heap.size = zB at *
     go_quiet (fail)
     go_wp2
     go_roundw
     case rel => exact ⟨k + 1, by omega, by go_num, hid (below_drewN HB16.out _)⟩
     case measure => first | (simp [intOf]; done) | (simp [intOf]; omega)
    ·obtain rfl : k = H.length := by omega
     have HA2 := hid (HAW.out wr (bgo HBV.out HBr.out))
     go_wp2_with (go_at_call 8; (with_reducible refine HA2.out.mono ?_); rintro e w17 ⟨rfl, hv⟩)
     go_ret
     exact ⟨rfl, bgo (bgo (bgo HB0.out HBV.out) HBr.out) hv⟩
end HdS
end Go.Proofs.YtchjfeafkmpmbaaGreatDoor
