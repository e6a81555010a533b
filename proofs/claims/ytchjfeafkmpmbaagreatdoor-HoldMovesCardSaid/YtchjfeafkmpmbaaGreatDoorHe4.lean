import Derived.Test.YtchjfeafkmpmbaaGreatDoorHe3
import Derived.Test.YtchjfeafkmpmbaaGreatDoorHeK
import Derived.Deep.QuietTactic
import Derived.BigQuiet
namespace Go.Proofs.YtchjfeafkmpmbaaGreatDoor
set_option linter.unusedVariables false
set_option linter.unusedSimpArgs false
set_option maxRecDepth 100000
set_option maxHeartbeats 8000000
open Lib (hid)
open Go.ChangeShapes Go.WideShapes Go.ChangeAt Go.RowKit Go.Shelf
namespace HdS
open TabS (Cp Sn zC mayC sizS getR getN Two Pr FootP foot_ltP foot_ltR SameS AddRel addSR setN setM rowsS hasS dropSR dropSL heldA hdsC)
variable {W w w' : World} {s : Sh} {hb rhb n n' t : Nat} {L M L' M' : List Sn} {l l2 l' l2' : List Nod} {S T : Nat → Prop}
def Rw3 (N0 : Nat) (w : World) (e : TypeId) (sz : Nat) (r : Value) (n : Nat) (cs : List Value) : Prop := ∃ b, N0 ≤ b ∧ w.ownsRow b e sz r n cs
theorem Rw3.call {N0 : Nat} {e : TypeId} {sz : Nat} {r : Value} {n : Nat} {cs : List Value} (h : Rw3 N0 w e sz r n cs) (hb : Below w.heap.size w w') : Rw3 N0 w' e sz r n cs := by
 obtain ⟨b, h1, h2⟩ := h
 exact ⟨b, h1, row_kept h2 hb⟩
theorem Rw3.kept {w1 w5 v : World} {e : TypeId} {sz : Nat} {r : Value} {n : Nat} {cs : List Value} (h : Rw3 w1.heap.size w5 e sz r n cs) (hk : SameK (New w1 w5) w5 v) : Rw3 w1.heap.size v e sz r n cs := by
 obtain ⟨b, h1, h2⟩ := h
 exact ⟨b, h1, own_block h2 fun g hg => hk g ⟨Nat.le_trans h1 (h2.lt g hg).1, (h2.lt g hg).2⟩⟩
theorem Rw3.held {N0 : Nat} {r : Value} {H : List TabS.Hd} (h : Rw3 N0 w 46 10 r H.length (hdsC H)) : HeldAt w r H := by
 obtain ⟨b, _, h2⟩ := h
 exact held_row h2
theorem Rw3.nodes {N0 : Nat} {r : Value} (h : Rw3 N0 w 44 3 r l.length (nodsC l)) : NodesAt w r l := by
 obtain ⟨b, _, h2⟩ := h
 exact nodes_row h2
theorem Rw3.slots {N0 : Nat} {r : Value} (h : Rw3 N0 w 30 2 r l.length (slsC l)) : SlotsAt w r l := by
 obtain ⟨b, _, h2⟩ := h
 exact slots_row h2
theorem duo_cells {W v : World} {a b : Nat} {o i p j : Int} (hs : v.heap[a]? = some (.cells #[.int .i64 o, .int .i64 i] 30 (0, 0))) (ht : v.heap[b]? = some (.cells #[.int .i64 p, .int .i64 j] 30 (0, 0))) : v.cell? ⟨a, 0, none⟩ = some (.int .i64 o) ∧ v.cell? ⟨a, 1, none⟩ = some (.int .i64 i) ∧ v.cell? ⟨b, 0, none⟩ = some (.int .i64 p) ∧ v.cell? ⟨b, 1, none⟩ = some (.int .i64 j) :=
 ⟨(slot_cells hs).1, (slot_cells hs).2, (slot_cells ht).1, (slot_cells ht).2⟩
theorem moves_any (q : Option Addr) (n c : Nat) (D : Nat → A18) (W : World) (o i p j : Int) (hn : n ≤ 60) (hD : Acts18 W q n D) (hT0 : CX.TabG W) (ho : InS o) (hi : InS i) (hp : InS p) (hj : InS j) :
  Calls Tryz.prog 6 #[.slice q n c, slV o i, slV p j] W fun e w' => e = .returned (.bool true) ∧ Below W.heap.size W w' := by
 obtain ⟨hb0, hs0, ht0⟩ := duo_boxes W o i p j
 obtain ⟨w0, hw0⟩ : ∃ y, y = (W.alloc (slO o i)).alloc (slO p j) := ⟨_, rfl⟩
 rw [← hw0] at hb0 hs0 ht0
 have HPL := hid (played_any q n c D w0 (by omega) (hD.below hb0) (hT0.call hb0))
 have HAW : Hid (∀ v, Below w0.heap.size w0 v → Calls Tryz.prog 8 #[] v fun e w' => e = .returned (.bool true) ∧ Below v.heap.size v w') := hid (fun v hv => HpS.awake18 v (hT0.call (bgo hb0 hv)))
 have HT := hid (hT0.call hb0)
 have HIN := hid (And.intro ho (And.intro hi (And.intro hp hj)))
 have hn' : ¬ (n : Int) > 60 := by omega
 have HN := hid hn
 have HB0 := hid hb0
 have HW := hid hw0
 have HBX : Hid (∀ v, Below w0.heap.size w0 v → v.cell? ⟨W.heap.size, 0, none⟩ = some (.int .i64 o) ∧ v.cell? ⟨W.heap.size, 1, none⟩ = some (.int .i64 i) ∧ v.cell? ⟨W.heap.size + 1, 0, none⟩ = some (.int .i64 p) ∧ v.cell? ⟨W.heap.size + 1, 1, none⟩ = some (.int .i64 j)) := hid (fun v hv => duo_cells (W := W) ((hv.block _ (ags hs0).1).trans hs0) ((hv.block _ (ags ht0).1).trans ht0))
 clear hD hT0 hn ho hi hp hj hb0 hs0 ht0 hw0
 go_enter Tryz.func6, Tryz.ntmps6
 go_upto_region 1 with fail
 rw [show (W.alloc (slO o i)).alloc (slO p j) = w0 from HW.out.symm]
 go_upto_region 6 with (go_at_call 12; (with_reducible refine HPL.out.mono ?_); rintro e w1 ⟨s, hb, rhb, rfl, hS⟩; have HS := hid hS; clear hS)
 obtain ⟨L, M, l, hH, hI, -, hLn⟩ := HS.out
 have hNn := HN.out
 have hlens := hH.lens.1
 have hsm := hH.hsmall (by omega)
 have hbn := belowA_len l o i
 obtain ⟨NN, hNN⟩ : ∃ y, y = 2 * (3 + n) := ⟨_, rfl⟩
 rw [← hNN] at hH hlens
 have HE : Hid (∀ v, Below w1.heap.size w1 v → Hd w0 s hb rhb NN L M l l (fun _ => False) v) := hid (fun v hv => hH.call hv)
 have HU : Hid (∀ v, Below w1.heap.size w1 v → Calls Tryz.prog 13 #[.pointer (some ⟨hb, 0, none⟩)] v fun e w' => ∃ r, e = .returned r ∧ Rw3 w1.heap.size w' 46 10 r (heldA L).length (hdsC (heldA L)) ∧ Below v.heap.size v w') := hid (fun v hv => (hused (hH.call hv) (by omega)).mono (fun e w' ⟨r, e1, e2, e3⟩ => ⟨r, e1, ⟨_, hv.size, e2⟩, e3⟩))
 have HTR : Hid (∀ v, Below w1.heap.size w1 v → Calls Tryz.prog 14 #[.pointer (some ⟨hb, 0, none⟩)] v fun e w' => ∃ r, e = .returned r ∧ Rw3 w1.heap.size w' 44 3 r l.length (nodsC l) ∧ Below v.heap.size v w') := hid (fun v hv => (htree (hH.call hv) (by omega)).mono (fun e w' ⟨r, e1, e2, e3⟩ => ⟨r, e1, ⟨_, hv.size, e2⟩, e3⟩))
 have HBL : Hid (∀ v, Below w1.heap.size w1 v → Calls Tryz.prog 21 #[.pointer (some ⟨hb, 0, none⟩), .agg #[.int .i64 o, .int .i64 i]] v fun e w' => ∃ r, e = .returned r ∧ Rw3 w1.heap.size w' 30 2 r (belowA l o i).length (slsC (belowA l o i)) ∧ Below v.heap.size v w') := hid (fun v hv => (hunder (hH.call hv) o i HIN.out.1 HIN.out.2.1 (by omega)).mono (fun e w' ⟨r, e1, e2, e3⟩ => ⟨r, e1, ⟨_, hv.size, e2⟩, e3⟩))
 have HG : Hid (∀ v, Below w1.heap.size w1 v → Calls Tryz.prog 20 #[.pointer (some ⟨hb, 0, none⟩), .agg #[.int .i64 o, .int .i64 i]] v fun e w' => e = .returned (.tuple #[(gt L o i).V, .int .i64 (gn L o i)]) ∧ Below v.heap.size v w') := hid (fun v hv => hget (hH.call hv) o i)
 have HI := hid hI
 have HLN : Hid ((heldA L).length < 1000000 ∧ l.length < 1000000 ∧ (belowA l o i).length < 1000000 ∧ NN < 1000 ∧ L.length < 1000000) := hid ⟨hsm, by omega, by omega, by omega, by omega⟩
 have HB1 := hid hH.below
 have HC1 : Hid (∀ v, Below w1.heap.size w1 v → v.cell? ⟨W.heap.size, 0, none⟩ = some (.int .i64 o) ∧ v.cell? ⟨W.heap.size, 1, none⟩ = some (.int .i64 i)) := hid (fun v hv => ⟨(HBX.out v (bgo hH.below hv)).1, (HBX.out v (bgo hH.below hv)).2.1⟩)
 clear hH hI hLn hlens HS hNn hsm hbn hNN HPL
 go_cut [8, 9, 10] from 25 to 31 (fun u t d wc => Hid (Rw3 w1.heap.size wc 46 10 u (heldA L).length (hdsC (heldA L)) ∧ Rw3 w1.heap.size wc 44 3 t l.length (nodsC l) ∧ Rw3 w1.heap.size wc 30 2 d (belowA l o i).length (slsC (belowA l o i)) ∧ Below w1.heap.size w1 wc))
 case first =>
  go_region_held3 (fun v => v.cell? ⟨W.heap.size, 0, none⟩ = some (.int .i64 o) ∧ v.cell? ⟨W.heap.size, 1, none⟩ = some (.int .i64 i))
   (first | ((with_reducible refine HC1.out _ ?_); (repeat (first | (with_reducible exact Below.refl _ _) | (with_reducible refine Below.drew ?_) | (with_reducible refine bgo ?_ HV2.out) | (with_reducible refine bgo ?_ HV3.out) | (with_reducible refine bgo ?_ HV4.out)))))
   (first
    | (go_at_call 13; (with_reducible refine (HU.out _ (by (repeat (first | (with_reducible exact Below.refl _ _) | (with_reducible refine Below.drew ?_) | (with_reducible refine bgo ?_ HV2.out) | (with_reducible refine bgo ?_ HV3.out) | (with_reducible refine bgo ?_ HV4.out))))).mono ?_); rintro e w2 ⟨r2, rfl, hr, hv⟩; have HV2 := hid hv; have HR2 := hid hr; clear hr hv)
    | (go_at_call 14; (with_reducible refine (HTR.out _ (by (repeat (first | (with_reducible exact Below.refl _ _) | (with_reducible refine Below.drew ?_) | (with_reducible refine bgo ?_ HV2.out) | (with_reducible refine bgo ?_ HV3.out) | (with_reducible refine bgo ?_ HV4.out))))).mono ?_); rintro e w3 ⟨r3, rfl, hr, hv⟩; have HV3 := hid hv; have HR3 := hid hr; clear hr hv)
    | (go_at_call 21; (with_reducible refine (HBL.out _ (by (repeat (first | (with_reducible exact Below.refl _ _) | (with_reducible refine Below.drew ?_) | (with_reducible refine bgo ?_ HV2.out) | (with_reducible refine bgo ?_ HV3.out) | (with_reducible refine bgo ?_ HV4.out))))).mono ?_); rintro e w4 ⟨r4, rfl, hr, hv⟩; have HV4 := hid hv; have HR4 := hid hr; clear hr hv))
  all_goals
   go_wp2_with fail
   go_meet
   refine hid ⟨HR2.out.call ?_, HR3.out.call ?_, HR4.out.call ?_, ?_⟩
   all_goals (repeat (first | (with_reducible exact Below.refl _ _) | (with_reducible refine Below.drew ?_) | (with_reducible refine bgo ?_ HV2.out) | (with_reducible refine bgo ?_ HV3.out) | (with_reducible refine bgo ?_ HV4.out)))
 case rest =>
  clear HC1 HBL
  have HVc := hid hcut.out.2.2.2
  have HRc := hid (And.intro hcut.out.1 (And.intro hcut.out.2.1 hcut.out.2.2.1))
  obtain ⟨⟨ca, cb, cx, cd, ce, cf, cg, ch⟩, hc⟩ : ∃ y, y = gt L o i := ⟨_, rfl⟩
  obtain ⟨cn, hcn⟩ : ∃ y, y = gn L o i := ⟨_, rfl⟩
  have HCC := hid hc
  have HG2 : Hid (∀ v, Below w1.heap.size w1 v → Calls Tryz.prog 20 #[.pointer (some ⟨hb, 0, none⟩), .agg #[.int .i64 o, .int .i64 i]] v fun e w' => e = .returned (.tuple #[.agg #[.int .i64 ca, .int .i64 cb, .int .i64 cx, .int .u64 cd, .int .i64 ce, .int .i64 cf, .int .i64 cg, .int .i64 ch], .int .i64 cn]) ∧ Below v.heap.size v w') := hid (fun v hv => by have := HG.out v hv; rw [← hc, ← hcn] at this; exact this)
  obtain ⟨x0, x1, -⟩ := HBX.out wc (bgo HB1.out HVc.out)
  clear HG hc hcn hcut
  go_upto_region 8 with (go_at_call 20; (with_reducible refine (HG2.out _ HVc.out).mono ?_); rintro e w4 ⟨rfl, hv⟩; have HV4 := hid hv; clear hv)
  obtain ⟨w5, hw5⟩ : ∃ y, y = w4.alloc (.cells #[.int .i64 ca, .int .i64 cb, .int .i64 cx, .int .u64 cd, .int .i64 ce, .int .i64 cf, .int .i64 cg, .int .i64 ch] 33) := ⟨_, rfl⟩
  rw [← hw5]
  have hx5 : w5.heap[w4.heap.size]? = some (.cells (⟨ca, cb, cx, cd, ce, cf, cg, ch⟩ : Cp).L.toArray 33 (0, 0)) := by rw [hw5]; exact heap_alloc_new w4 _
  have hv5 : Below w4.heap.size w4 w5 := hw5 ▸ bal (Below.refl _ _) _
  have hvc5 : Below wc.heap.size wc w5 := bgo HV4.out hv5
  have hv15 : Below w1.heap.size w1 w5 := bgo HVc.out hvc5
  have h5 : Hd w0 s hb rhb NN L M l l (New w1 w5) w5 := ((HE.out w1 (Below.refl _ _)).fresh hv15).weak (fun k q => .inr q)
  have hx14 : w1.heap.size ≤ w4.heap.size ∧ w4.heap.size < w5.heap.size := ⟨Nat.le_trans HVc.out.size HV4.out.size, (ags hx5).1⟩
  have HRK : Hid (∀ v, KpM w1 w5 v → HeldAt v u8 (heldA L) ∧ NodesAt v u9 l ∧ SlotsAt v u10 (belowA l o i) ∧ v.heap[w4.heap.size]? = some (.cells (⟨ca, cb, cx, cd, ce, cf, cg, ch⟩ : Cp).L.toArray 33 (0, 0))) := hid (fun v hv => ⟨((HRc.out.1.call hvc5).kept hv.k).held, ((HRc.out.2.1.call hvc5).kept hv.k).nodes, ((HRc.out.2.2.call hvc5).kept hv.k).slots, (hv.k _ hx14).trans hx5⟩)
  have H5 := hid h5
  have HV5 := hid hv15
  obtain ⟨x0, x1, x2, x3⟩ := HBX.out w5 h5.below
  clear hw5 hx5 hv5 hvc5 hv15 h5 hx14 HRc HV4 HVc HG2
  generalize w4.heap.size = xB at *
  by_cases hpn : pairN L o i p j = 0
  ·obtain ⟨h1, hf, ha⟩ := pairN_zero hpn
   obtain ⟨h0, ha'⟩ := fullN_zero hf
   have hB := back_of HI.out h0 h1
   have hz : gt L p j = zC := zero_of (HI.out.may p j) ha
   have hnin : ¬ (idx l p j).isSome = true := fun e => (HI.out.tr p j).1 e ha
   have HM := hid (hmove_yes H5.out HT.out o i p j HIN.out.1 HIN.out.2.1 HIN.out.2.2.1 HIN.out.2.2.2 (HI.out.e o i) (HI.out.e p j) (by have := HLN.out.2.2.2.1; omega) hpn)
   have HG1 : Hid (∀ v, Hd w0 s hb rhb (NN + 2) (swapL L o i p j) M (swapA l o i p j) l (New w1 w5) v → Calls Tryz.prog 20 #[.pointer (some ⟨hb, 0, none⟩), .agg #[.int .i64 p, .int .i64 j]] v fun e w' => e = .returned (.tuple #[.agg #[.int .i64 ca, .int .i64 cb, .int .i64 cx, .int .u64 cd, .int .i64 ce, .int .i64 cf, .int .i64 cg, .int .i64 ch], .int .i64 0]) ∧ Below v.heap.size v w') := hid (fun v hv => by have := hget hv p j; rw [hB.g1, hB.m0, ← HCC.out] at this; exact this)
   have HG0 : Hid (∀ v, Hd w0 s hb rhb (NN + 2) (swapL L o i p j) M (swapA l o i p j) l (New w1 w5) v → Calls Tryz.prog 20 #[.pointer (some ⟨hb, 0, none⟩), .agg #[.int .i64 o, .int .i64 i]] v fun e w' => e = .returned (.tuple #[.agg #[.int .i64 0, .int .i64 0, .int .i64 0, .int .u64 0, .int .i64 0, .int .i64 0, .int .i64 0, .int .i64 0], .int .i64 0]) ∧ Below v.heap.size v w') := hid (fun v hv => by have := hget hv o i; rw [hB.g2, hB.m1, hz] at this; exact this)
   have HBB : Hid (∀ v, Hd w0 s hb rhb (NN + 2) (swapL L o i p j) M (swapA l o i p j) l (New w1 w5) v → Calls Tryz.prog 21 #[.pointer (some ⟨hb, 0, none⟩), .agg #[.int .i64 p, .int .i64 j]] v fun e w' => ∃ r, e = .returned r ∧ SlotsAt w' r (belowA l o i) ∧ Below v.heap.size v w') := hid (fun v hv => by
    have := hunder hv p j HIN.out.2.2.1 HIN.out.2.2.2 (by have := HLN.out.2.2.2.1; omega)
    rw [below_swap HI.out.once hnin] at this
    refine this.mono ?_
    rintro e w' ⟨r, e1, e2, e3⟩
    exact ⟨r, e1, slots_row e2, e3⟩)
   have HM2 : Hid (∀ v, Hd w0 s hb rhb (NN + 2) (swapL L o i p j) M (swapA l o i p j) l (New w1 w5) v → Calls Tryz.prog 24 #[.pointer (some ⟨hb, 0, none⟩), .agg #[.int .i64 p, .int .i64 j], .agg #[.int .i64 o, .int .i64 i]] v fun e w' => e = .returned (.int .i64 0) ∧ Hd w0 s hb rhb (NN + 4) (swapL (swapL L o i p j) p j o i) M l l (New w1 w5) w' ∧ SameK (New w1 w5) v w') := hid (fun v hv => by
    have := hmove_yes hv HT.out p j o i HIN.out.2.2.1 HIN.out.2.2.2 HIN.out.1 HIN.out.2.1 (by rw [hB.g1]; exact HI.out.e o i) (by rw [hB.g2]; exact HI.out.e p j) (by have := HLN.out.2.2.2.1; omega) (pair_back HI.out hpn)
    rw [swap_back hnin] at this
    exact this)
   have hlen2 : (swapL (swapL L o i p j) p j o i).length < 1000000 := by
    have e1 := hB.same.len
    have := HLN.out.2.2.2.2
    omega
   have HU2 : Hid (∀ v, Hd w0 s hb rhb (NN + 4) (swapL (swapL L o i p j) p j o i) M l l (New w1 w5) v → Calls Tryz.prog 13 #[.pointer (some ⟨hb, 0, none⟩)] v fun e w' => ∃ r, e = .returned r ∧ HeldAt w' r (heldA L) ∧ Below v.heap.size v w') := hid (fun v hv => by
    have := hused hv hlen2
    rw [hB.same.held] at this
    refine this.mono ?_
    rintro e w' ⟨r, e1, e2, e3⟩
    exact ⟨r, e1, held_row e2, e3⟩)
   have HT2 : Hid (∀ v, Hd w0 s hb rhb (NN + 4) (swapL (swapL L o i p j) p j o i) M l l (New w1 w5) v → Calls Tryz.prog 14 #[.pointer (some ⟨hb, 0, none⟩)] v fun e w' => ∃ r, e = .returned r ∧ NodesAt w' r l ∧ Below v.heap.size v w') := hid (fun v hv => by
    refine (htree hv (by have := HLN.out.2.2.2.1; omega)).mono ?_
    rintro e w' ⟨r, e1, e2, e3⟩
    exact ⟨r, e1, nodes_row e2, e3⟩)
   have hqc : ∀ v, (binOp .neq 33 (.agg #[.int .i64 ca, .int .i64 cb, .int .i64 cx, .int .u64 cd, .int .i64 ce, .int .i64 cf, .int .i64 cg, .int .i64 ch]) (.agg #[.int .i64 ca, .int .i64 cb, .int .i64 cx, .int .u64 cd, .int .i64 ce, .int .i64 cf, .int .i64 cg, .int .i64 ch])).run Tryz.prog v = .ok (.bool false) v := fun v => TabS.neCp ⟨ca, cb, cx, cd, ce, cf, cg, ch⟩ v
   have hqz : ∀ v, (binOp .neq 33 (.agg #[.int .i64 0, .int .i64 0, .int .i64 0, .int .u64 0, .int .i64 0, .int .i64 0, .int .i64 0, .int .i64 0]) (.agg #[.int .i64 0, .int .i64 0, .int .i64 0, .int .u64 0, .int .i64 0, .int .i64 0, .int .i64 0, .int .i64 0])).run Tryz.prog v = .ok (.bool false) v := fun v => TabS.neCp zC v
   have HQ := hid (And.intro hqc hqz)
   clear h1 hf ha h0 ha' hB hz hnin hpn hlen2 hqc hqz HU HTR HE
   generalize swapL (swapL L o i p j) p j o i = L2 at *
   generalize swapL L o i p j = L1 at *
   generalize swapA l o i p j = l1 at *
   generalize belowA l o i = bl at *
   go_upto_region 10 with (go_at_call 24; (with_reducible refine HM.out.mono ?_); rintro e w6 ⟨rfl, hh, hk⟩; have H6 := hid hh; have K6 := hid ((KpM.refl w1 w5).turn hk hh); clear hh hk)
   clear x0 x1 x2 x3
   obtain ⟨x0, x1, x2, x3⟩ := HBX.out w6 H6.out.below
   go_upto_region 11 with (go_at_call 20; (with_reducible refine (HG1.out _ H6.out).mono ?_); rintro e w7 ⟨rfl, hv⟩; have HV7 := hid hv; clear hv)
   obtain ⟨w8, hw8⟩ : ∃ y, y = w7.alloc (.cells #[.int .i64 ca, .int .i64 cb, .int .i64 cx, .int .u64 cd, .int .i64 ce, .int .i64 cf, .int .i64 cg, .int .i64 ch] 33) := ⟨_, rfl⟩
   rw [← hw8]
   have hx8 : w8.heap[w7.heap.size]? = some (.cells (⟨ca, cb, cx, cd, ce, cf, cg, ch⟩ : Cp).L.toArray 33 (0, 0)) := by rw [hw8]; exact heap_alloc_new w7 _
   have hv8 : Below w6.heap.size w6 w8 := bgo HV7.out (hw8 ▸ bal (Below.refl _ _) _)
   have H8 := hid (H6.out.call hv8)
   have K8 := hid (K6.out.call hv8)
   have HX8 := hid hx8
   clear hw8 hx8 hv8 HV7 x0 x1 x2 x3 H6 K6
   generalize w7.heap.size = yB at *
   obtain ⟨x0, x1, x2, x3⟩ := HBX.out w8 H8.out.below
   go_upto_region 12 with (go_at_call 20; (with_reducible refine (HG0.out _ H8.out).mono ?_); rintro e w9 ⟨rfl, hv⟩; have HV9 := hid hv; clear hv)
   obtain ⟨w10, hw10⟩ : ∃ y, y = w9.alloc (.cells #[.int .i64 0, .int .i64 0, .int .i64 0, .int .u64 0, .int .i64 0, .int .i64 0, .int .i64 0, .int .i64 0] 33) := ⟨_, rfl⟩
   rw [← hw10]
   have hx10 : w10.heap[w9.heap.size]? = some (.cells zC.L.toArray 33 (0, 0)) := by rw [hw10]; exact heap_alloc_new w9 _
   have hv10 : Below w8.heap.size w8 w10 := bgo HV9.out (hw10 ▸ bal (Below.refl _ _) _)
   have H10 := hid (H8.out.call hv10)
   have K10 := hid (K8.out.call hv10)
   obtain ⟨y0, y1, y2, y3, y4, y5, y6, y7⟩ := cap_cells ((hv10.block _ (ags HX8.out).1).trans HX8.out)
   obtain ⟨z0, z1, z2, z3, z4, z5, z6, z7⟩ := cap_cells hx10
   obtain ⟨k0, k1, k2, k3, k4, k5, k6, k7⟩ := cap_cells (HRK.out _ K10.out).2.2.2
   simp only [zC] at z0 z1 z2 z3 z4 z5 z6 z7
   clear hw10 hx10 hv10 HV9 x0 x1 x2 x3 H8 K8 HX8
   generalize w9.heap.size = zB at *
   obtain ⟨x0, x1, x2, x3⟩ := HBX.out w10 H10.out.below
   obtain ⟨hqc, hqz⟩ := HQ.out
   go_upto_region 14 with (first
    | (go_at_call 21; (with_reducible refine (HBB.out _ H10.out).mono ?_); rintro e w11 ⟨r11, rfl, hr, hv⟩; have HR11 := hid hr; have H11 := hid (H10.out.call hv); have K11 := hid (K10.out.call hv); clear hr hv)
    | (go_at_call 25; (with_reducible refine (same_slots_t HR11.out (HRK.out _ K11.out).2.2.1 HLN.out.2.2.1).mono ?_); rintro e w12 ⟨rfl, hv⟩; have H12 := hid (H11.out.call hv); have K12 := hid (K11.out.call hv); clear hv))
   clear x0 x1 x2 x3 y0 y1 y2 y3 y4 y5 y6 y7 z0 z1 z2 z3 z4 z5 z6 z7 k0 k1 k2 k3 k4 k5 k6 k7 hqc hqz
   obtain ⟨x0, x1, x2, x3⟩ := HBX.out w12 H12.out.below
   go_wp2_with (first
    | (go_at_call 24; (with_reducible refine (HM2.out _ H12.out).mono ?_); rintro e w13 ⟨rfl, hh, hk⟩; have H13 := hid hh; have K13 := hid (K12.out.turn hk hh); clear hh hk x0 x1 x2 x3)
    | (go_at_call 13; (with_reducible refine (HU2.out _ H13.out).mono ?_); rintro e w14 ⟨r14, rfl, hr, hv⟩; have HR14 := hid hr; have H14 := hid (H13.out.call hv); have K14 := hid (K13.out.call hv); clear hr hv)
    | (go_at_call 18; (with_reducible refine (same_held_t HR14.out (HRK.out _ K14.out).1 HLN.out.1).mono ?_); rintro e w15 ⟨rfl, hv⟩; have H15 := hid (H14.out.call hv); have K15 := hid (K14.out.call hv); clear hv)
    | (go_at_call 14; (with_reducible refine (HT2.out _ H15.out).mono ?_); rintro e w16 ⟨r16, rfl, hr, hv⟩; have HR16 := hid hr; have H16 := hid (H15.out.call hv); have K16 := hid (K15.out.call hv); clear hr hv)
    | (go_at_call 19; (with_reducible refine (same_nodes_t HR16.out (HRK.out _ K16.out).2.1 HLN.out.2.1).mono ?_); rintro e w17 ⟨rfl, hv⟩; have H17 := hid (H16.out.call hv); clear hv)
    | (go_at_call 8; (with_reducible refine (HAW.out _ H17.out.below).mono ?_); rintro e w18 ⟨rfl, hv⟩))
   go_ret
   exact ⟨rfl, bgo (bgo HB0.out H17.out.below) hv⟩
  ·have HM := hid (hmove_no H5.out o i p j hpn)
   generalize pairN L o i p j = k at *
   have hkb : (k == 0) = false := beq_eq_false_iff_ne.2 hpn
   go_wp2_with (first
    | (go_at_call 24; (with_reducible refine HM.out.mono ?_); rintro e w6 ⟨rfl, hv⟩; have HV6 := hid (bgo HV5.out hv); have K6 := hid ((KpM.refl w1 w5).call hv); clear hv x0 x1 x2 x3)
    | (go_at_call 13; (with_reducible refine (HU.out _ HV6.out).mono ?_); rintro e w14 ⟨r14, rfl, hr, hv⟩; have HR14 := hid hr.held; have HV14 := hid (bgo HV6.out hv); have K14 := hid (K6.out.call hv); clear hr hv)
    | (go_at_call 18; (with_reducible refine (same_held_t HR14.out (HRK.out _ K14.out).1 HLN.out.1).mono ?_); rintro e w15 ⟨rfl, hv⟩; have HV15 := hid (bgo HV14.out hv); have K15 := hid (K14.out.call hv); clear hv)
    | (go_at_call 14; (with_reducible refine (HTR.out _ HV15.out).mono ?_); rintro e w16 ⟨r16, rfl, hr, hv⟩; have HR16 := hid hr.nodes; have HV16 := hid (bgo HV15.out hv); have K16 := hid (K15.out.call hv); clear hr hv)
    | (go_at_call 19; (with_reducible refine (same_nodes_t HR16.out (HRK.out _ K16.out).2.1 HLN.out.2.1).mono ?_); rintro e w17 ⟨rfl, hv⟩; have HV17 := hid (bgo HV16.out hv); clear hv)
    | (go_at_call 8; (with_reducible refine (HAW.out _ (bgo HB1.out HV17.out)).mono ?_); rintro e w18 ⟨rfl, hv⟩))
   go_ret
   exact ⟨rfl, bgo (bgo (bgo HB0.out HB1.out) HV17.out) hv⟩
end HdS
end Go.Proofs.YtchjfeafkmpmbaaGreatDoor
