import Derived.Test.YtchjfeafkmpmbaaGreatDoorQku
import Derived.Test.YtchjfeafkmpmbaaGreatDoorHs0
namespace Go.Proofs.YtchjfeafkmpmbaaGreatDoor
set_option linter.unusedVariables false
set_option linter.unusedSimpArgs false
set_option maxRecDepth 100000
set_option maxHeartbeats 8000000
open Lib (hid)
open Go.ChangeShapes Go.WideShapes Go.ChangeAt Go.RowKit Go.Shelf
namespace HdS
open TabS (Cp Sn zC mayC sizS getR getN Two Pr FootP foot_ltP foot_ltR SameS AddRel addSR setN setM rowsS hasS dropSR dropSL heldA hdsC)
variable {W w w' : World} {s : Sh} {hb rhb n n' t : Nat} {L M L' M' : List Sn} {l l2 l' l2' : List Nod} {S T : Nat → Prop}
theorem alike18 (hT0 : CX.TabG W) (ht : t ≤ 110) (h : HSt W s hb rhb t S w) (o i : Int) (ho : InS o) (hi : InS i) :
    Calls Tryz.prog 11 #[.pointer (some ⟨hb, 0, none⟩), .pointer (some ⟨rhb, 0, none⟩), slV o i] w fun e w' => e = .returned (.bool true) ∧ Below w.heap.size w w' := by
  obtain ⟨L, M, l, h0, hI, hsm, hlen⟩ := h
  have hML : M.length = L.length := hsm.len.symm
  have hA := hsm.asc h0.asc
  have hln := h0.lens
  have hroom := TabS.heldA_len L h0.room
  have hb1 : Below w.heap.size w (w.alloc (slO o i)) := bal (Below.refl _ _) _
  obtain ⟨w1, hw1⟩ : ∃ y, y = w.alloc (slO o i) := ⟨_, rfl⟩
  have hs1 : w1.heap[w.heap.size]? = some (.cells #[.int .i64 o, .int .i64 i] 30 (0, 0)) := by rw [hw1]; exact heap_alloc_new w _
  rw [← hw1] at hb1
  have h1 := h0.call hb1
  have HB1 := hid hb1
  have HS1 := hid hs1
  have HG := hid (hget h1 o i)
  have HE : Hid (∀ v, Below w1.heap.size w1 v → Hd W s hb rhb (2 * t) L M l l S v) := hid (fun v hv => h1.call hv)
  have hgM : gt M o i = gt L o i := gt_same hsm o i
  have hnM : gn M o i = gn L o i := gn_same hsm o i
  have HG2 : Hid (∀ v, Below w1.heap.size w1 v → Calls Tryz.prog 47 #[.pointer (some ⟨s.srb, 0, none⟩), .agg #[.int .i64 o, .int .i64 i]] v fun e w' => e = .returned (.tuple #[(gt L o i).V, .int .i64 (gn L o i)]) ∧ Below v.heap.size v w') := hid (fun v hv => by rw [← hgM, ← hnM]; exact (HE.out v hv).bo.rget hA (by omega) o i)
  have HU : Hid (∀ v, Below w1.heap.size w1 v → Calls Tryz.prog 13 #[.pointer (some ⟨hb, 0, none⟩)] v fun e w' => ∃ r, e = .returned r ∧ RwS w1.heap.size w' 46 10 r (heldA L).length (hdsC (heldA L)) ∧ Below v.heap.size v w') := hid (fun v hv => (hused (HE.out v hv) (by omega)).mono (fun e w' ⟨r, e1, e2, e3⟩ => ⟨r, e1, ⟨_, hv.size, e2⟩, e3⟩))
  have HT : Hid (∀ v, Below w1.heap.size w1 v → Calls Tryz.prog 14 #[.pointer (some ⟨hb, 0, none⟩)] v fun e w' => ∃ r, e = .returned r ∧ RwS w1.heap.size w' 44 3 r l.length (nodsC l) ∧ Below v.heap.size v w') := hid (fun v hv => (htree (HE.out v hv) (by omega)).mono (fun e w' ⟨r, e1, e2, e3⟩ => ⟨r, e1, ⟨_, hv.size, e2⟩, e3⟩))
  have HN : Hid (∀ v, Below w1.heap.size w1 v → Calls Tryz.prog 21 #[.pointer (some ⟨hb, 0, none⟩), slV o i] v fun e w' => ∃ r, e = .returned r ∧ RwS w1.heap.size w' 30 2 r (belowA l o i).length (slsC (belowA l o i)) ∧ Below v.heap.size v w') := hid (fun v hv => (hunder (HE.out v hv) o i ho hi (by omega)).mono (fun e w' ⟨r, e1, e2, e3⟩ => ⟨r, e1, ⟨_, hv.size, e2⟩, e3⟩))
  have HRU : Hid (∀ v, Below w1.heap.size w1 v → Calls Tryz.prog 48 #[.pointer (some ⟨s.srb, 0, none⟩)] v fun e w' => ∃ r, e = .returned r ∧ HeldAt w' r (heldA L) ∧ Below v.heap.size v w') := hid (fun v hv => by
    refine ((HE.out v hv).bo.rused (by omega)).mono ?_
    rintro e w' ⟨r, rfl, q1, q2⟩
    rw [← hsm.held] at q1
    exact ⟨r, rfl, held_row q1, q2⟩)
  have HPU : Hid (∀ v, Below w1.heap.size w1 v → Calls Tryz.prog 52 #[.pointer (some ⟨s.sb, 0, none⟩)] v fun e w' => ∃ r, e = .returned r ∧ HeldAt w' r (heldA L) ∧ Below v.heap.size v w') := hid (fun v hv => by
    refine ((HE.out v hv).bo.used (by omega)).mono ?_
    rintro e w' ⟨r, rfl, q1, q2⟩
    exact ⟨r, rfl, held_row q1, q2⟩)
  have HPS : Hid (∀ v, Below w1.heap.size w1 v → Calls Tryz.prog 51 #[.pointer (some ⟨hb, 0, none⟩)] v fun e w' => e = .returned (.pointer (some ⟨s.sb, 0, none⟩)) ∧ v = w') := hid (fun v hv => hslots (HE.out v hv))
  have HRN : Hid (∀ v, Below w1.heap.size w1 v → Calls Tryz.prog 49 #[.pointer (some ⟨s.trb, 0, none⟩), slV o i] v fun e w' => ∃ r, e = .returned r ∧ SlotsAt w' r (belowA l o i) ∧ Below v.heap.size v w') := hid (fun v hv => (HE.out v hv).bo.runder o i)
  obtain ⟨fb, hfb⟩ : ∃ y, y = finB L o i := ⟨_, rfl⟩
  have HPF : Hid (∀ v, Below w1.heap.size w1 v → Calls Tryz.prog 26 #[.pointer (some ⟨hb, 0, none⟩), slV o i] v fun e w' => e = .returned (.bool fb) ∧ Below v.heap.size v w') := hid (fun v hv => by rw [hfb]; exact hfinal (HE.out v hv) hT0 o i (hI.e o i) (fun k => hI.he k) (by omega) (by omega))
  have HRF : Hid (∀ v, Below w1.heap.size w1 v → Calls Tryz.prog 50 #[.pointer (some ⟨rhb, 0, none⟩), slV o i] v fun e w' => e = .returned (.bool fb) ∧ Below v.heap.size v w') := hid (fun v hv => by rw [hfb, ← fin_same hsm]; exact rfinal (HE.out v hv) hA o i (by omega) (by rw [← hsm.held]; omega))
  obtain ⟨v, hv0, hv1, hv2⟩ := h1.bo.list
  have HTL := hid (And.intro hv0 hv2)
  have HNV := hid (nodes_row hv1)
  have HLN : Hid ((heldA L).length < 1000000 ∧ l.length ≤ 1000 ∧ (belowA l o i).length ≤ 1000) := hid ⟨by omega, by omega, by have := belowA_len l o i; omega⟩
  have HRC := hid h1.rc
  have hq : ∀ v, (binOp .eql 33 (gt L o i).V (gt L o i).V).run Tryz.prog v = .ok (.bool true) v := fun v => TabS.eqCp _ v
  have hqb : ∀ v, (binOp .eql 4 (.bool fb) (.bool fb)).run Tryz.prog v = .ok (.bool true) v := fun v => by cases fb <;> kernel_rfl
  generalize gt L o i = c at *
  generalize gn L o i = cn at *
  generalize heldA L = H at *
  generalize belowA l o i = bl at *
  obtain ⟨ca, cb, cx, cd, ce, cf, cg, ch⟩ := c
  simp only [TabS.Cp.V] at hq
  have HQ := hid (And.intro hq hqb)
  obtain ⟨k0, k1⟩ := slot_cells hs1
  have HW := hid hw1
  clear h0 h1 hI hsm hML hA hln hroom hb1 hw1 hs1 hgM hnM hfb hv0 hv1 hv2 hq hqb hT0 ht hlen ho hi
  go_enter Tryz.func11, Tryz.ntmps11
  go_upto_region 1 with fail
  rw [show (w.alloc (slO o i)) = w1 from HW.out.symm]
  go_upto_region 2 with (go_at_call 20; (with_reducible refine HG.out.mono ?_); rintro e w2 ⟨rfl, hb2⟩; have HB2 := hid hb2; clear hb2)
  obtain ⟨w3, hw3⟩ : ∃ y, y = w2.alloc (.cells #[.int .i64 ca, .int .i64 cb, .int .i64 cx, .int .u64 cd, .int .i64 ce, .int .i64 cf, .int .i64 cg, .int .i64 ch] 33) := ⟨_, rfl⟩
  have hb3 : Below w1.heap.size w1 w3 := hw3 ▸ bal HB2.out _
  have hx3 : w3.heap[w2.heap.size]? = some (.cells (⟨ca, cb, cx, cd, ce, cf, cg, ch⟩ : Cp).L.toArray 33 (0, 0)) := by rw [hw3]; exact heap_alloc_new w2 _
  have HX3 := hid hx3
  have HB3 := hid hb3
  have hs3 := (hb3.block _ (ags HS1.out).1).trans HS1.out
  have HS3 := hid hs3
  rw [← hw3]
  generalize w2.heap.size = xB at *
  have KS : Hid (∀ u, Below w3.heap.size w3 u → u.cell? ⟨rhb, 0, none⟩ = some (.pointer (some ⟨s.srb, 0, none⟩)) ∧ u.cell? ⟨w.heap.size, 0, none⟩ = some (.int .i64 o) ∧ u.cell? ⟨w.heap.size, 1, none⟩ = some (.int .i64 i)) := hid (fun u hu => ⟨(HE.out u (bgo hb3 hu)).rc.1, (slot_cells ((hu.block _ (ags HS3.out).1).trans HS3.out)).1, (slot_cells ((hu.block _ (ags HS3.out).1).trans HS3.out)).2⟩)
  have HG3 : Hid (∀ u, Below w3.heap.size w3 u → Calls Tryz.prog 47 #[.pointer (some ⟨s.srb, 0, none⟩), .agg #[.int .i64 o, .int .i64 i]] u fun e w' => e = .returned (.tuple #[.agg #[.int .i64 ca, .int .i64 cb, .int .i64 cx, .int .u64 cd, .int .i64 ce, .int .i64 cf, .int .i64 cg, .int .i64 ch], .int .i64 cn]) ∧ Below u.heap.size u w') := hid (fun u hu => HG2.out u (bgo hb3 hu))
  clear hw3 hb3 hx3 hs3 k0 k1 HG HB2 HG2
  have HZA : Hid (∀ w4, Below (w3.alloc (.cells #[.int .i64 0, .int .i64 0, .int .i64 0, .int .u64 0, .int .i64 0, .int .i64 0, .int .i64 0, .int .i64 0] 33)).drew.heap.size (w3.alloc (.cells #[.int .i64 0, .int .i64 0, .int .i64 0, .int .u64 0, .int .i64 0, .int .i64 0, .int .i64 0, .int .i64 0] 33)).drew w4 → w4.heap[w3.heap.size]? = some (.cells zC.L.toArray 33 (0, 0))) := hid (fun w4 hb => (hb.block w3.heap.size (by simp)).trans (heap_alloc_new w3 (.cells #[.int .i64 0, .int .i64 0, .int .i64 0, .int .u64 0, .int .i64 0, .int .i64 0, .int .i64 0, .int .i64 0] 33)))
  go_cut [9, 10] from 15 to 102 (fun y er wc => ∃ yB : Nat, y = .pointer (some ⟨yB, 0, none⟩) ∧ er = .int .i64 cn ∧ Hid (Below w3.heap.size w3 wc) ∧ Hid (wc.heap[yB]? = some (.cells (⟨ca, cb, cx, cd, ce, cf, cg, ch⟩ : Cp).L.toArray 33 (0, 0))))
  case first =>
    go_region_held3 (fun v => v.cell? ⟨rhb, 0, none⟩ = some (.pointer (some ⟨s.srb, 0, none⟩)) ∧ v.cell? ⟨w.heap.size, 0, none⟩ = some (.int .i64 o) ∧ v.cell? ⟨w.heap.size, 1, none⟩ = some (.int .i64 i))
      (first | (with_reducible exact KL.out) | ((with_reducible refine KS.out _ ?_); (repeat (first | (with_reducible exact Below.refl _ _) | (with_reducible refine Below.drew ?_) | (with_reducible refine bal ?_ _) | (with_reducible refine bgo ?_ HB4.out)))))
      (first
        | (go_at_call 47; (with_reducible refine (HG3.out w3.drew (Below.refl _ _).drew).mono ?_); rintro e w4 ⟨rfl, hb4⟩; have HB4 := hid (show Below w3.heap.size w3 w4 from (Below.refl _ _).drew.trans hb4); clear hb4)
        | (go_at_call 47; (with_reducible refine (HG3.out (w3.alloc (.cells #[.int .i64 0, .int .i64 0, .int .i64 0, .int .u64 0, .int .i64 0, .int .i64 0, .int .i64 0, .int .i64 0] 33)).drew (bal (Below.refl _ _) _).drew).mono ?_); rintro e w4 ⟨rfl, hb4⟩; have HB4 := hid (show Below w3.heap.size w3 w4 from bgo (bal (Below.refl _ _) _).drew hb4); have HSB := hid (HZA.out w4 hb4); obtain ⟨z0, z1, z2, z3, z4, z5, z6, z7⟩ := cap_cells HSB.out; have g0 := cap_froz HSB.out 0; have g1 := cap_froz HSB.out 1; have g2 := cap_froz HSB.out 2; have g3 := cap_froz HSB.out 3; have g4 := cap_froz HSB.out 4; have g5 := cap_froz HSB.out 5; have g6 := cap_froz HSB.out 6; have g7 := cap_froz HSB.out 7; have kl := KS.out _ (lay8_below (k := w3.heap.size) ⟨ca, cb, cx, cd, ce, cf, cg, ch⟩ HB4.out (Nat.le_refl _)); simp only [lay8] at kl; have KL := hid kl; clear hb4 kl))
    all_goals
      go_wp2_with fail
      go_meet
      first
        | (have hx := lay8_same ⟨ca, cb, cx, cd, ce, cf, cg, ch⟩ HSB.out
           have hl := lay8_below (k := w3.heap.size) ⟨ca, cb, cx, cd, ce, cf, cg, ch⟩ HB4.out (Nat.le_refl _)
           simp only [lay8] at hx hl
           exact ⟨w3.heap.size, rfl, rfl, hid hl, hid hx⟩)
        | (have hx := heap_alloc_new w4 (.cells #[.int .i64 ca, .int .i64 cb, .int .i64 cx, .int .u64 cd, .int .i64 ce, .int .i64 cf, .int .i64 cg, .int .i64 ch] 33)
           exact ⟨w4.heap.size, rfl, rfl, hid (bal HB4.out _), hid hx⟩)
  case rest =>
  obtain ⟨yB, rfl, rfl, HBc, HYc⟩ := hcut
  have HBw := hid (bgo HB3.out HBc.out)
  have HSc := hid ((HBc.out.block _ (ags HS3.out).1).trans HS3.out)
  have HXc := hid ((HBc.out.block _ (ags HX3.out).1).trans HX3.out)
  clear KS HG3 HZA
  have KQ : Hid (∀ u, Below w1.heap.size w1 u → u.cell? ⟨w.heap.size, 0, none⟩ = some (.int .i64 o) ∧ u.cell? ⟨w.heap.size, 1, none⟩ = some (.int .i64 i)) := hid (fun u hu => ⟨(slot_cells ((hu.block _ (ags HS1.out).1).trans HS1.out)).1, (slot_cells ((hu.block _ (ags HS1.out).1).trans HS1.out)).2⟩)
  go_upto_region 3 with fail
  go_cut [11, 12, 13] from 15 to 102 (fun u t d wd => Hid (RwS w1.heap.size wd 46 10 u H.length (hdsC H) ∧ RwS w1.heap.size wd 44 3 t l.length (nodsC l) ∧ RwS w1.heap.size wd 30 2 d bl.length (slsC bl) ∧ Below wc.heap.size wc wd))
  case first =>
    have HBwd := HBw
    go_region_held3 (fun v => v.cell? ⟨w.heap.size, 0, none⟩ = some (.int .i64 o) ∧ v.cell? ⟨w.heap.size, 1, none⟩ = some (.int .i64 i))
      (first | ((with_reducible refine KQ.out _ ?_); (repeat (first | (with_reducible refine Below.drew ?_) | (with_reducible refine bgo ?_ HV1.out) | (with_reducible refine bgo ?_ HV2.out) | (with_reducible refine bgo ?_ HV3.out))); (with_reducible exact HBw.out)))
      (first
        | (go_at_call 13; (with_reducible refine (HU.out _ (by (repeat (first | (with_reducible refine Below.drew ?_) | (with_reducible refine bgo ?_ HV1.out) | (with_reducible refine bgo ?_ HV2.out) | (with_reducible refine bgo ?_ HV3.out))); (with_reducible exact HBw.out))).mono ?_); rintro e a1 ⟨r1, rfl, hr, hv⟩; have HV1 := hid hv; have HR1 := hid hr; clear hr hv)
        | (go_at_call 14; (with_reducible refine (HT.out _ (by (repeat (first | (with_reducible refine Below.drew ?_) | (with_reducible refine bgo ?_ HV1.out) | (with_reducible refine bgo ?_ HV2.out) | (with_reducible refine bgo ?_ HV3.out))); (with_reducible exact HBw.out))).mono ?_); rintro e a2 ⟨r2, rfl, hr, hv⟩; have HV2 := hid hv; have HR2 := hid hr; clear hr hv)
        | (go_at_call 21; (with_reducible refine (HN.out _ (by (repeat (first | (with_reducible refine Below.drew ?_) | (with_reducible refine bgo ?_ HV1.out) | (with_reducible refine bgo ?_ HV2.out) | (with_reducible refine bgo ?_ HV3.out))); (with_reducible exact HBw.out))).mono ?_); rintro e a3 ⟨r3, rfl, hr, hv⟩; have HV3 := hid hv; have HR3 := hid hr; clear hr hv))
    all_goals
      go_wp2_with fail
      go_meet
      refine hid ⟨HR1.out.call ?_, HR2.out.call ?_, HR3.out.call ?_, ?_⟩
      all_goals (repeat (first | (with_reducible exact Below.refl _ _) | (with_reducible refine Below.drew ?_) | (with_reducible refine bal ?_ _) | (with_reducible refine bgo ?_ HV1.out) | (with_reducible refine bgo ?_ HV2.out) | (with_reducible refine bgo ?_ HV3.out)))
  case rest =>
  have HBd : Hid (Below w1.heap.size w1 wc) := hid (bgo HBw.out hcut.out.2.2.2)
  have HYd := hid ((hcut.out.2.2.2.block _ (ags HYc.out).1).trans HYc.out)
  have HXd := hid ((hcut.out.2.2.2.block _ (ags HXc.out).1).trans HXc.out)
  have HRA := hid hcut.out.1
  have HRB := hid hcut.out.2.1
  have HRD := hid hcut.out.2.2.1
  have HLN2 : Hid (l.length < 1000000 ∧ bl.length < 1000000 ∧ H.length ≤ 1000000) := hid ⟨by have := HLN.out.2.1; omega, by have := HLN.out.2.2; omega, by have := HLN.out.1; omega⟩
  clear HBc HYc HBw HSc HXc KQ HU HT HN hcut
  have KC : Hid (∀ u, Below wc.heap.size wc u → u.cell? ⟨w.heap.size, 0, none⟩ = some (.int .i64 o) ∧ u.cell? ⟨w.heap.size, 1, none⟩ = some (.int .i64 i) ∧ u.cell? ⟨rhb, 0, none⟩ = some (.pointer (some ⟨s.srb, 0, none⟩)) ∧ u.cell? ⟨rhb, 1, none⟩ = some (.pointer (some ⟨s.trb, 0, none⟩)) ∧ u.cell? ⟨s.trb, 0, none⟩ = some v ∧ u.cell? ⟨xB, 0, none⟩ = some (.int .i64 ca) ∧ u.cell? ⟨xB, 1, none⟩ = some (.int .i64 cb) ∧ u.cell? ⟨xB, 2, none⟩ = some (.int .i64 cx) ∧ u.cell? ⟨xB, 3, none⟩ = some (.int .u64 cd) ∧ u.cell? ⟨xB, 4, none⟩ = some (.int .i64 ce) ∧ u.cell? ⟨xB, 5, none⟩ = some (.int .i64 cf) ∧ u.cell? ⟨xB, 6, none⟩ = some (.int .i64 cg) ∧ u.cell? ⟨xB, 7, none⟩ = some (.int .i64 ch) ∧ u.cell? ⟨yB, 0, none⟩ = some (.int .i64 ca) ∧ u.cell? ⟨yB, 1, none⟩ = some (.int .i64 cb) ∧ u.cell? ⟨yB, 2, none⟩ = some (.int .i64 cx) ∧ u.cell? ⟨yB, 3, none⟩ = some (.int .u64 cd) ∧ u.cell? ⟨yB, 4, none⟩ = some (.int .i64 ce) ∧ u.cell? ⟨yB, 5, none⟩ = some (.int .i64 cf) ∧ u.cell? ⟨yB, 6, none⟩ = some (.int .i64 cg) ∧ u.cell? ⟨yB, 7, none⟩ = some (.int .i64 ch)) := hid (fun u hu => by
    obtain ⟨q1, q2, -⟩ := (HE.out u (bgo HBd.out hu)).rc
    obtain ⟨x0, x1, x2, x3, x4, x5, x6, x7⟩ := cap_cells ((hu.block _ (ags HXd.out).1).trans HXd.out)
    obtain ⟨p0, p1⟩ := slot_cells (((bgo HBd.out hu).block _ (ags HS1.out).1).trans HS1.out)
    exact ⟨p0, p1, q1, q2, ((bgo HBd.out hu).cell (World.block_lt_of_cell? _ _ HTL.out.1)).trans HTL.out.1, x0, x1, x2, x3, x4, x5, x6, x7, cap_cells ((hu.block _ (ags HYd.out).1).trans HYd.out)⟩)
  have HK : Hid (∀ u, Below wc.heap.size wc u → HeldAt u u11 H ∧ NodesAt u u12 l ∧ SlotsAt u u13 bl ∧ NodesAt u v l) := hid (fun u hu => ⟨(HRA.out.call hu).held, (HRB.out.call hu).nodes, (HRD.out.call hu).slots, HNV.out.call (bgo HBd.out hu)⟩)
  go_upto_region 4 with fail
  go_cut [14] from 15 to 102 (fun ok wd => ok = .bool true ∧ Hid (Below wc.heap.size wc wd))
  case first =>
    obtain ⟨hq, hqb⟩ := HQ.out
    have HV := hid (Below.refl wc.heap.size wc).drew
    go_region_held3 (fun u => u.cell? ⟨w.heap.size, 0, none⟩ = some (.int .i64 o) ∧ u.cell? ⟨w.heap.size, 1, none⟩ = some (.int .i64 i) ∧ u.cell? ⟨rhb, 0, none⟩ = some (.pointer (some ⟨s.srb, 0, none⟩)) ∧ u.cell? ⟨rhb, 1, none⟩ = some (.pointer (some ⟨s.trb, 0, none⟩)) ∧ u.cell? ⟨s.trb, 0, none⟩ = some v ∧ u.cell? ⟨xB, 0, none⟩ = some (.int .i64 ca) ∧ u.cell? ⟨xB, 1, none⟩ = some (.int .i64 cb) ∧ u.cell? ⟨xB, 2, none⟩ = some (.int .i64 cx) ∧ u.cell? ⟨xB, 3, none⟩ = some (.int .u64 cd) ∧ u.cell? ⟨xB, 4, none⟩ = some (.int .i64 ce) ∧ u.cell? ⟨xB, 5, none⟩ = some (.int .i64 cf) ∧ u.cell? ⟨xB, 6, none⟩ = some (.int .i64 cg) ∧ u.cell? ⟨xB, 7, none⟩ = some (.int .i64 ch) ∧ u.cell? ⟨yB, 0, none⟩ = some (.int .i64 ca) ∧ u.cell? ⟨yB, 1, none⟩ = some (.int .i64 cb) ∧ u.cell? ⟨yB, 2, none⟩ = some (.int .i64 cx) ∧ u.cell? ⟨yB, 3, none⟩ = some (.int .u64 cd) ∧ u.cell? ⟨yB, 4, none⟩ = some (.int .i64 ce) ∧ u.cell? ⟨yB, 5, none⟩ = some (.int .i64 cf) ∧ u.cell? ⟨yB, 6, none⟩ = some (.int .i64 cg) ∧ u.cell? ⟨yB, 7, none⟩ = some (.int .i64 ch))
      (first | (with_reducible exact KC.out _ HV.out) | (with_reducible exact KC.out _ (Below.refl _ _)) | (with_reducible exact KC.out _ HV.out.drew))
      (first
        | (go_at_call 33; (with_reducible refine (TabS.num_s _ _).mono ?_); rintro e z ⟨rfl, rfl⟩)
        | (go_at_call 48; have HR9 := HV5; (with_reducible refine (HRU.out _ (bgo HBd.out HV.out)).mono ?_); rintro e a9 ⟨r9, rfl, hr, hv⟩; have HR9 := hid hr; (try have HR8 := hid (HR8.out.call hv)); have HV := hid (bgo HV.out hv); clear hr hv)
        | (go_at_call 48; (with_reducible refine (HRU.out _ (bgo HBd.out HV.out)).mono ?_); rintro e a1 ⟨r1, rfl, hr, hv⟩; have HR1 := hid hr; have HV := hid (bgo HV.out hv); clear hr hv)
        | (go_at_call 18; (with_reducible refine (same_held_t HR8.out HR9.out HLN.out.1).mono ?_); rintro e a10 ⟨rfl, hv⟩; have HV := hid (bgo HV.out hv); clear hv)
        | (go_at_call 18; (with_reducible refine (same_held_t (HK.out _ HV.out).1 HR1.out HLN.out.1).mono ?_); rintro e a2 ⟨rfl, hv⟩; have HV := hid (bgo HV.out hv); clear hv)
        | (go_at_call 19; (with_reducible refine (same_nodes_t (HK.out _ HV.out).2.1 (HK.out _ HV.out).2.2.2 HLN2.out.1).mono ?_); rintro e a3 ⟨rfl, hv⟩; have HV := hid (bgo HV.out hv); clear hv)
        | (go_at_call 49; (with_reducible refine (HRN.out _ (bgo HBd.out HV.out)).mono ?_); rintro e a4 ⟨r4, rfl, hr, hv⟩; have HR4 := hid hr; have HV := hid (bgo HV.out hv); clear hr hv)
        | (go_at_call 25; (with_reducible refine (same_slots_t (HK.out _ HV.out).2.2.1 HR4.out HLN2.out.2.1).mono ?_); rintro e a5 ⟨rfl, hv⟩; have HV := hid (bgo HV.out hv); have HV5 := HV; clear hv)
        | (go_at_call 26; (with_reducible refine (HPF.out _ (bgo HBd.out HV.out)).mono ?_); rintro e a6 ⟨rfl, hv⟩; have HV := hid (bgo HV.out hv); clear hv)
        | (go_at_call 50; (with_reducible refine (HRF.out _ (bgo HBd.out HV.out)).mono ?_); rintro e a7 ⟨rfl, hv⟩; have HV := hid (bgo HV.out hv); clear hv)
        | (go_at_call 51; (with_reducible refine (HPS.out _ (bgo HBd.out HV.out)).mono ?_); rintro e z ⟨rfl, rfl⟩)
        | (go_at_call 52; (with_reducible refine (HPU.out _ (bgo HBd.out HV.out)).mono ?_); rintro e a8 ⟨r8, rfl, hr, hv⟩; have HR8 := hid hr; (try have HR9 := hid (HR9.out.call hv)); have HV := hid (bgo HV.out hv); clear hr hv))
    all_goals
      go_wp2_with fail
      go_meet
      exact ⟨rfl, HV⟩
  case rest =>
  obtain ⟨rfl, HBe⟩ := hcut
  have HRA1 := hid (HRA.out.call HBe.out)
  have HRB1 := hid (HRB.out.call HBe.out)
  have HRD1 := hid (HRD.out.call HBe.out)
  have HBf := hid (bgo HBd.out HBe.out)
  clear HRA HRB HRD HBd HBe KC HK HYd HXd
  go_wp2_with (first
    | (go_at_call 53; (with_reducible refine (TabS.over_hs _ _ _ _ 0 HRA1.out.row HLN2.out.2.2).mono ?_); rintro e b1 ⟨⟨z1, rfl⟩, hg⟩; have HBg := hid (HRA1.out.grown rfl HBf.out hg); have HRB2 := hid (HRB1.out.over HRA1.out (by decide) hg); have HRD2 := hid (HRD1.out.over HRA1.out (by decide) hg); clear hg)
    | (go_at_call 54; (with_reducible refine (over_nodes _ _ l _ HRB2.out.row HLN.out.2.1).mono ?_); rintro e b2 ⟨⟨z2, rfl⟩, hg⟩; have HBh := hid (HRB2.out.grown rfl HBg.out hg); have HRD3 := hid (HRD2.out.over HRB2.out (by decide) hg); clear hg)
    | (go_at_call 55; (with_reducible refine (over_slots _ _ bl _ HRD3.out.row HLN.out.2.2).mono ?_); rintro e b3 ⟨⟨z3, rfl⟩, hg⟩; have HBi := hid (HRD3.out.grown rfl HBh.out hg); clear hg))
  go_ret
  exact ⟨rfl, bgo HB1.out HBi.out⟩
end HdS
end Go.Proofs.YtchjfeafkmpmbaaGreatDoor
