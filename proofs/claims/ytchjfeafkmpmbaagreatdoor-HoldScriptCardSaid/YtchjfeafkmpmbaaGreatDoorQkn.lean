import Derived.Test.YtchjfeafkmpmbaaGreatDoorQkm
import Derived.BigQuiet
namespace Go.Proofs.YtchjfeafkmpmbaaGreatDoor
set_option linter.unusedVariables false
set_option linter.unusedSimpArgs false
set_option maxRecDepth 100000
set_option maxHeartbeats 8000000
open Lib (hid)
open Go.ChangeShapes Go.WideShapes Go.ChangeAt Go.RowKit Go.Shelf
section
namespace HdS
open TabS (Cp Sn zC mayC sizS getR getN Two Pr FootP foot_ltP foot_ltR SameS AddRel addSR setN setM rowsS hasS dropSR dropSL heldA hdsC)
variable {W w w' : World} {s : Sh} {hb rhb n n' : Nat} {L M L' M' : List Sn} {l l2 l' l2' : List Nod} {S : Nat → Prop}
section
variable {P : Program} {ops : Array Oper} {rest : List Oper} {o : Oper} {a : Act} {C : World → Prop}
theorem quietV {K : Act → Prop} (ty : TypeId) (x : Operand) (ho : o.op = .load ty x) (p : Addr) (hx : a.eval x = .pointer (some p)) (v : Value) (hc : ∀ w, C w → (loadVar ty p).run P w = .ok v w)
  (hk : K (a.put o.dst v)) : o.quiet P a C K := by
 refine ⟨_, fun w hw => ?_, hk⟩
 have hrun := hc w hw
 unfold Oper.quietAt execOp
 simp only [ho, hx, Instr.loadAt, Instr.sureAddr, Sem.run_bind, Sem.run_pure, Result.andThen_ok, hrun]
 exact ⟨rfl, rfl⟩
end
theorem ldS {w : World} {k : Nat} {o i : Int} (h : w.heap[k]? = some (.cells #[.int .i64 o, .int .i64 i] 30 (0, 0))) : (loadVar 30 ⟨k, 0, none⟩).run Tryz.prog w = .ok (slV o i) w := by
 obtain ⟨c0, c1⟩ := slot_cells h
 go_simp
theorem ldC {w : World} {k : Nat} {c : Cp} (h : w.heap[k]? = some (.cells c.L.toArray 33 (0, 0))) : (loadVar 33 ⟨k, 0, none⟩).run Tryz.prog w = .ok c.V w := by
 obtain ⟨c0, c1, c2, c3, c4, c5, c6, c7⟩ := cap_cells h
 go_simp
theorem has_gn (L : List Sn) (o i : Int) : (getR L o i).isSome = decide (gn L o i = 0) := by
 unfold gn getN
 cases getR L o i <;> rfl
theorem rhas (h : Hd W s hb rhb n L M l l2 S w) (hA : Asc (rowsS M)) (hl : M.length < 1000000) (o i : Int) :
  Calls Tryz.prog 79 #[.pointer (some ⟨s.srb, 0, none⟩), slV o i] w fun e w' => e = .returned (.bool (decide (gn M o i = 0))) ∧ Below w.heap.size w w' := by
 rw [← has_gn]
 exact h.bo.rhas hA hl o i
theorem rcap (h : Hd W s hb rhb n L M l l2 S w) (hA : Asc (rowsS M)) (hl : M.length < 1000000) (o i : Int) :
  Calls Tryz.prog 81 #[.pointer (some ⟨rhb, 0, none⟩), slV o i] w fun e w' => e = .returned (gt M o i).V ∧ Below w.heap.size w w' := by
 obtain ⟨hb1, hs1, hc1⟩ := two_boxes w o i
 obtain ⟨w1, hw1⟩ : ∃ y, y = (w.alloc (slO o i)).alloc (.cells zC.L.toArray 33) := ⟨_, rfl⟩
 rw [← hw1] at hb1 hs1 hc1
 have H1 := hid (h.call hb1)
 have HB1 := hid hb1
 have HC1 := hid hc1
 have HG : Hid (∀ v, Below w1.heap.size w1 v → Calls Tryz.prog 47 #[.pointer (some ⟨s.srb, 0, none⟩), .agg #[.int .i64 o, .int .i64 i]] v fun e w' => e = .returned (.tuple #[(gt M o i).V, .int .i64 (gn M o i)]) ∧ Below v.heap.size v w') := hid (fun v hv => (H1.out.call hv).bo.rget hA hl o i)
 have KS : Hid (∀ v, Below w1.heap.size w1 v → v.cell? ⟨rhb, 0, none⟩ = some (.pointer (some ⟨s.srb, 0, none⟩)) ∧ v.cell? ⟨w.heap.size, 0, none⟩ = some (.int .i64 o) ∧ v.cell? ⟨w.heap.size, 1, none⟩ = some (.int .i64 i)) := hid (fun v hv => ⟨(H1.out.call hv).rc.1, (slot_cells ((hv.block _ (ags hs1).1).trans hs1)).1, (slot_cells ((hv.block _ (ags hs1).1).trans hs1)).2⟩)
 have K1 := hid (KS.out w1 (Below.refl _ _))
 generalize gt M o i = c at *
 generalize gn M o i = cn at *
 obtain ⟨ca, cb, cx, cd, ce, cf, cg, ch⟩ := c
 have HZ1 := hid (ags hc1).1
 have HW := hid hw1
 clear h hb1 hs1 hc1 hw1 hA hl
 go_enter Tryz.func81, Tryz.ntmps81
 go_upto_region 1 with fail
 rw [show ((w.alloc (slO o i)).alloc (.cells #[.int .i64 0, .int .i64 0, .int .i64 0, .int .u64 0, .int .i64 0, .int .i64 0, .int .i64 0, .int .i64 0] 33)) = w1 from HW.out.symm]
 have D1 := hid (show Below w1.heap.size w1 w1.drew from (Below.refl _ _).drew)
 have D2 := hid (show Below w1.heap.size w1 (w1.alloc (.cells #[.int .i64 0, .int .i64 0, .int .i64 0, .int .u64 0, .int .i64 0, .int .i64 0, .int .i64 0, .int .i64 0] 33)).drew from (bal (Below.refl _ _) _).drew)
 have K1d : Hid (w1.drew.cell? ⟨rhb, 0, none⟩ = some (.pointer (some ⟨s.srb, 0, none⟩)) ∧ w1.drew.cell? ⟨w.heap.size, 0, none⟩ = some (.int .i64 o) ∧ w1.drew.cell? ⟨w.heap.size, 1, none⟩ = some (.int .i64 i)) := hid K1.out
 have KA : Hid ((w1.alloc (.cells #[.int .i64 0, .int .i64 0, .int .i64 0, .int .u64 0, .int .i64 0, .int .i64 0, .int .i64 0, .int .i64 0] 33)).cell? ⟨rhb, 0, none⟩ = some (.pointer (some ⟨s.srb, 0, none⟩)) ∧ (w1.alloc (.cells #[.int .i64 0, .int .i64 0, .int .i64 0, .int .u64 0, .int .i64 0, .int .i64 0, .int .i64 0, .int .i64 0] 33)).cell? ⟨w.heap.size, 0, none⟩ = some (.int .i64 o) ∧ (w1.alloc (.cells #[.int .i64 0, .int .i64 0, .int .i64 0, .int .u64 0, .int .i64 0, .int .i64 0, .int .i64 0, .int .i64 0] 33)).cell? ⟨w.heap.size, 1, none⟩ = some (.int .i64 i)) := hid (KS.out _ (bal (Below.refl _ _) _))
 have KAd : Hid ((w1.alloc (.cells #[.int .i64 0, .int .i64 0, .int .i64 0, .int .u64 0, .int .i64 0, .int .i64 0, .int .i64 0, .int .i64 0] 33)).drew.cell? ⟨rhb, 0, none⟩ = some (.pointer (some ⟨s.srb, 0, none⟩)) ∧ (w1.alloc (.cells #[.int .i64 0, .int .i64 0, .int .i64 0, .int .u64 0, .int .i64 0, .int .i64 0, .int .i64 0, .int .i64 0] 33)).drew.cell? ⟨w.heap.size, 0, none⟩ = some (.int .i64 o) ∧ (w1.alloc (.cells #[.int .i64 0, .int .i64 0, .int .i64 0, .int .u64 0, .int .i64 0, .int .i64 0, .int .i64 0, .int .i64 0] 33)).drew.cell? ⟨w.heap.size, 1, none⟩ = some (.int .i64 i)) := hid KA.out
 go_region_held3 (fun w' => w'.cell? ⟨rhb, 0, none⟩ = some (.pointer (some ⟨s.srb, 0, none⟩)) ∧ w'.cell? ⟨w.heap.size, 0, none⟩ = some (.int .i64 o) ∧ w'.cell? ⟨w.heap.size, 1, none⟩ = some (.int .i64 i))
  (first | (with_reducible exact K1.out) | (with_reducible exact K1d.out) | (with_reducible exact KA.out) | (with_reducible exact KAd.out) | (with_reducible exact K3.out) | (with_reducible exact KB.out _) | (with_reducible exact KL.out))
  (first
   | (go_at_call 47; (with_reducible refine (HG.out _ D1.out).mono ?_); rintro e w3 ⟨rfl, hb3⟩; have HB3 := hid (show Below w1.heap.size w1 w3 from D1.out.trans hb3); have K3 := hid (KS.out w3 HB3.out); have KB : Hid (∀ x, (w3.alloc x).cell? ⟨rhb, 0, none⟩ = some (.pointer (some ⟨s.srb, 0, none⟩)) ∧ (w3.alloc x).cell? ⟨w.heap.size, 0, none⟩ = some (.int .i64 o) ∧ (w3.alloc x).cell? ⟨w.heap.size, 1, none⟩ = some (.int .i64 i)) := hid (fun x => KS.out _ (bal HB3.out x)); clear hb3)
   | (go_at_call 47; (with_reducible refine (HG.out _ D2.out).mono ?_); rintro e w3 ⟨rfl, hb3⟩; have HB3 := hid (show Below w1.heap.size w1 w3 from bgo D2.out hb3); have HSB : Hid (w3.heap[w1.heap.size]? = some (.cells zC.L.toArray 33 (0, 0))) := hid ((hb3.block w1.heap.size (by simp)).trans (heap_alloc_new w1 (.cells #[.int .i64 0, .int .i64 0, .int .i64 0, .int .u64 0, .int .i64 0, .int .i64 0, .int .i64 0, .int .i64 0] 33))); obtain ⟨z0, z1, z2, z3, z4, z5, z6, z7⟩ := cap_cells HSB.out; have g0 := cap_froz HSB.out 0; have g1 := cap_froz HSB.out 1; have g2 := cap_froz HSB.out 2; have g3 := cap_froz HSB.out 3; have g4 := cap_froz HSB.out 4; have g5 := cap_froz HSB.out 5; have g6 := cap_froz HSB.out 6; have g7 := cap_froz HSB.out 7; have K3 := hid (KS.out w3 HB3.out); have kl := KS.out _ (lay8_below (k := w1.heap.size) ⟨ca, cb, cx, cd, ce, cf, cg, ch⟩ HB3.out (Nat.le_refl _)); simp only [lay8] at kl; have KL := hid kl; clear hb3 kl))
 ·obtain ⟨w4, hw4⟩ : ∃ y, y = w3.alloc (.cells #[.int .i64 ca, .int .i64 cb, .int .i64 cx, .int .u64 cd, .int .i64 ce, .int .i64 cf, .int .i64 cg, .int .i64 ch] 33) := ⟨_, rfl⟩
  have HB4 : Hid (Below w1.heap.size w1 w4) := hid (hw4 ▸ bal HB3.out _)
  have HX4 : Hid (w4.heap[w3.heap.size]? = some (.cells (⟨ca, cb, cx, cd, ce, cf, cg, ch⟩ : Cp).L.toArray 33 (0, 0))) := hid (by rw [hw4]; exact heap_alloc_new w3 _)
  rw [← hw4]
  generalize w3.heap.size = xB at *
  clear hw4 K1 K1d KA KAd K3 KB
  have hc4 := (HB4.out.block _ HZ1.out).trans HC1.out
  have HC4 := hid hc4
  obtain ⟨x0, x1, x2, x3, x4, x5, x6, x7⟩ := cap_cells HX4.out
  simp only [] at x0 x1 x2 x3 x4 x5 x6 x7
  obtain ⟨y0, y1, y2, y3, y4, y5, y6, y7⟩ := cap_cells hc4
  have g0 := cap_froz hc4 0
  have g1 := cap_froz hc4 1
  have g2 := cap_froz hc4 2
  have g3 := cap_froz hc4 3
  have g4 := cap_froz hc4 4
  have g5 := cap_froz hc4 5
  have g6 := cap_froz hc4 6
  have g7 := cap_froz hc4 7
  have hz4 := (ags hc4).1
  have HF := hid (lay8_same ⟨ca, cb, cx, cd, ce, cf, cg, ch⟩ HC4.out)
  have HFB := hid (lay8_below (k := w.heap.size + 1) ⟨ca, cb, cx, cd, ce, cf, cg, ch⟩ (HB1.out.trans (HB4.out.mono HB1.out.size)) (by omega))
  obtain ⟨w5, hw5⟩ : ∃ y, y = lay8 w4 (w.heap.size + 1) ⟨ca, cb, cx, cd, ce, cf, cg, ch⟩ := ⟨_, rfl⟩
  rw [← hw5] at HF HFB
  simp only [lay8] at hw5
  have H5 := hid hw5
  clear hw5 hc4
  go_wp2
  rw [← H5.out]
  obtain ⟨q0, q1, q2, q3, q4, q5, q6, q7⟩ := cap_cells HF.out
  simp only [] at q0 q1 q2 q3 q4 q5 q6 q7
  exact bodyPost_ret (v := .agg #[.int .i64 ca, .int .i64 cb, .int .i64 cx, .int .u64 cd, .int .i64 ce, .int .i64 cf, .int .i64 cg, .int .i64 ch]) (by simp [results, Tryz.results81, go_sem, q0, q1, q2, q3, q4, q5, q6, q7]) rfl ⟨rfl, HFB.out⟩
 ·have HX4 := hid (lay8_same ⟨ca, cb, cx, cd, ce, cf, cg, ch⟩ HSB.out)
  have HB4 := hid (lay8_below (k := w1.heap.size) ⟨ca, cb, cx, cd, ce, cf, cg, ch⟩ HB3.out (Nat.le_refl _))
  show Exit.then _ _ Exit.normal _ (lay8 w3 w1.heap.size ⟨ca, cb, cx, cd, ce, cf, cg, ch⟩)
  generalize lay8 w3 w1.heap.size ⟨ca, cb, cx, cd, ce, cf, cg, ch⟩ = w4 at *
  clear z0 z1 z2 z3 z4 z5 z6 z7 g0 g1 g2 g3 g4 g5 g6 g7 K1 K1d KA KAd K3 KL HSB
  have hc4 := (HB4.out.block _ HZ1.out).trans HC1.out
  have HC4 := hid hc4
  obtain ⟨x0, x1, x2, x3, x4, x5, x6, x7⟩ := cap_cells HX4.out
  simp only [] at x0 x1 x2 x3 x4 x5 x6 x7
  obtain ⟨y0, y1, y2, y3, y4, y5, y6, y7⟩ := cap_cells hc4
  have g0 := cap_froz hc4 0
  have g1 := cap_froz hc4 1
  have g2 := cap_froz hc4 2
  have g3 := cap_froz hc4 3
  have g4 := cap_froz hc4 4
  have g5 := cap_froz hc4 5
  have g6 := cap_froz hc4 6
  have g7 := cap_froz hc4 7
  have hz4 := (ags hc4).1
  have HF := hid (lay8_same ⟨ca, cb, cx, cd, ce, cf, cg, ch⟩ HC4.out)
  have HFB := hid (lay8_below (k := w.heap.size + 1) ⟨ca, cb, cx, cd, ce, cf, cg, ch⟩ (HB1.out.trans (HB4.out.mono HB1.out.size)) (by omega))
  obtain ⟨w5, hw5⟩ : ∃ y, y = lay8 w4 (w.heap.size + 1) ⟨ca, cb, cx, cd, ce, cf, cg, ch⟩ := ⟨_, rfl⟩
  rw [← hw5] at HF HFB
  simp only [lay8] at hw5
  have H5 := hid hw5
  clear hw5 hc4
  go_wp2
  rw [← H5.out]
  obtain ⟨q0, q1, q2, q3, q4, q5, q6, q7⟩ := cap_cells HF.out
  simp only [] at q0 q1 q2 q3 q4 q5 q6 q7
  exact bodyPost_ret (v := .agg #[.int .i64 ca, .int .i64 cb, .int .i64 cx, .int .u64 cd, .int .i64 ce, .int .i64 cf, .int .i64 cg, .int .i64 ch]) (by simp [results, Tryz.results81, go_sem, q0, q1, q2, q3, q4, q5, q6, q7]) rfl ⟨rfl, HFB.out⟩
end HdS
end
section
namespace HdS
open TabS (Cp Sn zC mayC sizS getR getN Two Pr FootP foot_ltP foot_ltR SameS AddRel addSR setN setM rowsS hasS dropSR dropSL heldA hdsC)
variable {W w w' : World} {s : Sh} {hb rhb n n' : Nat} {L M L' M' : List Sn} {l l2 l' l2' : List Nod} {S : Nat → Prop}
theorem pair_code (M : List Sn) (o i p j : Int) : pairN M o i p j = if gn M o i ≠ 0 ∨ gn M p j ≠ 0 then 3 else if (gt M o i).a = 0 then 10 else if (gt M p j).a ≠ 0 then 11 else 0 := by
 unfold pairN pairF fullN
 rcases gn_or M o i with q | ⟨q, _⟩ <;> rcases gn_or M p j with r | ⟨r, _⟩ <;> rw [q, r] <;> simp
 by_cases h : (gt M o i).a = 0 <;> simp [h]
def rchN (M : List Sn) (o i p j : Int) (c : Cp) : Int := if gn M o i ≠ 0 ∨ gn M p j ≠ 0 then 3 else if someB c = false then 5 else if (gt M o i).a = 0 then 10 else if (gt M p j).a ≠ 0 then 11 else 0
def rrtN (M : List Sn) (o i : Int) (c : Cp) : Int := if gn M o i ≠ 0 then 3 else if someB c = false then 5 else if (gt M o i).a ≠ 0 then 11 else 0
def rstN (M : List Sn) (o i : Int) (c : Cp) : Int := if gn M o i ≠ 0 then 3 else if (gt M o i).a = 0 then 10 else if sameC c (gt M o i) = false then 5 else setN M o i c
theorem rfrom (h : Hd W s hb rhb n L M l l2 S w) (hA : Asc (rowsS M)) (hl : M.length < 1000000) (o i p j : Int) :
  Calls Tryz.prog 87 #[.pointer (some ⟨rhb, 0, none⟩), slV o i, slV p j] w fun e w' => e = .returned (.int .i64 (pairN M o i p j)) ∧ Below w.heap.size w w' := by
 rw [pair_code]
 obtain ⟨hb1, hs1, ht1⟩ := duo_boxes w o i p j
 obtain ⟨w1, hw1⟩ : ∃ y, y = (w.alloc (slO o i)).alloc (slO p j) := ⟨_, rfl⟩
 rw [← hw1] at hb1 hs1 ht1
 have HB1 := hid hb1
 have HV1 := hid (Below.refl w1.heap.size w1)
 have HH := hid h
 have HXA := hid hs1
 have HXB := hid ht1
 have HE : Hid (∀ v, Below w1.heap.size w1 v → Hd W s hb rhb n L M l l2 S v) := hid (fun v hv => (h.call hb1).call hv)
 by_cases hga : gn M o i = 0
 ·by_cases hgb : gn M p j = 0
  ·rw [if_neg (fun e => e.elim (fun e => e hga) (fun e => e hgb))]
   by_cases hta : (gt M o i).a = 0
   ·rw [if_pos hta]
    have HHa : Hid (∀ v, Below w1.heap.size w1 v → Calls Tryz.prog 79 #[.pointer (some ⟨s.srb, 0, none⟩), slV o i] v fun e w' => e = .returned (.bool true) ∧ Below v.heap.size v w') := hid (fun v hv => by have := rhas (HE.out v hv) hA hl o i; rw [decide_eq_true hga] at this; exact this)
    have HHb : Hid (∀ v, Below w1.heap.size w1 v → Calls Tryz.prog 79 #[.pointer (some ⟨s.srb, 0, none⟩), slV p j] v fun e w' => e = .returned (.bool true) ∧ Below v.heap.size v w') := hid (fun v hv => by have := rhas (HE.out v hv) hA hl p j; rw [decide_eq_true hgb] at this; exact this)
    have HCa : Hid (∀ v, Below w1.heap.size w1 v → Calls Tryz.prog 81 #[.pointer (some ⟨rhb, 0, none⟩), slV o i] v fun e w' => e = .returned ((gt M o i).V) ∧ Below v.heap.size v w') := hid (fun v hv => rcap (HE.out v hv) hA hl o i)
    have HCb : Hid (∀ v, Below w1.heap.size w1 v → Calls Tryz.prog 81 #[.pointer (some ⟨rhb, 0, none⟩), slV p j] v fun e w' => e = .returned ((gt M p j).V) ∧ Below v.heap.size v w') := hid (fun v hv => rcap (HE.out v hv) hA hl p j)
    have HW := hid hw1
    generalize gt M o i = t at *
    obtain ⟨ta, tb, tx, td, te, tf, tg, th⟩ := t
    generalize gt M p j = c at *
    obtain ⟨ca, cb, cx, cd, ce, cf, cg, ch⟩ := c
    simp only [TabS.Cp.V] at HCa HCb
    have hfdt : ∀ w : World, (Instr.field 33 (.agg #[.int .i64 ta, .int .i64 tb, .int .i64 tx, .int .u64 td, .int .i64 te, .int .i64 tf, .int .i64 tg, .int .i64 th]) 0).run Tryz.prog w = .ok (.int .i64 ta) w := fun _ => by kernel_rfl
    have hfdc : ∀ w : World, (Instr.field 33 (.agg #[.int .i64 ca, .int .i64 cb, .int .i64 cx, .int .u64 cd, .int .i64 ce, .int .i64 cf, .int .i64 cg, .int .i64 ch]) 0).run Tryz.prog w = .ok (.int .i64 ca) w := fun _ => by kernel_rfl
    clear h hw1 hb1 hs1 ht1 hA hl
    clear hga hgb
    simp only [] at hta
    subst hta
    go_enter Tryz.func87, Tryz.ntmps87
    go_upto_region 1 with fail
    rw [show ((w.alloc (slO o i)).alloc (slO p j)) = w1 from HW.out.symm]
    have RP1 := hid (fun v (hv : KeptQ w1.heap.size w1 v) => (HE.out v (HV1.out.trans (hv.1.mono HV1.out.size))).rc.1)
    have RA1 := hid (fun v (hv : KeptQ w1.heap.size w1 v) => ldS (((HV1.out.trans (hv.1.mono HV1.out.size)).block _ (ags HXA.out).1).trans HXA.out))
    have RB1 := hid (fun v (hv : KeptQ w1.heap.size w1 v) => ldS (((HV1.out.trans (hv.1.mono HV1.out.size)).block _ (ags HXB.out).1).trans HXB.out))
    have RF10 := hid (fun v (hv : KeptQ w1.heap.size w1 v) => HHa.out v (HV1.out.trans (hv.1.mono HV1.out.size)))
    have RF11 := hid (fun v (hv : KeptQ w1.heap.size w1 v) => HHb.out v (HV1.out.trans (hv.1.mono HV1.out.size)))
    refine wp_region_keptQ w1.heap.size w1 (by kernel_rfl) (by kernel_rfl) (KeptQ.refl (Nat.le_refl _)) ?_
    repeat (first
     | go_big_quiet_skip
     | (go_big_quiet_want; first
      | (refine quietQ_load_cell 68 _ rfl ⟨rhb, 0, none⟩ rfl _ RP1.out _ Tryz.underlying68 rfl ?_; simp only [Act.put, List.setIfInBounds_toArray, List.set_cons_zero, List.set_cons_succ]; go_big_quiet_on)
      | (refine quietV 30 _ rfl ⟨w.heap.size, 0, none⟩ rfl _ RA1.out ?_; simp only [Act.put, List.setIfInBounds_toArray, List.set_cons_zero, List.set_cons_succ]; go_big_quiet_on)
      | (refine quietV 30 _ rfl ⟨w.heap.size + 1, 0, none⟩ rfl _ RB1.out ?_; simp only [Act.put, List.setIfInBounds_toArray, List.set_cons_zero, List.set_cons_succ]; go_big_quiet_on)
      | (go_big_quiet_op; first
       | go_big_quiet_on
       | (refine ⟨_, fun _ _ => rfl, ?_⟩; go_big_quiet_on)
       | go_big_quiet_call ((intro hw; first
        | (go_at_call 79; (with_reducible refine (RF10.out _ hw).mono ?_); rintro e w7 ⟨rfl, hb7⟩; exact ⟨rfl, hw.call hb7⟩)
        | (go_at_call 79; (with_reducible refine (RF11.out _ hw).mono ?_); rintro e w7 ⟨rfl, hb7⟩; exact ⟨rfl, hw.call hb7⟩))))))
    refine wpQuiet_nil ?_
    intro w2 hq1
    have HV2 := hid (HV1.out.trans (hq1.1.mono HV1.out.size))
    clear hq1 RP1 RA1 RB1 RF10 RF11
    obtain ⟨k0, k1⟩ := slot_cells (((HV2.out).block _ (ags HXA.out).1).trans HXA.out)
    go_wp2_with (go_at_call 81; (with_reducible refine (HCa.out _ HV2.out).mono ?_); rintro e w3 ⟨rfl, hb3⟩; have HV3 := hid (HV2.out.trans (hb3.mono HV2.out.size)); clear hb3)
    go_ret
    exact ⟨rfl, HB1.out.trans (HV3.out.mono HB1.out.size)⟩
   ·rw [if_neg hta]
    by_cases hca : (gt M p j).a = 0
    ·rw [if_neg (fun e => e hca)]
     have HHa : Hid (∀ v, Below w1.heap.size w1 v → Calls Tryz.prog 79 #[.pointer (some ⟨s.srb, 0, none⟩), slV o i] v fun e w' => e = .returned (.bool true) ∧ Below v.heap.size v w') := hid (fun v hv => by have := rhas (HE.out v hv) hA hl o i; rw [decide_eq_true hga] at this; exact this)
     have HHb : Hid (∀ v, Below w1.heap.size w1 v → Calls Tryz.prog 79 #[.pointer (some ⟨s.srb, 0, none⟩), slV p j] v fun e w' => e = .returned (.bool true) ∧ Below v.heap.size v w') := hid (fun v hv => by have := rhas (HE.out v hv) hA hl p j; rw [decide_eq_true hgb] at this; exact this)
     have HCa : Hid (∀ v, Below w1.heap.size w1 v → Calls Tryz.prog 81 #[.pointer (some ⟨rhb, 0, none⟩), slV o i] v fun e w' => e = .returned ((gt M o i).V) ∧ Below v.heap.size v w') := hid (fun v hv => rcap (HE.out v hv) hA hl o i)
     have HCb : Hid (∀ v, Below w1.heap.size w1 v → Calls Tryz.prog 81 #[.pointer (some ⟨rhb, 0, none⟩), slV p j] v fun e w' => e = .returned ((gt M p j).V) ∧ Below v.heap.size v w') := hid (fun v hv => rcap (HE.out v hv) hA hl p j)
     have HW := hid hw1
     generalize gt M o i = t at *
     obtain ⟨ta, tb, tx, td, te, tf, tg, th⟩ := t
     generalize gt M p j = c at *
     obtain ⟨ca, cb, cx, cd, ce, cf, cg, ch⟩ := c
     simp only [TabS.Cp.V] at HCa HCb
     have hfdt : ∀ w : World, (Instr.field 33 (.agg #[.int .i64 ta, .int .i64 tb, .int .i64 tx, .int .u64 td, .int .i64 te, .int .i64 tf, .int .i64 tg, .int .i64 th]) 0).run Tryz.prog w = .ok (.int .i64 ta) w := fun _ => by kernel_rfl
     have hfdc : ∀ w : World, (Instr.field 33 (.agg #[.int .i64 ca, .int .i64 cb, .int .i64 cx, .int .u64 cd, .int .i64 ce, .int .i64 cf, .int .i64 cg, .int .i64 ch]) 0).run Tryz.prog w = .ok (.int .i64 ca) w := fun _ => by kernel_rfl
     clear h hw1 hb1 hs1 ht1 hA hl
     clear hga hgb
     simp only [] at hta hca
     subst hca
     have hta' : (ta == 0) = false := beq_eq_false_iff_ne.2 hta
     go_enter Tryz.func87, Tryz.ntmps87
     go_upto_region 1 with fail
     rw [show ((w.alloc (slO o i)).alloc (slO p j)) = w1 from HW.out.symm]
     have RP1 := hid (fun v (hv : KeptQ w1.heap.size w1 v) => (HE.out v (HV1.out.trans (hv.1.mono HV1.out.size))).rc.1)
     have RA1 := hid (fun v (hv : KeptQ w1.heap.size w1 v) => ldS (((HV1.out.trans (hv.1.mono HV1.out.size)).block _ (ags HXA.out).1).trans HXA.out))
     have RB1 := hid (fun v (hv : KeptQ w1.heap.size w1 v) => ldS (((HV1.out.trans (hv.1.mono HV1.out.size)).block _ (ags HXB.out).1).trans HXB.out))
     have RF10 := hid (fun v (hv : KeptQ w1.heap.size w1 v) => HHa.out v (HV1.out.trans (hv.1.mono HV1.out.size)))
     have RF11 := hid (fun v (hv : KeptQ w1.heap.size w1 v) => HHb.out v (HV1.out.trans (hv.1.mono HV1.out.size)))
     refine wp_region_keptQ w1.heap.size w1 (by kernel_rfl) (by kernel_rfl) (KeptQ.refl (Nat.le_refl _)) ?_
     repeat (first
      | go_big_quiet_skip
      | (go_big_quiet_want; first
       | (refine quietQ_load_cell 68 _ rfl ⟨rhb, 0, none⟩ rfl _ RP1.out _ Tryz.underlying68 rfl ?_; simp only [Act.put, List.setIfInBounds_toArray, List.set_cons_zero, List.set_cons_succ]; go_big_quiet_on)
       | (refine quietV 30 _ rfl ⟨w.heap.size, 0, none⟩ rfl _ RA1.out ?_; simp only [Act.put, List.setIfInBounds_toArray, List.set_cons_zero, List.set_cons_succ]; go_big_quiet_on)
       | (refine quietV 30 _ rfl ⟨w.heap.size + 1, 0, none⟩ rfl _ RB1.out ?_; simp only [Act.put, List.setIfInBounds_toArray, List.set_cons_zero, List.set_cons_succ]; go_big_quiet_on)
       | (go_big_quiet_op; first
        | go_big_quiet_on
        | (refine ⟨_, fun _ _ => rfl, ?_⟩; go_big_quiet_on)
        | go_big_quiet_call ((intro hw; first
         | (go_at_call 79; (with_reducible refine (RF10.out _ hw).mono ?_); rintro e w7 ⟨rfl, hb7⟩; exact ⟨rfl, hw.call hb7⟩)
         | (go_at_call 79; (with_reducible refine (RF11.out _ hw).mono ?_); rintro e w7 ⟨rfl, hb7⟩; exact ⟨rfl, hw.call hb7⟩))))))
     refine wpQuiet_nil ?_
     intro w2 hq1
     have HV2 := hid (HV1.out.trans (hq1.1.mono HV1.out.size))
     clear hq1 RP1 RA1 RB1 RF10 RF11
     obtain ⟨k0, k1⟩ := slot_cells (((HV2.out).block _ (ags HXA.out).1).trans HXA.out)
     go_upto_region 5 with (go_at_call 81; (with_reducible refine (HCa.out _ HV2.out).mono ?_); rintro e w3 ⟨rfl, hb3⟩; have HV3 := hid (HV2.out.trans (hb3.mono HV2.out.size)); clear hb3)
     clear k0 k1
     obtain ⟨r0, r1⟩ := slot_cells (((HV3.out).block _ (ags HXB.out).1).trans HXB.out)
     go_wp2_with (go_at_call 81; (with_reducible refine (HCb.out _ HV3.out).mono ?_); rintro e w4 ⟨rfl, hb4⟩; have HV4 := hid (HV3.out.trans (hb4.mono HV3.out.size)); clear hb4)
     go_ret
     exact ⟨rfl, HB1.out.trans (HV4.out.mono HB1.out.size)⟩
    ·rw [if_pos hca]
     have HHa : Hid (∀ v, Below w1.heap.size w1 v → Calls Tryz.prog 79 #[.pointer (some ⟨s.srb, 0, none⟩), slV o i] v fun e w' => e = .returned (.bool true) ∧ Below v.heap.size v w') := hid (fun v hv => by have := rhas (HE.out v hv) hA hl o i; rw [decide_eq_true hga] at this; exact this)
     have HHb : Hid (∀ v, Below w1.heap.size w1 v → Calls Tryz.prog 79 #[.pointer (some ⟨s.srb, 0, none⟩), slV p j] v fun e w' => e = .returned (.bool true) ∧ Below v.heap.size v w') := hid (fun v hv => by have := rhas (HE.out v hv) hA hl p j; rw [decide_eq_true hgb] at this; exact this)
     have HCa : Hid (∀ v, Below w1.heap.size w1 v → Calls Tryz.prog 81 #[.pointer (some ⟨rhb, 0, none⟩), slV o i] v fun e w' => e = .returned ((gt M o i).V) ∧ Below v.heap.size v w') := hid (fun v hv => rcap (HE.out v hv) hA hl o i)
     have HCb : Hid (∀ v, Below w1.heap.size w1 v → Calls Tryz.prog 81 #[.pointer (some ⟨rhb, 0, none⟩), slV p j] v fun e w' => e = .returned ((gt M p j).V) ∧ Below v.heap.size v w') := hid (fun v hv => rcap (HE.out v hv) hA hl p j)
     have HW := hid hw1
     generalize gt M o i = t at *
     obtain ⟨ta, tb, tx, td, te, tf, tg, th⟩ := t
     generalize gt M p j = c at *
     obtain ⟨ca, cb, cx, cd, ce, cf, cg, ch⟩ := c
     simp only [TabS.Cp.V] at HCa HCb
     have hfdt : ∀ w : World, (Instr.field 33 (.agg #[.int .i64 ta, .int .i64 tb, .int .i64 tx, .int .u64 td, .int .i64 te, .int .i64 tf, .int .i64 tg, .int .i64 th]) 0).run Tryz.prog w = .ok (.int .i64 ta) w := fun _ => by kernel_rfl
     have hfdc : ∀ w : World, (Instr.field 33 (.agg #[.int .i64 ca, .int .i64 cb, .int .i64 cx, .int .u64 cd, .int .i64 ce, .int .i64 cf, .int .i64 cg, .int .i64 ch]) 0).run Tryz.prog w = .ok (.int .i64 ca) w := fun _ => by kernel_rfl
     clear h hw1 hb1 hs1 ht1 hA hl
     clear hga hgb
     simp only [] at hta hca
     have hta' : (ta == 0) = false := beq_eq_false_iff_ne.2 hta
     have hca' : (ca == 0) = false := beq_eq_false_iff_ne.2 hca
     go_enter Tryz.func87, Tryz.ntmps87
     go_upto_region 1 with fail
     rw [show ((w.alloc (slO o i)).alloc (slO p j)) = w1 from HW.out.symm]
     have RP1 := hid (fun v (hv : KeptQ w1.heap.size w1 v) => (HE.out v (HV1.out.trans (hv.1.mono HV1.out.size))).rc.1)
     have RA1 := hid (fun v (hv : KeptQ w1.heap.size w1 v) => ldS (((HV1.out.trans (hv.1.mono HV1.out.size)).block _ (ags HXA.out).1).trans HXA.out))
     have RB1 := hid (fun v (hv : KeptQ w1.heap.size w1 v) => ldS (((HV1.out.trans (hv.1.mono HV1.out.size)).block _ (ags HXB.out).1).trans HXB.out))
     have RF10 := hid (fun v (hv : KeptQ w1.heap.size w1 v) => HHa.out v (HV1.out.trans (hv.1.mono HV1.out.size)))
     have RF11 := hid (fun v (hv : KeptQ w1.heap.size w1 v) => HHb.out v (HV1.out.trans (hv.1.mono HV1.out.size)))
     refine wp_region_keptQ w1.heap.size w1 (by kernel_rfl) (by kernel_rfl) (KeptQ.refl (Nat.le_refl _)) ?_
     repeat (first
      | go_big_quiet_skip
      | (go_big_quiet_want; first
       | (refine quietQ_load_cell 68 _ rfl ⟨rhb, 0, none⟩ rfl _ RP1.out _ Tryz.underlying68 rfl ?_; simp only [Act.put, List.setIfInBounds_toArray, List.set_cons_zero, List.set_cons_succ]; go_big_quiet_on)
       | (refine quietV 30 _ rfl ⟨w.heap.size, 0, none⟩ rfl _ RA1.out ?_; simp only [Act.put, List.setIfInBounds_toArray, List.set_cons_zero, List.set_cons_succ]; go_big_quiet_on)
       | (refine quietV 30 _ rfl ⟨w.heap.size + 1, 0, none⟩ rfl _ RB1.out ?_; simp only [Act.put, List.setIfInBounds_toArray, List.set_cons_zero, List.set_cons_succ]; go_big_quiet_on)
       | (go_big_quiet_op; first
        | go_big_quiet_on
        | (refine ⟨_, fun _ _ => rfl, ?_⟩; go_big_quiet_on)
        | go_big_quiet_call ((intro hw; first
         | (go_at_call 79; (with_reducible refine (RF10.out _ hw).mono ?_); rintro e w7 ⟨rfl, hb7⟩; exact ⟨rfl, hw.call hb7⟩)
         | (go_at_call 79; (with_reducible refine (RF11.out _ hw).mono ?_); rintro e w7 ⟨rfl, hb7⟩; exact ⟨rfl, hw.call hb7⟩))))))
     refine wpQuiet_nil ?_
     intro w2 hq1
     have HV2 := hid (HV1.out.trans (hq1.1.mono HV1.out.size))
     clear hq1 RP1 RA1 RB1 RF10 RF11
     obtain ⟨k0, k1⟩ := slot_cells (((HV2.out).block _ (ags HXA.out).1).trans HXA.out)
     go_upto_region 5 with (go_at_call 81; (with_reducible refine (HCa.out _ HV2.out).mono ?_); rintro e w3 ⟨rfl, hb3⟩; have HV3 := hid (HV2.out.trans (hb3.mono HV2.out.size)); clear hb3)
     clear k0 k1
     obtain ⟨r0, r1⟩ := slot_cells (((HV3.out).block _ (ags HXB.out).1).trans HXB.out)
     go_wp2_with (go_at_call 81; (with_reducible refine (HCb.out _ HV3.out).mono ?_); rintro e w4 ⟨rfl, hb4⟩; have HV4 := hid (HV3.out.trans (hb4.mono HV3.out.size)); clear hb4)
     go_ret
     exact ⟨rfl, HB1.out.trans (HV4.out.mono HB1.out.size)⟩
  ·rw [if_pos (.inr hgb)]
   have HHa : Hid (∀ v, Below w1.heap.size w1 v → Calls Tryz.prog 79 #[.pointer (some ⟨s.srb, 0, none⟩), slV o i] v fun e w' => e = .returned (.bool true) ∧ Below v.heap.size v w') := hid (fun v hv => by have := rhas (HE.out v hv) hA hl o i; rw [decide_eq_true hga] at this; exact this)
   have HHb : Hid (∀ v, Below w1.heap.size w1 v → Calls Tryz.prog 79 #[.pointer (some ⟨s.srb, 0, none⟩), slV p j] v fun e w' => e = .returned (.bool false) ∧ Below v.heap.size v w') := hid (fun v hv => by have := rhas (HE.out v hv) hA hl p j; rw [decide_eq_false hgb] at this; exact this)
   have HW := hid hw1
   clear h hw1 hb1 hs1 ht1 hA hl
   clear hga hgb
   go_enter Tryz.func87, Tryz.ntmps87
   go_upto_region 1 with fail
   rw [show ((w.alloc (slO o i)).alloc (slO p j)) = w1 from HW.out.symm]
   have RP1 := hid (fun v (hv : KeptQ w1.heap.size w1 v) => (HE.out v (HV1.out.trans (hv.1.mono HV1.out.size))).rc.1)
   have RA1 := hid (fun v (hv : KeptQ w1.heap.size w1 v) => ldS (((HV1.out.trans (hv.1.mono HV1.out.size)).block _ (ags HXA.out).1).trans HXA.out))
   have RB1 := hid (fun v (hv : KeptQ w1.heap.size w1 v) => ldS (((HV1.out.trans (hv.1.mono HV1.out.size)).block _ (ags HXB.out).1).trans HXB.out))
   have RF10 := hid (fun v (hv : KeptQ w1.heap.size w1 v) => HHa.out v (HV1.out.trans (hv.1.mono HV1.out.size)))
   have RF11 := hid (fun v (hv : KeptQ w1.heap.size w1 v) => HHb.out v (HV1.out.trans (hv.1.mono HV1.out.size)))
   refine wp_region_keptQ w1.heap.size w1 (by kernel_rfl) (by kernel_rfl) (KeptQ.refl (Nat.le_refl _)) ?_
   repeat (first
    | go_big_quiet_skip
    | (go_big_quiet_want; first
     | (refine quietQ_load_cell 68 _ rfl ⟨rhb, 0, none⟩ rfl _ RP1.out _ Tryz.underlying68 rfl ?_; simp only [Act.put, List.setIfInBounds_toArray, List.set_cons_zero, List.set_cons_succ]; go_big_quiet_on)
     | (refine quietV 30 _ rfl ⟨w.heap.size, 0, none⟩ rfl _ RA1.out ?_; simp only [Act.put, List.setIfInBounds_toArray, List.set_cons_zero, List.set_cons_succ]; go_big_quiet_on)
     | (refine quietV 30 _ rfl ⟨w.heap.size + 1, 0, none⟩ rfl _ RB1.out ?_; simp only [Act.put, List.setIfInBounds_toArray, List.set_cons_zero, List.set_cons_succ]; go_big_quiet_on)
     | (go_big_quiet_op; first
      | go_big_quiet_on
      | (refine ⟨_, fun _ _ => rfl, ?_⟩; go_big_quiet_on)
      | go_big_quiet_call ((intro hw; first
       | (go_at_call 79; (with_reducible refine (RF10.out _ hw).mono ?_); rintro e w7 ⟨rfl, hb7⟩; exact ⟨rfl, hw.call hb7⟩)
       | (go_at_call 79; (with_reducible refine (RF11.out _ hw).mono ?_); rintro e w7 ⟨rfl, hb7⟩; exact ⟨rfl, hw.call hb7⟩))))))
   refine wpQuiet_nil ?_
   intro w2 hq1
   have HV2 := hid (HV1.out.trans (hq1.1.mono HV1.out.size))
   clear hq1 RP1 RA1 RB1 RF10 RF11
   go_wp2
   go_ret
   exact ⟨rfl, HB1.out.trans (HV2.out.mono HB1.out.size)⟩
 ·rw [if_pos (.inl hga)]
  have HHa : Hid (∀ v, Below w1.heap.size w1 v → Calls Tryz.prog 79 #[.pointer (some ⟨s.srb, 0, none⟩), slV o i] v fun e w' => e = .returned (.bool false) ∧ Below v.heap.size v w') := hid (fun v hv => by have := rhas (HE.out v hv) hA hl o i; rw [decide_eq_false hga] at this; exact this)
  have HW := hid hw1
  clear h hw1 hb1 hs1 ht1 hA hl
  clear hga
  go_enter Tryz.func87, Tryz.ntmps87
  go_upto_region 1 with fail
  rw [show ((w.alloc (slO o i)).alloc (slO p j)) = w1 from HW.out.symm]
  have RP1 := hid (fun v (hv : KeptQ w1.heap.size w1 v) => (HE.out v (HV1.out.trans (hv.1.mono HV1.out.size))).rc.1)
  have RA1 := hid (fun v (hv : KeptQ w1.heap.size w1 v) => ldS (((HV1.out.trans (hv.1.mono HV1.out.size)).block _ (ags HXA.out).1).trans HXA.out))
  have RB1 := hid (fun v (hv : KeptQ w1.heap.size w1 v) => ldS (((HV1.out.trans (hv.1.mono HV1.out.size)).block _ (ags HXB.out).1).trans HXB.out))
  have RF10 := hid (fun v (hv : KeptQ w1.heap.size w1 v) => HHa.out v (HV1.out.trans (hv.1.mono HV1.out.size)))
  refine wp_region_keptQ w1.heap.size w1 (by kernel_rfl) (by kernel_rfl) (KeptQ.refl (Nat.le_refl _)) ?_
  repeat (first
   | go_big_quiet_skip
   | (go_big_quiet_want; first
    | (refine quietQ_load_cell 68 _ rfl ⟨rhb, 0, none⟩ rfl _ RP1.out _ Tryz.underlying68 rfl ?_; simp only [Act.put, List.setIfInBounds_toArray, List.set_cons_zero, List.set_cons_succ]; go_big_quiet_on)
    | (refine quietV 30 _ rfl ⟨w.heap.size, 0, none⟩ rfl _ RA1.out ?_; simp only [Act.put, List.setIfInBounds_toArray, List.set_cons_zero, List.set_cons_succ]; go_big_quiet_on)
    | (refine quietV 30 _ rfl ⟨w.heap.size + 1, 0, none⟩ rfl _ RB1.out ?_; simp only [Act.put, List.setIfInBounds_toArray, List.set_cons_zero, List.set_cons_succ]; go_big_quiet_on)
    | (go_big_quiet_op; first
     | go_big_quiet_on
     | (refine ⟨_, fun _ _ => rfl, ?_⟩; go_big_quiet_on)
     | go_big_quiet_call ((intro hw; first
      | (go_at_call 79; (with_reducible refine (RF10.out _ hw).mono ?_); rintro e w7 ⟨rfl, hb7⟩; exact ⟨rfl, hw.call hb7⟩))))))
  refine wpQuiet_nil ?_
  intro w2 hq1
  have HV2 := hid (HV1.out.trans (hq1.1.mono HV1.out.size))
  clear hq1 RP1 RA1 RB1 RF10
  go_wp2
  go_ret
  exact ⟨rfl, HB1.out.trans (HV2.out.mono HB1.out.size)⟩
theorem rroot_no (h : Hd W s hb rhb n L M l l2 S w) (hA : Asc (rowsS M)) (hl : M.length < 1000000) (o i : Int) (c : Cp) (hno : ¬ rootOn M o i c) :
  Calls Tryz.prog 34 #[.pointer (some ⟨rhb, 0, none⟩), slV o i, c.V] w fun e w' => e = .returned (.int .i64 (rrtN M o i c)) ∧ Below w.heap.size w w' := by
 unfold rrtN
 obtain ⟨ca, cb, cx, cd, ce, cf, cg, ch⟩ := c
 obtain ⟨hb1, hs1, hc1⟩ := slot_cap_boxes w o i ⟨ca, cb, cx, cd, ce, cf, cg, ch⟩
 obtain ⟨w1, hw1⟩ : ∃ y, y = (w.alloc (slO o i)).alloc (.cells (⟨ca, cb, cx, cd, ce, cf, cg, ch⟩ : Cp).L.toArray 33) := ⟨_, rfl⟩
 rw [← hw1] at hb1 hs1 hc1
 have HB1 := hid hb1
 have HV1 := hid (Below.refl w1.heap.size w1)
 have HH := hid h
 have HXA := hid hs1
 have HXC := hid hc1
 have HE : Hid (∀ v, Below w1.heap.size w1 v → Hd W s hb rhb n L M l l2 S v) := hid (fun v hv => (h.call hb1).call hv)
 by_cases hga : gn M o i = 0
 ·rw [if_neg (fun e => e hga)]
  cases hsm : someB ⟨ca, cb, cx, cd, ce, cf, cg, ch⟩ with
  | false =>
   rw [if_pos rfl]
   have HHa : Hid (∀ v, Below w1.heap.size w1 v → Calls Tryz.prog 79 #[.pointer (some ⟨s.srb, 0, none⟩), slV o i] v fun e w' => e = .returned (.bool true) ∧ Below v.heap.size v w') := hid (fun v hv => by have := rhas (HE.out v hv) hA hl o i; rw [decide_eq_true hga] at this; exact this)
   have HSM : Hid (∀ v, Below w1.heap.size w1 v → Calls Tryz.prog 80 #[Cp.V ⟨ca, cb, cx, cd, ce, cf, cg, ch⟩] v fun e w' => e = .returned (.bool false) ∧ Below v.heap.size v w') := hid (fun v hv => by have := rsome v ⟨ca, cb, cx, cd, ce, cf, cg, ch⟩; rw [hsm] at this; exact this)
   have HW := hid hw1
   clear h hw1 hb1 hs1 hc1 hA hl
   clear hga
   clear hsm
   go_enter Tryz.func34, Tryz.ntmps34
   go_upto_region 1 with fail
   rw [show ((w.alloc (slO o i)).alloc (.cells #[.int .i64 ca, .int .i64 cb, .int .i64 cx, .int .u64 cd, .int .i64 ce, .int .i64 cf, .int .i64 cg, .int .i64 ch] 33)) = w1 from HW.out.symm]
   have RP1 := hid (fun v (hv : KeptQ w1.heap.size w1 v) => (HE.out v (HV1.out.trans (hv.1.mono HV1.out.size))).rc.1)
   have RA1 := hid (fun v (hv : KeptQ w1.heap.size w1 v) => ldS (((HV1.out.trans (hv.1.mono HV1.out.size)).block _ (ags HXA.out).1).trans HXA.out))
   have RF10 := hid (fun v (hv : KeptQ w1.heap.size w1 v) => HHa.out v (HV1.out.trans (hv.1.mono HV1.out.size)))
   refine wp_region_keptQ w1.heap.size w1 (by kernel_rfl) (by kernel_rfl) (KeptQ.refl (Nat.le_refl _)) ?_
   repeat (first
    | go_big_quiet_skip
    | (go_big_quiet_want; first
     | (refine quietQ_load_cell 68 _ rfl ⟨rhb, 0, none⟩ rfl _ RP1.out _ Tryz.underlying68 rfl ?_; simp only [Act.put, List.setIfInBounds_toArray, List.set_cons_zero, List.set_cons_succ]; go_big_quiet_on)
     | (refine quietV 30 _ rfl ⟨w.heap.size, 0, none⟩ rfl _ RA1.out ?_; simp only [Act.put, List.setIfInBounds_toArray, List.set_cons_zero, List.set_cons_succ]; go_big_quiet_on)
     | (go_big_quiet_op; first
      | go_big_quiet_on
      | (refine ⟨_, fun _ _ => rfl, ?_⟩; go_big_quiet_on)
      | go_big_quiet_call ((intro hw; first
       | (go_at_call 79; (with_reducible refine (RF10.out _ hw).mono ?_); rintro e w7 ⟨rfl, hb7⟩; exact ⟨rfl, hw.call hb7⟩))))))
   refine wpQuiet_nil ?_
   intro w2 hq1
   have HV2 := hid (HV1.out.trans (hq1.1.mono HV1.out.size))
   clear hq1 RP1 RA1 RF10
   obtain ⟨x0, x1, x2, x3, x4, x5, x6, x7⟩ := cap_cells (((HV2.out).block _ (ags HXC.out).1).trans HXC.out)
   simp only [] at x0 x1 x2 x3 x4 x5 x6 x7
   go_wp2_with (go_at_call 80; (with_reducible refine (HSM.out _ HV2.out).mono ?_); rintro e w3 ⟨rfl, hb3⟩; have HV3 := hid (HV2.out.trans (hb3.mono HV2.out.size)); clear hb3)
   go_ret
   exact ⟨rfl, HB1.out.trans (HV3.out.mono HB1.out.size)⟩
  | true =>
   rw [if_neg (by decide)]
   have hta : (gt M o i).a ≠ 0 := fun e => hno ⟨hga, hsm, e⟩
   rw [if_pos hta]
   have HHa : Hid (∀ v, Below w1.heap.size w1 v → Calls Tryz.prog 79 #[.pointer (some ⟨s.srb, 0, none⟩), slV o i] v fun e w' => e = .returned (.bool true) ∧ Below v.heap.size v w') := hid (fun v hv => by have := rhas (HE.out v hv) hA hl o i; rw [decide_eq_true hga] at this; exact this)
   have HSM : Hid (∀ v, Below w1.heap.size w1 v → Calls Tryz.prog 80 #[Cp.V ⟨ca, cb, cx, cd, ce, cf, cg, ch⟩] v fun e w' => e = .returned (.bool true) ∧ Below v.heap.size v w') := hid (fun v hv => by have := rsome v ⟨ca, cb, cx, cd, ce, cf, cg, ch⟩; rw [hsm] at this; exact this)
   have HCa : Hid (∀ v, Below w1.heap.size w1 v → Calls Tryz.prog 81 #[.pointer (some ⟨rhb, 0, none⟩), slV o i] v fun e w' => e = .returned ((gt M o i).V) ∧ Below v.heap.size v w') := hid (fun v hv => rcap (HE.out v hv) hA hl o i)
   clear hno
   have HW := hid hw1
   generalize gt M o i = t at *
   obtain ⟨ta, tb, tx, td, te, tf, tg, th⟩ := t
   simp only [TabS.Cp.V] at HCa
   have hfdt : ∀ w : World, (Instr.field 33 (.agg #[.int .i64 ta, .int .i64 tb, .int .i64 tx, .int .u64 td, .int .i64 te, .int .i64 tf, .int .i64 tg, .int .i64 th]) 0).run Tryz.prog w = .ok (.int .i64 ta) w := fun _ => by kernel_rfl
   clear h hw1 hb1 hs1 hc1 hA hl
   clear hga
   clear hsm
   simp only [] at hta
   have hta' : (ta == 0) = false := beq_eq_false_iff_ne.2 hta
   go_enter Tryz.func34, Tryz.ntmps34
   go_upto_region 1 with fail
   rw [show ((w.alloc (slO o i)).alloc (.cells #[.int .i64 ca, .int .i64 cb, .int .i64 cx, .int .u64 cd, .int .i64 ce, .int .i64 cf, .int .i64 cg, .int .i64 ch] 33)) = w1 from HW.out.symm]
   have RP1 := hid (fun v (hv : KeptQ w1.heap.size w1 v) => (HE.out v (HV1.out.trans (hv.1.mono HV1.out.size))).rc.1)
   have RA1 := hid (fun v (hv : KeptQ w1.heap.size w1 v) => ldS (((HV1.out.trans (hv.1.mono HV1.out.size)).block _ (ags HXA.out).1).trans HXA.out))
   have RF10 := hid (fun v (hv : KeptQ w1.heap.size w1 v) => HHa.out v (HV1.out.trans (hv.1.mono HV1.out.size)))
   refine wp_region_keptQ w1.heap.size w1 (by kernel_rfl) (by kernel_rfl) (KeptQ.refl (Nat.le_refl _)) ?_
   repeat (first
    | go_big_quiet_skip
    | (go_big_quiet_want; first
     | (refine quietQ_load_cell 68 _ rfl ⟨rhb, 0, none⟩ rfl _ RP1.out _ Tryz.underlying68 rfl ?_; simp only [Act.put, List.setIfInBounds_toArray, List.set_cons_zero, List.set_cons_succ]; go_big_quiet_on)
     | (refine quietV 30 _ rfl ⟨w.heap.size, 0, none⟩ rfl _ RA1.out ?_; simp only [Act.put, List.setIfInBounds_toArray, List.set_cons_zero, List.set_cons_succ]; go_big_quiet_on)
     | (go_big_quiet_op; first
      | go_big_quiet_on
      | (refine ⟨_, fun _ _ => rfl, ?_⟩; go_big_quiet_on)
      | go_big_quiet_call ((intro hw; first
       | (go_at_call 79; (with_reducible refine (RF10.out _ hw).mono ?_); rintro e w7 ⟨rfl, hb7⟩; exact ⟨rfl, hw.call hb7⟩))))))
   refine wpQuiet_nil ?_
   intro w2 hq1
   have HV2 := hid (HV1.out.trans (hq1.1.mono HV1.out.size))
   clear hq1 RP1 RA1 RF10
   obtain ⟨x0, x1, x2, x3, x4, x5, x6, x7⟩ := cap_cells (((HV2.out).block _ (ags HXC.out).1).trans HXC.out)
   simp only [] at x0 x1 x2 x3 x4 x5 x6 x7
   go_upto_region 5 with (go_at_call 80; (with_reducible refine (HSM.out _ HV2.out).mono ?_); rintro e w3 ⟨rfl, hb3⟩; have HV3 := hid (HV2.out.trans (hb3.mono HV2.out.size)); clear hb3)
   clear x0 x1 x2 x3 x4 x5 x6 x7
   obtain ⟨k0, k1⟩ := slot_cells (((HV3.out).block _ (ags HXA.out).1).trans HXA.out)
   go_wp2_with (go_at_call 81; (with_reducible refine (HCa.out _ HV3.out).mono ?_); rintro e w4 ⟨rfl, hb4⟩; have HV4 := hid (HV3.out.trans (hb4.mono HV3.out.size)); clear hb4)
   go_ret
   exact ⟨rfl, HB1.out.trans (HV4.out.mono HB1.out.size)⟩
 ·rw [if_pos hga]
  have HHa : Hid (∀ v, Below w1.heap.size w1 v → Calls Tryz.prog 79 #[.pointer (some ⟨s.srb, 0, none⟩), slV o i] v fun e w' => e = .returned (.bool false) ∧ Below v.heap.size v w') := hid (fun v hv => by have := rhas (HE.out v hv) hA hl o i; rw [decide_eq_false hga] at this; exact this)
  have HW := hid hw1
  clear h hw1 hb1 hs1 hc1 hA hl
  clear hga
  go_enter Tryz.func34, Tryz.ntmps34
  go_upto_region 1 with fail
  rw [show ((w.alloc (slO o i)).alloc (.cells #[.int .i64 ca, .int .i64 cb, .int .i64 cx, .int .u64 cd, .int .i64 ce, .int .i64 cf, .int .i64 cg, .int .i64 ch] 33)) = w1 from HW.out.symm]
  have RP1 := hid (fun v (hv : KeptQ w1.heap.size w1 v) => (HE.out v (HV1.out.trans (hv.1.mono HV1.out.size))).rc.1)
  have RA1 := hid (fun v (hv : KeptQ w1.heap.size w1 v) => ldS (((HV1.out.trans (hv.1.mono HV1.out.size)).block _ (ags HXA.out).1).trans HXA.out))
  have RF10 := hid (fun v (hv : KeptQ w1.heap.size w1 v) => HHa.out v (HV1.out.trans (hv.1.mono HV1.out.size)))
  refine wp_region_keptQ w1.heap.size w1 (by kernel_rfl) (by kernel_rfl) (KeptQ.refl (Nat.le_refl _)) ?_
  repeat (first
   | go_big_quiet_skip
   | (go_big_quiet_want; first
    | (refine quietQ_load_cell 68 _ rfl ⟨rhb, 0, none⟩ rfl _ RP1.out _ Tryz.underlying68 rfl ?_; simp only [Act.put, List.setIfInBounds_toArray, List.set_cons_zero, List.set_cons_succ]; go_big_quiet_on)
    | (refine quietV 30 _ rfl ⟨w.heap.size, 0, none⟩ rfl _ RA1.out ?_; simp only [Act.put, List.setIfInBounds_toArray, List.set_cons_zero, List.set_cons_succ]; go_big_quiet_on)
    | (go_big_quiet_op; first
     | go_big_quiet_on
     | (refine ⟨_, fun _ _ => rfl, ?_⟩; go_big_quiet_on)
     | go_big_quiet_call ((intro hw; first
      | (go_at_call 79; (with_reducible refine (RF10.out _ hw).mono ?_); rintro e w7 ⟨rfl, hb7⟩; exact ⟨rfl, hw.call hb7⟩))))))
  refine wpQuiet_nil ?_
  intro w2 hq1
  have HV2 := hid (HV1.out.trans (hq1.1.mono HV1.out.size))
  clear hq1 RP1 RA1 RF10
  go_wp2
  go_ret
  exact ⟨rfl, HB1.out.trans (HV2.out.mono HB1.out.size)⟩
theorem rroot_yes (h : Hd W s hb rhb n L M l l2 S w) (hA : Asc (rowsS M)) (hl : M.length < 1000000) (o i : Int) (c : Cp) (hlen : l2.length < 1000) (hon : rootOn M o i c) :
  Calls Tryz.prog 34 #[.pointer (some ⟨rhb, 0, none⟩), slV o i, c.V] w fun e w' => e = .returned (.int .i64 0) ∧ Hd W s hb rhb n L (setM M o i c) l (rootA l2 o i).1 S w' ∧ SameK S w w' := by
 obtain ⟨ca, cb, cx, cd, ce, cf, cg, ch⟩ := c
 obtain ⟨hb1, hs1, hc1⟩ := slot_cap_boxes w o i ⟨ca, cb, cx, cd, ce, cf, cg, ch⟩
 obtain ⟨w1, hw1⟩ : ∃ y, y = (w.alloc (slO o i)).alloc (.cells (⟨ca, cb, cx, cd, ce, cf, cg, ch⟩ : Cp).L.toArray 33) := ⟨_, rfl⟩
 rw [← hw1] at hb1 hs1 hc1
 have HB1 := hid hb1
 have HV1 := hid (Below.refl w1.heap.size w1)
 have HH := hid h
 have HXA := hid hs1
 have HXC := hid hc1
 have HE : Hid (∀ v, Below w1.heap.size w1 v → Hd W s hb rhb n L M l l2 S v) := hid (fun v hv => (h.call hb1).call hv)
 obtain ⟨hga, hsm, hta⟩ := hon
 obtain ⟨M2, hM2⟩ : ∃ y, y = setM M o i (⟨ca, cb, cx, cd, ce, cf, cg, ch⟩ : Cp) := ⟨_, rfl⟩
 obtain ⟨l3, hl3⟩ : ∃ y, y = (rootA l2 o i).1 := ⟨_, rfl⟩
 rw [← hM2, ← hl3]
 obtain ⟨sn, hsn⟩ : ∃ y, y = setN M o i (⟨ca, cb, cx, cd, ce, cf, cg, ch⟩ : Cp) := ⟨_, rfl⟩
 obtain ⟨rn, hrn⟩ : ∃ y, y = (rootA l2 o i).2 := ⟨_, rfl⟩
 have HHa : Hid (∀ v, Below w1.heap.size w1 v → Calls Tryz.prog 79 #[.pointer (some ⟨s.srb, 0, none⟩), slV o i] v fun e w' => e = .returned (.bool true) ∧ Below v.heap.size v w') := hid (fun v hv => by have := rhas (HE.out v hv) hA hl o i; rw [decide_eq_true hga] at this; exact this)
 have HSM : Hid (∀ v, Below w1.heap.size w1 v → Calls Tryz.prog 80 #[Cp.V ⟨ca, cb, cx, cd, ce, cf, cg, ch⟩] v fun e w' => e = .returned (.bool true) ∧ Below v.heap.size v w') := hid (fun v hv => by have := rsome v ⟨ca, cb, cx, cd, ce, cf, cg, ch⟩; rw [hsm] at this; exact this)
 have HCa : Hid (∀ v, Below w1.heap.size w1 v → Calls Tryz.prog 81 #[.pointer (some ⟨rhb, 0, none⟩), slV o i] v fun e w' => e = .returned ((gt M o i).V) ∧ Below v.heap.size v w') := hid (fun v hv => rcap (HE.out v hv) hA hl o i)
 have HST : Hid (∀ v T, Hd W s hb rhb n L M l l2 T v → Calls Tryz.prog 82 #[.pointer (some ⟨s.srb, 0, none⟩), slV o i, Cp.V ⟨ca, cb, cx, cd, ce, cf, cg, ch⟩] v fun e w' => e = .returned (.int .i64 sn) ∧ Hd W s hb rhb n L M2 l l2 T w' ∧ SameK T v w') := hid (fun v T hv => by rw [hM2, hsn]; exact hv.act (fun K hK => hK.rset hA hl o i _))
 have HRT : Hid (∀ v T, Hd W s hb rhb n L M2 l l2 T v → Calls Tryz.prog 83 #[.pointer (some ⟨s.trb, 0, none⟩), slV o i] v fun e w' => e = .returned (.int .i64 rn) ∧ Hd W s hb rhb n L M2 l l3 T w' ∧ SameK T v w') := hid (fun v T hv => by rw [hl3, hrn]; exact hv.act (fun K hK => hK.rroot o i hlen))
 have HW := hid hw1
 generalize gt M o i = t at *
 obtain ⟨ta, tb, tx, td, te, tf, tg, th⟩ := t
 simp only [TabS.Cp.V] at HCa
 have hfdt : ∀ w : World, (Instr.field 33 (.agg #[.int .i64 ta, .int .i64 tb, .int .i64 tx, .int .u64 td, .int .i64 te, .int .i64 tf, .int .i64 tg, .int .i64 th]) 0).run Tryz.prog w = .ok (.int .i64 ta) w := fun _ => by kernel_rfl
 clear h hw1 hb1 hs1 hc1 hA hl
 clear hga hsm hM2 hl3 hsn hrn hlen
 simp only [] at hta
 subst hta
 go_enter Tryz.func34, Tryz.ntmps34
 go_upto_region 1 with fail
 rw [show ((w.alloc (slO o i)).alloc (.cells #[.int .i64 ca, .int .i64 cb, .int .i64 cx, .int .u64 cd, .int .i64 ce, .int .i64 cf, .int .i64 cg, .int .i64 ch] 33)) = w1 from HW.out.symm]
 have RP1 := hid (fun v (hv : KeptQ w1.heap.size w1 v) => (HE.out v (HV1.out.trans (hv.1.mono HV1.out.size))).rc.1)
 have RA1 := hid (fun v (hv : KeptQ w1.heap.size w1 v) => ldS (((HV1.out.trans (hv.1.mono HV1.out.size)).block _ (ags HXA.out).1).trans HXA.out))
 have RF10 := hid (fun v (hv : KeptQ w1.heap.size w1 v) => HHa.out v (HV1.out.trans (hv.1.mono HV1.out.size)))
 refine wp_region_keptQ w1.heap.size w1 (by kernel_rfl) (by kernel_rfl) (KeptQ.refl (Nat.le_refl _)) ?_
 repeat (first
  | go_big_quiet_skip
  | (go_big_quiet_want; first
   | (refine quietQ_load_cell 68 _ rfl ⟨rhb, 0, none⟩ rfl _ RP1.out _ Tryz.underlying68 rfl ?_; simp only [Act.put, List.setIfInBounds_toArray, List.set_cons_zero, List.set_cons_succ]; go_big_quiet_on)
   | (refine quietV 30 _ rfl ⟨w.heap.size, 0, none⟩ rfl _ RA1.out ?_; simp only [Act.put, List.setIfInBounds_toArray, List.set_cons_zero, List.set_cons_succ]; go_big_quiet_on)
   | (go_big_quiet_op; first
    | go_big_quiet_on
    | (refine ⟨_, fun _ _ => rfl, ?_⟩; go_big_quiet_on)
    | go_big_quiet_call ((intro hw; first
     | (go_at_call 79; (with_reducible refine (RF10.out _ hw).mono ?_); rintro e w7 ⟨rfl, hb7⟩; exact ⟨rfl, hw.call hb7⟩))))))
 refine wpQuiet_nil ?_
 intro w2 hq1
 have HV2 := hid (HV1.out.trans (hq1.1.mono HV1.out.size))
 clear hq1 RP1 RA1 RF10
 obtain ⟨x0, x1, x2, x3, x4, x5, x6, x7⟩ := cap_cells (((HV2.out).block _ (ags HXC.out).1).trans HXC.out)
 simp only [] at x0 x1 x2 x3 x4 x5 x6 x7
 go_upto_region 5 with (go_at_call 80; (with_reducible refine (HSM.out _ HV2.out).mono ?_); rintro e w3 ⟨rfl, hb3⟩; have HV3 := hid (HV2.out.trans (hb3.mono HV2.out.size)); clear hb3)
 clear x0 x1 x2 x3 x4 x5 x6 x7
 obtain ⟨k0, k1⟩ := slot_cells (((HV3.out).block _ (ags HXA.out).1).trans HXA.out)
 go_upto_region 7 with (go_at_call 81; (with_reducible refine (HCa.out _ HV3.out).mono ?_); rintro e w4 ⟨rfl, hb4⟩; have HV4 := hid (HV3.out.trans (hb4.mono HV3.out.size)); clear hb4)
 clear k0 k1
 have BFA0 := hid (((HV4.out).block _ (ags HXA.out).1).trans HXA.out)
 have BFC0 := hid (((HV4.out).block _ (ags HXC.out).1).trans HXC.out)
 have HBW := hid (HB1.out.trans (HV4.out.mono HB1.out.size))
 have HT0 := hid (HH.out.fresh HBW.out)
 have HNA : Hid (New w w4 (w.heap.size)) := hid ⟨by omega, (ags BFA0.out).1⟩
 have HNC : Hid (New w w4 (w.heap.size + 1)) := hid ⟨by omega, (ags BFC0.out).1⟩
 have HA1 : Hid (w4.cell? ⟨rhb, 0, none⟩ = some (.pointer (some ⟨s.srb, 0, none⟩)) ∧ w4.cell? ⟨w.heap.size, 0, none⟩ = some (.int .i64 o) ∧ w4.cell? ⟨w.heap.size, 1, none⟩ = some (.int .i64 i) ∧ w4.cell? ⟨w.heap.size + 1, 0, none⟩ = some (.int .i64 ca) ∧ w4.cell? ⟨w.heap.size + 1, 1, none⟩ = some (.int .i64 cb) ∧ w4.cell? ⟨w.heap.size + 1, 2, none⟩ = some (.int .i64 cx) ∧ w4.cell? ⟨w.heap.size + 1, 3, none⟩ = some (.int .u64 cd) ∧ w4.cell? ⟨w.heap.size + 1, 4, none⟩ = some (.int .i64 ce) ∧ w4.cell? ⟨w.heap.size + 1, 5, none⟩ = some (.int .i64 cf) ∧ w4.cell? ⟨w.heap.size + 1, 6, none⟩ = some (.int .i64 cg) ∧ w4.cell? ⟨w.heap.size + 1, 7, none⟩ = some (.int .i64 ch)) := hid ⟨HT0.out.rc.1, (slot_cells BFA0.out).1, (slot_cells BFA0.out).2, (cap_cells BFC0.out).1, (cap_cells BFC0.out).2.1, (cap_cells BFC0.out).2.2.1, (cap_cells BFC0.out).2.2.2.1, (cap_cells BFC0.out).2.2.2.2.1, (cap_cells BFC0.out).2.2.2.2.2.1, (cap_cells BFC0.out).2.2.2.2.2.2.1, (cap_cells BFC0.out).2.2.2.2.2.2.2⟩
 have HD1 : Hid (w4.drew.cell? ⟨rhb, 0, none⟩ = some (.pointer (some ⟨s.srb, 0, none⟩)) ∧ w4.drew.cell? ⟨w.heap.size, 0, none⟩ = some (.int .i64 o) ∧ w4.drew.cell? ⟨w.heap.size, 1, none⟩ = some (.int .i64 i) ∧ w4.drew.cell? ⟨w.heap.size + 1, 0, none⟩ = some (.int .i64 ca) ∧ w4.drew.cell? ⟨w.heap.size + 1, 1, none⟩ = some (.int .i64 cb) ∧ w4.drew.cell? ⟨w.heap.size + 1, 2, none⟩ = some (.int .i64 cx) ∧ w4.drew.cell? ⟨w.heap.size + 1, 3, none⟩ = some (.int .u64 cd) ∧ w4.drew.cell? ⟨w.heap.size + 1, 4, none⟩ = some (.int .i64 ce) ∧ w4.drew.cell? ⟨w.heap.size + 1, 5, none⟩ = some (.int .i64 cf) ∧ w4.drew.cell? ⟨w.heap.size + 1, 6, none⟩ = some (.int .i64 cg) ∧ w4.drew.cell? ⟨w.heap.size + 1, 7, none⟩ = some (.int .i64 ch)) := hid HA1.out
 have HE1d := hid (HT0.out.call (show Below w4.heap.size w4 w4.drew from (Below.refl _ _).drew))
 have HC1 := hid (HST.out _ _ HE1d.out)
 go_region_held3 (fun w' => w'.cell? ⟨rhb, 0, none⟩ = some (.pointer (some ⟨s.srb, 0, none⟩)) ∧ w'.cell? ⟨w.heap.size, 0, none⟩ = some (.int .i64 o) ∧ w'.cell? ⟨w.heap.size, 1, none⟩ = some (.int .i64 i) ∧ w'.cell? ⟨w.heap.size + 1, 0, none⟩ = some (.int .i64 ca) ∧ w'.cell? ⟨w.heap.size + 1, 1, none⟩ = some (.int .i64 cb) ∧ w'.cell? ⟨w.heap.size + 1, 2, none⟩ = some (.int .i64 cx) ∧ w'.cell? ⟨w.heap.size + 1, 3, none⟩ = some (.int .u64 cd) ∧ w'.cell? ⟨w.heap.size + 1, 4, none⟩ = some (.int .i64 ce) ∧ w'.cell? ⟨w.heap.size + 1, 5, none⟩ = some (.int .i64 cf) ∧ w'.cell? ⟨w.heap.size + 1, 6, none⟩ = some (.int .i64 cg) ∧ w'.cell? ⟨w.heap.size + 1, 7, none⟩ = some (.int .i64 ch))
  (first | (with_reducible exact HA1.out) | (with_reducible exact HD1.out) | (with_reducible exact HF1.out))
  (first | (go_at_call 82; (with_reducible refine HC1.out.mono ?_); rintro e a1 ⟨rfl, hh, hk⟩; have HH1 := hid hh; have bfA := (hk _ (.inr HNA.out)).trans BFA0.out; have BFA1 := hid bfA; have bfC := (hk _ (.inr HNC.out)).trans BFC0.out; have BFC1 := hid bfC; have HK1 := hid hk; have HF1 : Hid (a1.cell? ⟨rhb, 0, none⟩ = some (.pointer (some ⟨s.srb, 0, none⟩)) ∧ a1.cell? ⟨w.heap.size, 0, none⟩ = some (.int .i64 o) ∧ a1.cell? ⟨w.heap.size, 1, none⟩ = some (.int .i64 i) ∧ a1.cell? ⟨w.heap.size + 1, 0, none⟩ = some (.int .i64 ca) ∧ a1.cell? ⟨w.heap.size + 1, 1, none⟩ = some (.int .i64 cb) ∧ a1.cell? ⟨w.heap.size + 1, 2, none⟩ = some (.int .i64 cx) ∧ a1.cell? ⟨w.heap.size + 1, 3, none⟩ = some (.int .u64 cd) ∧ a1.cell? ⟨w.heap.size + 1, 4, none⟩ = some (.int .i64 ce) ∧ a1.cell? ⟨w.heap.size + 1, 5, none⟩ = some (.int .i64 cf) ∧ a1.cell? ⟨w.heap.size + 1, 6, none⟩ = some (.int .i64 cg) ∧ a1.cell? ⟨w.heap.size + 1, 7, none⟩ = some (.int .i64 ch)) := hid ⟨hh.rc.1, (slot_cells bfA).1, (slot_cells bfA).2, (cap_cells bfC).1, (cap_cells bfC).2.1, (cap_cells bfC).2.2.1, (cap_cells bfC).2.2.2.1, (cap_cells bfC).2.2.2.2.1, (cap_cells bfC).2.2.2.2.2.1, (cap_cells bfC).2.2.2.2.2.2.1, (cap_cells bfC).2.2.2.2.2.2.2⟩; clear hh hk bfA bfC))
 have HA2 : Hid (a1.cell? ⟨rhb, 1, none⟩ = some (.pointer (some ⟨s.trb, 0, none⟩)) ∧ a1.cell? ⟨w.heap.size, 0, none⟩ = some (.int .i64 o) ∧ a1.cell? ⟨w.heap.size, 1, none⟩ = some (.int .i64 i)) := hid ⟨HH1.out.rc.2.1, (slot_cells BFA1.out).1, (slot_cells BFA1.out).2⟩
 have HD2 : Hid (a1.drew.cell? ⟨rhb, 1, none⟩ = some (.pointer (some ⟨s.trb, 0, none⟩)) ∧ a1.drew.cell? ⟨w.heap.size, 0, none⟩ = some (.int .i64 o) ∧ a1.drew.cell? ⟨w.heap.size, 1, none⟩ = some (.int .i64 i)) := hid HA2.out
 have HE2d := hid (HH1.out.call (show Below a1.heap.size a1 a1.drew from (Below.refl _ _).drew))
 have HC2 := hid (HRT.out _ _ HE2d.out)
 go_upto_region 8 with fail
 go_region_held3 (fun w' => w'.cell? ⟨rhb, 1, none⟩ = some (.pointer (some ⟨s.trb, 0, none⟩)) ∧ w'.cell? ⟨w.heap.size, 0, none⟩ = some (.int .i64 o) ∧ w'.cell? ⟨w.heap.size, 1, none⟩ = some (.int .i64 i))
  (first | (with_reducible exact HA2.out) | (with_reducible exact HD2.out) | (with_reducible exact HF2.out))
  (first | (go_at_call 83; (with_reducible refine HC2.out.mono ?_); rintro e a2 ⟨rfl, hh, hk⟩; have HH2 := hid hh; have bfA := (hk _ (.inr HNA.out)).trans BFA1.out; have BFA2 := hid bfA; have bfC := (hk _ (.inr HNC.out)).trans BFC1.out; have BFC2 := hid bfC; have HK2 := hid hk; have HF2 : Hid (a2.cell? ⟨rhb, 1, none⟩ = some (.pointer (some ⟨s.trb, 0, none⟩)) ∧ a2.cell? ⟨w.heap.size, 0, none⟩ = some (.int .i64 o) ∧ a2.cell? ⟨w.heap.size, 1, none⟩ = some (.int .i64 i)) := hid ⟨hh.rc.2.1, (slot_cells bfA).1, (slot_cells bfA).2⟩; clear hh hk bfA bfC))
 all_goals
  go_wp2
  go_ret
  exact ⟨rfl, HH2.out.weak (fun k q => .inl q), fun k q => (HK2.out k (.inl q)).trans ((HK1.out k (.inl q)).trans (HBW.out.block k (HH.out.lt q)))⟩
end HdS
end
end Go.Proofs.YtchjfeafkmpmbaaGreatDoor
