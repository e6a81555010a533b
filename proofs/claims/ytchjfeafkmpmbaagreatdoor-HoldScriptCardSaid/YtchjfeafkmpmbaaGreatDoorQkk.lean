import Derived.Test.YtchjfeafkmpmbaaGreatDoorQkj
import Derived.Deep.RegionHeld3
import Derived.Test.YtchjfeafkmpmbaaGreatDoorFrame
import Derived.LoopTactic
namespace Go.Proofs.YtchjfeafkmpmbaaGreatDoor
set_option linter.unusedVariables false
set_option linter.unusedSimpArgs false
set_option maxRecDepth 100000
set_option maxHeartbeats 8000000
open Lib (hid)
open Go.ChangeShapes Go.WideShapes Go.ChangeAt Go.RowKit Go.Shelf
section
namespace HdS
open TabS (Cp Sn zC mayC sizS getR getN Two Pr FootP foot_ltP foot_ltR SameS AddRel addSR setN setM rowsS hasS dropSR dropSL heldA hdsC)
variable {W w w' : World} {s : Sh} {hb rhb n n' : Nat} {L M L' M' : List Sn} {l l2 l' l2' : List Nod} {S : Nat → Prop}
abbrev Bx2A (w : World) (hb : Nat) (s : Sh) (o i : Int) (c : Cp) (sB cB : Nat) : Prop := w.cell? ⟨hb, 0, none⟩ = some (.pointer (some ⟨s.sb, 0, none⟩)) ∧ w.cell? ⟨sB, 0, none⟩ = some (.int .i64 o) ∧ w.cell? ⟨sB, 1, none⟩ = some (.int .i64 i) ∧ w.cell? ⟨cB, 0, none⟩ = some (.int .i64 c.a) ∧ w.cell? ⟨cB, 1, none⟩ = some (.int .i64 c.b) ∧ w.cell? ⟨cB, 2, none⟩ = some (.int .i64 c.c) ∧ w.cell? ⟨cB, 3, none⟩ = some (.int .u64 c.d) ∧ w.cell? ⟨cB, 4, none⟩ = some (.int .i64 c.e) ∧ w.cell? ⟨cB, 5, none⟩ = some (.int .i64 c.f) ∧ w.cell? ⟨cB, 6, none⟩ = some (.int .i64 c.g) ∧ w.cell? ⟨cB, 7, none⟩ = some (.int .i64 c.h)
theorem Bx2.a {o i : Int} {c : Cp} {sB cB : Nat} (h : Bx2 w hb s o i c sB cB) : Bx2A w hb s o i c sB cB := ⟨h.h0, h.k0, h.k1, h.x0, h.x1, h.x2, h.x3, h.x4, h.x5, h.x6, h.x7⟩
theorem hroot_yes (h : Hd W s hb rhb n L M l l2 S w) (hT0 : CX.TabG W) (o i : Int) (ho : InS o) (hi : InS i) (c : Cp) (he : c.e ≤ 9223372036854775807) (hnn : n < 1000000) (hon : rootOn L o i c) :
  Calls Tryz.prog 30 #[.pointer (some ⟨hb, 0, none⟩), slV o i, c.V] w fun e w' => e = .returned (.int .i64 (rootA l o i).2) ∧ Hd W s hb rhb (n + 1) (setM L o i c) M (rootA l o i).1 l2 S w' ∧ SameK S w w' := by
 obtain ⟨hb1, hs1, hc1⟩ := slot_cap_boxes w o i c
 obtain ⟨w1, hw1⟩ : ∃ y, y = (w.alloc (slO o i)).alloc (.cells c.L.toArray 33) := ⟨_, rfl⟩
 rw [← hw1] at hb1 hs1 hc1
 have H1 := hid (h.call hb1)
 have HB1 := hid hb1
 have HC1 := hid hc1
 have HG := hid (hget H1.out o i)
 have HT1 := hid (fun (v : World) (hv : Below w1.heap.size w1 v) => hsome v (hT0.call (H1.out.call hv).below) c he)
 have hsb : someB c = (mayC c && decide (c.a ≠ 0)) := rfl
 rw [← hsb] at HT1
 have HH := hid h
 have HTW := hid hT0
 have HE := hid he
 have HO := hid (And.intro ho hi)
 unfold rootOn at hon
 obtain ⟨L2, hL2⟩ : ∃ y, y = setM L o i c := ⟨_, rfl⟩
 obtain ⟨RA, hRA⟩ : ∃ y, y = rootA l o i := ⟨_, rfl⟩
 rw [← hL2, ← hRA]
 have HST : Hid (∀ v T, Hd W s hb rhb n L M l l2 T v → Calls Tryz.prog 71 #[.pointer (some ⟨s.sb, 0, none⟩), slV o i, c.V] v fun e w' => e = .returned (.int .i64 (setN L o i c)) ∧ Hd W s hb rhb n L2 M l l2 T w' ∧ SameK T v w') := hid (fun v T hv => by rw [hL2]; exact hv.act (fun K hK => hK.set hT0 o i c he))
 have HRT : Hid (∀ v T, Hd W s hb rhb n L2 M l l2 T v → Calls Tryz.prog 77 #[.pointer (some ⟨s.tb, 0, none⟩), slV o i] v fun e w' => e = .returned (.int .i64 RA.2) ∧ Hd W s hb rhb (n + 1) L2 M RA.1 l2 T w' ∧ SameK T v w') := hid (fun v T hv => by rw [hRA]; exact hv.act (fun K hK => hK.root o i ho hi hnn))
 clear hL2 hRA
 generalize setN L o i c = sn at *
 generalize gt L o i = t at *
 generalize gn L o i = cn at *
 generalize someB c = sm at *
 obtain ⟨ta, tb, tx, td, te, tf, tg, th⟩ := t
 obtain ⟨ca, cb, cx, cd, ce, cf, cg, ch⟩ := c
 simp only [] at hon
 obtain ⟨rfl, rfl, rfl⟩ := hon
 obtain ⟨k0, k1⟩ := slot_cells hs1
 have HZ1 := hid (ags hc1).1
 have HW := hid hw1
 have HS1 := hid hs1
 clear h hb1 hs1 hc1 hw1 hsb hT0 he ho hi hnn
 go_enter Tryz.func30, Tryz.ntmps30
 go_upto_region 1 with fail
 rw [show ((w.alloc (slO o i)).alloc (.cells #[.int .i64 ca, .int .i64 cb, .int .i64 cx, .int .u64 cd, .int .i64 ce, .int .i64 cf, .int .i64 cg, .int .i64 ch] 33)) = w1 from HW.out.symm]
 go_upto_region 2 with (go_at_call 20; (with_reducible refine HG.out.mono ?_); rintro e w2 ⟨rfl, hb2⟩; have HB2 := hid hb2; clear hb2)
 obtain ⟨w3, hw3⟩ : ∃ y, y = w2.alloc (.cells #[.int .i64 0, .int .i64 tb, .int .i64 tx, .int .u64 td, .int .i64 te, .int .i64 tf, .int .i64 tg, .int .i64 th] 33) := ⟨_, rfl⟩
 have hb3 : Below w1.heap.size w1 w3 := hw3 ▸ bal HB2.out _
 have hx3 : w3.heap[w2.heap.size]? = some (.cells (⟨0, tb, tx, td, te, tf, tg, th⟩ : Cp).L.toArray 33 (0, 0)) := by rw [hw3]; exact heap_alloc_new w2 _
 have HX3 := hid hx3
 have HB3w := hid hb3
 have HC3 := hid ((hb3.block _ HZ1.out).trans HC1.out)
 have HB3 := hid (HB1.out.trans (hb3.mono HB1.out.size))
 rw [← hw3]
 generalize w2.heap.size = xB at *
 have HZ0 : Hid (w.heap.size < w1.heap.size) := hid (by have := HZ1.out; omega)
 have HS3 := hid ((hb3.block _ HZ0.out).trans HS1.out)
 clear hw3 hb3 hx3 k0 k1 HG H1 HB1 HC1 HB2 HS1
 obtain ⟨x0, x1, x2, x3, x4, x5, x6, x7⟩ := cap_cells HC3.out
 simp only [] at x0 x1 x2 x3 x4 x5 x6 x7
 have HSM := hid (HT1.out w3 HB3w.out)
 go_upto_region 8 with (go_at_call 76; (with_reducible refine HSM.out.mono ?_); rintro e w4 ⟨rfl, hb4⟩; have HB4 := hid hb4; have hx4 := (hb4.block xB (ags HX3.out).1).trans HX3.out; obtain ⟨t0, -⟩ := cap_cells hx4; simp only [] at t0; clear hb4 hx4)
 have HC4 := hid ((HB4.out.block _ (ags HC3.out).1).trans HC3.out)
 have HS4 := hid ((HB4.out.block _ (ags HS3.out).1).trans HS3.out)
 have HW4 := hid (HB3.out.trans (HB4.out.mono HB3.out.size))
 have HE4 := hid (HH.out.fresh HW4.out)
 have HE4d := hid (HE4.out.call (show Below w4.heap.size w4 w4.drew from (Below.refl _ _).drew))
 have HBX4 := hid (Bx2.of HE4.out HS4.out HC4.out).a
 have HNS : Hid (New w w4 w.heap.size ∧ New w w4 (w.heap.size + 1)) := hid ⟨⟨Nat.le_refl _, (ags HS4.out).1⟩, ⟨by omega, (ags HC4.out).1⟩⟩
 have HSC := hid (HST.out _ _ HE4d.out)
 have HBd : Hid (Bx2A w4.drew hb s o i ⟨ca, cb, cx, cd, ce, cf, cg, ch⟩ w.heap.size (w.heap.size + 1)) := hid HBX4.out
 clear x0 x1 x2 x3 x4 x5 x6 x7 t0 HT1 HSM HX3 HB3w HB3 HC3 HS3 HB4 HST
 go_region_held3 (fun w' => w'.cell? ⟨hb, 0, none⟩ = some (.pointer (some ⟨s.sb, 0, none⟩)) ∧ w'.cell? ⟨w.heap.size, 0, none⟩ = some (.int .i64 o) ∧ w'.cell? ⟨w.heap.size, 1, none⟩ = some (.int .i64 i) ∧ w'.cell? ⟨w.heap.size + 1, 0, none⟩ = some (.int .i64 ca) ∧ w'.cell? ⟨w.heap.size + 1, 1, none⟩ = some (.int .i64 cb) ∧ w'.cell? ⟨w.heap.size + 1, 2, none⟩ = some (.int .i64 cx) ∧ w'.cell? ⟨w.heap.size + 1, 3, none⟩ = some (.int .u64 cd) ∧ w'.cell? ⟨w.heap.size + 1, 4, none⟩ = some (.int .i64 ce) ∧ w'.cell? ⟨w.heap.size + 1, 5, none⟩ = some (.int .i64 cf) ∧ w'.cell? ⟨w.heap.size + 1, 6, none⟩ = some (.int .i64 cg) ∧ w'.cell? ⟨w.heap.size + 1, 7, none⟩ = some (.int .i64 ch))
  (first | (with_reducible exact HBX4.out) | (with_reducible exact HBd.out) | (with_reducible exact HB5.out))
  (first | (go_at_call 71; (with_reducible refine HSC.out.mono ?_); rintro e w5 ⟨rfl, h5, hk5⟩; have H5 := hid h5; have HK5 := hid hk5; have hs5 := (hk5 _ (.inr HNS.out.1)).trans HS4.out; have hc5 := (hk5 _ (.inr HNS.out.2)).trans HC4.out; have HS5 := hid hs5; have HB5 := hid (Bx2.of h5 hs5 hc5).a; have HT5 := hid (Bx2.of h5 hs5 hc5); clear h5 hk5 hs5 hc5))
 have HBX5 : Hid (w5.cell? ⟨hb, 1, none⟩ = some (.pointer (some ⟨s.tb, 0, none⟩)) ∧ w5.cell? ⟨w.heap.size, 0, none⟩ = some (.int .i64 o) ∧ w5.cell? ⟨w.heap.size, 1, none⟩ = some (.int .i64 i)) := hid ⟨HT5.out.h1, HT5.out.k0, HT5.out.k1⟩
 have HBX5d : Hid (w5.drew.cell? ⟨hb, 1, none⟩ = some (.pointer (some ⟨s.tb, 0, none⟩)) ∧ w5.drew.cell? ⟨w.heap.size, 0, none⟩ = some (.int .i64 o) ∧ w5.drew.cell? ⟨w.heap.size, 1, none⟩ = some (.int .i64 i)) := hid HBX5.out
 have H5d := hid (H5.out.call (show Below w5.heap.size w5 w5.drew from (Below.refl _ _).drew))
 have HRC := hid (HRT.out _ _ H5d.out)
 have HS0 : Hid (∀ k, S k → w5.heap[k]? = w.heap[k]?) := hid (fun k q => (HK5.out k (.inl q)).trans (HW4.out.block k (HH.out.lt q)))
 clear HB5 HT5 HSC HRT HBX4 HBd HC4 HS4 HE4 HE4d
 go_upto_region 9 with fail
 go_region_held3 (fun w' => w'.cell? ⟨hb, 1, none⟩ = some (.pointer (some ⟨s.tb, 0, none⟩)) ∧ w'.cell? ⟨w.heap.size, 0, none⟩ = some (.int .i64 o) ∧ w'.cell? ⟨w.heap.size, 1, none⟩ = some (.int .i64 i))
  (first | (with_reducible exact HBX5.out) | (with_reducible exact HBX5d.out) | (with_reducible exact HB6.out))
  (first | (go_at_call 77; (with_reducible refine HRC.out.mono ?_); rintro e w6 ⟨rfl, h6, hk6⟩; have H6 := hid h6; have HK6 := hid hk6; have hs6 := (hk6 _ (.inr HNS.out.1)).trans HS5.out; have HB6 := hid (And.intro h6.c.2.1 (slot_cells hs6)); clear h6 hk6 hs6))
 all_goals
  go_wp2
  go_ret
  exact ⟨rfl, H6.out.weak (fun k q => .inl q), fun k q => (HK6.out k (.inl q)).trans (HS0.out k q)⟩
def childF (q : Int) (sm : Bool) (r : Int) : Int := if q = 1 ∨ q = 3 then q else if sm = false then 5 else if q ≠ 0 then q else r
def childN (L : List Sn) (l : List Nod) (o i p j : Int) (c : Cp) : Int := childF (pairN L o i p j) (someB c) (childA l o i p j).2
def childOn (L : List Sn) (o i p j : Int) (c : Cp) : Prop := pairN L o i p j = 0 ∧ someB c = true
abbrev triW (w : World) (o i p j : Int) (c : Cp) : World := ((w.alloc (slO o i)).alloc (slO p j)).alloc (.cells c.L.toArray 33)
theorem tri_boxes (w : World) (o i p j : Int) (c : Cp) : Below w.heap.size w (triW w o i p j c) ∧ (triW w o i p j c).heap[w.heap.size]? = some (.cells #[.int .i64 o, .int .i64 i] 30 (0, 0)) ∧ (triW w o i p j c).heap[w.heap.size + 1]? = some (.cells #[.int .i64 p, .int .i64 j] 30 (0, 0)) ∧ (triW w o i p j c).heap[w.heap.size + 2]? = some (.cells c.L.toArray 33 (0, 0)) := by
 have h1 := heap_alloc_new (w.alloc (slO o i)) (slO p j)
 have h2 := heap_alloc_new ((w.alloc (slO o i)).alloc (slO p j)) (.cells c.L.toArray 33)
 rw [World.size_alloc] at h1 h2
 rw [World.size_alloc] at h2
 exact ⟨bal (bal (bal (Below.refl _ _) _) _) _, (Below.heap_alloc _ _ _ (by simp; omega)).trans ((Below.heap_alloc _ _ _ (by simp)).trans (heap_alloc_new w _)), (Below.heap_alloc _ _ _ (by simp)).trans h1, h2⟩
theorem hchild_no (h : Hd W s hb rhb n L M l l2 S w) (hT0 : CX.TabG W) (o i p j : Int) (c : Cp) (he : c.e ≤ 9223372036854775807) (hno : ¬ childOn L o i p j c) :
  Calls Tryz.prog 35 #[.pointer (some ⟨hb, 0, none⟩), slV o i, slV p j, c.V] w fun e w' => e = .returned (.int .i64 (childN L l o i p j c)) ∧ Below w.heap.size w w' := by
 obtain ⟨hb1, hs1, ht1, hc1⟩ := tri_boxes w o i p j c
 obtain ⟨w1, hw1⟩ : ∃ y, y = triW w o i p j c := ⟨_, rfl⟩
 rw [← hw1] at hb1 hs1 ht1 hc1
 have H1 := hid (h.call hb1)
 have HB1 := hid hb1
 have HC1 := hid hc1
 have HS1 := hid hs1
 have HR1 := hid ht1
 have HG := hid (hpair H1.out o i p j)
 have HT1 := hid (fun (v : World) (hv : Below w1.heap.size w1 v) => hsome v (hT0.call (H1.out.call hv).below) c he)
 have hsb : someB c = (mayC c && decide (c.a ≠ 0)) := rfl
 rw [← hsb] at HT1
 obtain ⟨N, hN⟩ : ∃ y, y = childN L l o i p j c := ⟨_, rfl⟩
 rw [← hN]
 unfold childN childF at hN
 unfold childOn at hno
 generalize pairC L o i p j = t at *
 generalize pairN L o i p j = cn at *
 generalize someB c = sm at *
 obtain ⟨ta, tb, tx, td, te, tf, tg, th⟩ := t
 obtain ⟨ca, cb, cx, cd, ce, cf, cg, ch⟩ := c
 have HN := hid hN
 clear hN
 obtain ⟨k0, k1⟩ := slot_cells hs1
 obtain ⟨r0, r1⟩ := slot_cells ht1
 have HZ1 := hid (ags hc1).1
 have HW := hid hw1
 clear h hb1 hs1 ht1 hc1 hw1 hsb hT0 he
 go_enter Tryz.func35, Tryz.ntmps35
 go_upto_region 1 with fail
 rw [show (((w.alloc (slO o i)).alloc (slO p j)).alloc (.cells #[.int .i64 ca, .int .i64 cb, .int .i64 cx, .int .u64 cd, .int .i64 ce, .int .i64 cf, .int .i64 cg, .int .i64 ch] 33)) = w1 from HW.out.symm]
 go_upto_region 2 with (go_at_call 68; (with_reducible refine HG.out.mono ?_); rintro e w2 ⟨rfl, hb2⟩; have HB2 := hid hb2; clear hb2)
 obtain ⟨w3, hw3⟩ : ∃ y, y = w2.alloc (.cells #[.int .i64 ta, .int .i64 tb, .int .i64 tx, .int .u64 td, .int .i64 te, .int .i64 tf, .int .i64 tg, .int .i64 th] 33) := ⟨_, rfl⟩
 have hb3 : Below w1.heap.size w1 w3 := hw3 ▸ bal HB2.out _
 have HB3w := hid hb3
 have HZ0 : Hid (w.heap.size < w1.heap.size ∧ w.heap.size + 1 < w1.heap.size) := hid (by have := HZ1.out; omega)
 have HC3 := hid ((hb3.block _ HZ1.out).trans HC1.out)
 have HS3 := hid ((hb3.block _ HZ0.out.1).trans HS1.out)
 have HR3 := hid ((hb3.block _ HZ0.out.2).trans HR1.out)
 have HB3 := hid (HB1.out.trans (hb3.mono HB1.out.size))
 rw [← hw3]
 generalize w2.heap.size = xB at *
 clear hw3 hb3 k0 k1 r0 r1 HG H1 HB1 HC1 HB2 HS1 HR1
 obtain ⟨x0, x1, x2, x3, x4, x5, x6, x7⟩ := cap_cells HC3.out
 simp only [] at x0 x1 x2 x3 x4 x5 x6 x7
 have HSM := hid (HT1.out w3 HB3w.out)
 by_cases q1 : cn = 1
 ·subst q1
  obtain rfl : N = 1 := by rw [HN.out]; rfl
  go_wp2
  go_ret
  exact ⟨rfl, HB3.out⟩
 ·by_cases q3 : cn = 3
  ·subst q3
   obtain rfl : N = 3 := by rw [HN.out]; rfl
   go_wp2
   go_ret
   exact ⟨rfl, HB3.out⟩
  ·have q4 : ¬ (cn = 1 ∨ cn = 3) := fun e => e.elim q1 q3
   have q5 : (cn == 1) = false := beq_eq_false_iff_ne.2 q1
   have q6 : (cn == 3) = false := beq_eq_false_iff_ne.2 q3
   cases sm with
   | false =>
    obtain rfl : N = 5 := by rw [HN.out, if_neg q4]; rfl
    go_wp2_with (go_at_call 76; (with_reducible refine HSM.out.mono ?_); rintro e w4 ⟨rfl, hb4⟩; have HB4 := hid (HB3.out.trans (hb4.mono HB3.out.size)); clear hb4)
    go_ret
    exact ⟨rfl, HB4.out⟩
   | true =>
    have q0 : cn ≠ 0 := fun e => hno ⟨e, rfl⟩
    obtain rfl : cn = N := by rw [HN.out, if_neg q4, if_neg (by decide), if_pos q0]
    go_wp2_with (go_at_call 76; (with_reducible refine HSM.out.mono ?_); rintro e w4 ⟨rfl, hb4⟩; have HB4 := hid (HB3.out.trans (hb4.mono HB3.out.size)); clear hb4)
    go_ret
    exact ⟨rfl, HB4.out⟩
theorem hchild_yes (h : Hd W s hb rhb n L M l l2 S w) (hT0 : CX.TabG W) (o i p j : Int) (ho : InS o) (hi : InS i) (hp : InS p) (hj : InS j) (c : Cp) (he : c.e ≤ 9223372036854775807) (hnn : n < 1000000) (hon : childOn L o i p j c) :
  Calls Tryz.prog 35 #[.pointer (some ⟨hb, 0, none⟩), slV o i, slV p j, c.V] w fun e w' => e = .returned (.int .i64 (childA l o i p j).2) ∧ Hd W s hb rhb (n + 1) (setM L p j c) M (childA l o i p j).1 l2 S w' ∧ SameK S w w' := by
 obtain ⟨hb1, hs1, ht1, hc1⟩ := tri_boxes w o i p j c
 obtain ⟨w1, hw1⟩ : ∃ y, y = triW w o i p j c := ⟨_, rfl⟩
 rw [← hw1] at hb1 hs1 ht1 hc1
 have H1 := hid (h.call hb1)
 have HB1 := hid hb1
 have HC1 := hid hc1
 have HS1 := hid hs1
 have HR1 := hid ht1
 have HG := hid (hpair H1.out o i p j)
 have HT1 := hid (fun (v : World) (hv : Below w1.heap.size w1 v) => hsome v (hT0.call (H1.out.call hv).below) c he)
 have hsb : someB c = (mayC c && decide (c.a ≠ 0)) := rfl
 rw [← hsb] at HT1
 have HH := hid h
 unfold childOn at hon
 obtain ⟨L2, hL2⟩ : ∃ y, y = setM L p j c := ⟨_, rfl⟩
 obtain ⟨RA, hRA⟩ : ∃ y, y = childA l o i p j := ⟨_, rfl⟩
 rw [← hL2, ← hRA]
 have HST : Hid (∀ v T, Hd W s hb rhb n L M l l2 T v → Calls Tryz.prog 71 #[.pointer (some ⟨s.sb, 0, none⟩), slV p j, c.V] v fun e w' => e = .returned (.int .i64 (setN L p j c)) ∧ Hd W s hb rhb n L2 M l l2 T w' ∧ SameK T v w') := hid (fun v T hv => by rw [hL2]; exact hv.act (fun K hK => hK.set hT0 p j c he))
 have HRT : Hid (∀ v T, Hd W s hb rhb n L2 M l l2 T v → Calls Tryz.prog 84 #[.pointer (some ⟨s.tb, 0, none⟩), slV o i, slV p j] v fun e w' => e = .returned (.int .i64 RA.2) ∧ Hd W s hb rhb (n + 1) L2 M RA.1 l2 T w' ∧ SameK T v w') := hid (fun v T hv => by rw [hRA]; exact hv.act (fun K hK => hK.child o i p j ho hi hp hj hnn))
 clear hL2 hRA
 generalize setN L p j c = sn at *
 generalize pairC L o i p j = t at *
 generalize pairN L o i p j = cn at *
 generalize someB c = sm at *
 obtain ⟨ta, tb, tx, td, te, tf, tg, th⟩ := t
 obtain ⟨ca, cb, cx, cd, ce, cf, cg, ch⟩ := c
 obtain ⟨rfl, rfl⟩ := hon
 obtain ⟨k0, k1⟩ := slot_cells hs1
 obtain ⟨r0, r1⟩ := slot_cells ht1
 have HZ1 := hid (ags hc1).1
 have HW := hid hw1
 clear h hb1 hs1 ht1 hc1 hw1 hsb hT0 he ho hi hp hj hnn
 go_enter Tryz.func35, Tryz.ntmps35
 go_upto_region 1 with fail
 rw [show (((w.alloc (slO o i)).alloc (slO p j)).alloc (.cells #[.int .i64 ca, .int .i64 cb, .int .i64 cx, .int .u64 cd, .int .i64 ce, .int .i64 cf, .int .i64 cg, .int .i64 ch] 33)) = w1 from HW.out.symm]
 go_upto_region 2 with (go_at_call 68; (with_reducible refine HG.out.mono ?_); rintro e w2 ⟨rfl, hb2⟩; have HB2 := hid hb2; clear hb2)
 obtain ⟨w3, hw3⟩ : ∃ y, y = w2.alloc (.cells #[.int .i64 ta, .int .i64 tb, .int .i64 tx, .int .u64 td, .int .i64 te, .int .i64 tf, .int .i64 tg, .int .i64 th] 33) := ⟨_, rfl⟩
 have hb3 : Below w1.heap.size w1 w3 := hw3 ▸ bal HB2.out _
 have HB3w := hid hb3
 have HZ0 : Hid (w.heap.size < w1.heap.size ∧ w.heap.size + 1 < w1.heap.size) := hid (by have := HZ1.out; omega)
 have HC3 := hid ((hb3.block _ HZ1.out).trans HC1.out)
 have HS3 := hid ((hb3.block _ HZ0.out.1).trans HS1.out)
 have HR3 := hid ((hb3.block _ HZ0.out.2).trans HR1.out)
 have HB3 := hid (HB1.out.trans (hb3.mono HB1.out.size))
 rw [← hw3]
 generalize w2.heap.size = xB at *
 clear hw3 hb3 k0 k1 r0 r1 HG H1 HB1 HC1 HB2 HS1 HR1
 obtain ⟨x0, x1, x2, x3, x4, x5, x6, x7⟩ := cap_cells HC3.out
 simp only [] at x0 x1 x2 x3 x4 x5 x6 x7
 have HSM := hid (HT1.out w3 HB3w.out)
 go_upto_region 8 with (go_at_call 76; (with_reducible refine HSM.out.mono ?_); rintro e w4 ⟨rfl, hb4⟩; have HB4 := hid hb4; clear hb4)
 have HC4 := hid ((HB4.out.block _ (ags HC3.out).1).trans HC3.out)
 have HS4 := hid ((HB4.out.block _ (ags HS3.out).1).trans HS3.out)
 have HR4 := hid ((HB4.out.block _ (ags HR3.out).1).trans HR3.out)
 have HW4 := hid (HB3.out.trans (HB4.out.mono HB3.out.size))
 have HE4 := hid (HH.out.fresh HW4.out)
 have HE4d := hid (HE4.out.call (show Below w4.heap.size w4 w4.drew from (Below.refl _ _).drew))
 have HBX4 := hid (Bx2.of HE4.out HR4.out HC4.out).a
 have HNS : Hid (New w w4 w.heap.size ∧ New w w4 (w.heap.size + 1) ∧ New w w4 (w.heap.size + 2)) := hid ⟨⟨Nat.le_refl _, (ags HS4.out).1⟩, ⟨by omega, (ags HR4.out).1⟩, ⟨by omega, (ags HC4.out).1⟩⟩
 have HSC := hid (HST.out _ _ HE4d.out)
 have HBd : Hid (Bx2A w4.drew hb s p j ⟨ca, cb, cx, cd, ce, cf, cg, ch⟩ (w.heap.size + 1) (w.heap.size + 2)) := hid HBX4.out
 clear x0 x1 x2 x3 x4 x5 x6 x7 HT1 HSM HB3w HB3 HC3 HS3 HR3 HB4 HST
 go_region_held3 (fun w' => w'.cell? ⟨hb, 0, none⟩ = some (.pointer (some ⟨s.sb, 0, none⟩)) ∧ w'.cell? ⟨w.heap.size + 1, 0, none⟩ = some (.int .i64 p) ∧ w'.cell? ⟨w.heap.size + 1, 1, none⟩ = some (.int .i64 j) ∧ w'.cell? ⟨w.heap.size + 2, 0, none⟩ = some (.int .i64 ca) ∧ w'.cell? ⟨w.heap.size + 2, 1, none⟩ = some (.int .i64 cb) ∧ w'.cell? ⟨w.heap.size + 2, 2, none⟩ = some (.int .i64 cx) ∧ w'.cell? ⟨w.heap.size + 2, 3, none⟩ = some (.int .u64 cd) ∧ w'.cell? ⟨w.heap.size + 2, 4, none⟩ = some (.int .i64 ce) ∧ w'.cell? ⟨w.heap.size + 2, 5, none⟩ = some (.int .i64 cf) ∧ w'.cell? ⟨w.heap.size + 2, 6, none⟩ = some (.int .i64 cg) ∧ w'.cell? ⟨w.heap.size + 2, 7, none⟩ = some (.int .i64 ch))
  (first | (with_reducible exact HBX4.out) | (with_reducible exact HBd.out) | (with_reducible exact HB5.out))
  (first | (go_at_call 71; (with_reducible refine HSC.out.mono ?_); rintro e w5 ⟨rfl, h5, hk5⟩; have H5 := hid h5; have HK5 := hid hk5; have hs5 := (hk5 _ (.inr HNS.out.1)).trans HS4.out; have hr5 := (hk5 _ (.inr HNS.out.2.1)).trans HR4.out; have hc5 := (hk5 _ (.inr HNS.out.2.2)).trans HC4.out; have HS5 := hid hs5; have HR5 := hid hr5; have HB5 := hid (Bx2.of h5 hr5 hc5).a; clear h5 hk5 hs5 hr5 hc5))
 have HBX5 : Hid (w5.cell? ⟨hb, 1, none⟩ = some (.pointer (some ⟨s.tb, 0, none⟩)) ∧ w5.cell? ⟨w.heap.size, 0, none⟩ = some (.int .i64 o) ∧ w5.cell? ⟨w.heap.size, 1, none⟩ = some (.int .i64 i) ∧ w5.cell? ⟨w.heap.size + 1, 0, none⟩ = some (.int .i64 p) ∧ w5.cell? ⟨w.heap.size + 1, 1, none⟩ = some (.int .i64 j)) := hid ⟨H5.out.c.2.1, (slot_cells HS5.out).1, (slot_cells HS5.out).2, (slot_cells HR5.out).1, (slot_cells HR5.out).2⟩
 have HBX5d : Hid (w5.drew.cell? ⟨hb, 1, none⟩ = some (.pointer (some ⟨s.tb, 0, none⟩)) ∧ w5.drew.cell? ⟨w.heap.size, 0, none⟩ = some (.int .i64 o) ∧ w5.drew.cell? ⟨w.heap.size, 1, none⟩ = some (.int .i64 i) ∧ w5.drew.cell? ⟨w.heap.size + 1, 0, none⟩ = some (.int .i64 p) ∧ w5.drew.cell? ⟨w.heap.size + 1, 1, none⟩ = some (.int .i64 j)) := hid HBX5.out
 have H5d := hid (H5.out.call (show Below w5.heap.size w5 w5.drew from (Below.refl _ _).drew))
 have HRC := hid (HRT.out _ _ H5d.out)
 have HS0 : Hid (∀ k, S k → w5.heap[k]? = w.heap[k]?) := hid (fun k q => (HK5.out k (.inl q)).trans (HW4.out.block k (HH.out.lt q)))
 clear HB5 HSC HRT HBX4 HBd HC4 HS4 HR4 HE4 HE4d
 go_upto_region 9 with fail
 go_region_held3 (fun w' => w'.cell? ⟨hb, 1, none⟩ = some (.pointer (some ⟨s.tb, 0, none⟩)) ∧ w'.cell? ⟨w.heap.size, 0, none⟩ = some (.int .i64 o) ∧ w'.cell? ⟨w.heap.size, 1, none⟩ = some (.int .i64 i) ∧ w'.cell? ⟨w.heap.size + 1, 0, none⟩ = some (.int .i64 p) ∧ w'.cell? ⟨w.heap.size + 1, 1, none⟩ = some (.int .i64 j))
  (first | (with_reducible exact HBX5.out) | (with_reducible exact HBX5d.out) | (with_reducible exact HB6.out))
  (first | (go_at_call 84; (with_reducible refine HRC.out.mono ?_); rintro e w6 ⟨rfl, h6, hk6⟩; have H6 := hid h6; have HK6 := hid hk6; have hs6 := (hk6 _ (.inr HNS.out.1)).trans HS5.out; have hr6 := (hk6 _ (.inr HNS.out.2.1)).trans HR5.out; have HB6 : Hid (w6.cell? ⟨hb, 1, none⟩ = some (.pointer (some ⟨s.tb, 0, none⟩)) ∧ w6.cell? ⟨w.heap.size, 0, none⟩ = some (.int .i64 o) ∧ w6.cell? ⟨w.heap.size, 1, none⟩ = some (.int .i64 i) ∧ w6.cell? ⟨w.heap.size + 1, 0, none⟩ = some (.int .i64 p) ∧ w6.cell? ⟨w.heap.size + 1, 1, none⟩ = some (.int .i64 j)) := hid ⟨h6.c.2.1, (slot_cells hs6).1, (slot_cells hs6).2, (slot_cells hr6).1, (slot_cells hr6).2⟩; clear h6 hk6 hs6 hr6))
 all_goals
  go_wp2
  go_ret
  exact ⟨rfl, H6.out.weak (fun k q => .inl q), fun k q => (HK6.out k (.inl q)).trans (HS0.out k q)⟩
end HdS
end
section
namespace CX
def Kept (n : Nat) (a b : World) : Prop := Below n a b ∧ n ≤ b.heap.size
theorem Kept.refl {n : Nat} {a : World} (h : n ≤ a.heap.size) : Kept n a a := ⟨Below.refl _ _, h⟩
theorem Kept.alloc {n : Nat} {a b : World} (h : Kept n a b) (o : Obj) : Kept n a (b.alloc o) := ⟨h.1.alloc h.2 o, by simp; have := h.2; omega⟩
theorem Kept.cell {n : Nat} {a b : World} {o k : Nat} {v : Option Value} (h : Kept n a b) (hk : k < n) (q : a.cell? ⟨k, o, none⟩ = v) : b.cell? ⟨k, o, none⟩ = v := (h.1.cell (p := ⟨k, o, none⟩) hk).trans q
def alikeB (m n : Bool) (a a' b b' : Int) : Bool := m && n && decide (a ≠ 0) && decide (a = a') && decide (b = b')
theorem alike_any (a b c d e f g h a' b' c' d' e' f' g' h' : Int) (W : World) (hT : TabG W) (e1 : e ≤ 9223372036854775807) (e2 : e' ≤ 9223372036854775807) :
  Calls Tryz.prog 22 #[capV a b c d e f g h, capV a' b' c' d' e' f' g' h'] W fun r W' => r = .returned (.bool (alikeB (capB a b c d e f g h) (capB a' b' c' d' e' f' g' h') a a' b b')) ∧ Below W.heap.size W W' := by
 cases hx : capB a b c d e f g h <;> cases hy : capB a' b' c' d' e' f' g' h'
 all_goals
  have HX := hid hx
  have HY := hid hy
  clear hx hy
  go_enter Tryz.func22, Tryz.ntmps22
  go_wp2_with (first
   | (have _t := hb1; go_at_call 15; refine (capMay a' b' c' d' e' f' g' h' _ (by exact hT.call (by repeat (first | exact Below.refl _ _ | assumption | refine below_drewN ?_ _ | refine Below.drew ?_ | refine Below.setCell ?_ (by first | exact Nat.le_refl _ | (simp; done) | (simp; omega)) _ | refine bal ?_ _ | refine bgo ?_ (by assumption)))) e2).mono ?_; rw [HY.out]; rintro r w2 ⟨rfl, hb2⟩; obtain ⟨hc2, hf2⟩ := bcell hb2)
   | (go_at_call 15; refine (capMay a b c d e f g h _ (by exact hT.call (by repeat (first | exact Below.refl _ _ | assumption | refine below_drewN ?_ _ | refine Below.drew ?_ | refine Below.setCell ?_ (by first | exact Nat.le_refl _ | (simp; done) | (simp; omega)) _ | refine bal ?_ _ | refine bgo ?_ (by assumption)))) e1).mono ?_; rw [HX.out]; rintro r w1 ⟨rfl, hb1⟩; obtain ⟨hc1, hf1⟩ := bcell hb1; have hz1 : W.heap.size + 1 < w1.heap.size := (by have := hb1.size; simp at this; omega); have hz0 : W.heap.size < w1.heap.size := (by omega)))
  all_goals
   go_ret
   exact ⟨ret_bool (by first | (simp [alikeB, *]; done) | (refine Bool.eq_iff_iff.2 ?_; simp [alikeB, *] <;> omega)), (by repeat (first | exact Below.refl _ _ | assumption | refine below_drewN ?_ _ | refine Below.drew ?_ | refine Below.setCell ?_ (by first | exact Nat.le_refl _ | (simp; done) | (simp; omega)) _ | refine bal ?_ _ | refine bgo ?_ (by assumption)))⟩
theorem alike13_any (a b c d e f g h a' b' c' d' e' f' g' h' : Int) (W : World) :
  Calls Tryz.prog 86 #[capV a b c d e f g h, capV a' b' c' d' e' f' g' h'] W fun r W' => r = .returned (.bool (alikeB (capB a b c d e f g h) (capB a' b' c' d' e' f' g' h') a a' b b')) ∧ Below W.heap.size W W' := by
 cases hx : capB a b c d e f g h <;> cases hy : capB a' b' c' d' e' f' g' h'
 all_goals
  have HX := hid hx
  have HY := hid hy
  clear hx hy
  go_enter Tryz.func86, Tryz.ntmps86
  go_wp2_with (first
   | (have _t := hb1; go_at_call 110; refine (refMay13 a' b' c' d' e' f' g' h' _).mono ?_; rw [HY.out]; rintro r w2 ⟨rfl, hb2⟩; obtain ⟨hc2, hf2⟩ := bcell hb2)
   | (go_at_call 110; refine (refMay13 a b c d e f g h _).mono ?_; rw [HX.out]; rintro r w1 ⟨rfl, hb1⟩; obtain ⟨hc1, hf1⟩ := bcell hb1; have hz1 : W.heap.size + 1 < w1.heap.size := (by have := hb1.size; simp at this; omega); have hz0 : W.heap.size < w1.heap.size := (by omega)))
  all_goals
   go_ret
   exact ⟨ret_bool (by first | (simp [alikeB, *]; done) | (refine Bool.eq_iff_iff.2 ?_; simp [alikeB, *] <;> omega)), (by repeat (first | exact Below.refl _ _ | assumption | refine below_drewN ?_ _ | refine Below.drew ?_ | refine Below.setCell ?_ (by first | exact Nat.le_refl _ | (simp; done) | (simp; omega)) _ | refine bal ?_ _ | refine bgo ?_ (by assumption)))⟩
end CX
end
section
namespace HdS
open TabS (Cp Sn zC mayC sizS getR getN Two Pr FootP foot_ltP foot_ltR SameS AddRel addSR setN setM rowsS hasS dropSR dropSL heldA hdsC)
variable {W w w' : World} {s : Sh} {hb rhb n n' : Nat} {L M L' M' : List Sn} {l l2 l' l2' : List Nod} {S : Nat → Prop}
def sameC (x y : Cp) : Bool := CX.alikeB (mayC x) (mayC y) x.a y.a x.b y.b
theorem halike (w : World) (hT : CX.TabG w) (x y : Cp) (hx : x.e ≤ 9223372036854775807) (hy : y.e ≤ 9223372036854775807) :
  Calls Tryz.prog 22 #[x.V, y.V] w fun e w' => e = .returned (.bool (sameC x y)) ∧ Below w.heap.size w w' := CX.alike_any x.a x.b x.c x.d x.e x.f x.g x.h y.a y.b y.c y.d y.e y.f y.g y.h w hT hx hy
theorem ralike (w : World) (x y : Cp) :
  Calls Tryz.prog 86 #[x.V, y.V] w fun e w' => e = .returned (.bool (sameC x y)) ∧ Below w.heap.size w w' := CX.alike13_any x.a x.b x.c x.d x.e x.f x.g x.h y.a y.b y.c y.d y.e y.f y.g y.h w
def hsetN (L : List Sn) (o i : Int) (c : Cp) : Int := if fullN L o i ≠ 0 then fullN L o i else if sameC c (gt L o i) = false then 5 else setN L o i c
def hsetOn (L : List Sn) (o i : Int) (c : Cp) : Prop := fullN L o i = 0 ∧ sameC c (gt L o i) = true
theorem hset_no (h : Hd W s hb rhb n L M l l2 S w) (hT0 : CX.TabG W) (o i : Int) (c : Cp) (he : c.e ≤ 9223372036854775807) (hg : (gt L o i).e ≤ 9223372036854775807) (hno : ¬ hsetOn L o i c) :
  Calls Tryz.prog 37 #[.pointer (some ⟨hb, 0, none⟩), slV o i, c.V] w fun e w' => e = .returned (.int .i64 (hsetN L o i c)) ∧ Below w.heap.size w w' := by
 obtain ⟨hb1, hs1, hc1⟩ := slot_cap_boxes w o i c
 obtain ⟨w1, hw1⟩ : ∃ y, y = (w.alloc (slO o i)).alloc (.cells c.L.toArray 33) := ⟨_, rfl⟩
 rw [← hw1] at hb1 hs1 hc1
 have H1 := hid (h.call hb1)
 have HB1 := hid hb1
 have HC1 := hid hc1
 have HS1 := hid hs1
 have HG := hid (hfull H1.out o i)
 have HAL := hid (fun (v : World) (hv : Below w1.heap.size w1 v) => halike v (hT0.call (H1.out.call hv).below) c (gt L o i) he hg)
 obtain ⟨N, hN⟩ : ∃ y, y = hsetN L o i c := ⟨_, rfl⟩
 rw [← hN]
 unfold hsetN at hN
 unfold hsetOn at hno
 generalize setN L o i c = sn at *
 generalize sameC c (gt L o i) = sm at *
 generalize gt L o i = t at *
 generalize fullN L o i = cn at *
 obtain ⟨ta, tb, tx, td, te, tf, tg, th⟩ := t
 obtain ⟨ca, cb, cx, cd, ce, cf, cg, ch⟩ := c
 have HN := hid hN
 clear hN
 obtain ⟨k0, k1⟩ := slot_cells hs1
 have HZ1 := hid (ags hc1).1
 have HW := hid hw1
 clear h hb1 hs1 hc1 hw1 hT0 he hg
 go_enter Tryz.func37, Tryz.ntmps37
 go_upto_region 1 with fail
 rw [show ((w.alloc (slO o i)).alloc (.cells #[.int .i64 ca, .int .i64 cb, .int .i64 cx, .int .u64 cd, .int .i64 ce, .int .i64 cf, .int .i64 cg, .int .i64 ch] 33)) = w1 from HW.out.symm]
 go_upto_region 2 with (go_at_call 69; (with_reducible refine HG.out.mono ?_); rintro e w2 ⟨rfl, hb2⟩; have HB2 := hid hb2; clear hb2)
 obtain ⟨w3, hw3⟩ : ∃ y, y = w2.alloc (.cells #[.int .i64 ta, .int .i64 tb, .int .i64 tx, .int .u64 td, .int .i64 te, .int .i64 tf, .int .i64 tg, .int .i64 th] 33) := ⟨_, rfl⟩
 have hb3 : Below w1.heap.size w1 w3 := hw3 ▸ bal HB2.out _
 have hx3 : w3.heap[w2.heap.size]? = some (.cells (⟨ta, tb, tx, td, te, tf, tg, th⟩ : Cp).L.toArray 33 (0, 0)) := by rw [hw3]; exact heap_alloc_new w2 _
 have HB3w := hid hb3
 have HZ0 : Hid (w.heap.size < w1.heap.size) := hid (by have := HZ1.out; omega)
 have HC3 := hid ((hb3.block _ HZ1.out).trans HC1.out)
 have HS3 := hid ((hb3.block _ HZ0.out).trans HS1.out)
 have HB3 := hid (HB1.out.trans (hb3.mono HB1.out.size))
 rw [← hw3]
 generalize w2.heap.size = xB at *
 obtain ⟨x0, x1, x2, x3, x4, x5, x6, x7⟩ := cap_cells HC3.out
 simp only [] at x0 x1 x2 x3 x4 x5 x6 x7
 obtain ⟨y0, y1, y2, y3, y4, y5, y6, y7⟩ := cap_cells hx3
 simp only [] at y0 y1 y2 y3 y4 y5 y6 y7
 clear hw3 hb3 hx3 k0 k1 HG H1 HB1 HC1 HB2 HS1
 have HSM := hid (HAL.out w3 HB3w.out)
 by_cases q0 : cn = 0
 ·subst q0
  obtain rfl : sm = false := by
   cases sm with
   | false => rfl
   | true => exact (hno ⟨rfl, rfl⟩).elim
  obtain rfl : N = 5 := by rw [HN.out]; rfl
  go_wp2_with (go_at_call 22; (with_reducible refine HSM.out.mono ?_); rintro e w4 ⟨rfl, hb4⟩; have HB4 := hid (HB3.out.trans (hb4.mono HB3.out.size)); clear hb4)
  go_ret
  exact ⟨rfl, HB4.out⟩
 ·obtain rfl : cn = N := by rw [HN.out, if_pos q0]
  go_wp2
  go_ret
  exact ⟨rfl, HB3.out⟩
theorem hset_yes (h : Hd W s hb rhb n L M l l2 S w) (hT0 : CX.TabG W) (o i : Int) (c : Cp) (he : c.e ≤ 9223372036854775807) (hg : (gt L o i).e ≤ 9223372036854775807) (hon : hsetOn L o i c) :
  Calls Tryz.prog 37 #[.pointer (some ⟨hb, 0, none⟩), slV o i, c.V] w fun e w' => e = .returned (.int .i64 (setN L o i c)) ∧ Hd W s hb rhb n (setM L o i c) M l l2 S w' ∧ SameK S w w' := by
 obtain ⟨hb1, hs1, hc1⟩ := slot_cap_boxes w o i c
 obtain ⟨w1, hw1⟩ : ∃ y, y = (w.alloc (slO o i)).alloc (.cells c.L.toArray 33) := ⟨_, rfl⟩
 rw [← hw1] at hb1 hs1 hc1
 have H1 := hid (h.call hb1)
 have HB1 := hid hb1
 have HC1 := hid hc1
 have HS1 := hid hs1
 have HG := hid (hfull H1.out o i)
 have HAL := hid (fun (v : World) (hv : Below w1.heap.size w1 v) => halike v (hT0.call (H1.out.call hv).below) c (gt L o i) he hg)
 have HH := hid h
 unfold hsetOn at hon
 obtain ⟨L2, hL2⟩ : ∃ y, y = setM L o i c := ⟨_, rfl⟩
 rw [← hL2]
 have HST : Hid (∀ v T, Hd W s hb rhb n L M l l2 T v → Calls Tryz.prog 71 #[.pointer (some ⟨s.sb, 0, none⟩), slV o i, c.V] v fun e w' => e = .returned (.int .i64 (setN L o i c)) ∧ Hd W s hb rhb n L2 M l l2 T w' ∧ SameK T v w') := hid (fun v T hv => by rw [hL2]; exact hv.act (fun K hK => hK.set hT0 o i c he))
 clear hL2
 generalize setN L o i c = sn at *
 generalize sameC c (gt L o i) = sm at *
 generalize gt L o i = t at *
 generalize fullN L o i = cn at *
 obtain ⟨ta, tb, tx, td, te, tf, tg, th⟩ := t
 obtain ⟨ca, cb, cx, cd, ce, cf, cg, ch⟩ := c
 obtain ⟨rfl, rfl⟩ := hon
 obtain ⟨k0, k1⟩ := slot_cells hs1
 have HZ1 := hid (ags hc1).1
 have HW := hid hw1
 clear h hb1 hs1 hc1 hw1 hT0 he hg
 go_enter Tryz.func37, Tryz.ntmps37
 go_upto_region 1 with fail
 rw [show ((w.alloc (slO o i)).alloc (.cells #[.int .i64 ca, .int .i64 cb, .int .i64 cx, .int .u64 cd, .int .i64 ce, .int .i64 cf, .int .i64 cg, .int .i64 ch] 33)) = w1 from HW.out.symm]
 go_upto_region 2 with (go_at_call 69; (with_reducible refine HG.out.mono ?_); rintro e w2 ⟨rfl, hb2⟩; have HB2 := hid hb2; clear hb2)
 obtain ⟨w3, hw3⟩ : ∃ y, y = w2.alloc (.cells #[.int .i64 ta, .int .i64 tb, .int .i64 tx, .int .u64 td, .int .i64 te, .int .i64 tf, .int .i64 tg, .int .i64 th] 33) := ⟨_, rfl⟩
 have hb3 : Below w1.heap.size w1 w3 := hw3 ▸ bal HB2.out _
 have hx3 : w3.heap[w2.heap.size]? = some (.cells (⟨ta, tb, tx, td, te, tf, tg, th⟩ : Cp).L.toArray 33 (0, 0)) := by rw [hw3]; exact heap_alloc_new w2 _
 have HB3w := hid hb3
 have HZ0 : Hid (w.heap.size < w1.heap.size) := hid (by have := HZ1.out; omega)
 have HC3 := hid ((hb3.block _ HZ1.out).trans HC1.out)
 have HS3 := hid ((hb3.block _ HZ0.out).trans HS1.out)
 have HB3 := hid (HB1.out.trans (hb3.mono HB1.out.size))
 rw [← hw3]
 generalize w2.heap.size = xB at *
 obtain ⟨x0, x1, x2, x3, x4, x5, x6, x7⟩ := cap_cells HC3.out
 simp only [] at x0 x1 x2 x3 x4 x5 x6 x7
 obtain ⟨y0, y1, y2, y3, y4, y5, y6, y7⟩ := cap_cells hx3
 simp only [] at y0 y1 y2 y3 y4 y5 y6 y7
 clear hw3 hb3 hx3 k0 k1 HG H1 HB1 HC1 HB2 HS1
 have HSM := hid (HAL.out w3 HB3w.out)
 go_upto_region 6 with (go_at_call 22; (with_reducible refine HSM.out.mono ?_); rintro e w4 ⟨rfl, hb4⟩; have HB4 := hid hb4; clear hb4)
 have HC4 := hid ((HB4.out.block _ (ags HC3.out).1).trans HC3.out)
 have HS4 := hid ((HB4.out.block _ (ags HS3.out).1).trans HS3.out)
 have HW4 := hid (HB3.out.trans (HB4.out.mono HB3.out.size))
 have HE4 := hid (HH.out.fresh HW4.out)
 have HE4d := hid (HE4.out.call (show Below w4.heap.size w4 w4.drew from (Below.refl _ _).drew))
 have HBX4 := hid (Bx2.of HE4.out HS4.out HC4.out).a
 have HNS : Hid (New w w4 w.heap.size ∧ New w w4 (w.heap.size + 1)) := hid ⟨⟨Nat.le_refl _, (ags HS4.out).1⟩, ⟨by omega, (ags HC4.out).1⟩⟩
 have HSC := hid (HST.out _ _ HE4d.out)
 have HBd : Hid (Bx2A w4.drew hb s o i ⟨ca, cb, cx, cd, ce, cf, cg, ch⟩ w.heap.size (w.heap.size + 1)) := hid HBX4.out
 clear x0 x1 x2 x3 x4 x5 x6 x7 y0 y1 y2 y3 y4 y5 y6 y7 HSM HB3w HB3 HC3 HS3 HB4 HST HAL
 go_region_held3 (fun w' => w'.cell? ⟨hb, 0, none⟩ = some (.pointer (some ⟨s.sb, 0, none⟩)) ∧ w'.cell? ⟨w.heap.size, 0, none⟩ = some (.int .i64 o) ∧ w'.cell? ⟨w.heap.size, 1, none⟩ = some (.int .i64 i) ∧ w'.cell? ⟨w.heap.size + 1, 0, none⟩ = some (.int .i64 ca) ∧ w'.cell? ⟨w.heap.size + 1, 1, none⟩ = some (.int .i64 cb) ∧ w'.cell? ⟨w.heap.size + 1, 2, none⟩ = some (.int .i64 cx) ∧ w'.cell? ⟨w.heap.size + 1, 3, none⟩ = some (.int .u64 cd) ∧ w'.cell? ⟨w.heap.size + 1, 4, none⟩ = some (.int .i64 ce) ∧ w'.cell? ⟨w.heap.size + 1, 5, none⟩ = some (.int .i64 cf) ∧ w'.cell? ⟨w.heap.size + 1, 6, none⟩ = some (.int .i64 cg) ∧ w'.cell? ⟨w.heap.size + 1, 7, none⟩ = some (.int .i64 ch))
  (first | (with_reducible exact HBX4.out) | (with_reducible exact HBd.out) | (with_reducible exact HB5.out))
  (first | (go_at_call 71; (with_reducible refine HSC.out.mono ?_); rintro e w5 ⟨rfl, h5, hk5⟩; have H5 := hid h5; have HK5 := hid hk5; have hs5 := (hk5 _ (.inr HNS.out.1)).trans HS4.out; have hc5 := (hk5 _ (.inr HNS.out.2)).trans HC4.out; have HB5 := hid (Bx2.of h5 hs5 hc5).a; clear h5 hk5 hs5 hc5))
 all_goals
  go_wp2
  go_ret
  exact ⟨rfl, H5.out.weak (fun k q => .inl q), fun k q => (HK5.out k (.inl q)).trans (HW4.out.block k (HH.out.lt q))⟩
theorem duo_boxes (w : World) (o i p j : Int) : Below w.heap.size w ((w.alloc (slO o i)).alloc (slO p j)) ∧ ((w.alloc (slO o i)).alloc (slO p j)).heap[w.heap.size]? = some (.cells #[.int .i64 o, .int .i64 i] 30 (0, 0)) ∧ ((w.alloc (slO o i)).alloc (slO p j)).heap[w.heap.size + 1]? = some (.cells #[.int .i64 p, .int .i64 j] 30 (0, 0)) := by
 have h1 := heap_alloc_new (w.alloc (slO o i)) (slO p j)
 rw [World.size_alloc] at h1
 exact ⟨bal (bal (Below.refl _ _) _) _, (Below.heap_alloc _ _ _ (by simp)).trans (heap_alloc_new w _), h1⟩
def swapN (L : List Sn) (o i p j : Int) : Int := if gn L o i ≠ 0 then gn L o i else gn L p j
def swapL (L : List Sn) (o i p j : Int) : List Sn := setM (setM L o i (gt L p j)) p j (gt L o i)
theorem hswap_no (h : Hd W s hb rhb n L M l l2 S w) (o i p j : Int) (hno : ¬ (gn L o i = 0 ∧ gn L p j = 0)) :
  Calls Tryz.prog 42 #[.pointer (some ⟨hb, 0, none⟩), slV o i, slV p j] w fun e w' => e = .returned (.int .i64 (swapN L o i p j)) ∧ Below w.heap.size w w' := by
 obtain ⟨hb1, hs1, ht1⟩ := duo_boxes w o i p j
 obtain ⟨w1, hw1⟩ : ∃ y, y = (w.alloc (slO o i)).alloc (slO p j) := ⟨_, rfl⟩
 rw [← hw1] at hb1 hs1 ht1
 have H1 := hid (h.call hb1)
 have HB1 := hid hb1
 have HS1 := hid hs1
 have HR1 := hid ht1
 have HG := hid (hget H1.out o i)
 have HQ := hid (fun (v : World) (hv : Hd W s hb rhb n L M l l2 S v) => hget hv p j)
 obtain ⟨N, hN⟩ : ∃ y, y = swapN L o i p j := ⟨_, rfl⟩
 rw [← hN]
 unfold swapN at hN
 generalize gt L o i = t at *
 generalize gt L p j = c at *
 generalize gn L o i = cn at *
 generalize gn L p j = dn at *
 obtain ⟨ta, tb, tx, td, te, tf, tg, th⟩ := t
 obtain ⟨ca, cb, cx, cd, ce, cf, cg, ch⟩ := c
 have HN := hid hN
 clear hN
 obtain ⟨k0, k1⟩ := slot_cells hs1
 have HZ1 := hid (ags ht1).1
 have HW := hid hw1
 clear h hb1 hs1 ht1 hw1
 go_enter Tryz.func42, Tryz.ntmps42
 go_upto_region 1 with fail
 rw [show ((w.alloc (slO o i)).alloc (slO p j)) = w1 from HW.out.symm]
 go_upto_region 2 with (go_at_call 20; (with_reducible refine HG.out.mono ?_); rintro e w2 ⟨rfl, hb2⟩; have HB2 := hid hb2; clear hb2)
 obtain ⟨w3, hw3⟩ : ∃ y, y = w2.alloc (.cells #[.int .i64 ta, .int .i64 tb, .int .i64 tx, .int .u64 td, .int .i64 te, .int .i64 tf, .int .i64 tg, .int .i64 th] 33) := ⟨_, rfl⟩
 have hb3 : Below w1.heap.size w1 w3 := hw3 ▸ bal HB2.out _
 have hx3 : w3.heap[w2.heap.size]? = some (.cells (⟨ta, tb, tx, td, te, tf, tg, th⟩ : Cp).L.toArray 33 (0, 0)) := by rw [hw3]; exact heap_alloc_new w2 _
 have HX3 := hid hx3
 have HXG : Hid (w1.heap.size ≤ w2.heap.size) := hid HB2.out.size
 have H3 := hid (H1.out.call hb3)
 have HZ0 : Hid (w.heap.size < w1.heap.size) := hid (by have := HZ1.out; omega)
 have HS3 := hid ((hb3.block _ HZ0.out).trans HS1.out)
 have HR3 := hid ((hb3.block _ HZ1.out).trans HR1.out)
 have HB3 := hid (HB1.out.trans (hb3.mono HB1.out.size))
 rw [← hw3]
 generalize w2.heap.size = xB at *
 clear hw3 hb3 hx3 k0 k1 HG H1 HB1 HB2 HS1 HR1
 by_cases q0 : cn = 0
 ·subst q0
  have q1 : dn ≠ 0 := fun e => hno ⟨rfl, e⟩
  obtain rfl : N = dn := by rw [HN.out, if_neg (fun e => e rfl)]
  have HQ3 := hid (HQ.out w3 H3.out)
  obtain ⟨r0, r1⟩ := slot_cells HR3.out
  go_wp2_with (go_at_call 20; (with_reducible refine HQ3.out.mono ?_); rintro e w4 ⟨rfl, hb4⟩; have HB4 := hid hb4; clear hb4)
  go_ret
  exact ⟨rfl, bal (HB3.out.trans (HB4.out.mono HB3.out.size)) _⟩
 ·obtain rfl : N = cn := by rw [HN.out, if_pos q0]
  go_wp2
  go_ret
  exact ⟨rfl, HB3.out⟩
theorem hswap_yes (h : Hd W s hb rhb n L M l l2 S w) (hT0 : CX.TabG W) (o i p j : Int) (ho : InS o) (hi : InS i) (hp : InS p) (hj : InS j) (hx : (gt L o i).e ≤ 9223372036854775807) (hy : (gt L p j).e ≤ 9223372036854775807) (hnn : n < 1000000) (hon : gn L o i = 0 ∧ gn L p j = 0) :
  Calls Tryz.prog 42 #[.pointer (some ⟨hb, 0, none⟩), slV o i, slV p j] w fun e w' => e = .returned (.int .i64 0) ∧ Hd W s hb rhb (n + 2) (swapL L o i p j) M (swapA l o i p j) l2 S w' ∧ SameK S w w' := by
 obtain ⟨hb1, hs1, ht1⟩ := duo_boxes w o i p j
 obtain ⟨w1, hw1⟩ : ∃ y, y = (w.alloc (slO o i)).alloc (slO p j) := ⟨_, rfl⟩
 rw [← hw1] at hb1 hs1 ht1
 have H1 := hid (h.call hb1)
 have HB1 := hid hb1
 have HS1 := hid hs1
 have HR1 := hid ht1
 have HG := hid (hget H1.out o i)
 have HQ := hid (fun (v : World) (hv : Hd W s hb rhb n L M l l2 S v) => hget hv p j)
 have HH := hid h
 obtain ⟨L2, hL2⟩ : ∃ y, y = setM L o i (gt L p j) := ⟨_, rfl⟩
 obtain ⟨L3, hL3⟩ : ∃ y, y = setM L2 p j (gt L o i) := ⟨_, rfl⟩
 unfold swapL
 rw [← hL2, ← hL3]
 obtain ⟨n2, hn2⟩ : ∃ y, y = setN L o i (gt L p j) := ⟨_, rfl⟩
 obtain ⟨n3, hn3⟩ : ∃ y, y = setN L2 p j (gt L o i) := ⟨_, rfl⟩
 have HS2 : Hid (∀ v T, Hd W s hb rhb n L M l l2 T v → Calls Tryz.prog 71 #[.pointer (some ⟨s.sb, 0, none⟩), slV o i, (gt L p j).V] v fun e w' => e = .returned (.int .i64 n2) ∧ Hd W s hb rhb n L2 M l l2 T w' ∧ SameK T v w') := hid (fun v T hv => by rw [hL2, hn2]; exact hv.act (fun K hK => hK.set hT0 o i _ hy))
 have HS3' : Hid (∀ v T, Hd W s hb rhb n L2 M l l2 T v → Calls Tryz.prog 71 #[.pointer (some ⟨s.sb, 0, none⟩), slV p j, (gt L o i).V] v fun e w' => e = .returned (.int .i64 n3) ∧ Hd W s hb rhb n L3 M l l2 T w' ∧ SameK T v w') := hid (fun v T hv => by rw [hL3, hn3]; exact hv.act (fun K hK => hK.set hT0 p j _ hx))
 have HRT : Hid (∀ v T, Hd W s hb rhb n L3 M l l2 T v → Calls Tryz.prog 91 #[.pointer (some ⟨s.tb, 0, none⟩), slV o i, slV p j] v fun e w' => e = .returned (.int .i64 0) ∧ Hd W s hb rhb (n + 2) L3 M (swapA l o i p j) l2 T w' ∧ SameK T v w') := hid (fun v T hv => hv.act (fun K hK => hK.swap o i p j ho hi hp hj hnn))
 clear hL2 hL3 hn2 hn3
 generalize gt L o i = t at *
 generalize gt L p j = c at *
 generalize gn L o i = cn at *
 generalize gn L p j = dn at *
 obtain ⟨ta, tb, tx, td, te, tf, tg, th⟩ := t
 obtain ⟨ca, cb, cx, cd, ce, cf, cg, ch⟩ := c
 obtain ⟨rfl, rfl⟩ := hon
 obtain ⟨k0, k1⟩ := slot_cells hs1
 have HZ1 := hid (ags ht1).1
 have HW := hid hw1
 clear h hb1 hs1 ht1 hw1 hT0 hx hy ho hi hp hj hnn
 go_enter Tryz.func42, Tryz.ntmps42
 go_upto_region 1 with fail
 rw [show ((w.alloc (slO o i)).alloc (slO p j)) = w1 from HW.out.symm]
 go_upto_region 2 with (go_at_call 20; (with_reducible refine HG.out.mono ?_); rintro e w2 ⟨rfl, hb2⟩; have HB2 := hid hb2; clear hb2)
 obtain ⟨w3, hw3⟩ : ∃ y, y = w2.alloc (.cells #[.int .i64 ta, .int .i64 tb, .int .i64 tx, .int .u64 td, .int .i64 te, .int .i64 tf, .int .i64 tg, .int .i64 th] 33) := ⟨_, rfl⟩
 have hb3 : Below w1.heap.size w1 w3 := hw3 ▸ bal HB2.out _
 have hx3 : w3.heap[w2.heap.size]? = some (.cells (⟨ta, tb, tx, td, te, tf, tg, th⟩ : Cp).L.toArray 33 (0, 0)) := by rw [hw3]; exact heap_alloc_new w2 _
 have HX3 := hid hx3
 have HXG : Hid (w1.heap.size ≤ w2.heap.size) := hid HB2.out.size
 have H3 := hid (H1.out.call hb3)
 have HZ0 : Hid (w.heap.size < w1.heap.size) := hid (by have := HZ1.out; omega)
 have HS3 := hid ((hb3.block _ HZ0.out).trans HS1.out)
 have HR3 := hid ((hb3.block _ HZ1.out).trans HR1.out)
 have HB3 := hid (HB1.out.trans (hb3.mono HB1.out.size))
 rw [← hw3]
 generalize w2.heap.size = xB at *
 clear hw3 hb3 hx3 k0 k1 HG H1 HB1 HB2 HS1 HR1
 have HQ3 := hid (HQ.out w3 H3.out)
 obtain ⟨r0, r1⟩ := slot_cells HR3.out
 go_upto_region 5 with (go_at_call 20; (with_reducible refine HQ3.out.mono ?_); rintro e w4 ⟨rfl, hb4⟩; have HB4 := hid hb4; clear hb4)
 obtain ⟨w5, hw5⟩ : ∃ y, y = w4.alloc (.cells #[.int .i64 ca, .int .i64 cb, .int .i64 cx, .int .u64 cd, .int .i64 ce, .int .i64 cf, .int .i64 cg, .int .i64 ch] 33) := ⟨_, rfl⟩
 have hb5 : Below w3.heap.size w3 w5 := hw5 ▸ bal HB4.out _
 have HY5 : Hid (w5.heap[w4.heap.size]? = some (.cells (⟨ca, cb, cx, cd, ce, cf, cg, ch⟩ : Cp).L.toArray 33 (0, 0))) := hid (by rw [hw5]; exact heap_alloc_new w4 _)
 have HYG : Hid (w3.heap.size ≤ w4.heap.size) := hid HB4.out.size
 have HS5 := hid ((hb5.block _ (ags HS3.out).1).trans HS3.out)
 have HR5 := hid ((hb5.block _ (ags HR3.out).1).trans HR3.out)
 have HX5 := hid ((hb5.block _ (ags HX3.out).1).trans HX3.out)
 have HW5 := hid (HB3.out.trans (hb5.mono HB3.out.size))
 rw [← hw5]
 generalize w4.heap.size = yB at *
 have HE5 := hid (HH.out.fresh HW5.out)
 have HNS : Hid (New w w5 w.heap.size ∧ New w w5 (w.heap.size + 1) ∧ New w w5 xB ∧ New w w5 yB) := hid ⟨⟨Nat.le_refl _, (ags HS5.out).1⟩, ⟨by omega, (ags HR5.out).1⟩, ⟨by have := HXG.out; have := HZ0.out; omega, (ags HX5.out).1⟩, ⟨by have := HYG.out; have := HB3.out.size; omega, (ags HY5.out).1⟩⟩
 clear hw5 hb5 r0 r1 HQ HQ3 H3 HB3 HB4 HS3 HR3 HX3
 have HA7 : Hid (w5.cell? ⟨hb, 0, none⟩ = some (.pointer (some ⟨s.sb, 0, none⟩)) ∧ w5.cell? ⟨w.heap.size, 0, none⟩ = some (.int .i64 o) ∧ w5.cell? ⟨w.heap.size, 1, none⟩ = some (.int .i64 i) ∧ w5.cell? ⟨yB, 0, none⟩ = some (.int .i64 ca) ∧ w5.cell? ⟨yB, 1, none⟩ = some (.int .i64 cb) ∧ w5.cell? ⟨yB, 2, none⟩ = some (.int .i64 cx) ∧ w5.cell? ⟨yB, 3, none⟩ = some (.int .u64 cd) ∧ w5.cell? ⟨yB, 4, none⟩ = some (.int .i64 ce) ∧ w5.cell? ⟨yB, 5, none⟩ = some (.int .i64 cf) ∧ w5.cell? ⟨yB, 6, none⟩ = some (.int .i64 cg) ∧ w5.cell? ⟨yB, 7, none⟩ = some (.int .i64 ch)) := hid ⟨HE5.out.c.1, (slot_cells HS5.out).1, (slot_cells HS5.out).2, (cap_cells HY5.out).1, (cap_cells HY5.out).2.1, (cap_cells HY5.out).2.2.1, (cap_cells HY5.out).2.2.2.1, (cap_cells HY5.out).2.2.2.2.1, (cap_cells HY5.out).2.2.2.2.2.1, (cap_cells HY5.out).2.2.2.2.2.2.1, (cap_cells HY5.out).2.2.2.2.2.2.2⟩
 have HD7 : Hid (w5.drew.cell? ⟨hb, 0, none⟩ = some (.pointer (some ⟨s.sb, 0, none⟩)) ∧ w5.drew.cell? ⟨w.heap.size, 0, none⟩ = some (.int .i64 o) ∧ w5.drew.cell? ⟨w.heap.size, 1, none⟩ = some (.int .i64 i) ∧ w5.drew.cell? ⟨yB, 0, none⟩ = some (.int .i64 ca) ∧ w5.drew.cell? ⟨yB, 1, none⟩ = some (.int .i64 cb) ∧ w5.drew.cell? ⟨yB, 2, none⟩ = some (.int .i64 cx) ∧ w5.drew.cell? ⟨yB, 3, none⟩ = some (.int .u64 cd) ∧ w5.drew.cell? ⟨yB, 4, none⟩ = some (.int .i64 ce) ∧ w5.drew.cell? ⟨yB, 5, none⟩ = some (.int .i64 cf) ∧ w5.drew.cell? ⟨yB, 6, none⟩ = some (.int .i64 cg) ∧ w5.drew.cell? ⟨yB, 7, none⟩ = some (.int .i64 ch)) := hid HA7.out
 have HE7d := hid (HE5.out.call (show Below w5.heap.size w5 w5.drew from (Below.refl _ _).drew))
 have HC7 := hid (HS2.out _ _ HE7d.out)
 go_upto_region 7 with fail
 go_region_held3 (fun w' => w'.cell? ⟨hb, 0, none⟩ = some (.pointer (some ⟨s.sb, 0, none⟩)) ∧ w'.cell? ⟨w.heap.size, 0, none⟩ = some (.int .i64 o) ∧ w'.cell? ⟨w.heap.size, 1, none⟩ = some (.int .i64 i) ∧ w'.cell? ⟨yB, 0, none⟩ = some (.int .i64 ca) ∧ w'.cell? ⟨yB, 1, none⟩ = some (.int .i64 cb) ∧ w'.cell? ⟨yB, 2, none⟩ = some (.int .i64 cx) ∧ w'.cell? ⟨yB, 3, none⟩ = some (.int .u64 cd) ∧ w'.cell? ⟨yB, 4, none⟩ = some (.int .i64 ce) ∧ w'.cell? ⟨yB, 5, none⟩ = some (.int .i64 cf) ∧ w'.cell? ⟨yB, 6, none⟩ = some (.int .i64 cg) ∧ w'.cell? ⟨yB, 7, none⟩ = some (.int .i64 ch))
  (first | (with_reducible exact HA7.out) | (with_reducible exact HD7.out) | (with_reducible exact HF7.out))
  (first | (go_at_call 71; (with_reducible refine HC7.out.mono ?_); rintro e w6 ⟨rfl, hh, hk⟩; have HH7 := hid hh; have ha := (hk _ (.inr HNS.out.1)).trans HS5.out; have hb' := (hk _ (.inr HNS.out.2.1)).trans HR5.out; have hx := (hk _ (.inr HNS.out.2.2.1)).trans HX5.out; have hy := (hk _ (.inr HNS.out.2.2.2)).trans HY5.out; have HK7 := hid hk; have HBa7 := hid ha; have HBb7 := hid hb'; have HBx7 := hid hx; have HBy7 := hid hy; have HF7 : Hid (w6.cell? ⟨hb, 0, none⟩ = some (.pointer (some ⟨s.sb, 0, none⟩)) ∧ w6.cell? ⟨w.heap.size, 0, none⟩ = some (.int .i64 o) ∧ w6.cell? ⟨w.heap.size, 1, none⟩ = some (.int .i64 i) ∧ w6.cell? ⟨yB, 0, none⟩ = some (.int .i64 ca) ∧ w6.cell? ⟨yB, 1, none⟩ = some (.int .i64 cb) ∧ w6.cell? ⟨yB, 2, none⟩ = some (.int .i64 cx) ∧ w6.cell? ⟨yB, 3, none⟩ = some (.int .u64 cd) ∧ w6.cell? ⟨yB, 4, none⟩ = some (.int .i64 ce) ∧ w6.cell? ⟨yB, 5, none⟩ = some (.int .i64 cf) ∧ w6.cell? ⟨yB, 6, none⟩ = some (.int .i64 cg) ∧ w6.cell? ⟨yB, 7, none⟩ = some (.int .i64 ch)) := hid ⟨hh.c.1, (slot_cells ha).1, (slot_cells ha).2, (cap_cells hy).1, (cap_cells hy).2.1, (cap_cells hy).2.2.1, (cap_cells hy).2.2.2.1, (cap_cells hy).2.2.2.2.1, (cap_cells hy).2.2.2.2.2.1, (cap_cells hy).2.2.2.2.2.2.1, (cap_cells hy).2.2.2.2.2.2.2⟩; clear hh hk ha hb' hx hy))
 have HA8 : Hid (w6.cell? ⟨hb, 0, none⟩ = some (.pointer (some ⟨s.sb, 0, none⟩)) ∧ w6.cell? ⟨w.heap.size + 1, 0, none⟩ = some (.int .i64 p) ∧ w6.cell? ⟨w.heap.size + 1, 1, none⟩ = some (.int .i64 j) ∧ w6.cell? ⟨xB, 0, none⟩ = some (.int .i64 ta) ∧ w6.cell? ⟨xB, 1, none⟩ = some (.int .i64 tb) ∧ w6.cell? ⟨xB, 2, none⟩ = some (.int .i64 tx) ∧ w6.cell? ⟨xB, 3, none⟩ = some (.int .u64 td) ∧ w6.cell? ⟨xB, 4, none⟩ = some (.int .i64 te) ∧ w6.cell? ⟨xB, 5, none⟩ = some (.int .i64 tf) ∧ w6.cell? ⟨xB, 6, none⟩ = some (.int .i64 tg) ∧ w6.cell? ⟨xB, 7, none⟩ = some (.int .i64 th)) := hid ⟨HH7.out.c.1, (slot_cells HBb7.out).1, (slot_cells HBb7.out).2, (cap_cells HBx7.out).1, (cap_cells HBx7.out).2.1, (cap_cells HBx7.out).2.2.1, (cap_cells HBx7.out).2.2.2.1, (cap_cells HBx7.out).2.2.2.2.1, (cap_cells HBx7.out).2.2.2.2.2.1, (cap_cells HBx7.out).2.2.2.2.2.2.1, (cap_cells HBx7.out).2.2.2.2.2.2.2⟩
 have HD8 : Hid (w6.drew.cell? ⟨hb, 0, none⟩ = some (.pointer (some ⟨s.sb, 0, none⟩)) ∧ w6.drew.cell? ⟨w.heap.size + 1, 0, none⟩ = some (.int .i64 p) ∧ w6.drew.cell? ⟨w.heap.size + 1, 1, none⟩ = some (.int .i64 j) ∧ w6.drew.cell? ⟨xB, 0, none⟩ = some (.int .i64 ta) ∧ w6.drew.cell? ⟨xB, 1, none⟩ = some (.int .i64 tb) ∧ w6.drew.cell? ⟨xB, 2, none⟩ = some (.int .i64 tx) ∧ w6.drew.cell? ⟨xB, 3, none⟩ = some (.int .u64 td) ∧ w6.drew.cell? ⟨xB, 4, none⟩ = some (.int .i64 te) ∧ w6.drew.cell? ⟨xB, 5, none⟩ = some (.int .i64 tf) ∧ w6.drew.cell? ⟨xB, 6, none⟩ = some (.int .i64 tg) ∧ w6.drew.cell? ⟨xB, 7, none⟩ = some (.int .i64 th)) := hid HA8.out
 have HE8d := hid (HH7.out.call (show Below w6.heap.size w6 w6.drew from (Below.refl _ _).drew))
 have HC8 := hid (HS3'.out _ _ HE8d.out)
 go_upto_region 8 with fail
 go_region_held3 (fun w' => w'.cell? ⟨hb, 0, none⟩ = some (.pointer (some ⟨s.sb, 0, none⟩)) ∧ w'.cell? ⟨w.heap.size + 1, 0, none⟩ = some (.int .i64 p) ∧ w'.cell? ⟨w.heap.size + 1, 1, none⟩ = some (.int .i64 j) ∧ w'.cell? ⟨xB, 0, none⟩ = some (.int .i64 ta) ∧ w'.cell? ⟨xB, 1, none⟩ = some (.int .i64 tb) ∧ w'.cell? ⟨xB, 2, none⟩ = some (.int .i64 tx) ∧ w'.cell? ⟨xB, 3, none⟩ = some (.int .u64 td) ∧ w'.cell? ⟨xB, 4, none⟩ = some (.int .i64 te) ∧ w'.cell? ⟨xB, 5, none⟩ = some (.int .i64 tf) ∧ w'.cell? ⟨xB, 6, none⟩ = some (.int .i64 tg) ∧ w'.cell? ⟨xB, 7, none⟩ = some (.int .i64 th))
  (first | (with_reducible exact HA8.out) | (with_reducible exact HD8.out) | (with_reducible exact HF8.out))
  (first | (go_at_call 71; (with_reducible refine HC8.out.mono ?_); rintro e w7 ⟨rfl, hh, hk⟩; have HH8 := hid hh; have ha := (hk _ (.inr HNS.out.1)).trans HBa7.out; have hb' := (hk _ (.inr HNS.out.2.1)).trans HBb7.out; have hx := (hk _ (.inr HNS.out.2.2.1)).trans HBx7.out; have hy := (hk _ (.inr HNS.out.2.2.2)).trans HBy7.out; have HK8 := hid hk; have HBa8 := hid ha; have HBb8 := hid hb'; have HBx8 := hid hx; have HBy8 := hid hy; have HF8 : Hid (w7.cell? ⟨hb, 0, none⟩ = some (.pointer (some ⟨s.sb, 0, none⟩)) ∧ w7.cell? ⟨w.heap.size + 1, 0, none⟩ = some (.int .i64 p) ∧ w7.cell? ⟨w.heap.size + 1, 1, none⟩ = some (.int .i64 j) ∧ w7.cell? ⟨xB, 0, none⟩ = some (.int .i64 ta) ∧ w7.cell? ⟨xB, 1, none⟩ = some (.int .i64 tb) ∧ w7.cell? ⟨xB, 2, none⟩ = some (.int .i64 tx) ∧ w7.cell? ⟨xB, 3, none⟩ = some (.int .u64 td) ∧ w7.cell? ⟨xB, 4, none⟩ = some (.int .i64 te) ∧ w7.cell? ⟨xB, 5, none⟩ = some (.int .i64 tf) ∧ w7.cell? ⟨xB, 6, none⟩ = some (.int .i64 tg) ∧ w7.cell? ⟨xB, 7, none⟩ = some (.int .i64 th)) := hid ⟨hh.c.1, (slot_cells hb').1, (slot_cells hb').2, (cap_cells hx).1, (cap_cells hx).2.1, (cap_cells hx).2.2.1, (cap_cells hx).2.2.2.1, (cap_cells hx).2.2.2.2.1, (cap_cells hx).2.2.2.2.2.1, (cap_cells hx).2.2.2.2.2.2.1, (cap_cells hx).2.2.2.2.2.2.2⟩; clear hh hk ha hb' hx hy))
 have HA9 : Hid (w7.cell? ⟨hb, 1, none⟩ = some (.pointer (some ⟨s.tb, 0, none⟩)) ∧ w7.cell? ⟨w.heap.size, 0, none⟩ = some (.int .i64 o) ∧ w7.cell? ⟨w.heap.size, 1, none⟩ = some (.int .i64 i) ∧ w7.cell? ⟨w.heap.size + 1, 0, none⟩ = some (.int .i64 p) ∧ w7.cell? ⟨w.heap.size + 1, 1, none⟩ = some (.int .i64 j)) := hid ⟨HH8.out.c.2.1, (slot_cells HBa8.out).1, (slot_cells HBa8.out).2, (slot_cells HBb8.out).1, (slot_cells HBb8.out).2⟩
 have HD9 : Hid (w7.drew.cell? ⟨hb, 1, none⟩ = some (.pointer (some ⟨s.tb, 0, none⟩)) ∧ w7.drew.cell? ⟨w.heap.size, 0, none⟩ = some (.int .i64 o) ∧ w7.drew.cell? ⟨w.heap.size, 1, none⟩ = some (.int .i64 i) ∧ w7.drew.cell? ⟨w.heap.size + 1, 0, none⟩ = some (.int .i64 p) ∧ w7.drew.cell? ⟨w.heap.size + 1, 1, none⟩ = some (.int .i64 j)) := hid HA9.out
 have HE9d := hid (HH8.out.call (show Below w7.heap.size w7 w7.drew from (Below.refl _ _).drew))
 have HC9 := hid (HRT.out _ _ HE9d.out)
 go_upto_region 9 with fail
 go_region_held3 (fun w' => w'.cell? ⟨hb, 1, none⟩ = some (.pointer (some ⟨s.tb, 0, none⟩)) ∧ w'.cell? ⟨w.heap.size, 0, none⟩ = some (.int .i64 o) ∧ w'.cell? ⟨w.heap.size, 1, none⟩ = some (.int .i64 i) ∧ w'.cell? ⟨w.heap.size + 1, 0, none⟩ = some (.int .i64 p) ∧ w'.cell? ⟨w.heap.size + 1, 1, none⟩ = some (.int .i64 j))
  (first | (with_reducible exact HA9.out) | (with_reducible exact HD9.out) | (with_reducible exact HF9.out))
  (first | (go_at_call 91; (with_reducible refine HC9.out.mono ?_); rintro e w8 ⟨rfl, hh, hk⟩; have HH9 := hid hh; have ha := (hk _ (.inr HNS.out.1)).trans HBa8.out; have hb' := (hk _ (.inr HNS.out.2.1)).trans HBb8.out; have hx := (hk _ (.inr HNS.out.2.2.1)).trans HBx8.out; have hy := (hk _ (.inr HNS.out.2.2.2)).trans HBy8.out; have HK9 := hid hk; have HBa9 := hid ha; have HBb9 := hid hb'; have HBx9 := hid hx; have HBy9 := hid hy; have HF9 : Hid (w8.cell? ⟨hb, 1, none⟩ = some (.pointer (some ⟨s.tb, 0, none⟩)) ∧ w8.cell? ⟨w.heap.size, 0, none⟩ = some (.int .i64 o) ∧ w8.cell? ⟨w.heap.size, 1, none⟩ = some (.int .i64 i) ∧ w8.cell? ⟨w.heap.size + 1, 0, none⟩ = some (.int .i64 p) ∧ w8.cell? ⟨w.heap.size + 1, 1, none⟩ = some (.int .i64 j)) := hid ⟨hh.c.2.1, (slot_cells ha).1, (slot_cells ha).2, (slot_cells hb').1, (slot_cells hb').2⟩; clear hh hk ha hb' hx hy))
 all_goals
  go_wp2
  go_ret
  exact ⟨rfl, HH9.out.weak (fun k q => .inl q), fun k q => (HK9.out k (.inl q)).trans ((HK8.out k (.inl q)).trans ((HK7.out k (.inl q)).trans (HW5.out.block k (HH.out.lt q))))⟩
theorem fullN_zero {L : List Sn} {o i : Int} (h : fullN L o i = 0) : gn L o i = 0 ∧ (gt L o i).a ≠ 0 := by
 unfold fullN at h
 split at h
 ·cases h
 ·rename_i h1
  exact ⟨h, fun e => h1 ⟨h, e⟩⟩
theorem pairN_zero {L : List Sn} {o i p j : Int} (h : pairN L o i p j = 0) : gn L p j = 0 ∧ fullN L o i = 0 ∧ (gt L p j).a = 0 := by
 unfold pairN pairF at h
 split at h
 ·rename_i h1; exact (h1 h).elim
 ·rename_i h1
  split at h
  ·rename_i h2; exact (h2 h).elim
  ·rename_i h2
   split at h
   ·cases h
   ·rename_i h3
    exact ⟨Decidable.not_not.1 h1, Decidable.not_not.1 h2, Decidable.not_not.1 h3⟩
theorem hmove_no (h : Hd W s hb rhb n L M l l2 S w) (o i p j : Int) (hno : pairN L o i p j ≠ 0) :
  Calls Tryz.prog 24 #[.pointer (some ⟨hb, 0, none⟩), slV o i, slV p j] w fun e w' => e = .returned (.int .i64 (pairN L o i p j)) ∧ Below w.heap.size w w' := by
 obtain ⟨hb1, hs1, ht1⟩ := duo_boxes w o i p j
 obtain ⟨w1, hw1⟩ : ∃ y, y = (w.alloc (slO o i)).alloc (slO p j) := ⟨_, rfl⟩
 rw [← hw1] at hb1 hs1 ht1
 have HB1 := hid hb1
 have HG := hid (hpair (h.call hb1) o i p j)
 generalize pairC L o i p j = t at *
 generalize pairN L o i p j = cn at *
 obtain ⟨ta, tb, tx, td, te, tf, tg, th⟩ := t
 obtain ⟨k0, k1⟩ := slot_cells hs1
 obtain ⟨r0, r1⟩ := slot_cells ht1
 have HW := hid hw1
 clear h hb1 hs1 ht1 hw1
 go_enter Tryz.func24, Tryz.ntmps24
 go_upto_region 1 with fail
 rw [show ((w.alloc (slO o i)).alloc (slO p j)) = w1 from HW.out.symm]
 go_wp2_with (go_at_call 68; (with_reducible refine HG.out.mono ?_); rintro e w2 ⟨rfl, hb2⟩; have HB2 := hid hb2; clear hb2)
 go_ret
 exact ⟨rfl, bal (HB1.out.trans (HB2.out.mono HB1.out.size)) _⟩
theorem hmove_yes (h : Hd W s hb rhb n L M l l2 S w) (hT0 : CX.TabG W) (o i p j : Int) (ho : InS o) (hi : InS i) (hp : InS p) (hj : InS j) (hx : (gt L o i).e ≤ 9223372036854775807) (hy : (gt L p j).e ≤ 9223372036854775807) (hnn : n < 1000000) (hon : pairN L o i p j = 0) :
  Calls Tryz.prog 24 #[.pointer (some ⟨hb, 0, none⟩), slV o i, slV p j] w fun e w' => e = .returned (.int .i64 0) ∧ Hd W s hb rhb (n + 2) (swapL L o i p j) M (swapA l o i p j) l2 S w' ∧ SameK S w w' := by
 obtain ⟨hb1, hs1, ht1⟩ := duo_boxes w o i p j
 obtain ⟨w1, hw1⟩ : ∃ y, y = (w.alloc (slO o i)).alloc (slO p j) := ⟨_, rfl⟩
 rw [← hw1] at hb1 hs1 ht1
 have HB1 := hid hb1
 have H1 := hid (h.call hb1)
 have HH := hid h
 have HS1 := hid hs1
 have HR1 := hid ht1
 have HG := hid (hpair H1.out o i p j)
 obtain ⟨z1, z2, z3⟩ := pairN_zero hon
 have HSW := hid (fun (v : World) (hv : Hd W s hb rhb n L M l l2 S v) => hswap_yes hv hT0 o i p j ho hi hp hj hx hy hnn ⟨(fullN_zero z2).1, z1⟩)
 obtain ⟨L2, hL2⟩ : ∃ y, y = swapL L o i p j := ⟨_, rfl⟩
 rw [← hL2] at HSW ⊢
 rw [hon] at HG
 clear z1 z2 z3 hx hy hon hL2
 generalize pairC L o i p j = t at *
 obtain ⟨ta, tb, tx, td, te, tf, tg, th⟩ := t
 obtain ⟨k0, k1⟩ := slot_cells hs1
 obtain ⟨r0, r1⟩ := slot_cells ht1
 have HZ1 := hid (ags ht1).1
 have HZ0 := hid (ags hs1).1
 have HW := hid hw1
 clear h hb1 hs1 ht1 hw1 hT0 ho hi hp hj hnn
 go_enter Tryz.func24, Tryz.ntmps24
 go_upto_region 1 with fail
 rw [show ((w.alloc (slO o i)).alloc (slO p j)) = w1 from HW.out.symm]
 go_upto_region 4 with (go_at_call 68; (with_reducible refine HG.out.mono ?_); rintro e w2 ⟨rfl, hb2⟩; have HB2 := hid hb2; clear hb2)
 obtain ⟨w3, hw3⟩ : ∃ y, y = w2.alloc (.cells #[.int .i64 ta, .int .i64 tb, .int .i64 tx, .int .u64 td, .int .i64 te, .int .i64 tf, .int .i64 tg, .int .i64 th] 33) := ⟨_, rfl⟩
 have hb3 : Below w1.heap.size w1 w3 := hw3 ▸ bal HB2.out _
 have HB3 := hid (HB1.out.trans (hb3.mono HB1.out.size))
 have HC3 := hid (HSW.out w3 (H1.out.call hb3))
 have hs3 := (hb3.block _ HZ0.out).trans HS1.out
 have ht3 := (hb3.block _ HZ1.out).trans HR1.out
 rw [← hw3]
 clear k0 k1 r0 r1 hw3 hb3
 obtain ⟨k0, k1⟩ := slot_cells hs3
 obtain ⟨r0, r1⟩ := slot_cells ht3
 clear hs3 ht3 HG HSW H1
 go_wp2_with (go_at_call 42; (with_reducible refine HC3.out.mono ?_); rintro e w4 ⟨rfl, h4, hk4⟩; have H4 := hid h4; have HK4 := hid hk4; clear h4 hk4)
 go_ret
 exact ⟨rfl, H4.out, fun k q => (HK4.out k q).trans (HB3.out.block k (HH.out.lt q))⟩
theorem hadd (h : Hd W s hb rhb n L M l l2 S w) (hl : L.length < 1000000) (id k : Int) :
  Calls Tryz.prog 29 #[.pointer (some ⟨hb, 0, none⟩), .int .i64 id, .int .i64 k] w fun e w' => e = .returned (.int .i64 (addSR L id k)) ∧ ∃ L', AddRel L id k L' ∧ Hd W s hb rhb n L' M l l2 S w' ∧ SameK S w w' := by
 have HS := hid (hslots h)
 have HC := hid (h.bo.add hl id k)
 have HH := hid h
 generalize addSR L id k = r at *
 clear h
 go_enter Tryz.func29, Tryz.ntmps29
 go_wp2_with (first
  | (go_at_call 51; (with_reducible refine HS.out.mono ?_); rintro e w2 ⟨rfl, rfl⟩)
  | (go_at_call 75; (with_reducible refine HC.out.mono ?_); rintro e w3 ⟨rfl, L3, hr3, hb3, hk3⟩; have HR := hid hr3; have HB := hid hb3; have HK := hid hk3; clear hr3 hb3 hk3))
 go_ret
 exact ⟨rfl, L3, HR.out, HH.out.lift HB.out HK.out, fun k q => HK.out k (.inr (.inr q))⟩
theorem hdrop (h : Hd W s hb rhb n L M l l2 S w) (id : Int) :
  Calls Tryz.prog 45 #[.pointer (some ⟨hb, 0, none⟩), .int .i64 id] w fun e w' => e = .returned (.int .i64 (dropSR L id)) ∧ Hd W s hb rhb n (dropSL L id) M l l2 S w' ∧ SameK S w w' := by
 have HS := hid (hslots h)
 have HC := hid (h.bo.drop id)
 have HH := hid h
 obtain ⟨L2, hL2⟩ : ∃ y, y = dropSL L id := ⟨_, rfl⟩
 rw [← hL2] at HC ⊢
 generalize dropSR L id = r at *
 clear h hL2
 go_enter Tryz.func45, Tryz.ntmps45
 go_wp2_with (first
  | (go_at_call 51; (with_reducible refine HS.out.mono ?_); rintro e w2 ⟨rfl, rfl⟩)
  | (go_at_call 94; (with_reducible refine HC.out.mono ?_); rintro e w3 ⟨rfl, hb3, hk3⟩; have HB := hid hb3; have HK := hid hk3; clear hb3 hk3))
 go_ret
 exact ⟨rfl, HH.out.lift HB.out HK.out, fun k q => HK.out k (.inr (.inr q))⟩
theorem rsome (w : World) (c : Cp) :
  Calls Tryz.prog 80 #[c.V] w fun e w' => e = .returned (.bool (someB c)) ∧ Below w.heap.size w w' := by
 obtain ⟨ca, cb, cx, cd, ce, cf, cg, ch⟩ := c
 have hal : Below w.heap.size w (w.alloc (.cells #[.int .i64 ca, .int .i64 cb, .int .i64 cx, .int .u64 cd, .int .i64 ce, .int .i64 cf, .int .i64 cg, .int .i64 ch] 33)) := bal (Below.refl _ _) _
 obtain ⟨w1, hw1⟩ : ∃ y, y = w.alloc (.cells #[.int .i64 ca, .int .i64 cb, .int .i64 cx, .int .u64 cd, .int .i64 ce, .int .i64 cf, .int .i64 cg, .int .i64 ch] 33) := ⟨_, rfl⟩
 have hx : w1.heap[w.heap.size]? = some (.cells (⟨ca, cb, cx, cd, ce, cf, cg, ch⟩ : Cp).L.toArray 33 (0, 0)) := by rw [hw1]; exact heap_alloc_new w _
 rw [← hw1] at hal
 have HAL := hid hal
 have HW := hid hw1
 obtain ⟨x0, x1, x2, x3, x4, x5, x6, x7⟩ := cap_cells hx
 simp only [] at x0 x1 x2 x3 x4 x5 x6 x7
 have HM := hid (CX.refMay13 ca cb cx cd ce cf cg ch w1)
 obtain ⟨sm, hsm⟩ : ∃ y, y = someB (⟨ca, cb, cx, cd, ce, cf, cg, ch⟩ : Cp) := ⟨_, rfl⟩
 rw [← hsm]
 unfold someB at hsm
 obtain ⟨mb, hmb⟩ : ∃ y, y = mayC (⟨ca, cb, cx, cd, ce, cf, cg, ch⟩ : Cp) := ⟨_, rfl⟩
 have HM' : Hid (Calls Tryz.prog 110 #[.agg #[.int .i64 ca, .int .i64 cb, .int .i64 cx, .int .u64 cd, .int .i64 ce, .int .i64 cf, .int .i64 cg, .int .i64 ch]] w1 fun e w' => e = .returned (.bool mb) ∧ Below w1.heap.size w1 w') := hid (by rw [hmb]; exact HM.out)
 rw [← hmb] at hsm
 simp only [] at hsm
 have HSM := hid hsm
 clear hal hw1 hx hmb hsm HM
 by_cases h0 : ca = 0
 ·subst h0
  obtain rfl : sm = false := by rw [HSM.out]; simp
  go_enter Tryz.func80, Tryz.ntmps80
  go_upto_region 1 with fail
  rw [← HW.out]
  go_wp2
  go_ret
  exact ⟨rfl, HAL.out⟩
 ·obtain rfl : sm = mb := by rw [HSM.out]; simp [h0]
  have h1 : (ca == 0) = false := beq_eq_false_iff_ne.2 h0
  go_enter Tryz.func80, Tryz.ntmps80
  go_upto_region 1 with fail
  rw [← HW.out]
  go_wp2_with (go_at_call 110; (with_reducible refine HM'.out.mono ?_); rintro e w2 ⟨rfl, hb2⟩; have HB2 := hid (HAL.out.trans (hb2.mono HAL.out.size)); clear hb2)
  go_ret
  exact ⟨by first | rfl | (simp [h0]; done), HB2.out⟩
theorem hclear_no (h : Hd W s hb rhb n L M l l2 S w) (o i : Int) (hno : fullN L o i ≠ 0) :
  Calls Tryz.prog 27 #[.pointer (some ⟨hb, 0, none⟩), slV o i] w fun e w' => e = .returned (.tuple #[zC.V, .int .i64 (fullN L o i)]) ∧ Below w.heap.size w w' := by
 obtain ⟨hb1, hs1, hc1⟩ := two_boxes w o i
 obtain ⟨w1, hw1⟩ : ∃ y, y = (w.alloc (slO o i)).alloc (.cells zC.L.toArray 33) := ⟨_, rfl⟩
 rw [← hw1] at hb1 hs1 hc1
 have H1 := hid (h.call hb1)
 have HB1 := hid hb1
 have HC1 := hid hc1
 have HG := hid (hfull H1.out o i)
 obtain ⟨k0, k1⟩ := slot_cells hs1
 generalize gt L o i = c at *
 generalize fullN L o i = cn at *
 obtain ⟨ca, cb, cx, cd, ce, cf, cg, ch⟩ := c
 have HZ1 := hid (ags hc1).1
 have HW := hid hw1
 clear h hb1 hs1 hc1 hw1
 go_enter Tryz.func27, Tryz.ntmps27
 go_upto_region 1 with fail
 rw [show ((w.alloc (slO o i)).alloc (.cells #[.int .i64 0, .int .i64 0, .int .i64 0, .int .u64 0, .int .i64 0, .int .i64 0, .int .i64 0, .int .i64 0] 33)) = w1 from HW.out.symm]
 go_upto_region 2 with (go_at_call 69; (with_reducible refine HG.out.mono ?_); rintro e w2 ⟨rfl, hb2⟩; have HB2 := hid hb2; clear hb2)
 obtain ⟨w3, hw3⟩ : ∃ y, y = w2.alloc (.cells #[.int .i64 ca, .int .i64 cb, .int .i64 cx, .int .u64 cd, .int .i64 ce, .int .i64 cf, .int .i64 cg, .int .i64 ch] 33) := ⟨_, rfl⟩
 have hb3 : Below w1.heap.size w1 w3 := hw3 ▸ bal HB2.out _
 have hx3 : w3.heap[w2.heap.size]? = some (.cells (⟨ca, cb, cx, cd, ce, cf, cg, ch⟩ : Cp).L.toArray 33 (0, 0)) := by rw [hw3]; exact heap_alloc_new w2 _
 have hc3 := (hb3.block _ HZ1.out).trans HC1.out
 have HC3 := hid hc3
 have HFB := hid (lay8_below (k := w.heap.size + 1) ⟨0, 0, 0, 0, 0, 0, 0, 0⟩ (HB1.out.trans (hb3.mono HB1.out.size)) (by omega))
 rw [← hw3]
 generalize w2.heap.size = xB at *
 obtain ⟨x0, x1, x2, x3, x4, x5, x6, x7⟩ := cap_cells hx3
 simp only [] at x0 x1 x2 x3 x4 x5 x6 x7
 obtain ⟨y0, y1, y2, y3, y4, y5, y6, y7⟩ := cap_cells hc3
 have g0 := cap_froz hc3 0
 have g1 := cap_froz hc3 1
 have g2 := cap_froz hc3 2
 have g3 := cap_froz hc3 3
 have g4 := cap_froz hc3 4
 have g5 := cap_froz hc3 5
 have g6 := cap_froz hc3 6
 have g7 := cap_froz hc3 7
 have hz3 := (ags hc3).1
 have HF := hid (lay8_same ⟨0, 0, 0, 0, 0, 0, 0, 0⟩ HC3.out)
 obtain ⟨w4, hw4⟩ : ∃ y, y = lay8 w3 (w.heap.size + 1) ⟨0, 0, 0, 0, 0, 0, 0, 0⟩ := ⟨_, rfl⟩
 rw [← hw4] at HF HFB
 simp only [lay8] at hw4
 have H4 := hid hw4
 clear hw4
 clear hw3 hb3 hx3 hc3 k0 k1 HG H1
 go_wp2
 rw [← H4.out]
 obtain ⟨q0, q1, q2, q3, q4, q5, q6, q7⟩ := cap_cells HF.out
 simp only [] at q0 q1 q2 q3 q4 q5 q6 q7
 exact bodyPost_ret (v := .tuple #[.agg #[.int .i64 0, .int .i64 0, .int .i64 0, .int .u64 0, .int .i64 0, .int .i64 0, .int .i64 0, .int .i64 0], .int .i64 cn]) (by simp [results, Tryz.results27, go_sem, q0, q1, q2, q3, q4, q5, q6, q7]) rfl ⟨rfl, HFB.out⟩
end HdS
end
section
namespace CX
structure CapX where
 a : Int
 b : Int
 c : Int
 d : Int
 e : Int
 f : Int
 g : Int
 h : Int
abbrev CapX.val (x : CapX) : Value := .agg #[.int .i64 x.a, .int .i64 x.b, .int .i64 x.c, .int .u64 x.d, .int .i64 x.e, .int .i64 x.f, .int .i64 x.g, .int .i64 x.h]
def CapX.Ok (x : CapX) : Prop := (-9223372036854775808 ≤ x.a ∧ x.a ≤ 9223372036854775807) ∧ (-9223372036854775808 ≤ x.b ∧ x.b ≤ 9223372036854775807) ∧ (-9223372036854775808 ≤ x.c ∧ x.c ≤ 9223372036854775807) ∧ (0 ≤ x.d ∧ x.d ≤ 18446744073709551615) ∧ (-9223372036854775808 ≤ x.e ∧ x.e ≤ 9223372036854775807) ∧ (-9223372036854775808 ≤ x.f ∧ x.f ≤ 9223372036854775807) ∧ (-9223372036854775808 ≤ x.g ∧ x.g ≤ 9223372036854775807) ∧ (-9223372036854775808 ≤ x.h ∧ x.h ≤ 9223372036854775807)
theorem part_bd (r m : Int) (k : Nat) : 0 ≤ partN r m k ∧ partN r m k ≤ 7 := by
 unfold partN
 split <;> split <;> split <;> omega
theorem part1 (r m : Int) : partN r m 1 = partN r m 0 + (if hasB m 1 = true ∧ hasB r 1 = true then 1 else 0) := by
 simp [partN]
theorem part2 (r m : Int) : partN r m 2 = partN r m 1 + (if hasB m 2 = true ∧ hasB r 2 = true then 2 else 0) := by
 simp [partN]
theorem part3 (r m : Int) : partN r m 3 = partN r m 2 + (if hasB m 4 = true ∧ hasB r 4 = true then 4 else 0) := by
 simp [partN]
theorem kept_any (a b c d e f g h : Int) (m : Int) (w : World) (c0 : 0 ≤ c) (c1 : c ≤ 7) (m0 : 0 ≤ m) (m1 : m ≤ 7) :
  Calls Tryz.prog 99 #[.agg #[.int .i64 a, .int .i64 b, .int .i64 c, .int .u64 d, .int .i64 e, .int .i64 f, .int .i64 g, .int .i64 h], .int .i64 m] w fun e w' => e = .returned (.int .i64 (maskN c m)) ∧ Below w.heap.size w w' := by
 have hp := part_mask c0 c1 m0 m1
 go_enter Tryz.func99, Tryz.ntmps99
 go_wp2_with (fail)
 go_loop [5, 6] (fun s r => (r = .int .i64 1 ∧ s = .int .i64 (partN c m 0)) ∨ (r = .int .i64 2 ∧ s = .int .i64 (partN c m 1)) ∨ (r = .int .i64 4 ∧ s = .int .i64 (partN c m 2)) ∨ (r = .int .i64 8 ∧ s = .int .i64 (partN c m 3))) (fun _ r => 8 - (intOf r).toNat)
 case atStart => exact .inl ⟨rfl, by simp [partN]⟩
 case round =>
  obtain ⟨rfl, rfl⟩ | ⟨rfl, rfl⟩ | ⟨rfl, rfl⟩ | ⟨rfl, rfl⟩ := hrel
  ·have P := part1 c m
   have B := part_bd c m 0
   obtain ⟨B0, B1⟩ := B
   have B2 := part_bd c m 1
   obtain ⟨B20, B21⟩ := B2
   cases h1 : hasB m 1 <;> cases h2 : hasB c 1
   all_goals
    rw [h1, h2] at P
    simp only [Bool.false_eq_true, false_and, and_false, and_self, if_false, if_true, Int.add_zero] at P
    generalize partN c m 1 = s' at *
    generalize partN c m 0 = s at *
    go_wp2
    go_step3
    go_wp2
    go_step3
    go_wp2_with (go_at_call 23; refine (has_any _ _ _ (by omega) (by omega) (by decide) (by decide)).mono ?_; (first | rw [h1] | rw [h2]); rintro e w1 ⟨rfl, rfl⟩)
    go_wp2
    rw [Exit.noGoto_normal]
    go_wp2
    go_round
    all_goals first | (simp [intOf]; done) | exact .inr (.inl ⟨by go_num, by rw [P]⟩)
  ·have P := part2 c m
   have B := part_bd c m 1
   obtain ⟨B0, B1⟩ := B
   have B2 := part_bd c m 2
   obtain ⟨B20, B21⟩ := B2
   cases h1 : hasB m 2 <;> cases h2 : hasB c 2
   all_goals
    rw [h1, h2] at P
    simp only [Bool.false_eq_true, false_and, and_false, and_self, if_false, if_true, Int.add_zero] at P
    generalize partN c m 2 = s' at *
    generalize partN c m 1 = s at *
    go_wp2
    go_step3
    go_wp2
    go_step3
    go_wp2_with (go_at_call 23; refine (has_any _ _ _ (by omega) (by omega) (by decide) (by decide)).mono ?_; (first | rw [h1] | rw [h2]); rintro e w1 ⟨rfl, rfl⟩)
    go_wp2
    rw [Exit.noGoto_normal]
    go_wp2
    go_round
    all_goals first | (simp [intOf]; done) | exact .inr (.inr (.inl ⟨by go_num, by rw [P]⟩))
  ·have P := part3 c m
   have B := part_bd c m 2
   obtain ⟨B0, B1⟩ := B
   have B2 := part_bd c m 3
   obtain ⟨B20, B21⟩ := B2
   cases h1 : hasB m 4 <;> cases h2 : hasB c 4
   all_goals
    rw [h1, h2] at P
    simp only [Bool.false_eq_true, false_and, and_false, and_self, if_false, if_true, Int.add_zero] at P
    generalize partN c m 3 = s' at *
    generalize partN c m 2 = s at *
    go_wp2
    go_step3
    go_wp2
    go_step3
    go_wp2_with (go_at_call 23; refine (has_any _ _ _ (by omega) (by omega) (by decide) (by decide)).mono ?_; (first | rw [h1] | rw [h2]); rintro e w1 ⟨rfl, rfl⟩)
    go_wp2
    rw [Exit.noGoto_normal]
    go_wp2
    go_round
    all_goals first | (simp [intOf]; done) | exact .inr (.inr (.inr ⟨by go_num, by rw [P]⟩))
  ·go_wp2_with (fail)
   go_ret
   exact ⟨rfl, (Below.refl _ _).alloc (Nat.le_refl _) _⟩
end CX
end
end Go.Proofs.YtchjfeafkmpmbaaGreatDoor
