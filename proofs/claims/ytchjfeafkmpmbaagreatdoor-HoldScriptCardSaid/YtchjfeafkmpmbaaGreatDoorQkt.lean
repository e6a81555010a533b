import Derived.Test.YtchjfeafkmpmbaaGreatDoorQks
import Derived.RangeFuncNested
import Derived.Sort.CutIn
namespace Go.Proofs.YtchjfeafkmpmbaaGreatDoor
set_option linter.unusedVariables false
set_option linter.unusedSimpArgs false
set_option maxRecDepth 100000
set_option maxHeartbeats 8000000
open Lib (hid)
open Go.ChangeShapes Go.WideShapes Go.ChangeAt Go.RowKit Go.Shelf
section
namespace HpS
open TabS (Cp Sn zC mayC sizS getR getN FootP foot_ltP SameS AddRel addSR setN setM rowsS hasS dropSR dropSL heldA hdsC)
open TabP (Two Pr)
variable {W w w' : World} {s : Sh} {hb rhb n n' : Nat} {L M L' M' : List Sn} {l l2 l' l2' : List Nod} {S : Nat → Prop}
def childF (q : Int) (sm : Bool) (r : Int) : Int := if q = 1 ∨ q = 3 then q else if sm = false then 5 else if q ≠ 0 then q else r
def childN (L : List Sn) (l : List Nod) (o i p j : Int) (c : Cp) : Int := childF (pairN L o i p j) (someB c) (childA l o i p j).2
def childOn (L : List Sn) (o i p j : Int) (c : Cp) : Prop := pairN L o i p j = 0 ∧ someB c = true
abbrev triW (w : World) (o i p j : Int) (c : Cp) : World := ((w.alloc (slO o i)).alloc (slO p j)).alloc (.cells c.L.toArray 33)
theorem tri_boxes (w : World) (o i p j : Int) (c : Cp) : Below w.heap.size w (triW w o i p j c) ∧ (triW w o i p j c).heap[w.heap.size]? = some (.cells #[.int .i64 o, .int .i64 i] 30 (0, 0)) ∧ (triW w o i p j c).heap[w.heap.size + 1]? = some (.cells #[.int .i64 p, .int .i64 j] 30 (0, 0)) ∧ (triW w o i p j c).heap[w.heap.size + 2]? = some (.cells c.L.toArray 33 (0, 0)) := by
 have h1 := heap_alloc_new (w.alloc (slO o i)) (slO p j)
 have h2 := heap_alloc_new ((w.alloc (slO o i)).alloc (slO p j)) (.cells c.L.toArray 33)
 rw [World.size_alloc] at h1 h2
 rw [World.size_alloc] at h2
 exact ⟨bal (bal (bal (Below.refl _ _) _) _) _, (Below.heap_alloc _ _ _ (by simp; omega)).trans ((Below.heap_alloc _ _ _ (by simp)).trans (heap_alloc_new w _)), (Below.heap_alloc _ _ _ (by simp)).trans h1, h2⟩
theorem hchild_no (h : Hd W s hb rhb n L M l l2 S w) (hT0 : CX.TabG W) (o i p j : Int) (c : Cp) (he : c.e ≤ 9223372036854775807) (hno : ¬ childOn L o i p j c) :
  Calls Tryz.prog 35 #[.pointer (some ⟨hb, 0, none⟩), slV o i, slV p j, c.V] w fun e w' => e = .returned (.int .i64 (childN L l o i p j c)) ∧ Below w.heap.size w w' := by
 obtain ⟨hb1, hs1, ht1, hc1⟩ := tri_boxes w o i p j c
 obtain ⟨w1, hw1⟩ : ∃ y, y = triW w o i p j c := ⟨_, rfl⟩
 rw [← hw1] at hb1 hs1 ht1 hc1
 have H1 := hid (h.call hb1)
 have HB1 := hid hb1
 have HC1 := hid hc1
 have HS1 := hid hs1
 have HR1 := hid ht1
 have HG := hid (hpair H1.out o i p j)
 have HT1 := hid (fun (v : World) (hv : Below w1.heap.size w1 v) => hsome v (hT0.call (H1.out.call hv).below) c he)
 have hsb : someB c = (mayC c && decide (c.a ≠ 0)) := rfl
 rw [← hsb] at HT1
 obtain ⟨N, hN⟩ : ∃ y, y = childN L l o i p j c := ⟨_, rfl⟩
 rw [← hN]
 unfold childN childF at hN
 unfold childOn at hno
 generalize pairC L o i p j = t at *
 generalize pairN L o i p j = cn at *
 generalize someB c = sm at *
 obtain ⟨ta, tb, tx, td, te, tf, tg, th⟩ := t
 obtain ⟨ca, cb, cx, cd, ce, cf, cg, ch⟩ := c
 have HN := hid hN
 clear hN
 obtain ⟨k0, k1⟩ := slot_cells hs1
 obtain ⟨r0, r1⟩ := slot_cells ht1
 have HZ1 := hid (ags hc1).1
 have HW := hid hw1
 clear h hb1 hs1 ht1 hc1 hw1 hsb hT0 he
 go_enter Tryz.func35, Tryz.ntmps35
 go_upto_region 1 with fail
 rw [show (((w.alloc (slO o i)).alloc (slO p j)).alloc (.cells #[.int .i64 ca, .int .i64 cb, .int .i64 cx, .int .u64 cd, .int .i64 ce, .int .i64 cf, .int .i64 cg, .int .i64 ch] 33)) = w1 from HW.out.symm]
 go_upto_region 2 with (go_at_call 68; (with_reducible refine HG.out.mono ?_); rintro e w2 ⟨rfl, hb2⟩; have HB2 := hid hb2; clear hb2)
 obtain ⟨w3, hw3⟩ : ∃ y, y = w2.alloc (.cells #[.int .i64 ta, .int .i64 tb, .int .i64 tx, .int .u64 td, .int .i64 te, .int .i64 tf, .int .i64 tg, .int .i64 th] 33) := ⟨_, rfl⟩
 have hb3 : Below w1.heap.size w1 w3 := hw3 ▸ bal HB2.out _
 have HB3w := hid hb3
 have HZ0 : Hid (w.heap.size < w1.heap.size ∧ w.heap.size + 1 < w1.heap.size) := hid (by have := HZ1.out; omega)
 have HC3 := hid ((hb3.block _ HZ1.out).trans HC1.out)
 have HS3 := hid ((hb3.block _ HZ0.out.1).trans HS1.out)
 have HR3 := hid ((hb3.block _ HZ0.out.2).trans HR1.out)
 have HB3 := hid (HB1.out.trans (hb3.mono HB1.out.size))
 rw [← hw3]
 generalize w2.heap.size = xB at *
 clear hw3 hb3 k0 k1 r0 r1 HG H1 HB1 HC1 HB2 HS1 HR1
 obtain ⟨x0, x1, x2, x3, x4, x5, x6, x7⟩ := cap_cells HC3.out
 simp only [] at x0 x1 x2 x3 x4 x5 x6 x7
 have HSM := hid (HT1.out w3 HB3w.out)
 by_cases q1 : cn = 1
 ·subst q1
  obtain rfl : N = 1 := by rw [HN.out]; rfl
  go_wp2
  go_ret
  exact ⟨rfl, HB3.out⟩
 ·by_cases q3 : cn = 3
  ·subst q3
   obtain rfl : N = 3 := by rw [HN.out]; rfl
   go_wp2
   go_ret
   exact ⟨rfl, HB3.out⟩
  ·have q4 : ¬ (cn = 1 ∨ cn = 3) := fun e => e.elim q1 q3
   have q5 : (cn == 1) = false := beq_eq_false_iff_ne.2 q1
   have q6 : (cn == 3) = false := beq_eq_false_iff_ne.2 q3
   cases sm with
   | false =>
    obtain rfl : N = 5 := by rw [HN.out, if_neg q4]; rfl
    go_wp2_with (go_at_call 76; (with_reducible refine HSM.out.mono ?_); rintro e w4 ⟨rfl, hb4⟩; have HB4 := hid (HB3.out.trans (hb4.mono HB3.out.size)); clear hb4)
    go_ret
    exact ⟨rfl, HB4.out⟩
   | true =>
    have q0 : cn ≠ 0 := fun e => hno ⟨e, rfl⟩
    obtain rfl : cn = N := by rw [HN.out, if_neg q4, if_neg (by decide), if_pos q0]
    go_wp2_with (go_at_call 76; (with_reducible refine HSM.out.mono ?_); rintro e w4 ⟨rfl, hb4⟩; have HB4 := hid (HB3.out.trans (hb4.mono HB3.out.size)); clear hb4)
    go_ret
    exact ⟨rfl, HB4.out⟩
theorem hchild_yes (h : Hd W s hb rhb n L M l l2 S w) (hT0 : CX.TabG W) (o i p j : Int) (ho : InS o) (hi : InS i) (hp : InS p) (hj : InS j) (c : Cp) (he : c.e ≤ 9223372036854775807) (hnn : n < 1000000) (hon : childOn L o i p j c) :
  Calls Tryz.prog 35 #[.pointer (some ⟨hb, 0, none⟩), slV o i, slV p j, c.V] w fun e w' => e = .returned (.int .i64 (childA l o i p j).2) ∧ Hd W s hb rhb (n + 1) (setM L p j c) M (childA l o i p j).1 l2 S w' ∧ SameK S w w' := by
 obtain ⟨hb1, hs1, ht1, hc1⟩ := tri_boxes w o i p j c
 obtain ⟨w1, hw1⟩ : ∃ y, y = triW w o i p j c := ⟨_, rfl⟩
 rw [← hw1] at hb1 hs1 ht1 hc1
 have H1 := hid (h.call hb1)
 have HB1 := hid hb1
 have HC1 := hid hc1
 have HS1 := hid hs1
 have HR1 := hid ht1
 have HG := hid (hpair H1.out o i p j)
 have HT1 := hid (fun (v : World) (hv : Below w1.heap.size w1 v) => hsome v (hT0.call (H1.out.call hv).below) c he)
 have hsb : someB c = (mayC c && decide (c.a ≠ 0)) := rfl
 rw [← hsb] at HT1
 have HH := hid h
 unfold childOn at hon
 obtain ⟨L2, hL2⟩ : ∃ y, y = setM L p j c := ⟨_, rfl⟩
 obtain ⟨RA, hRA⟩ : ∃ y, y = childA l o i p j := ⟨_, rfl⟩
 rw [← hL2, ← hRA]
 have HST : Hid (∀ v T, Hd W s hb rhb n L M l l2 T v → Calls Tryz.prog 71 #[.pointer (some ⟨s.sb, 0, none⟩), slV p j, c.V] v fun e w' => e = .returned (.int .i64 (setN L p j c)) ∧ Hd W s hb rhb n L2 M l l2 T w' ∧ SameK T v w') := hid (fun v T hv => by rw [hL2]; exact hv.act (fun K hK => hK.set hT0 p j c he))
 have HRT : Hid (∀ v T, Hd W s hb rhb n L2 M l l2 T v → Calls Tryz.prog 84 #[.pointer (some ⟨s.tb, 0, none⟩), slV o i, slV p j] v fun e w' => e = .returned (.int .i64 RA.2) ∧ Hd W s hb rhb (n + 1) L2 M RA.1 l2 T w' ∧ SameK T v w') := hid (fun v T hv => by rw [hRA]; exact hv.act (fun K hK => hK.child o i p j ho hi hp hj hnn))
 clear hL2 hRA
 generalize setN L p j c = sn at *
 generalize pairC L o i p j = t at *
 generalize pairN L o i p j = cn at *
 generalize someB c = sm at *
 obtain ⟨ta, tb, tx, td, te, tf, tg, th⟩ := t
 obtain ⟨ca, cb, cx, cd, ce, cf, cg, ch⟩ := c
 obtain ⟨rfl, rfl⟩ := hon
 obtain ⟨k0, k1⟩ := slot_cells hs1
 obtain ⟨r0, r1⟩ := slot_cells ht1
 have HZ1 := hid (ags hc1).1
 have HW := hid hw1
 clear h hb1 hs1 ht1 hc1 hw1 hsb hT0 he ho hi hp hj hnn
 go_enter Tryz.func35, Tryz.ntmps35
 go_upto_region 1 with fail
 rw [show (((w.alloc (slO o i)).alloc (slO p j)).alloc (.cells #[.int .i64 ca, .int .i64 cb, .int .i64 cx, .int .u64 cd, .int .i64 ce, .int .i64 cf, .int .i64 cg, .int .i64 ch] 33)) = w1 from HW.out.symm]
 go_upto_region 2 with (go_at_call 68; (with_reducible refine HG.out.mono ?_); rintro e w2 ⟨rfl, hb2⟩; have HB2 := hid hb2; clear hb2)
 obtain ⟨w3, hw3⟩ : ∃ y, y = w2.alloc (.cells #[.int .i64 ta, .int .i64 tb, .int .i64 tx, .int .u64 td, .int .i64 te, .int .i64 tf, .int .i64 tg, .int .i64 th] 33) := ⟨_, rfl⟩
 have hb3 : Below w1.heap.size w1 w3 := hw3 ▸ bal HB2.out _
 have HB3w := hid hb3
 have HZ0 : Hid (w.heap.size < w1.heap.size ∧ w.heap.size + 1 < w1.heap.size) := hid (by have := HZ1.out; omega)
 have HC3 := hid ((hb3.block _ HZ1.out).trans HC1.out)
 have HS3 := hid ((hb3.block _ HZ0.out.1).trans HS1.out)
 have HR3 := hid ((hb3.block _ HZ0.out.2).trans HR1.out)
 have HB3 := hid (HB1.out.trans (hb3.mono HB1.out.size))
 rw [← hw3]
 generalize w2.heap.size = xB at *
 clear hw3 hb3 k0 k1 r0 r1 HG H1 HB1 HC1 HB2 HS1 HR1
 obtain ⟨x0, x1, x2, x3, x4, x5, x6, x7⟩ := cap_cells HC3.out
 simp only [] at x0 x1 x2 x3 x4 x5 x6 x7
 have HSM := hid (HT1.out w3 HB3w.out)
 go_upto_region 8 with (go_at_call 76; (with_reducible refine HSM.out.mono ?_); rintro e w4 ⟨rfl, hb4⟩; have HB4 := hid hb4; clear hb4)
 have HC4 := hid ((HB4.out.block _ (ags HC3.out).1).trans HC3.out)
 have HS4 := hid ((HB4.out.block _ (ags HS3.out).1).trans HS3.out)
 have HR4 := hid ((HB4.out.block _ (ags HR3.out).1).trans HR3.out)
 have HW4 := hid (HB3.out.trans (HB4.out.mono HB3.out.size))
 have HE4 := hid (HH.out.fresh HW4.out)
 have HE4d := hid (HE4.out.call (show Below w4.heap.size w4 w4.drew from (Below.refl _ _).drew))
 have HBX4 := hid (Bx2.of HE4.out HR4.out HC4.out).a
 have HNS : Hid (New w w4 w.heap.size ∧ New w w4 (w.heap.size + 1) ∧ New w w4 (w.heap.size + 2)) := hid ⟨⟨Nat.le_refl _, (ags HS4.out).1⟩, ⟨by omega, (ags HR4.out).1⟩, ⟨by omega, (ags HC4.out).1⟩⟩
 have HSC := hid (HST.out _ _ HE4d.out)
 have HBd : Hid (Bx2A w4.drew hb s p j ⟨ca, cb, cx, cd, ce, cf, cg, ch⟩ (w.heap.size + 1) (w.heap.size + 2)) := hid HBX4.out
 clear x0 x1 x2 x3 x4 x5 x6 x7 HT1 HSM HB3w HB3 HC3 HS3 HR3 HB4 HST
 go_region_held3 (fun w' => w'.cell? ⟨hb, 0, none⟩ = some (.pointer (some ⟨s.sb, 0, none⟩)) ∧ w'.cell? ⟨w.heap.size + 1, 0, none⟩ = some (.int .i64 p) ∧ w'.cell? ⟨w.heap.size + 1, 1, none⟩ = some (.int .i64 j) ∧ w'.cell? ⟨w.heap.size + 2, 0, none⟩ = some (.int .i64 ca) ∧ w'.cell? ⟨w.heap.size + 2, 1, none⟩ = some (.int .i64 cb) ∧ w'.cell? ⟨w.heap.size + 2, 2, none⟩ = some (.int .i64 cx) ∧ w'.cell? ⟨w.heap.size + 2, 3, none⟩ = some (.int .u64 cd) ∧ w'.cell? ⟨w.heap.size + 2, 4, none⟩ = some (.int .i64 ce) ∧ w'.cell? ⟨w.heap.size + 2, 5, none⟩ = some (.int .i64 cf) ∧ w'.cell? ⟨w.heap.size + 2, 6, none⟩ = some (.int .i64 cg) ∧ w'.cell? ⟨w.heap.size + 2, 7, none⟩ = some (.int .i64 ch))
  (first | (with_reducible exact HBX4.out) | (with_reducible exact HBd.out) | (with_reducible exact HB5.out))
  (first | (go_at_call 71; (with_reducible refine HSC.out.mono ?_); rintro e w5 ⟨rfl, h5, hk5⟩; have H5 := hid h5; have HK5 := hid hk5; have hs5 := (hk5 _ (.inr HNS.out.1)).trans HS4.out; have hr5 := (hk5 _ (.inr HNS.out.2.1)).trans HR4.out; have hc5 := (hk5 _ (.inr HNS.out.2.2)).trans HC4.out; have HS5 := hid hs5; have HR5 := hid hr5; have HB5 := hid (Bx2.of h5 hr5 hc5).a; clear h5 hk5 hs5 hr5 hc5))
 have HBX5 : Hid (w5.cell? ⟨hb, 1, none⟩ = some (.pointer (some ⟨s.tb, 0, none⟩)) ∧ w5.cell? ⟨w.heap.size, 0, none⟩ = some (.int .i64 o) ∧ w5.cell? ⟨w.heap.size, 1, none⟩ = some (.int .i64 i) ∧ w5.cell? ⟨w.heap.size + 1, 0, none⟩ = some (.int .i64 p) ∧ w5.cell? ⟨w.heap.size + 1, 1, none⟩ = some (.int .i64 j)) := hid ⟨H5.out.c.2.1, (slot_cells HS5.out).1, (slot_cells HS5.out).2, (slot_cells HR5.out).1, (slot_cells HR5.out).2⟩
 have HBX5d : Hid (w5.drew.cell? ⟨hb, 1, none⟩ = some (.pointer (some ⟨s.tb, 0, none⟩)) ∧ w5.drew.cell? ⟨w.heap.size, 0, none⟩ = some (.int .i64 o) ∧ w5.drew.cell? ⟨w.heap.size, 1, none⟩ = some (.int .i64 i) ∧ w5.drew.cell? ⟨w.heap.size + 1, 0, none⟩ = some (.int .i64 p) ∧ w5.drew.cell? ⟨w.heap.size + 1, 1, none⟩ = some (.int .i64 j)) := hid HBX5.out
 have H5d := hid (H5.out.call (show Below w5.heap.size w5 w5.drew from (Below.refl _ _).drew))
 have HRC := hid (HRT.out _ _ H5d.out)
 have HS0 : Hid (∀ k, S k → w5.heap[k]? = w.heap[k]?) := hid (fun k q => (HK5.out k (.inl q)).trans (HW4.out.block k (HH.out.lt q)))
 clear HB5 HSC HRT HBX4 HBd HC4 HS4 HR4 HE4 HE4d
 go_upto_region 9 with fail
 go_region_held3 (fun w' => w'.cell? ⟨hb, 1, none⟩ = some (.pointer (some ⟨s.tb, 0, none⟩)) ∧ w'.cell? ⟨w.heap.size, 0, none⟩ = some (.int .i64 o) ∧ w'.cell? ⟨w.heap.size, 1, none⟩ = some (.int .i64 i) ∧ w'.cell? ⟨w.heap.size + 1, 0, none⟩ = some (.int .i64 p) ∧ w'.cell? ⟨w.heap.size + 1, 1, none⟩ = some (.int .i64 j))
  (first | (with_reducible exact HBX5.out) | (with_reducible exact HBX5d.out) | (with_reducible exact HB6.out))
  (first | (go_at_call 84; (with_reducible refine HRC.out.mono ?_); rintro e w6 ⟨rfl, h6, hk6⟩; have H6 := hid h6; have HK6 := hid hk6; have hs6 := (hk6 _ (.inr HNS.out.1)).trans HS5.out; have hr6 := (hk6 _ (.inr HNS.out.2.1)).trans HR5.out; have HB6 : Hid (w6.cell? ⟨hb, 1, none⟩ = some (.pointer (some ⟨s.tb, 0, none⟩)) ∧ w6.cell? ⟨w.heap.size, 0, none⟩ = some (.int .i64 o) ∧ w6.cell? ⟨w.heap.size, 1, none⟩ = some (.int .i64 i) ∧ w6.cell? ⟨w.heap.size + 1, 0, none⟩ = some (.int .i64 p) ∧ w6.cell? ⟨w.heap.size + 1, 1, none⟩ = some (.int .i64 j)) := hid ⟨h6.c.2.1, (slot_cells hs6).1, (slot_cells hs6).2, (slot_cells hr6).1, (slot_cells hr6).2⟩; clear h6 hk6 hs6 hr6))
 all_goals
  go_wp2
  go_ret
  exact ⟨rfl, H6.out.weak (fun k q => .inl q), fun k q => (HK6.out k (.inl q)).trans (HS0.out k q)⟩
def sameC (x y : Cp) : Bool := CX.alikeB (mayC x) (mayC y) x.a y.a x.b y.b
theorem halike (w : World) (hT : CX.TabG w) (x y : Cp) (hx : x.e ≤ 9223372036854775807) (hy : y.e ≤ 9223372036854775807) :
  Calls Tryz.prog 22 #[x.V, y.V] w fun e w' => e = .returned (.bool (sameC x y)) ∧ Below w.heap.size w w' := CX.alike_any x.a x.b x.c x.d x.e x.f x.g x.h y.a y.b y.c y.d y.e y.f y.g y.h w hT hx hy
def hsetN (L : List Sn) (o i : Int) (c : Cp) : Int := if fullN L o i ≠ 0 then fullN L o i else if sameC c (gt L o i) = false then 5 else setN L o i c
def hsetOn (L : List Sn) (o i : Int) (c : Cp) : Prop := fullN L o i = 0 ∧ sameC c (gt L o i) = true
theorem duo_boxes (w : World) (o i p j : Int) : Below w.heap.size w ((w.alloc (slO o i)).alloc (slO p j)) ∧ ((w.alloc (slO o i)).alloc (slO p j)).heap[w.heap.size]? = some (.cells #[.int .i64 o, .int .i64 i] 30 (0, 0)) ∧ ((w.alloc (slO o i)).alloc (slO p j)).heap[w.heap.size + 1]? = some (.cells #[.int .i64 p, .int .i64 j] 30 (0, 0)) := by
 have h1 := heap_alloc_new (w.alloc (slO o i)) (slO p j)
 rw [World.size_alloc] at h1
 exact ⟨bal (bal (Below.refl _ _) _) _, (Below.heap_alloc _ _ _ (by simp)).trans (heap_alloc_new w _), h1⟩
def swapN (L : List Sn) (o i p j : Int) : Int := if gn L o i ≠ 0 then gn L o i else gn L p j
def swapL (L : List Sn) (o i p j : Int) : List Sn := setM (setM L o i (gt L p j)) p j (gt L o i)
theorem fullN_zero {L : List Sn} {o i : Int} (h : fullN L o i = 0) : gn L o i = 0 ∧ (gt L o i).a ≠ 0 := by
 unfold fullN at h
 split at h
 ·cases h
 ·rename_i h1
  exact ⟨h, fun e => h1 ⟨h, e⟩⟩
theorem pairN_zero {L : List Sn} {o i p j : Int} (h : pairN L o i p j = 0) : gn L p j = 0 ∧ fullN L o i = 0 ∧ (gt L p j).a = 0 := by
 unfold pairN pairF at h
 split at h
 ·rename_i h1; exact (h1 h).elim
 ·rename_i h1
  split at h
  ·rename_i h2; exact (h2 h).elim
  ·rename_i h2
   split at h
   ·cases h
   ·rename_i h3
    exact ⟨Decidable.not_not.1 h1, Decidable.not_not.1 h2, Decidable.not_not.1 h3⟩
theorem hadd (h : Hd W s hb rhb n L M l l2 S w) (hl : L.length < 1000000) (id k : Int) :
  Calls Tryz.prog 29 #[.pointer (some ⟨hb, 0, none⟩), .int .i64 id, .int .i64 k] w fun e w' => e = .returned (.int .i64 (addSR L id k)) ∧ ∃ L', AddRel L id k L' ∧ Hd W s hb rhb n L' M l l2 S w' ∧ SameK S w w' := by
 have HS := hid (hslots h)
 have HC := hid (h.bo.add hl id k)
 have HH := hid h
 generalize addSR L id k = r at *
 clear h
 go_enter Tryz.func29, Tryz.ntmps29
 go_wp2_with (first
  | (go_at_call 51; (with_reducible refine HS.out.mono ?_); rintro e w2 ⟨rfl, rfl⟩)
  | (go_at_call 75; (with_reducible refine HC.out.mono ?_); rintro e w3 ⟨rfl, L3, hr3, hb3, hk3⟩; have HR := hid hr3; have HB := hid hb3; have HK := hid hk3; clear hr3 hb3 hk3))
 go_ret
 exact ⟨rfl, L3, HR.out, HH.out.lift HB.out HK.out, fun k q => HK.out k (.inr q)⟩
end HpS
end
section
namespace HpS
open TabS (Cp Sn zC mayC sizS getR getN FootP foot_ltP SameS AddRel addSR setN setM rowsS hasS dropSR dropSL heldA hdsC)
open TabP (Two Pr)
def toX (c : Cp) : CX.CapX := ⟨c.a, c.b, c.c, c.d, c.e, c.f, c.g, c.h⟩
def ofX (x : CX.CapX) : Cp := ⟨x.a, x.b, x.c, x.d, x.e, x.f, x.g, x.h⟩
def cpy (c : Cp) (m : Int) : Cp × Int := (ofX (CX.copyX (toX c) m).1, (CX.copyX (toX c) m).2)
theorem dcopy (w : World) (hT : CX.TabG w) (c : Cp) (m : Int) (he : c.e ≤ 9223372036854775807) :
  Calls Tryz.prog 63 #[c.V, .int .i64 m] w fun e w' => e = .returned (.tuple #[(cpy c m).1.V, .int .i64 (cpy c m).2]) ∧ Below w.heap.size w w' := CX.copyD (toX c) m he w hT
theorem cap_boxes (w : World) (c : Cp) : Below w.heap.size w ((w.alloc (.cells c.L.toArray 33)).alloc (.cells zC.L.toArray 33)) ∧ ((w.alloc (.cells c.L.toArray 33)).alloc (.cells zC.L.toArray 33)).heap[w.heap.size]? = some (.cells c.L.toArray 33 (0, 0)) ∧ ((w.alloc (.cells c.L.toArray 33)).alloc (.cells zC.L.toArray 33)).heap[w.heap.size + 1]? = some (.cells zC.L.toArray 33 (0, 0)) := by
 refine ⟨bal (bal (Below.refl _ _) _) _, (Below.heap_alloc _ _ _ (by simp)).trans (heap_alloc_new w _), ?_⟩
 have := heap_alloc_new (w.alloc (.cells c.L.toArray 33)) (.cells zC.L.toArray 33)
 rwa [World.size_alloc] at this
theorem hcopy1 (w : World) (hT : CX.TabG w) (c : Cp) (m : Int) (mB : Nat) (he : c.e ≤ 9223372036854775807) (hm : w.cell? ⟨mB, 0, none⟩ = some (.int .i64 m)) (hz : mB < w.heap.size) :
  Calls Tryz.prog 62 #[c.V, .pointer (some ⟨mB, 0, none⟩)] w fun e w' => e = .returned (.tuple #[(cpy c m).1.V, .int .i64 (cpy c m).2]) ∧ Below w.heap.size w w' := by
 obtain ⟨hb1, hx1, hc1⟩ := cap_boxes w c
 obtain ⟨w1, hw1⟩ : ∃ y, y = (w.alloc (.cells c.L.toArray 33)).alloc (.cells zC.L.toArray 33) := ⟨_, rfl⟩
 rw [← hw1] at hb1 hx1 hc1
 have HB1 := hid hb1
 have HC1 := hid hc1
 have HD := hid (dcopy w1 (hT.call hb1) c m he)
 have hm1 := (hb1.cell (p := ⟨mB, 0, none⟩) hz).trans hm
 generalize cpy c m = r at *
 obtain ⟨⟨ca, cb, cx, cd, ce, cf, cg, ch⟩, k⟩ := r
 obtain ⟨ta, tb, tx, td, te, tf, tg, th⟩ := c
 obtain ⟨x0, x1, x2, x3, x4, x5, x6, x7⟩ := cap_cells hx1
 simp only [] at x0 x1 x2 x3 x4 x5 x6 x7
 have HZ1 := hid (ags hc1).1
 have HW := hid hw1
 clear hb1 hx1 hc1 hw1 hT he hm hz
 go_enter Tryz.func62, Tryz.ntmps62
 go_upto_region 1 with fail
 rw [show ((w.alloc (.cells #[.int .i64 ta, .int .i64 tb, .int .i64 tx, .int .u64 td, .int .i64 te, .int .i64 tf, .int .i64 tg, .int .i64 th] 33)).alloc (.cells #[.int .i64 0, .int .i64 0, .int .i64 0, .int .u64 0, .int .i64 0, .int .i64 0, .int .i64 0, .int .i64 0] 33)) = w1 from HW.out.symm]
 go_wp2_with (go_at_call 63; (with_reducible refine HD.out.mono ?_); rintro e w3 ⟨rfl, hb3⟩; have HB3 := hid hb3; have hc3 := (hb3.block _ HZ1.out).trans HC1.out; have HC3 := hid hc3; obtain ⟨y0, y1, y2, y3, y4, y5, y6, y7⟩ := cap_cells hc3; have g0 := cap_froz hc3 0; have g1 := cap_froz hc3 1; have g2 := cap_froz hc3 2; have g3 := cap_froz hc3 3; have g4 := cap_froz hc3 4; have g5 := cap_froz hc3 5; have g6 := cap_froz hc3 6; have g7 := cap_froz hc3 7; have hz3 := (ags hc3).1; clear hb3 hc3)
 have HF := hid (lay8_same ⟨ca, cb, cx, cd, ce, cf, cg, ch⟩ HC3.out)
 have HFB := hid (lay8_below (k := w.heap.size + 1) ⟨ca, cb, cx, cd, ce, cf, cg, ch⟩ (HB1.out.trans (HB3.out.mono HB1.out.size)) (by omega))
 obtain ⟨w4, hw4⟩ : ∃ y, y = lay8 w3 (w.heap.size + 1) ⟨ca, cb, cx, cd, ce, cf, cg, ch⟩ := ⟨_, rfl⟩
 rw [← hw4] at HF HFB
 simp only [lay8] at hw4
 rw [← hw4]
 clear hw4
 obtain ⟨q0, q1, q2, q3, q4, q5, q6, q7⟩ := cap_cells HF.out
 simp only [] at q0 q1 q2 q3 q4 q5 q6 q7
 exact bodyPost_ret (v := .tuple #[.agg #[.int .i64 ca, .int .i64 cb, .int .i64 cx, .int .u64 cd, .int .i64 ce, .int .i64 cf, .int .i64 cg, .int .i64 ch], .int .i64 k]) (by simp [results, Tryz.results62, go_sem, q0, q1, q2, q3, q4, q5, q6, q7]) rfl ⟨rfl, HFB.out⟩
end HpS
end
section
namespace HpS
open TabS (Cp Sn zC mayC sizS getR getN FootP foot_ltP SameS AddRel addSR setN setM rowsS hasS dropSR dropSL heldA hdsC)
open TabP (Two Pr)
variable {W w w' : World} {s : Sh} {hb rhb n n' : Nat} {L M L' M' : List Sn} {l l2 l' l2' : List Nod} {S : Nat → Prop}
theorem pairC_zero {L : List Sn} {o i p j : Int} (h : pairN L o i p j = 0) : pairC L o i p j = gt L o i := by unfold pairC; rw [if_pos h]
theorem hderived_no (h : Hd W s hb rhb n L M l l2 S w) (o i p j : Int) (F : FuncId) (B : Array Value) (r : Cp × Int) (hF : ∀ v, Below w.heap.size w v → Calls Tryz.prog F (#[(gt L o i).V] ++ B) v fun e w' => e = .returned (.tuple #[r.1.V, .int .i64 r.2]) ∧ Below v.heap.size v w') (hno : pairN L o i p j ≠ 0) :
  Calls Tryz.prog 61 #[.pointer (some ⟨hb, 0, none⟩), slV o i, slV p j, .func (.func F) #[] B] w fun e w' => e = .returned (.int .i64 (pairN L o i p j)) ∧ Below w.heap.size w w' := by
 obtain ⟨hb1, hs1, ht1⟩ := duo_boxes w o i p j
 obtain ⟨w1, hw1⟩ : ∃ y, y = (w.alloc (slO o i)).alloc (slO p j) := ⟨_, rfl⟩
 rw [← hw1] at hb1 hs1 ht1
 have HB1 := hid hb1
 have HG := hid (hpair (h.call hb1) o i p j)
 generalize pairC L o i p j = t at *
 generalize pairN L o i p j = cn at *
 obtain ⟨ta, tb, tx, td, te, tf, tg, th⟩ := t
 obtain ⟨k0, k1⟩ := slot_cells hs1
 obtain ⟨r0, r1⟩ := slot_cells ht1
 have HW := hid hw1
 clear h hb1 hs1 ht1 hw1 hF
 go_enter Tryz.func61, Tryz.ntmps61
 go_upto_region 1 with fail
 rw [show ((w.alloc (slO o i)).alloc (slO p j)) = w1 from HW.out.symm]
 go_wp2_with (go_at_call 68; (with_reducible refine HG.out.mono ?_); rintro e w2 ⟨rfl, hb2⟩; have HB2 := hid hb2; clear hb2)
 go_ret
 exact ⟨rfl, bal (HB1.out.trans (HB2.out.mono HB1.out.size)) _⟩
theorem Hd.mono (h : Hd W s hb rhb n L M l l2 S w) (hn : n ≤ n') : Hd W s hb rhb n' L M l l2 S w := ⟨h.bo.mono hn, h.hd⟩
theorem Hd.same (h : Hd W s hb rhb n L M l l2 S w) (hB : Below w.heap.size w w') : SameK S w w' := fun k q => hB.block k (h.lt q)
def chB (L : List Sn) (o i p j : Int) (c : Cp) : Bool := decide (pairN L o i p j = 0) && someB c
theorem chB_on {L : List Sn} {o i p j : Int} {c : Cp} : chB L o i p j c = true ↔ childOn L o i p j c := by unfold chB childOn; simp
def chL (L : List Sn) (o i p j : Int) (c : Cp) : List Sn := if chB L o i p j c = true then setM L p j c else L
def chT (L : List Sn) (l : List Nod) (o i p j : Int) (c : Cp) : List Nod := if chB L o i p j c = true then (childA l o i p j).1 else l
theorem hchild (h : Hd W s hb rhb n L M l l2 S w) (hT0 : CX.TabG W) (o i p j : Int) (ho : InS o) (hi : InS i) (hp : InS p) (hj : InS j) (c : Cp) (he : c.e ≤ 9223372036854775807) (hnn : n < 1000000) :
  Calls Tryz.prog 35 #[.pointer (some ⟨hb, 0, none⟩), slV o i, slV p j, c.V] w fun e w' => e = .returned (.int .i64 (childN L l o i p j c)) ∧ Hd W s hb rhb (n + 1) (chL L o i p j c) M (chT L l o i p j c) l2 S w' ∧ SameK S w w' := by
 unfold chL chT
 cases hc : chB L o i p j c with
 | true =>
  have hon := chB_on.1 hc
  refine (hchild_yes h hT0 o i p j ho hi hp hj c he hnn hon).mono ?_
  rintro e w' ⟨he, h1, h2⟩
  refine ⟨?_, h1, h2⟩
  rw [he]
  unfold childN childF
  rw [hon.1, hon.2]
  rfl
 | false =>
  refine (hchild_no h hT0 o i p j c he (fun z => by rw [chB_on.2 z] at hc; cases hc)).mono ?_
  rintro e w' ⟨he, hB⟩
  exact ⟨he, (h.call hB).mono (Nat.le_succ n), h.same hB⟩
def derN (L : List Sn) (l : List Nod) (o i p j : Int) (r : Cp × Int) : Int := if pairN L o i p j ≠ 0 then pairN L o i p j else if r.2 ≠ 0 then r.2 else childN L l o i p j r.1
def derL (L : List Sn) (o i p j : Int) (r : Cp × Int) : List Sn := if pairN L o i p j = 0 ∧ r.2 = 0 then chL L o i p j r.1 else L
def derT (L : List Sn) (l : List Nod) (o i p j : Int) (r : Cp × Int) : List Nod := if pairN L o i p j = 0 ∧ r.2 = 0 then chT L l o i p j r.1 else l
theorem hcopyD (h : Hd W s hb rhb n L M l l2 S w) (hT0 : CX.TabG W) (o i p j : Int) (ho : InS o) (hi : InS i) (hp : InS p) (hj : InS j) (m : Int) (mB : Nat) (hx : (gt L o i).e ≤ 9223372036854775807) (hr : (cpy (gt L o i) m).1.e ≤ 9223372036854775807) (hm : w.cell? ⟨mB, 0, none⟩ = some (.int .i64 m)) (hz : mB < w.heap.size) (hnn : n < 1000000) :
  Calls Tryz.prog 61 #[.pointer (some ⟨hb, 0, none⟩), slV o i, slV p j, .func (.func 62) #[] #[.pointer (some ⟨mB, 0, none⟩)]] w fun e w' => e = .returned (.int .i64 (derN L l o i p j (cpy (gt L o i) m))) ∧ Hd W s hb rhb (n + 1) (derL L o i p j (cpy (gt L o i) m)) M (derT L l o i p j (cpy (gt L o i) m)) l2 S w' ∧ SameK S w w' := by
 have HCL : Hid (∀ v, Below w.heap.size w v → Calls Tryz.prog 62 (#[(gt L o i).V] ++ #[.pointer (some ⟨mB, 0, none⟩)]) v fun e w' => e = .returned (.tuple #[(cpy (gt L o i) m).1.V, .int .i64 (cpy (gt L o i) m).2]) ∧ Below v.heap.size v w') := hid (fun v hv => hcopy1 v (hT0.call (h.call hv).below) (gt L o i) m mB hx ((hv.cell (p := ⟨mB, 0, none⟩) hz).trans hm) (Nat.lt_of_lt_of_le hz hv.size))
 generalize (cpy (gt L o i) m) = r at *
 unfold derN derL derT
 by_cases hon : pairN L o i p j = 0
 ·obtain ⟨hb1, hs1, ht1⟩ := duo_boxes w o i p j
  obtain ⟨w1, hw1⟩ : ∃ y, y = (w.alloc (slO o i)).alloc (slO p j) := ⟨_, rfl⟩
  rw [← hw1] at hb1 hs1 ht1
  have HB1 := hid hb1
  have H1 := hid (h.call hb1)
  have HH := hid h
  have HS1 := hid hs1
  have HR1 := hid ht1
  have HG := hid (hpair H1.out o i p j)
  rw [pairC_zero hon, hon] at HG
  rw [if_neg (fun e => e hon)]
  have HCH := hid (fun (v : World) (hv : Hd W s hb rhb n L M l l2 S v) => hchild hv hT0 o i p j ho hi hp hj r.1 hr hnn)
  have HP := hid hon
  clear hon hr hT0 hnn hm hz ho hi hp hj hx
  obtain ⟨⟨ca, cb, cx, cd, ce, cf, cg, ch⟩, k⟩ := r
  obtain ⟨N, hN⟩ : ∃ y, y = childN L l o i p j ⟨ca, cb, cx, cd, ce, cf, cg, ch⟩ := ⟨_, rfl⟩
  obtain ⟨L2, hL2⟩ : ∃ y, y = chL L o i p j ⟨ca, cb, cx, cd, ce, cf, cg, ch⟩ := ⟨_, rfl⟩
  obtain ⟨l3, hl3⟩ : ∃ y, y = chT L l o i p j ⟨ca, cb, cx, cd, ce, cf, cg, ch⟩ := ⟨_, rfl⟩
  rw [← hN, ← hL2, ← hl3] at HCH
  simp only []
  rw [← hN, ← hL2, ← hl3]
  clear hN hL2 hl3
  obtain ⟨RN, hRN⟩ : ∃ y : Int, y = (if k ≠ 0 then k else N) := ⟨_, rfl⟩
  obtain ⟨RL, hRL⟩ : ∃ y : List Sn, y = (if pairN L o i p j = 0 ∧ k = 0 then L2 else L) := ⟨_, rfl⟩
  obtain ⟨RT, hRT⟩ : ∃ y : List Nod, y = (if pairN L o i p j = 0 ∧ k = 0 then l3 else l) := ⟨_, rfl⟩
  rw [← hRN, ← hRL, ← hRT]
  have HRN := hid hRN
  have HRL := hid hRL
  have HRT := hid hRT
  clear hRN hRL hRT
  generalize gt L o i = t at *
  obtain ⟨ta, tb, tx, td, te, tf, tg, th⟩ := t
  obtain ⟨k0, k1⟩ := slot_cells hs1
  obtain ⟨r0, r1⟩ := slot_cells ht1
  have HZ1 := hid (ags ht1).1
  have HZ0 := hid (ags hs1).1
  have HW := hid hw1
  clear h hb1 hs1 ht1 hw1
  go_enter Tryz.func61, Tryz.ntmps61
  go_upto_region 1 with fail
  rw [show ((w.alloc (slO o i)).alloc (slO p j)) = w1 from HW.out.symm]
  go_upto_region 4 with (go_at_call 68; (with_reducible refine HG.out.mono ?_); rintro e w2 ⟨rfl, hb2⟩; have HB2 := hid hb2; clear hb2)
  obtain ⟨w3, hw3⟩ : ∃ y, y = w2.alloc (.cells #[.int .i64 ta, .int .i64 tb, .int .i64 tx, .int .u64 td, .int .i64 te, .int .i64 tf, .int .i64 tg, .int .i64 th] 33) := ⟨_, rfl⟩
  have hb3 : Below w1.heap.size w1 w3 := hw3 ▸ bal HB2.out _
  have hx3 : w3.heap[w2.heap.size]? = some (.cells (⟨ta, tb, tx, td, te, tf, tg, th⟩ : Cp).L.toArray 33 (0, 0)) := by rw [hw3]; exact heap_alloc_new w2 _
  have HB13 := hid hb3
  have HB3 := hid (HB1.out.trans (hb3.mono HB1.out.size))
  have HC3 : Hid (Calls Tryz.prog 62 #[.agg #[.int .i64 ta, .int .i64 tb, .int .i64 tx, .int .u64 td, .int .i64 te, .int .i64 tf, .int .i64 tg, .int .i64 th], .pointer (some ⟨mB, 0, none⟩)] w3 fun e w' => e = .returned (.tuple #[.agg #[.int .i64 ca, .int .i64 cb, .int .i64 cx, .int .u64 cd, .int .i64 ce, .int .i64 cf, .int .i64 cg, .int .i64 ch], .int .i64 k]) ∧ Below w3.heap.size w3 w') := hid (HCL.out w3 HB3.out)
  have HS3 := hid ((hb3.block _ HZ0.out).trans HS1.out)
  have HR3 := hid ((hb3.block _ HZ1.out).trans HR1.out)
  rw [← hw3]
  generalize w2.heap.size = xB at *
  obtain ⟨x0, x1, x2, x3, x4, x5, x6, x7⟩ := cap_cells hx3
  simp only [] at x0 x1 x2 x3 x4 x5 x6 x7
  clear k0 k1 r0 r1 hw3 hb3 hx3 HG HS1 HR1 HB2
  go_upto_region 5 with (go_at_call 62; (with_reducible refine HC3.out.mono ?_); rintro e w4 ⟨rfl, hb4⟩; have HB4 := hid hb4; clear hb4)
  obtain ⟨w5, hw5⟩ : ∃ y, y = w4.alloc (.cells #[.int .i64 ca, .int .i64 cb, .int .i64 cx, .int .u64 cd, .int .i64 ce, .int .i64 cf, .int .i64 cg, .int .i64 ch] 33) := ⟨_, rfl⟩
  have hb5 : Below w3.heap.size w3 w5 := hw5 ▸ bal HB4.out _
  have hx5 : w5.heap[w4.heap.size]? = some (.cells (⟨ca, cb, cx, cd, ce, cf, cg, ch⟩ : Cp).L.toArray 33 (0, 0)) := by rw [hw5]; exact heap_alloc_new w4 _
  have HB5 := hid (HB3.out.trans (hb5.mono HB3.out.size))
  have hs5 := (hb5.block _ (ags HS3.out).1).trans HS3.out
  have ht5 := (hb5.block _ (ags HR3.out).1).trans HR3.out
  have HC5 := hid (HCH.out w5 (HH.out.call HB5.out))
  rw [← hw5]
  generalize w4.heap.size = yB at *
  clear x0 x1 x2 x3 x4 x5 x6 x7
  obtain ⟨x0, x1, x2, x3, x4, x5, x6, x7⟩ := cap_cells hx5
  simp only [] at x0 x1 x2 x3 x4 x5 x6 x7
  obtain ⟨k0, k1⟩ := slot_cells hs5
  obtain ⟨r0, r1⟩ := slot_cells ht5
  clear hw5 hb5 hx5 hs5 ht5 HS3 HR3 HCH HCL HC3 H1
  by_cases hk : k = 0
  ·subst hk
   obtain rfl : N = RN := Eq.symm (by rw [HRN.out, if_neg (fun e => e rfl)])
   obtain rfl : L2 = RL := Eq.symm (by rw [HRL.out, if_pos ⟨HP.out, rfl⟩])
   obtain rfl : l3 = RT := Eq.symm (by rw [HRT.out, if_pos ⟨HP.out, rfl⟩])
   go_wp2_with (go_at_call 35; (with_reducible refine HC5.out.mono ?_); rintro e w6 ⟨rfl, h6, hk6⟩; have H6 := hid h6; have HK6 := hid hk6; clear h6 hk6)
   go_ret
   exact ⟨rfl, H6.out, fun k q => (HK6.out k q).trans (HB5.out.block k (HH.out.lt q))⟩
  ·have HK := hid hk
   have hRN := HRN.out
   have hRL := HRL.out
   have hRT := HRT.out
   rw [if_pos hk] at hRN
   rw [if_neg (fun e => HK.out e.2)] at hRL hRT
   have hk' : (k == 0) = false := beq_eq_false_iff_ne.2 hk
   subst hRN hRL hRT
   go_wp2
   go_ret
   exact ⟨rfl, (HH.out.call HB5.out).mono (Nat.le_succ n), HH.out.same HB5.out⟩
 ·rw [if_pos hon, if_neg (fun e => hon e.1), if_neg (fun e => hon e.1)]
  refine (hderived_no h o i p j 62 #[.pointer (some ⟨mB, 0, none⟩)] r HCL.out hon).mono ?_
  rintro e w' ⟨he, hB⟩
  exact ⟨he, (h.call hB).mono (Nat.le_succ n), h.same hB⟩
theorem hcopy (h : Hd W s hb rhb n L M l l2 S w) (hT0 : CX.TabG W) (o i p j : Int) (ho : InS o) (hi : InS i) (hp : InS p) (hj : InS j) (m : Int) (hx : (gt L o i).e ≤ 9223372036854775807) (hr : (cpy (gt L o i) m).1.e ≤ 9223372036854775807)  (hnn : n < 1000000) :
  Calls Tryz.prog 16 #[.pointer (some ⟨hb, 0, none⟩), slV o i, slV p j, .int .i64 m] w fun e w' => e = .returned (.int .i64 (derN L l o i p j (cpy (gt L o i) m))) ∧ Hd W s hb rhb (n + 1) (derL L o i p j (cpy (gt L o i) m)) M (derT L l o i p j (cpy (gt L o i) m)) l2 S w' ∧ SameK S w w' := by
 obtain ⟨hb0, hs0, ht0⟩ := duo_boxes w o i p j
 obtain ⟨w1, hw1⟩ : ∃ y, y = ((w.alloc (slO o i)).alloc (slO p j)).alloc (.cells #[.int .i64 m] 3) := ⟨_, rfl⟩
 have hb1 : Below w.heap.size w w1 := hw1 ▸ bal (bal (bal (Below.refl _ _) _) _) _
 have hsz : w1.heap.size = w.heap.size + 3 := by rw [hw1]; simp
 have hs1 : w1.heap[w.heap.size]? = some (.cells #[.int .i64 o, .int .i64 i] 30 (0, 0)) := by
  rw [hw1]
  rw [Below.heap_alloc _ _ _ (by simp; try omega)]
  exact hs0
 have ht1 : w1.heap[w.heap.size + 1]? = some (.cells #[.int .i64 p, .int .i64 j] 30 (0, 0)) := by
  rw [hw1]
  rw [Below.heap_alloc _ _ _ (by simp; try omega)]
  exact ht0
 have hm0 : w1.cell? ⟨w.heap.size + 2, 0, none⟩ = some (.int .i64 m) := by
  rw [hw1]
  have := heap_alloc_new ((w.alloc (slO o i)).alloc (slO p j)) (.cells #[.int .i64 m] 3)
  simp only [World.size_alloc] at this
  exact cell_cur (cur := [.int .i64 m]) this 0
 have H1 := hid (h.call hb1)
 have HB1 := hid hb1
 have HH := hid h
 have HD := hid (hcopyD H1.out hT0 o i p j ho hi hp hj m (w.heap.size + 2) hx hr hm0 (by omega) hnn)
 generalize derN L l o i p j (cpy (gt L o i) m) = N at *
 generalize derL L o i p j (cpy (gt L o i) m) = L2 at *
 generalize derT L l o i p j (cpy (gt L o i) m) = l3 at *
 obtain ⟨k0, k1⟩ := slot_cells hs1
 obtain ⟨r0, r1⟩ := slot_cells ht1
 have HW := hid hw1
 clear h hb0 hs0 ht0 hb1 hs1 ht1 hw1 hT0 hx hr hnn ho hi hp hj hsz hm0
 go_enter Tryz.func16, Tryz.ntmps16
 go_upto_region 1 with fail
 rw [show (((w.alloc (slO o i)).alloc (slO p j)).alloc (.cells #[.int .i64 m] 3)) = w1 from HW.out.symm]
 go_wp2_with (go_at_call 61; (with_reducible refine HD.out.mono ?_); rintro e w6 ⟨rfl, h6, hk6⟩; have H6 := hid h6; have HK6 := hid hk6; clear h6 hk6)
 go_ret
 exact ⟨rfl, H6.out, fun k q => (HK6.out k q).trans (HB1.out.block k (HH.out.lt q))⟩
end HpS
end
section
attribute [local go_sem] Oper.semAt_some
namespace HpS
open TabS (Cp Sn zC mayC sizS getR getN FootP foot_ltP SameS AddRel addSR setN setM rowsS hasS dropSR dropSL heldA hdsC)
open TabP (Two Pr)
variable {W w w' : World} {s : Sh} {hb rhb n n' : Nat} {L M L' M' : List Sn} {l l2 l' l2' : List Nod} {S : Nat → Prop}
structure KpU (B0 N p q : Nat) (A B : World) : Prop where
 os : B.os = A.os
 tape : B.tape = A.tape
 output : B.output = A.output
 size : A.heap.size ≤ B.heap.size
 low : ∀ k, k < B0 → B.heap[k]? = A.heap[k]?
 bp : B.heap[p]? = A.heap[p]?
 bq : B.heap[q]? = A.heap[q]?
 up : ∀ k j v, N ≤ k → A.cell? ⟨k, j, none⟩ = some v → B.cell? ⟨k, j, none⟩ = some v
theorem KpU.refl {B0 N p q : Nat} (A : World) : KpU B0 N p q A A := ⟨rfl, rfl, rfl, Nat.le_refl _, fun _ _ => rfl, rfl, rfl, fun _ _ _ _ h => h⟩
theorem KpU.trans {B0 N p q : Nat} {A B C : World} (h : KpU B0 N p q A B) (k : KpU B0 N p q B C) : KpU B0 N p q A C :=
 ⟨k.os.trans h.os, k.tape.trans h.tape, k.output.trans h.output, Nat.le_trans h.size k.size, fun i hi => (k.low i hi).trans (h.low i hi), k.bp.trans h.bp, k.bq.trans h.bq, fun i j v hi hv => k.up i j v hi (h.up i j v hi hv)⟩
theorem KpU.of_below {B0 N p q : Nat} {A B : World} (h : Below A.heap.size A B) (h0 : B0 ≤ A.heap.size) (hp : p < A.heap.size) (hq : q < A.heap.size) : KpU B0 N p q A B :=
 ⟨h.os, h.tape, h.output, h.size, fun k hk => h.block k (by omega), h.block p hp, h.block q hq, fun k j v _ hv => (h.cell (p := ⟨k, j, none⟩) (World.block_lt_of_cell? A _ hv)).trans hv⟩
theorem KpU.below {B0 N p q : Nat} {U A B : World} (h : KpU B0 N p q A B) (hA : Below B0 U A) : Below B0 U B :=
 ⟨h.os.trans hA.os, h.tape.trans hA.tape, h.output.trans hA.output, Nat.le_trans hA.size h.size, fun k hk => (h.low k hk).trans (hA.block k hk)⟩
theorem held_cells {w : World} {k : Nat} {n i a b c d e f g h : Int} (hh : w.heap[k]? = some (.cells #[.int .i64 n, .int .i64 i, .int .i64 a, .int .i64 b, .int .i64 c, .int .u64 d, .int .i64 e, .int .i64 f, .int .i64 g, .int .i64 h] 46 (0, 0))) : w.cell? ⟨k, 0, none⟩ = some (.int .i64 n) ∧ w.cell? ⟨k, 1, none⟩ = some (.int .i64 i) ∧ True :=
 ⟨cell_cur (cur := [.int .i64 n, .int .i64 i, .int .i64 a, .int .i64 b, .int .i64 c, .int .u64 d, .int .i64 e, .int .i64 f, .int .i64 g, .int .i64 h]) hh 0, cell_cur (cur := [.int .i64 n, .int .i64 i, .int .i64 a, .int .i64 b, .int .i64 c, .int .u64 d, .int .i64 e, .int .i64 f, .int .i64 g, .int .i64 h]) hh 1, trivial⟩
theorem yield_two {A B : World → Prop} {e : Ending} {W' : World} (h : (e = .returned (.bool true) ∧ A W') ∨ (e = .returned (.bool false) ∧ B W')) : ∃ t, e = .returned (.bool t) ∧ (t = true → A W') ∧ (t = false → B W') := by
 rcases h with ⟨h1, h2⟩ | ⟨h1, h2⟩
 ·exact ⟨true, h1, fun _ => h2, fun e => by cases e⟩
 ·exact ⟨false, h1, fun e => (by cases e), fun _ => h2⟩
def hdC (H : List TabS.Hd) (k : Nat) : TabS.Hd := TabS.hdAt H k
def likeP (c : Cp) (H : List TabS.Hd) (k : Nat) : Bool := sameC (TabS.hdAt H k).c c
theorem alike1_seq (z p q : Nat) (c : Cp) (w0 : World) (h : Hd W s hb rhb n L M l l2 S w0) (hT0 : CX.TabG W) (hp : w0.heap[p]? = some (.cells #[.pointer (some ⟨hb, 0, none⟩)] 24 (0, 0))) (hq : w0.heap[q]? = some (.cells c.L.toArray 33 (0, 0))) (hce : c.e ≤ 9223372036854775807) (hHe : ∀ k, (TabS.hdAt (heldA L) k).c.e ≤ 9223372036854775807) (hl : L.length < 1000000) (hn : (heldA L).length < 1000000) :
  SeqStopsK Fence.wide (z + 1) Tryz.prog 105 #[.pointer (some ⟨p, 0, none⟩), .pointer (some ⟨q, 0, none⟩)] (fun x : Fin (heldA L).length => #[slV (TabS.hdAt (heldA L) x.1).n (TabS.hdAt (heldA L) x.1).i]) (KpU W.heap.size w0.heap.size p q) (fun xs => ∀ x, x ∈ xs ↔ likeP c (heldA L) x.1 = true) (fun pre => ∀ x ∈ pre, likeP c (heldA L) x.1 = true) (heldA L).length w0 := by
 intro y J Jx U hB hAb hAx hY h0
 have hU := h.call hB
 have hWU := hU.below
 have hpz : p < U.heap.size := Nat.lt_of_lt_of_le (ags hp).1 hB.size
 have hqz : q < U.heap.size := Nat.lt_of_lt_of_le (ags hq).1 hB.size
 have hpU := (hB.block p (ags hp).1).trans hp
 have HQU := hid ((hB.block q (ags hq).1).trans hq)
 have HUS := hid (hU.bo.used hl)
 have p0 := (cell_box hpU).1
 obtain ⟨u0, -, u2⟩ := hU.c
 have HY := hid hY
 have HAB := hid hAb
 have HWU := hid hWU
 have HT := hid hT0
 have HZ := hid (And.intro hpz hqz)
 have HE := hid (And.intro hce hHe)
 have HB := hid hB
 have HN := hid hn
 have H0 := hid h0
 clear hY hAb hAx h hT0 hp hq hU hWU hpz hqz hpU hce hHe hB hl hn h0
 generalize heldA L = H at *
 refine callsIn_of_wp Tryz.func105 rfl trivial ?_ rfl
 simp only [Tryz.ntmps105, List.size_toArray, List.length_cons, List.length_nil, Nat.reduceAdd, Nat.reduceSub, Array.replicate_succ, Array.replicate_zero, List.push_toArray, List.append_toArray, List.nil_append, List.cons_append]
 gi_wp2_with (refine ⟨trivial, ?_⟩; (gi_at_call 52; refine (callsIn_wide.2 HUS.out).mono ?_; rintro e w1 ⟨r, rfl, hr, hb1⟩; obtain ⟨ra, rc, rfl, hrc, hra⟩ := TabS.hs_of hr; have HB1 := hid hb1; have HRA := hid hra; clear hr hb1 hra))
 clear p0 u0 u2
 have hJ1 : J [] w1 := HAB.out _ U w1 none H0.out ⟨HB1.out.os, HB1.out.tape, HB1.out.output, HB1.out.size, fun j hj _ => HB1.out.block j hj⟩ (fun r e => by cases e)
 have HJ1 := hid hJ1
 clear hJ1
 gi_loopw [5, 12] (fun bx i wr => ∃ (k : Nat) (pre : List (Fin H.length)), k ≤ H.length ∧ i = .int .i64 k ∧ Hid (J pre wr ∧ KpU W.heap.size w0.heap.size p q w1 wr ∧ pre.length ≤ k ∧ ∀ x, x ∈ pre ↔ x.1 < k ∧ likeP c H x.1 = true)) (fun bx i _ => H.length - (intOf i).toNat)
 case atStart => exact ⟨0, [], by omega, rfl, hid ⟨HJ1.out, KpU.refl _, by simp, fun x => ⟨fun h => absurd h List.not_mem_nil, fun h => absurd h.1 (by omega)⟩⟩⟩
 case round =>
  obtain ⟨k, pre, hk, rfl, HP⟩ := hrel
  by_cases hlt : k < H.length
  ·have hltI : (k : Int) < H.length := by omega
   have hat : TabS.hdAt H k = H[k] := by unfold TabS.hdAt; rw [List.getElem?_eq_getElem hlt]; rfl
   obtain ⟨g, rfl, hg1, hg2, hg3⟩ := HRA.out k hlt
   have hrow := hg3 k _ (List.getElem?_eq_getElem hlt)
   have HS := hid (show likeP c H k = sameC (TabS.hdAt H k).c c from rfl)
   have hxe := HE.out.2 k
   obtain ⟨x, hx⟩ : ∃ x, x = TabS.hdAt H k := ⟨_, rfl⟩
   rw [← hat, ← hx] at hrow
   rw [← hx] at HS hxe
   have HX := hid hx
   clear hx hat
   obtain ⟨xn, xi, ⟨xa, xb, xx, xd, xe, xf, xg, xh⟩⟩ := x
   have hz : ∀ (j : Nat) (v : Value), (TabS.Hd.L ⟨xn, xi, ⟨xa, xb, xx, xd, xe, xf, xg, xh⟩⟩)[j]? = some v → wr.cell? ⟨g, k * 10 + j, none⟩ = some v := fun j v hv => HP.out.2.1.up g _ v (Nat.le_trans HB.out.size hg1) (hrow j v hv)
   have z0 := hz 0 _ rfl
   rw [Nat.add_zero] at z0
   have z1 := hz 1 _ rfl
   have z2 := hz 2 _ rfl
   have z3 := hz 3 _ rfl
   have z4 := hz 4 _ rfl
   have z5 := hz 5 _ rfl
   have z6 := hz 6 _ rfl
   have z7 := hz 7 _ rfl
   have z8 := hz 8 _ rfl
   have z9 := hz 9 _ rfl
   have lgr : g < wr.heap.size := World.block_lt_of_cell? wr _ z0
   have hqr := HP.out.2.1.bq.trans ((HB1.out.block q HZ.out.2).trans HQU.out)
   have lqr := (ags hqr).1
   have hsz : w1.heap.size ≤ wr.heap.size := HP.out.2.1.size
   have HSZ := hid (show U.heap.size ≤ wr.heap.size from Nat.le_trans HB1.out.size hsz)
   have HBW : Hid (Below W.heap.size W wr) := hid (HP.out.2.1.below (HWU.out.trans (HB1.out.mono HWU.out.size)))
   obtain ⟨w2, hw2⟩ : ∃ y, y = wr.alloc (.cells #[.int .i64 xn, .int .i64 xi, .int .i64 xa, .int .i64 xb, .int .i64 xx, .int .u64 xd, .int .i64 xe, .int .i64 xf, .int .i64 xg, .int .i64 xh] 46) := ⟨_, rfl⟩
   have hb2 : Below wr.heap.size wr w2 := hw2 ▸ bal (Below.refl _ _) _
   have hAL := halike w2 (HT.out.call (HBW.out.trans (hb2.mono HBW.out.size))) ⟨xa, xb, xx, xd, xe, xf, xg, xh⟩ c hxe HE.out.1
   have hx2 : w2.heap[wr.heap.size]? = some (.cells #[.int .i64 xn, .int .i64 xi, .int .i64 xa, .int .i64 xb, .int .i64 xx, .int .u64 xd, .int .i64 xe, .int .i64 xf, .int .i64 xg, .int .i64 xh] 46 (0, 0)) := by rw [hw2]; exact World.alloc_heap_new wr _
   have HX2 := hid hx2
   have HB2 := hid hb2
   have HW2 := hid hw2
   obtain ⟨sm, hsm⟩ : ∃ y, y = sameC (⟨xa, xb, xx, xd, xe, xf, xg, xh⟩ : Cp) c := ⟨_, rfl⟩
   rw [← hsm] at hAL HS
   have HSM := hid hsm
   clear hsm
   obtain ⟨y0, y1, y2, y3, y4, y5, y6, y7⟩ := cap_cells hqr
   obtain ⟨ca, cb, cx, cd, ce, cf, cg, ch⟩ := c
   simp only [] at y0 y1 y2 y3 y4 y5 y6 y7
   have HAL := hid hAL
   have HG := hid lgr
   clear hrow hz hAL hx2 hb2 hw2 hqr hxe hg1 hg2 hg3 lgr
   have HJW : Hid (∀ v, Below wr.heap.size wr v → J pre v) := hid (fun v hv => HAB.out _ wr v none HP.out.1 ⟨hv.os, hv.tape, hv.output, hv.size, fun j hj _ => hv.block j hj⟩ (fun r e => by cases e))
   have HKW : Hid (∀ v, Below wr.heap.size wr v → KpU W.heap.size w0.heap.size p q w1 v) := hid (fun v hv => HP.out.2.1.trans (KpU.of_below hv HBW.out.size (Nat.lt_of_lt_of_le HZ.out.1 HSZ.out) lqr))
   have hkb : k + 1 < 4000000 := by have := HN.out; omega
   cases sm
   ·gi_wp2_with (refine ⟨trivial, ?_⟩; (gi_at_call 22; rw [← HW2.out]; refine (callsIn_wide.2 HAL.out).mono ?_; rintro e w3 ⟨rfl, hb3⟩; have HB3 := hid (HB2.out.trans (hb3.mono HB2.out.size)); clear hb3))
    refine ⟨fun _ h => (by cases h), ?_⟩
    gi_wp2
    go_roundw
    case rel => exact ⟨k + 1, pre, by omega, by go_num, hid ⟨HJW.out w3 HB3.out, HKW.out w3 HB3.out, Nat.le_succ_of_le HP.out.2.2.1, fun x => ⟨fun h => ⟨Nat.lt_succ_of_lt ((HP.out.2.2.2 x).1 h).1, ((HP.out.2.2.2 x).1 h).2⟩, fun h => (HP.out.2.2.2 x).2 ⟨(by
     rcases Nat.lt_or_ge x.1 k with q1 | q1
     ·exact q1
     ·have q2 : x.1 = k := by have := h.1; omega
      have q3 := h.2
      rw [q2, HS.out] at q3
      cases q3), h.2⟩⟩⟩⟩
    case measure => first | (simp [intOf]; done) | (simp [intOf]; omega)
   ·gi_wp2_with fail
    refine ⟨trivial, ?_⟩
    gi_at_call 22
    rw [← HW2.out]
    refine (callsIn_wide.2 HAL.out).mono ?_
    rintro e w3 ⟨rfl, hb3⟩
    have HB3 := hid (HB2.out.trans (hb3.mono HB2.out.size))
    have hx3 := (hb3.block _ (ags HX2.out).1).trans HX2.out
    obtain ⟨e0, e1, -⟩ := held_cells hx3
    have HL := hid (show pre.length < H.length from Nat.lt_of_le_of_lt HP.out.2.2.1 hlt)
    obtain ⟨fn, tmps, assign, body, hy, hR⟩ := HY.out pre ⟨k, hlt⟩ w3 (HJW.out w3 HB3.out) HL.out
    rw [show TabS.hdAt H (⟨k, hlt⟩ : Fin H.length).1 = _ from HX.out.symm] at hy
    (try dsimp only at hy)
    have HR := hid (hR.mono (fun e W' h => yield_two (A := fun W' => J (pre ++ [⟨k, hlt⟩]) W' ∧ KpU W.heap.size w0.heap.size p q w3 W') (B := fun W' => Jx (pre ++ [⟨k, hlt⟩]) W') h))
    clear hb3 hx3 hR
    gi_wp2
    refine HR.out.mono ?_
    rintro e W' ⟨t, rfl, ht⟩
    have HTT := hid ht
    clear ht
    cases t
    ·gi_wp2
     first
      | refine bodyPost_ret (results_none rfl _ _ _) rfl ?_
      | go_end0
     exact ⟨⟨_, rfl⟩, .inr ⟨pre ++ [⟨k, hlt⟩], fun x hx => (by
      rcases List.mem_append.1 hx with q1 | q1
      ·exact ((HP.out.2.2.2 x).1 q1).2
      ·rw [List.mem_singleton] at q1
       rw [q1]
       exact HS.out), HTT.out.2 (by first | rfl | trivial)⟩⟩
    ·gi_wp2
     go_roundw
     case rel => exact ⟨k + 1, pre ++ [⟨k, hlt⟩], by omega, by go_num, hid ⟨(HTT.out.1 (by first | rfl | trivial)).1, (HKW.out w3 HB3.out).trans (HTT.out.1 (by first | rfl | trivial)).2, by have := HP.out.2.2.1; simp; omega, fun x => ⟨fun h => (by
      rcases List.mem_append.1 h with q1 | q1
      ·exact ⟨Nat.lt_succ_of_lt ((HP.out.2.2.2 x).1 q1).1, ((HP.out.2.2.2 x).1 q1).2⟩
      ·rw [List.mem_singleton] at q1
       rw [q1]
       exact ⟨Nat.lt_succ_self k, HS.out⟩), fun h => List.mem_append.2 (by
      rcases Nat.lt_or_ge x.1 k with q1 | q1
      ·exact .inl ((HP.out.2.2.2 x).2 ⟨q1, h.2⟩)
      ·have q2 : x.1 = k := by have := h.1; omega
       exact .inr (List.mem_singleton.2 (Fin.ext q2)))⟩⟩⟩
     case measure => first | (simp [intOf]; done) | (simp [intOf]; omega)
  ·obtain rfl : k = H.length := by omega
   gi_wp2
   go_end0
   exact ⟨⟨_, rfl⟩, .inl ⟨pre, fun x => ⟨fun h => ((HP.out.2.2.2 x).1 h).2, fun h => (HP.out.2.2.2 x).2 ⟨x.2, h⟩⟩, HP.out.1⟩⟩
end HpS
end
section
attribute [local go_sem] Oper.semAt_some
namespace HpS
open TabS (Cp Sn zC mayC sizS getR getN FootP foot_ltP SameS AddRel addSR setN setM rowsS hasS dropSR dropSL heldA hdsC)
open TabP (Two Pr)
variable {W w w' : World} {s : Sh} {hb rhb n n' : Nat} {L M L' M' : List Sn} {l l2 l' l2' : List Nod} {S : Nat → Prop}
theorem scope_wide {n : Nat} {P : Program} {c : Code} {Q : Exit → Act → World → Prop} {a : Act} {w : World} (h : c.wpIn Fence.wide n P (Exit.noGoto Q) a w) : (Code.scope c).wpIn Fence.wide n P Q a w :=
 wpIn_wide.2 (wp_scope_straight (wpIn_wide.1 h))
def aliW (w : World) (hb : Nat) (c : Cp) : World := (w.alloc (.cells #[.pointer (some ⟨hb, 0, none⟩)] 24)).alloc (.cells c.L.toArray 33)
theorem halikef (w : World) (hb : Nat) (c : Cp) :
  Calls Tryz.prog 70 #[.pointer (some ⟨hb, 0, none⟩), c.V] w fun e w' => e = .returned (.func (.func 105) #[] #[.pointer (some ⟨w.heap.size, 0, none⟩), .pointer (some ⟨w.heap.size + 1, 0, none⟩)]) ∧ w' = aliW w hb c := by
 obtain ⟨ca, cb, cx, cd, ce, cf, cg, ch⟩ := c
 go_enter Tryz.func70, Tryz.ntmps70
 go_wp2
 go_ret
 first | trivial | exact ⟨rfl, rfl⟩ | rfl
theorem aliW_boxes (w : World) (hb : Nat) (c : Cp) : Below w.heap.size w (aliW w hb c) ∧ (aliW w hb c).heap[w.heap.size]? = some (.cells #[.pointer (some ⟨hb, 0, none⟩)] 24 (0, 0)) ∧ (aliW w hb c).heap[w.heap.size + 1]? = some (.cells c.L.toArray 33 (0, 0)) ∧ (aliW w hb c).heap.size = w.heap.size + 2 := by
 unfold aliW
 refine ⟨bal (bal (Below.refl _ _) _) _, (Below.heap_alloc _ _ _ (by simp)).trans (heap_alloc_new w _), ?_, by simp⟩
 have := heap_alloc_new (w.alloc (.cells #[.pointer (some ⟨hb, 0, none⟩)] 24)) (.cells c.L.toArray 33)
 rwa [World.size_alloc] at this
def onlyB (H : List TabS.Hd) (o i : Int) (c : Cp) : Bool := (List.finRange H.length).all fun x => !likeP c H x.1 || decide ((TabS.hdAt H x.1).n = o ∧ ((TabS.hdAt H x.1).i : Int) = i)
def finB (L : List Sn) (o i : Int) : Bool := decide (fullN L o i = 0) && onlyB (heldA L) o i (gt L o i)
theorem hfinal_no (h : Hd W s hb rhb n L M l l2 S w) (o i : Int) (hno : fullN L o i ≠ 0) :
  Calls Tryz.prog 26 #[.pointer (some ⟨hb, 0, none⟩), slV o i] w fun e w' => e = .returned (.bool false) ∧ Below w.heap.size w w' := by
 have hb1 : Below w.heap.size w (w.alloc (slO o i)) := bal (Below.refl _ _) _
 obtain ⟨w1, hw1⟩ : ∃ y, y = w.alloc (slO o i) := ⟨_, rfl⟩
 have hs1 : w1.heap[w.heap.size]? = some (.cells #[.int .i64 o, .int .i64 i] 30 (0, 0)) := by rw [hw1]; exact heap_alloc_new w _
 rw [← hw1] at hb1
 have HB1 := hid hb1
 have HG := hid (hfull (h.call hb1) o i)
 generalize gt L o i = c at *
 generalize fullN L o i = cn at *
 have HW := hid hw1
 have hcn' : (cn != 0) = true := bne_iff_ne.2 hno
 obtain ⟨k0, k1⟩ := slot_cells hs1
 clear h hb1 hw1 hs1 hno
 obtain ⟨ca, cb, cx, cd, ce, cf, cg, ch⟩ := c
 go_enter Tryz.func26, Tryz.ntmps26
 go_wp2
 go_step3
 go_wp2_with (go_at_call 69; rw [← HW.out]; (with_reducible refine HG.out.mono ?_); rintro e w2 ⟨rfl, hb2⟩; have HB2 := hid hb2; clear hb2)
 (try rw [Exit.noGoto_ret])
 refine bodyPost_ret (v := .bool false) (by simp [results, Tryz.results26, go_sem]) rfl ?_
 exact ⟨rfl, bal (HB1.out.trans (HB2.out.mono HB1.out.size)) _⟩
structure OneT (b : Nat) (u v : World) : Prop where
 os : v.os = u.os
 tape : v.tape = u.tape
 output : v.output = u.output
 size : u.heap.size ≤ v.heap.size
 block : ∀ k, k < u.heap.size → k ≠ b → v.heap[k]? = u.heap[k]?
theorem OneT.refl (b : Nat) (w : World) : OneT b w w := ⟨rfl, rfl, rfl, Nat.le_refl _, fun _ _ _ => rfl⟩
theorem OneT.trans {b : Nat} {u v x : World} (h : OneT b u v) (k : OneT b v x) : OneT b u x := ⟨k.os.trans h.os, k.tape.trans h.tape, k.output.trans h.output, Nat.le_trans h.size k.size, fun i hi h1 => (k.block i (Nat.lt_of_lt_of_le hi h.size) h1).trans (h.block i hi h1)⟩
theorem OneT.of_below {b : Nat} {u v : World} (h : Below u.heap.size u v) : OneT b u v := ⟨h.os, h.tape, h.output, h.size, fun k hk _ => h.block k hk⟩
theorem OneT.set {b : Nat} {u v : World} (h : OneT b u v) (j : Nat) (x : Value) : OneT b u (v.setCell ⟨b, j, none⟩ x) :=
 ⟨h.os, h.tape, h.output, by simpa using h.size, fun k hk h1 => (Go.heap_setCell_other _ _ _ _ (by simpa using h1)).trans (h.block k hk h1)⟩
theorem OneT.grown {b : Nat} {u v x : World} {row : Option Nat} (h : OneT b u v) (hg : v.grownBy x row) (hr : ∀ r, row = some r → u.heap.size ≤ r) : OneT b u x :=
 ⟨hg.os.trans h.os, hg.tape.trans h.tape, hg.output.trans h.output, Nat.le_trans h.size hg.size, fun k hk h1 => (hg.block k (Nat.lt_of_lt_of_le hk h.size) (fun e => by have := hr k e.symm; omega)).trans (h.block k hk h1)⟩
theorem OneT.below {b D : Nat} {u v : World} (h : OneT b u v) (hD : D ≤ b) (hs : D ≤ u.heap.size) : Below D u v := ⟨h.os, h.tape, h.output, h.size, fun k hk => h.block k (by omega) (by omega)⟩
theorem OneT.keeps {b B : Nat} {u v : World} (h : OneT b u v) (hB : b < B) : KeepsFrom B u v := ⟨h.size, fun k o hk ho _ => (h.block k (ags ho).1 (by omega)).trans ho⟩
theorem OneT.kpu {b B0 N p q : Nat} {u v : World} (h : OneT b u v) (h0 : B0 ≤ b) (hN : b < N) (hB : B0 ≤ u.heap.size) (hp : p < u.heap.size) (hq : q < u.heap.size) (ep : p ≠ b) (eq : q ≠ b) : KpU B0 N p q u v :=
 ⟨h.os, h.tape, h.output, h.size, fun k hk => h.block k (by omega) (by omega), h.block p hp ep, h.block q hq eq, fun k j x hk hx => (World.cell?_of_block (a := ⟨k, j, none⟩) (h.block k (World.block_lt_of_cell? u _ hx) (by omega))).trans hx⟩
abbrev BoolAt (W : World) (b : Nat) (t : Bool) : Prop := W.heap[b]? = some (.cells #[.bool t] 4 (0, 0))
def oneS (H : List TabS.Hd) (o i : Int) (k : Nat) : Prop := (TabS.hdAt H k).n = o ∧ ((TabS.hdAt H k).i : Int) = i
structure FinI (wA : World) (b : Nat) (H : List TabS.Hd) (o i : Int) (pre : List (Fin H.length)) (W : World) : Prop where
 bx : BoolAt W b true
 all : ∀ x ∈ pre, oneS H o i x.1
 but : OneT b wA W
structure FinX (wA : World) (b : Nat) (H : List TabS.Hd) (o i : Int) (c : Code) (pre : List (Fin H.length)) (W : World) : Prop where
 c : c = .exit 0
 bx : BoolAt W b false
 no : ∃ x ∈ pre, ¬ oneS H o i x.1
 but : OneT b wA W
theorem grown_blk {A C : World} {row : Option Nat} {b B : Nat} (hg : A.grownBy C row) (hr : ∀ r, row = some r → B ≤ r ∧ ∃ o : Obj, A.heap[r]? = some o ∧ o.isCells = false) (hb : b < A.heap.size) (hB : b < B) : C.heap[b]? = A.heap[b]? :=
 hg.block b hb (fun e => by have := (hr b e.symm).1; omega)
theorem FinI.from {wA : World} {b : Nat} {H : List TabS.Hd} {o i : Int} (hb : b < wA.heap.size) : OwnFrom wA.heap.size (FinI wA b H o i) := by
 intro s A C row h hg hr
 exact ⟨(grown_blk hg hr (Nat.lt_of_lt_of_le hb h.but.size) hb).trans h.bx, h.all, h.but.grown hg (fun r e => (hr r e).1)⟩
theorem FinX.from {wA : World} {b : Nat} {H : List TabS.Hd} {o i : Int} (hb : b < wA.heap.size) (c : Code) : OwnFrom wA.heap.size (FinX wA b H o i c) := by
 intro s A C row h hg hr
 exact ⟨h.c, (grown_blk hg hr (Nat.lt_of_lt_of_le hb h.but.size) hb).trans h.bx, h.no, h.but.grown hg (fun r e => (hr r e).1)⟩
theorem put_ne {W : World} {l k : Nat} {o : Obj} (h : k ≠ l) : (W.putObj l o).heap[k]? = W.heap[k]? := by
 simp [World.putObj, Array.getElem?_setIfInBounds, h.symm]
theorem kpu_put {B0 N p q l : Nat} {W : World} {o o' : Obj} (hl : N ≤ l) (h0 : B0 ≤ l) (hp : p ≠ l) (hq : q ≠ l) (ho : W.heap[l]? = some o) (hc : o.isCells = false) : KpU B0 N p q W (W.putObj l o') := by
 refine ⟨rfl, rfl, rfl, by simp, fun k hk => put_ne (by omega), put_ne hp, put_ne hq, fun k j v hk hv => ?_⟩
 by_cases e : k = l
 ·subst e
  cases o <;> simp_all [World.cell?, Obj.isCells]
 ·exact (World.cell?_of_block (a := ⟨k, j, none⟩) (put_ne e)).trans hv
theorem bool_set {W : World} {b : Nat} {x : Bool} (y : Bool) (h : BoolAt W b x) : BoolAt (W.setCell ⟨b, 0, none⟩ (.bool y)) b y := by
 have := Go.heap_setCell_same W b 0 _ _ (.bool y) h
 exact this
theorem hfinal_in {W0 : World} (h : Hd W0 s hb rhb n L M l l2 S w) (hT0 : CX.TabG W0) (o i : Int) (hon : fullN L o i = 0) (hg : (gt L o i).e ≤ 9223372036854775807) (hHe : ∀ k, (TabS.hdAt (heldA L) k).c.e ≤ 9223372036854775807) (hl : L.length < 1000000) (hn : (heldA L).length < 1000000) :
  CallsIn Fence.wide 3 Tryz.prog 26 #[.pointer (some ⟨hb, 0, none⟩), slV o i] w fun e w' => e = .returned (.bool (onlyB (heldA L) o i (gt L o i))) ∧ Below w.heap.size w w' := by
 have hb1 : Below w.heap.size w (w.alloc (slO o i)) := bal (Below.refl _ _) _
 obtain ⟨w1, hw1⟩ : ∃ y, y = w.alloc (slO o i) := ⟨_, rfl⟩
 have hs1 : w1.heap[w.heap.size]? = some (.cells #[.int .i64 o, .int .i64 i] 30 (0, 0)) := by rw [hw1]; exact heap_alloc_new w _
 rw [← hw1] at hb1
 have H1 := hid (h.call hb1)
 have HB1 := hid hb1
 have HS1 := hid hs1
 have HG := hid (hfull H1.out o i)
 rw [hon] at HG
 have HSEQ := hid (fun (p q : Nat) (w0 : World) (h : Hd W0 s hb rhb n L M l l2 S w0) hp hq => alike1_seq (W := W0) 1 p q (gt L o i) w0 h hT0 hp hq hg hHe hl hn)
 obtain ⟨fb, hfb⟩ : ∃ y, y = onlyB (heldA L) o i (gt L o i) := ⟨_, rfl⟩
 rw [← hfb]
 generalize gt L o i = c at *
 generalize heldA L = H at *
 have HFB := hid hfb
 have HW := hid hw1
 have HWH := hid (show W0.heap.size ≤ w.heap.size from h.below.size)
 obtain ⟨k0, k1⟩ := slot_cells hs1
 clear h hb1 hw1 hs1 hT0 hg hHe hl hn hfb hon
 obtain ⟨ca, cb, cx, cd, ce, cf, cg, ch⟩ := c
 refine callsIn_of_wp_marks Tryz.func26 rfl trivial ?_ rfl
 simp only [Tryz.ntmps26, List.size_toArray, List.length_cons, List.length_nil, Nat.reduceAdd, Nat.reduceSub, Array.replicate_succ, Array.replicate_zero, List.push_toArray, List.append_toArray, List.nil_append, List.cons_append]
 gi_wp2
 refine scope_wide ?_
 gi_wp2_with fail
 refine ⟨trivial, ?_⟩
 gi_at_call 69
 rw [← HW.out]
 refine (callsIn_wide.2 HG.out).mono ?_
 rintro e w2 ⟨rfl, hb2⟩
 have HB2 := hid hb2
 clear hb2 k0 k1
 gi_wp2_with fail
 obtain ⟨w4, hw4⟩ : ∃ y, y = (w2.alloc (.cells #[.int .i64 ca, .int .i64 cb, .int .i64 cx, .int .u64 cd, .int .i64 ce, .int .i64 cf, .int .i64 cg, .int .i64 ch] 33)).alloc (.cells #[.bool true] 4) := ⟨_, rfl⟩
 have hb4 : Below w1.heap.size w1 w4 := hw4 ▸ bal (bal HB2.out _) _
 have hsz4 : w4.heap.size = w2.heap.size + 2 := by rw [hw4]; simp
 have hc4 : w4.heap[w2.heap.size]? = some (.cells (⟨ca, cb, cx, cd, ce, cf, cg, ch⟩ : Cp).L.toArray 33 (0, 0)) := by rw [hw4]; exact (Below.heap_alloc _ _ _ (by simp)).trans (heap_alloc_new w2 _)
 have hf4 : w4.heap[w2.heap.size + 1]? = some (.cells #[.bool true] 4 (0, 0)) := by
  have := heap_alloc_new (w2.alloc (.cells #[.int .i64 ca, .int .i64 cb, .int .i64 cx, .int .u64 cd, .int .i64 ce, .int .i64 cf, .int .i64 cg, .int .i64 ch] 33)) (.cells #[.bool true] 4)
  rw [World.size_alloc] at this
  rw [hw4]
  exact this
 have hs4 := (hb4.block _ (ags HS1.out).1).trans HS1.out
 rw [← hw4]
 have HB4 := hid (HB1.out.trans (hb4.mono HB1.out.size))
 have H4 := hid (H1.out.call hb4)
 have HC4 := hid hc4
 have HF4 := hid hf4
 have HS4 := hid hs4
 have HZ4 := hid (show w1.heap.size ≤ w2.heap.size from HB2.out.size)
 obtain ⟨x0, x1, x2, x3, x4, x5, x6, x7⟩ := cap_cells hc4
 simp only [] at x0 x1 x2 x3 x4 x5 x6 x7
 obtain ⟨N2, hN2⟩ : ∃ y, y = w2.heap.size := ⟨_, rfl⟩
 rw [← hN2] at hsz4 HC4 HF4 HZ4 x0 x1 x2 x3 x4 x5 x6 x7
 rw [← hN2]
 clear hw4 hb4 hc4 hf4 hs4 HB2 hN2
 refine wpIn_label ?_
 gi_wp2_with (refine ⟨trivial, ?_⟩; (gi_at_call 70; refine (callsIn_wide.2 (halikef w4 hb ⟨ca, cb, cx, cd, ce, cf, cg, ch⟩)).mono ?_; rintro e w5 ⟨rfl, rfl⟩))
 obtain ⟨bA, pA, qA, sA⟩ := aliW_boxes w4 hb ⟨ca, cb, cx, cd, ce, cf, cg, ch⟩
 obtain ⟨wA, hwA⟩ : ∃ y, y = aliW w4 hb ⟨ca, cb, cx, cd, ce, cf, cg, ch⟩ := ⟨_, rfl⟩
 rw [← hwA] at bA pA qA sA
 rw [← hwA]
 rw [hsz4] at pA qA sA
 have HA := hid (H4.out.call bA)
 have FA : BoolAt wA (N2 + 1) true := (bA.block _ (by omega)).trans HF4.out
 have SA : wA.heap[w.heap.size]? = some (.cells #[.int .i64 o, .int .i64 i] 30 (0, 0)) := (bA.block _ (ags HS4.out).1).trans HS4.out
 have HSA := hid SA
 have hzw : w.heap.size < N2 := by have := (ags HS1.out).1; have := HZ4.out; omega
 have HBA := hid (HB4.out.trans (bA.mono HB4.out.size))
 have hWN : W0.heap.size ≤ N2 := by have := HWH.out; omega
 have HSQ := hid (HSEQ.out (N2 + 2) (N2 + 2 + 1) wA HA.out pA qA)
 clear hwA x0 x1 x2 x3 x4 x5 x6 x7 bA pA qA SA HSEQ hsz4
 refine wpIn_rangeFunc_ownH (α := Fin H.length) rfl (by decide) (gf := 105) (lb := #[.pointer (some ⟨N2 + 2, 0, none⟩), .pointer (some ⟨N2 + 2 + 1, 0, none⟩)]) rfl trivial (enters_of Tryz.func105 (by kernel_rfl) rfl)
  (encs := fun x : Fin H.length => #[slV (TabS.hdAt H x.1).n (TabS.hdAt H x.1).i]) (Kp := KpU W0.heap.size wA.heap.size (N2 + 2) (N2 + 2 + 1)) (S := fun xs => ∀ x, x ∈ xs ↔ likeP ⟨ca, cb, cx, cd, ce, cf, cg, ch⟩ H x.1 = true) (Sp := fun pre => ∀ x ∈ pre, likeP ⟨ca, cb, cx, cd, ce, cf, cg, ch⟩ H x.1 = true) (N := H.length) (w0 := wA) HSQ.out
  (fun h k => h.trans k) ?hKb (Below.refl _ _) (fun _ => rfl) (FinI wA (N2 + 1) H o i) (FinX wA (N2 + 1) H o i) (FinI.from (by omega)) (fun c => FinX.from (by omega) c) ⟨FA, (fun _ h => absurd h List.not_mem_nil), OneT.refl _ _⟩
  (fun x a' W => ∃ d, a' = { tmps := #[.pointer (some ⟨hb, 0, none⟩), slV o i, undef, .pointer (some ⟨w.heap.size, 0, none⟩), .bool false, .pointer (some ⟨N2, 0, none⟩), .int .i64 0, .pointer (some ⟨N2 + 1, 0, none⟩), .pointer (some ⟨d, 0, none⟩), .tuple #[(⟨ca, cb, cx, cd, ce, cf, cg, ch⟩ : Cp).V, .int .i64 0], .pointer (some ⟨hb, 0, none⟩), .agg #[.int .i64 o, .int .i64 i], .tuple #[(⟨ca, cb, cx, cd, ce, cf, cg, ch⟩ : Cp).V, .int .i64 0], (⟨ca, cb, cx, cd, ce, cf, cg, ch⟩ : Cp).V, .int .i64 0, .int .i64 0, .bool false, .pointer (some ⟨hb, 0, none⟩), .agg #[.int .i64 ca, .int .i64 cb, .int .i64 cx, .int .u64 cd, .int .i64 ce, .int .i64 cf, .int .i64 cg, .int .i64 ch], .func (.func 105) #[] #[.pointer (some ⟨N2 + 2, 0, none⟩), .pointer (some ⟨N2 + 2 + 1, 0, none⟩)], slV (TabS.hdAt H x.1).n (TabS.hdAt H x.1).i, undef, undef, undef, undef], defers := [] } ∧ W.heap[d]? = some (.cells #[.int .i64 (TabS.hdAt H x.1).n, .int .i64 (TabS.hdAt H x.1).i] 30 (0, 0)) ∧ N2 + 4 ≤ d) ?hAx
  ?hassign ?hbody ?hdone ?hstop
 case hKb =>
  intro W l o o' hl ho hc _
  exact kpu_put (by omega) (by omega) (by omega) (by omega) ho hc
 case hAx =>
  rintro x a' _ A C row ⟨d, h1, h2, h3⟩ hg hr
  refine ⟨d, h1, (hg.block d (ags h2).1 (fun e => ?_)).trans h2, h3⟩
  obtain ⟨-, o, ho, hc⟩ := hr d e.symm
  rw [show A.heap[d]? = _ from h2] at ho
  cases ho
  cases hc
 case hassign =>
  intro l pre x W K hI hK
  gi_wp2
  have tw : OneT (N2 + 1) W (W.alloc (.cells #[.int .i64 (TabS.hdAt H x.1).n, .int .i64 (TabS.hdAt H x.1).i] 30)) := OneT.of_below (bal (Below.refl _ _) _)
  have hz := hI.but.size
  exact hK _ _ (tw.keeps (by omega)) (tw.kpu (by omega) (by omega) (by omega) (by omega) (by omega) (by omega) (by omega)) ⟨(Below.heap_alloc _ _ _ (by omega)).trans hI.bx, hI.all, hI.but.trans tw⟩ ⟨W.heap.size, rfl, World.alloc_heap_new _ _, by omega⟩
 case hbody =>
  rintro l pre x a' W hl hr hI ⟨d, rfl, hd, hd4⟩ hlen
  have hz := hI.but.size
  have hs := (hI.but.block w.heap.size (by omega) (by omega)).trans HSA.out
  obtain ⟨k0, k1⟩ := slot_cells hs
  obtain ⟨e0, e1⟩ := slot_cells hd
  have f0 : W.cell? ⟨N2 + 1, 0, none⟩ = some (.bool true) := cell_cur (cur := [.bool true]) hI.bx 0
  have g0 := cap_froz hI.bx 0
  have hdl : d < W.heap.size := (ags hd).1
  have hq := TabS.eqSl (TabS.hdAt H x.1).n (TabS.hdAt H x.1).i o i
  have HI := hid hI
  have HO : Hid (oneS H o i x.1 ↔ ((TabS.hdAt H x.1).n = o ∧ ((TabS.hdAt H x.1).i : Int) = i)) := hid Iff.rfl
  have hall : oneS H o i x.1 → ∀ y ∈ pre ++ [x], oneS H o i y.1 := fun h y hy => by
   rcases List.mem_append.1 hy with hy | hy
   ·exact HI.out.all y hy
   ·rw [List.mem_singleton] at hy
    rw [hy]; exact h
  have HALL := hid hall
  have HKP : Hid (∀ V, OneT (N2 + 1) W V → KeepsFrom wA.heap.size W V ∧ KpU W0.heap.size wA.heap.size (N2 + 2) (N2 + 2 + 1) W V) := hid (fun V h => ⟨h.keeps (by omega), h.kpu (by omega) (by omega) (by omega) (by omega) (by omega) (by omega) (by omega)⟩)
  clear hI hs hd hall
  generalize (TabS.hdAt H x.1).n = xn at *
  generalize ((TabS.hdAt H x.1).i : Int) = xi at *
  by_cases h1 : xn = o ∧ xi = i
  ·have hb : (xn == o && xi == i) = true := by simp [h1]
   have hon := HO.out.2 h1
   have HON := hid hon
   clear h1 hon
   gi_wp2
   exact ⟨(HKP.out _ (OneT.refl _ _)).1, (HKP.out _ (OneT.refl _ _)).2, HI.out.bx, HALL.out HON.out, HI.out.but⟩
  ·have hb : (xn == o && xi == i) = false := by
    rcases Decidable.not_and_iff_or_not.1 h1 with q | q
    ·simp [q]
    ·simp [q]
   have HON := hid (fun h => h1 (HO.out.1 h))
   clear h1
   gi_wp2
   have tw := (OneT.refl (N2 + 1) W).set 0 (.bool false)
   exact ⟨(HKP.out _ tw).1, rfl, bool_set false HI.out.bx, ⟨x, List.mem_append_right _ List.mem_cons_self, HON.out⟩, HI.out.but.trans tw⟩
 case hdone =>
  rintro D xs W hD hS hI hK
  have hz := hI.but.size
  have f0 : W.cell? ⟨N2 + 1, 0, none⟩ = some (.bool true) := cell_cur (cur := [.bool true]) hI.bx 0
  have hfb : fb = true := by
   rw [HFB.out]
   unfold onlyB
   rw [List.all_eq_true]
   intro x _
   cases hx : likeP ⟨ca, cb, cx, cd, ce, cf, cg, ch⟩ H x.1 with
   | false => rfl
   | true => simpa [oneS] using hI.all x ((hS x).2 hx)
  have HBW := hid (HBA.out.trans (hI.but.below (by omega) (by omega)))
  have HFT := hid hfb
  clear hI hS hfb
  gi_wp2
  rw [Exit.noGoto_ret]
  refine ⟨by simp, .inl ⟨_, _, rfl, run_takeDeferred hK, ?_⟩⟩
  exact ⟨_, results_tmp rfl _ _ _, (by rw [HFT.out]; rfl), ⟨HBW.out.os, HBW.out.tape, HBW.out.output, by simpa using HBW.out.size, fun k hk => (put_ne (by omega)).trans (HBW.out.block k hk)⟩⟩
 case hstop =>
  rintro D c pre W hD hSp hX hK
  have hz := hX.but.size
  have f0 : W.cell? ⟨N2 + 1, 0, none⟩ = some (.bool false) := cell_cur (cur := [.bool false]) hX.bx 0
  have hfb : fb = false := by
   rw [HFB.out]
   unfold onlyB
   rw [List.all_eq_false]
   obtain ⟨x, hx, hno⟩ := hX.no
   refine ⟨x, List.mem_finRange x, ?_⟩
   rw [hSp x hx]
   simpa [oneS] using hno
  have HBW := hid (HBA.out.trans (hX.but.below (by omega) (by omega)))
  have HFT := hid hfb
  obtain rfl := hX.c
  clear hX hSp hfb
  gi_wp2
  rw [Exit.noGoto_ret]
  refine ⟨by simp, .inl ⟨_, _, rfl, run_takeDeferred hK, ?_⟩⟩
  exact ⟨_, results_tmp rfl _ _ _, (by rw [HFT.out]; rfl), ⟨HBW.out.os, HBW.out.tape, HBW.out.output, by simpa using HBW.out.size, fun k hk => (put_ne (by omega)).trans (HBW.out.block k hk)⟩⟩
end HpS
end
section
namespace HpS
open TabS (Cp Sn zC mayC sizS getR getN FootP foot_ltP SameS AddRel addSR setN setM rowsS hasS dropSR dropSL heldA hdsC)
open TabP (Two Pr)
variable {W w w' : World} {s : Sh} {hb rhb n n' : Nat} {L M L' M' : List Sn} {l l2 l' l2' : List Nod} {S : Nat → Prop}
theorem hfinal (h : Hd W s hb rhb n L M l l2 S w) (hT0 : CX.TabG W) (o i : Int) (hg : (gt L o i).e ≤ 9223372036854775807) (hHe : ∀ k, (TabS.hdAt (heldA L) k).c.e ≤ 9223372036854775807) (hl : L.length < 1000000) (hn : (heldA L).length < 1000000) :
  Calls Tryz.prog 26 #[.pointer (some ⟨hb, 0, none⟩), slV o i] w fun e w' => e = .returned (.bool (finB L o i)) ∧ Below w.heap.size w w' := by
 unfold finB
 by_cases hon : fullN L o i = 0
 ·rw [decide_eq_true hon, Bool.true_and]
  exact callsIn_wide.1 (hfinal_in h hT0 o i hon hg hHe hl hn)
 ·rw [decide_eq_false hon, Bool.false_and]
  exact hfinal_no h o i hon
theorem hused (h : Hd W s hb rhb n L M l l2 S w) (hl : L.length < 1000000) :
  Calls Tryz.prog 13 #[.pointer (some ⟨hb, 0, none⟩)] w fun e w' => ∃ r, e = .returned r ∧ w'.ownsRow w.heap.size 46 10 r (heldA L).length (hdsC (heldA L)) ∧ Below w.heap.size w w' := by
 have HS := hid (hslots h)
 have HC := hid (h.bo.used hl)
 generalize heldA L = H at *
 clear h hl
 go_enter Tryz.func13, Tryz.ntmps13
 go_wp2_with (first
  | (go_at_call 51; (with_reducible refine HS.out.mono ?_); rintro e w2 ⟨rfl, rfl⟩)
  | (go_at_call 52; (with_reducible refine HC.out.mono ?_); rintro e w3 ⟨r, rfl, h1, h2⟩; have HR := hid h1; have HB := hid h2; clear h1 h2))
 go_ret
 exact ⟨_, rfl, HR.out, HB.out⟩
theorem hunder (h : Hd W s hb rhb n L M l l2 S w) (o i : Int) (ho : InS o) (hi : InS i) (hn : n < 1000000) :
  Calls Tryz.prog 21 #[.pointer (some ⟨hb, 0, none⟩), slV o i] w fun e w' => ∃ v, e = .returned v ∧ w'.ownsRow w.heap.size 30 2 v (belowA l o i).length (slsC (belowA l o i)) ∧ Below w.heap.size w w' := by
 have hb1 : Below w.heap.size w (w.alloc (slO o i)) := bal (Below.refl _ _) _
 obtain ⟨w1, hw1⟩ : ∃ y, y = w.alloc (slO o i) := ⟨_, rfl⟩
 have hs1 : w1.heap[w.heap.size]? = some (.cells #[.int .i64 o, .int .i64 i] 30 (0, 0)) := by rw [hw1]; exact heap_alloc_new w _
 rw [← hw1] at hb1
 have H1 := hid (h.call hb1)
 have HB1 := hid hb1
 have H1d := hid (H1.out.call (show Below w1.heap.size w1 w1.drew from (Below.refl _ _).drew))
 have HC := hid (H1d.out.bo.under o i ho hi hn)
 have HA : Hid (w1.cell? ⟨hb, 1, none⟩ = some (.pointer (some ⟨s.tb, 0, none⟩)) ∧ w1.cell? ⟨w.heap.size, 0, none⟩ = some (.int .i64 o) ∧ w1.cell? ⟨w.heap.size, 1, none⟩ = some (.int .i64 i)) := hid ⟨H1.out.c.2.1, (slot_cells hs1).1, (slot_cells hs1).2⟩
 have HD : Hid (w1.drew.cell? ⟨hb, 1, none⟩ = some (.pointer (some ⟨s.tb, 0, none⟩)) ∧ w1.drew.cell? ⟨w.heap.size, 0, none⟩ = some (.int .i64 o) ∧ w1.drew.cell? ⟨w.heap.size, 1, none⟩ = some (.int .i64 i)) := hid HA.out
 have HS1 := hid hs1
 have HW := hid hw1
 have hz := h.below.size
 clear h hb1 hs1 hw1 ho hi hn hz
 go_enter Tryz.func21, Tryz.ntmps21
 go_upto_region 3 with fail
 rw [show (w.alloc (slO o i)) = w1 from HW.out.symm]
 go_region_held3 (fun w' => w'.cell? ⟨hb, 1, none⟩ = some (.pointer (some ⟨s.tb, 0, none⟩)) ∧ w'.cell? ⟨w.heap.size, 0, none⟩ = some (.int .i64 o) ∧ w'.cell? ⟨w.heap.size, 1, none⟩ = some (.int .i64 i))
  (first | (with_reducible exact HA.out) | (with_reducible exact HD.out) | (with_reducible exact HF.out))
  (first | (go_at_call 67; (with_reducible refine HC.out.mono ?_); rintro e w3 ⟨v, rfl, h1, h2⟩; have HR := hid h1; have HB : Hid (Below w1.heap.size w1 w3) := hid ((show Below w1.heap.size w1 w1.drew from (Below.refl _ _).drew).trans h2); have hs3 := (HB.out.block _ (ags HS1.out).1).trans HS1.out; have HF : Hid (w3.cell? ⟨hb, 1, none⟩ = some (.pointer (some ⟨s.tb, 0, none⟩)) ∧ w3.cell? ⟨w.heap.size, 0, none⟩ = some (.int .i64 o) ∧ w3.cell? ⟨w.heap.size, 1, none⟩ = some (.int .i64 i)) := hid ⟨(H1.out.call HB.out).c.2.1, (slot_cells hs3).1, (slot_cells hs3).2⟩; clear h1 h2 hs3))
 all_goals
  go_wp2
  go_ret
  exact ⟨_, rfl, own_base HR.out (show w.heap.size ≤ w1.drew.heap.size from HB1.out.size), HB1.out.trans (HB.out.mono HB1.out.size)⟩
end HpS
end
section
namespace HpS
open TabS (Cp Sn zC mayC sizS getR getN FootP foot_ltP SameS AddRel addSR setN setM rowsS hasS dropSR dropSL heldA hdsC insS)
open TabP (Two Pr)
variable {W w w' : World} {s : Sh} {hb rhb n n' : Nat} {L M L' M' : List Sn} {l l2 l' l2' : List Nod} {S : Nat → Prop}
theorem tree_base {W : World} {B B' b m n : Nat} {ps : List Nat} {l : List Nod} {f : Int → Int → Option Nat} (h : TreeAt W B b m n ps l f) (hB : B' ≤ B) : TreeAt W B' b m n ps l f :=
 ⟨h.len, h.le, h.head, h.row, h.inj, Nat.le_trans hB h.gb, Nat.le_trans hB h.gm, fun k p hp => Nat.le_trans hB (h.gp k p hp), h.slots, h.ins, h.map, h.finds⟩
theorem hnew (W : World) : Calls Tryz.prog 28 #[] W fun e w' => ∃ hb s, e = .returned (.pointer (some ⟨hb, 0, none⟩)) ∧ Hd W s hb 0 0 [] [] [] [] (fun _ => False) w' := by
 go_enter Tryz.func28, Tryz.ntmps28
 go_wp2_with (first
  | (go_at_call 73; refine (TabS.snew_any' _).mono ?_; rintro e w1 ⟨rfl, ha1, hb1⟩; have HA := hid ha1; have HB := hid hb1; clear ha1 hb1)
  | (go_at_call 74; refine (new_st _).mono ?_; rintro e w2 ⟨rfl, hS⟩; have HS := hid hS; clear hS))
 go_ret
 have hs2 : Below w1.heap.size w1 w2 := HS.out.below
 obtain ⟨ps, f, hT, -⟩ := HS.out
 have hal : Below w2.heap.size w2 (w2.alloc (.cells #[.pointer (some ⟨W.heap.size, 0, none⟩), .pointer (some ⟨w1.heap.size + 1, 0, none⟩)] 93)) := bal (Below.refl _ _) _
 have hz := HA.out.lt
 have hBW := HB.out
 have hT3 := (tree_base hT hBW.size).call hal
 have hA3 := (HA.out.call hs2).call hal
 have hW3 : Below W.heap.size W (w2.alloc (.cells #[.pointer (some ⟨W.heap.size, 0, none⟩), .pointer (some ⟨w1.heap.size + 1, 0, none⟩)] 93)) := hBW.trans ((hs2.trans (hal.mono hs2.size)).mono hBW.size)
 have hps : ps = [] := List.length_eq_zero_iff.1 hT.len
 subst hps
 have hf : ∀ k, foot (w1.heap.size + 1) w1.heap.size [] k → w1.heap.size ≤ k ∧ k < w2.heap.size := fun k q => by
  refine ⟨?_, hT.lt q⟩
  rcases q with rfl | rfl | ⟨j, hj⟩
  ·omega
  ·omega
  ·simp at hj
 refine ⟨w2.heap.size, ⟨W.heap.size, 0, w1.heap.size + 1, w1.heap.size, 0⟩, rfl, ⟨⟨[], f, .slice none 0 0, hT3, ⟨_, _, hA3, Nat.le_refl _, hW3, fun k q => ?_⟩, fun k q p => ?_⟩, heap_alloc_new w2 _⟩⟩
 ·have hk : w1.heap.size ≤ k ∧ k < w2.heap.size + 1 := by
   rcases q with q | q | q
   ·have := hf k q; omega
   ·have := hs2.size; omega
   ·exact q.elim
  refine ⟨by simpa using hk.2, fun p => ?_⟩
  rcases p with p | p | ⟨x, hx, _⟩
  ·have e : k = W.heap.size := p
   omega
  ·cases p
  ·cases hx
 ·rcases q with q | q
  ·have := hf k p; omega
  ·exact q.elim
def cE : Cp := ⟨8, 3, 7, 0, 0, 0, 0, 0⟩
def cF : Cp := ⟨8, 3, 1, 0, 0, 0, 0, 0⟩
def A1 (g : Nat) : List Sn := [⟨7, g, [zC, zC, zC, zC]⟩]
def A2 (g : Nat) : List Sn := [⟨7, g, [cE, zC, zC, zC]⟩]
def A3 (g : Nat) : List Sn := [⟨7, g, [cE, cF, zC, zC]⟩]
theorem a_add {L' : List Sn} (h : AddRel [] 7 4 L') : ∃ g, L' = A1 g := by
 rcases h with ⟨_, g, rfl⟩ | ⟨h, _⟩
 ·exact ⟨g, rfl⟩
 ·exact (h (by decide +kernel)).elim
theorem may_E : mayC cE = true := by decide +kernel
theorem may_F : mayC cF = true := by decide +kernel
theorem cpy_E : cpy cE 1 = (cF, 0) := by kernel_rfl
theorem root_E (g : Nat) : rootOn (A1 g) 7 0 cE := ⟨rfl, by unfold someB; rw [may_E]; rfl, rfl⟩
theorem set_E (g : Nat) : setM (A1 g) 7 0 cE = A2 g := by
 have h : setN (A1 g) 7 0 cE = 0 := by
  have e : getR (A1 g) 7 0 = some zC := rfl
  unfold setN
  rw [e]
  simp [may_E]
 unfold setM
 rw [if_pos h]
 rfl
theorem set_F (g : Nat) : setM (A2 g) 7 1 cF = A3 g := by
 have h : setN (A2 g) 7 1 cF = 0 := by
  have e : getR (A2 g) 7 1 = some zC := rfl
  unfold setN
  rw [e]
  simp [may_F]
 unfold setM
 rw [if_pos h]
 rfl
theorem pair_E (g : Nat) : pairN (A2 g) 7 0 7 1 = 0 := rfl
theorem ch_E (g : Nat) : chB (A2 g) 7 0 7 1 cF = true := by
 unfold chB someB
 rw [pair_E, may_F]
 rfl
theorem der_N (g : Nat) : derN (A2 g) [⟨7, 0, 0⟩] 7 0 7 1 (cF, 0) = 0 := by
 unfold derN childN
 rw [pair_E]
 have : someB cF = true := by unfold someB; rw [may_F]; rfl
 rw [this]
 rfl
theorem der_L (g : Nat) : derL (A2 g) 7 0 7 1 (cF, 0) = A3 g := by
 unfold derL chL
 rw [pair_E, if_pos ⟨rfl, rfl⟩, ch_E, if_pos rfl, set_F]
theorem der_T (g : Nat) : derT (A2 g) [⟨7, 0, 0⟩] 7 0 7 1 (cF, 0) = [⟨7, 0, 0⟩, ⟨7, 1, 1⟩] := by
 unfold derT chT
 rw [pair_E, if_pos ⟨rfl, rfl⟩, ch_E, if_pos rfl]
 rfl
theorem same_EF : sameC cF cE = true := by decide +kernel
theorem fin_E (g : Nat) : finB (A3 g) 7 0 = false := by
 have h1 : gt (A3 g) 7 0 = cE := rfl
 have h2 : heldA (A3 g) = [⟨7, 0, cE⟩, ⟨7, 1, cF⟩] := rfl
 unfold finB
 rw [h1, h2]
 have : onlyB [⟨7, 0, cE⟩, ⟨7, 1, cF⟩] 7 0 cE = false := by
  unfold onlyB
  rw [List.all_eq_false]
  refine ⟨⟨1, by decide⟩, List.mem_finRange _, ?_⟩
  have e : likeP cE [⟨7, 0, cE⟩, ⟨7, 1, cF⟩] 1 = true := same_EF
  rw [e]
  decide
 rw [this, Bool.and_false]
theorem in7 : InS 7 ∧ InS 0 ∧ InS 1 := ⟨⟨by decide, by decide⟩, ⟨by decide, by decide⟩, ⟨by decide, by decide⟩⟩
end HpS
end
end Go.Proofs.YtchjfeafkmpmbaaGreatDoor
