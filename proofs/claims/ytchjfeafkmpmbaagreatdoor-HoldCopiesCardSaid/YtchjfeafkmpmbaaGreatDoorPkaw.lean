import Derived.Test.YtchjfeafkmpmbaaGreatDoorPkav
import Derived.Deep.RegionHeld3
namespace Go.Proofs.YtchjfeafkmpmbaaGreatDoor
set_option linter.unusedVariables false
set_option linter.unusedSimpArgs false
set_option maxRecDepth 100000
set_option maxHeartbeats 8000000
open Lib (hid)
section
open Go.ChangeShapes Go.WideShapes Go.ChangeAt Go.RowKit Go.Shelf
namespace HdS
open TabS (Cp Sn zC mayC sizS getR getN Two Pr FootP foot_ltP foot_ltR SameS AddRel addSR setN setM rowsS hasS dropSR dropSL heldA hdsC)
variable {W w w' : World} {s : Sh} {hb rhb n n' : Nat} {L M L' M' : List Sn} {l l2 l' l2' : List Nod} {S K T : Nat → Prop}
def New (w w' : World) (k : Nat) : Prop := w.heap.size ≤ k ∧ k < w'.heap.size
theorem Bo.fresh (h : BoS W s n L M l l2 K w) (hb : Below w.heap.size w w') : BoS W s n L M l l2 (fun k => K k ∨ New w w' k) w' := by
 obtain ⟨ps, f, u, h⟩ := h
 have hr : ∀ k, RK s.trb u k → k < w.heap.size := fun k q => h.ltK (.inr (.inl q))
 refine ⟨ps, f, u, h.tr.call hb, h.rf.call hb, h.lo, (h.pr.fresh hb).mono (fun k q => ?_), h.ap, fun k q => ?_⟩
 ·rcases q with q | q | q | q
  ·exact .inl (.inl q)
  ·exact .inl (.inr (.inl q))
  ·exact .inl (.inr (.inr q))
  ·exact .inr q
 ·rcases q with q | q
  ·exact h.bs k q
  ·exact ⟨fun p => by have := h.tr.lt p; have := q.1; omega, fun p => by have := hr k p; have := q.1; omega⟩
theorem Bo.weak (h : BoS W s n L M l l2 K w) (ht : ∀ k, T k → K k) : BoS W s n L M l l2 T w := by
 obtain ⟨ps, f, u, h⟩ := h
 refine ⟨ps, f, u, h.tr, h.rf, h.lo, h.pr.mono (fun k q => ?_), h.ap, fun k q => h.bs k (ht k q)⟩
 rcases q with q | q | q
 ·exact .inl q
 ·exact .inr (.inl q)
 ·exact .inr (.inr (ht k q))
theorem Hd.fresh (h : Hd W s hb rhb n L M l l2 S w) (hB : Below w.heap.size w w') : Hd W s hb rhb n L M l l2 (fun k => S k ∨ New w w' k) w' := by
 have h1 := h.bo.fresh hB
 have h2 := h.call hB
 refine ⟨h1.weak (fun k q => ?_), h2.hd, h2.rh⟩
 rcases q with q | q | q | q
 ·exact .inl (.inl q)
 ·exact .inl (.inr (.inl q))
 ·exact .inl (.inr (.inr q))
 ·exact .inr q
theorem Hd.weak (h : Hd W s hb rhb n L M l l2 S w) (ht : ∀ k, T k → S k) : Hd W s hb rhb n L M l l2 T w :=
 ⟨h.bo.weak (fun k q => q.imp id (fun q => q.imp id (ht k))), h.hd, h.rh⟩
theorem Hd.lt (h : Hd W s hb rhb n L M l l2 S w) {k : Nat} (hk : S k) : k < w.heap.size := by
 obtain ⟨ps, f, u, hb⟩ := h.bo
 exact hb.ltK (.inr (.inr (.inr (.inr hk))))
theorem Hd.act {F : FuncId} {args : Array Value} {r : Value} (h : Hd W s hb rhb n L M l l2 S w) (hc : ∀ K, BoS W s n L M l l2 K w → Calls Tryz.prog F args w fun e w' => e = .returned r ∧ BoS W s n' L' M' l' l2' K w' ∧ SameK K w w') :
  Calls Tryz.prog F args w fun e w' => e = .returned r ∧ Hd W s hb rhb n' L' M' l' l2' S w' ∧ SameK S w w' :=
 (hc _ h.bo).mono fun e w' ⟨he, hB, hK⟩ => ⟨he, h.lift hB hK, fun k q => hK k (.inr (.inr q))⟩
structure Bx2 (w : World) (hb : Nat) (s : Sh) (o i : Int) (c : Cp) (sB cB : Nat) : Prop where
 h0 : w.cell? ⟨hb, 0, none⟩ = some (.pointer (some ⟨s.sb, 0, none⟩))
 h1 : w.cell? ⟨hb, 1, none⟩ = some (.pointer (some ⟨s.tb, 0, none⟩))
 k0 : w.cell? ⟨sB, 0, none⟩ = some (.int .i64 o)
 k1 : w.cell? ⟨sB, 1, none⟩ = some (.int .i64 i)
 x0 : w.cell? ⟨cB, 0, none⟩ = some (.int .i64 c.a)
 x1 : w.cell? ⟨cB, 1, none⟩ = some (.int .i64 c.b)
 x2 : w.cell? ⟨cB, 2, none⟩ = some (.int .i64 c.c)
 x3 : w.cell? ⟨cB, 3, none⟩ = some (.int .u64 c.d)
 x4 : w.cell? ⟨cB, 4, none⟩ = some (.int .i64 c.e)
 x5 : w.cell? ⟨cB, 5, none⟩ = some (.int .i64 c.f)
 x6 : w.cell? ⟨cB, 6, none⟩ = some (.int .i64 c.g)
 x7 : w.cell? ⟨cB, 7, none⟩ = some (.int .i64 c.h)
theorem Bx2.of {o i : Int} {c : Cp} {sB cB : Nat} (h : Hd W s hb rhb n L M l l2 S w) (hs : w.heap[sB]? = some (.cells #[.int .i64 o, .int .i64 i] 30 (0, 0))) (hc : w.heap[cB]? = some (.cells c.L.toArray 33 (0, 0))) : Bx2 w hb s o i c sB cB :=
 ⟨h.c.1, h.c.2.1, (slot_cells hs).1, (slot_cells hs).2, (cap_cells hc).1, (cap_cells hc).2.1, (cap_cells hc).2.2.1, (cap_cells hc).2.2.2.1, (cap_cells hc).2.2.2.2.1, (cap_cells hc).2.2.2.2.2.1, (cap_cells hc).2.2.2.2.2.2.1, (cap_cells hc).2.2.2.2.2.2.2⟩
end HdS
end
section
open Go.ChangeShapes Go.WideShapes Go.ChangeAt Go.RowKit Go.Shelf
namespace HdS
open TabS (Cp Sn zC mayC sizS getR getN Two Pr FootP foot_ltP foot_ltR SameS AddRel addSR setN setM rowsS hasS dropSR dropSL heldA hdsC)
variable {W w w' : World} {s : Sh} {hb rhb n n' : Nat} {L M L' M' : List Sn} {l l2 l' l2' : List Nod} {S : Nat → Prop}
abbrev Bx2A (w : World) (hb : Nat) (s : Sh) (o i : Int) (c : Cp) (sB cB : Nat) : Prop := w.cell? ⟨hb, 0, none⟩ = some (.pointer (some ⟨s.sb, 0, none⟩)) ∧ w.cell? ⟨sB, 0, none⟩ = some (.int .i64 o) ∧ w.cell? ⟨sB, 1, none⟩ = some (.int .i64 i) ∧ w.cell? ⟨cB, 0, none⟩ = some (.int .i64 c.a) ∧ w.cell? ⟨cB, 1, none⟩ = some (.int .i64 c.b) ∧ w.cell? ⟨cB, 2, none⟩ = some (.int .i64 c.c) ∧ w.cell? ⟨cB, 3, none⟩ = some (.int .u64 c.d) ∧ w.cell? ⟨cB, 4, none⟩ = some (.int .i64 c.e) ∧ w.cell? ⟨cB, 5, none⟩ = some (.int .i64 c.f) ∧ w.cell? ⟨cB, 6, none⟩ = some (.int .i64 c.g) ∧ w.cell? ⟨cB, 7, none⟩ = some (.int .i64 c.h)
theorem Bx2.a {o i : Int} {c : Cp} {sB cB : Nat} (h : Bx2 w hb s o i c sB cB) : Bx2A w hb s o i c sB cB := ⟨h.h0, h.k0, h.k1, h.x0, h.x1, h.x2, h.x3, h.x4, h.x5, h.x6, h.x7⟩
theorem hroot_yes (h : Hd W s hb rhb n L M l l2 S w) (hT0 : CX.TabG W) (o i : Int) (ho : InS o) (hi : InS i) (c : Cp) (he : c.e ≤ 9223372036854775807) (hnn : n < 1000000) (hon : rootOn L o i c) :
  Calls Tryz.prog 30 #[.pointer (some ⟨hb, 0, none⟩), slV o i, c.V] w fun e w' => e = .returned (.int .i64 (rootA l o i).2) ∧ Hd W s hb rhb (n + 1) (setM L o i c) M (rootA l o i).1 l2 S w' ∧ SameK S w w' := by
 obtain ⟨hb1, hs1, hc1⟩ := slot_cap_boxes w o i c
 obtain ⟨w1, hw1⟩ : ∃ y, y = (w.alloc (slO o i)).alloc (.cells c.L.toArray 33) := ⟨_, rfl⟩
 rw [← hw1] at hb1 hs1 hc1
 have H1 := hid (h.call hb1)
 have HB1 := hid hb1
 have HC1 := hid hc1
 have HG := hid (hget H1.out o i)
 have HT1 := hid (fun (v : World) (hv : Below w1.heap.size w1 v) => hsome v (hT0.call (H1.out.call hv).below) c he)
 have hsb : someB c = (mayC c && decide (c.a ≠ 0)) := rfl
 rw [← hsb] at HT1
 have HH := hid h
 have HTW := hid hT0
 have HE := hid he
 have HO := hid (And.intro ho hi)
 unfold rootOn at hon
 obtain ⟨L2, hL2⟩ : ∃ y, y = setM L o i c := ⟨_, rfl⟩
 obtain ⟨RA, hRA⟩ : ∃ y, y = rootA l o i := ⟨_, rfl⟩
 rw [← hL2, ← hRA]
 have HST : Hid (∀ v T, Hd W s hb rhb n L M l l2 T v → Calls Tryz.prog 71 #[.pointer (some ⟨s.sb, 0, none⟩), slV o i, c.V] v fun e w' => e = .returned (.int .i64 (setN L o i c)) ∧ Hd W s hb rhb n L2 M l l2 T w' ∧ SameK T v w') := hid (fun v T hv => by rw [hL2]; exact hv.act (fun K hK => hK.set hT0 o i c he))
 have HRT : Hid (∀ v T, Hd W s hb rhb n L2 M l l2 T v → Calls Tryz.prog 77 #[.pointer (some ⟨s.tb, 0, none⟩), slV o i] v fun e w' => e = .returned (.int .i64 RA.2) ∧ Hd W s hb rhb (n + 1) L2 M RA.1 l2 T w' ∧ SameK T v w') := hid (fun v T hv => by rw [hRA]; exact hv.act (fun K hK => hK.root o i ho hi hnn))
 clear hL2 hRA
 generalize setN L o i c = sn at *
 generalize gt L o i = t at *
 generalize gn L o i = cn at *
 generalize someB c = sm at *
 obtain ⟨ta, tb, tx, td, te, tf, tg, th⟩ := t
 obtain ⟨ca, cb, cx, cd, ce, cf, cg, ch⟩ := c
 simp only [] at hon
 obtain ⟨rfl, rfl, rfl⟩ := hon
 obtain ⟨k0, k1⟩ := slot_cells hs1
 have HZ1 := hid (ags hc1).1
 have HW := hid hw1
 have HS1 := hid hs1
 clear h hb1 hs1 hc1 hw1 hsb hT0 he ho hi hnn
 go_enter Tryz.func30, Tryz.ntmps30
 go_upto_region 1 with fail
 rw [show ((w.alloc (slO o i)).alloc (.cells #[.int .i64 ca, .int .i64 cb, .int .i64 cx, .int .u64 cd, .int .i64 ce, .int .i64 cf, .int .i64 cg, .int .i64 ch] 33)) = w1 from HW.out.symm]
 go_upto_region 2 with (go_at_call 20; (with_reducible refine HG.out.mono ?_); rintro e w2 ⟨rfl, hb2⟩; have HB2 := hid hb2; clear hb2)
 obtain ⟨w3, hw3⟩ : ∃ y, y = w2.alloc (.cells #[.int .i64 0, .int .i64 tb, .int .i64 tx, .int .u64 td, .int .i64 te, .int .i64 tf, .int .i64 tg, .int .i64 th] 33) := ⟨_, rfl⟩
 have hb3 : Below w1.heap.size w1 w3 := hw3 ▸ bal HB2.out _
 have hx3 : w3.heap[w2.heap.size]? = some (.cells (⟨0, tb, tx, td, te, tf, tg, th⟩ : Cp).L.toArray 33 (0, 0)) := by rw [hw3]; exact heap_alloc_new w2 _
 have HX3 := hid hx3
 have HB3w := hid hb3
 have HC3 := hid ((hb3.block _ HZ1.out).trans HC1.out)
 have HB3 := hid (HB1.out.trans (hb3.mono HB1.out.size))
 rw [← hw3]
 generalize w2.heap.size = xB at *
 have HZ0 : Hid (w.heap.size < w1.heap.size) := hid (by have := HZ1.out; omega)
 have HS3 := hid ((hb3.block _ HZ0.out).trans HS1.out)
 clear hw3 hb3 hx3 k0 k1 HG H1 HB1 HC1 HB2 HS1
 obtain ⟨x0, x1, x2, x3, x4, x5, x6, x7⟩ := cap_cells HC3.out
 simp only [] at x0 x1 x2 x3 x4 x5 x6 x7
 have HSM := hid (HT1.out w3 HB3w.out)
 go_upto_region 8 with (go_at_call 76; (with_reducible refine HSM.out.mono ?_); rintro e w4 ⟨rfl, hb4⟩; have HB4 := hid hb4; have hx4 := (hb4.block xB (ags HX3.out).1).trans HX3.out; obtain ⟨t0, -⟩ := cap_cells hx4; simp only [] at t0; clear hb4 hx4)
 have HC4 := hid ((HB4.out.block _ (ags HC3.out).1).trans HC3.out)
 have HS4 := hid ((HB4.out.block _ (ags HS3.out).1).trans HS3.out)
 have HW4 := hid (HB3.out.trans (HB4.out.mono HB3.out.size))
 have HE4 := hid (HH.out.fresh HW4.out)
 have HE4d := hid (HE4.out.call (show Below w4.heap.size w4 w4.drew from (Below.refl _ _).drew))
 have HBX4 := hid (Bx2.of HE4.out HS4.out HC4.out).a
 have HNS : Hid (New w w4 w.heap.size ∧ New w w4 (w.heap.size + 1)) := hid ⟨⟨Nat.le_refl _, (ags HS4.out).1⟩, ⟨by omega, (ags HC4.out).1⟩⟩
 have HSC := hid (HST.out _ _ HE4d.out)
 have HBd : Hid (Bx2A w4.drew hb s o i ⟨ca, cb, cx, cd, ce, cf, cg, ch⟩ w.heap.size (w.heap.size + 1)) := hid HBX4.out
 clear x0 x1 x2 x3 x4 x5 x6 x7 t0 HT1 HSM HX3 HB3w HB3 HC3 HS3 HB4 HST
 go_region_held3 (fun w' => w'.cell? ⟨hb, 0, none⟩ = some (.pointer (some ⟨s.sb, 0, none⟩)) ∧ w'.cell? ⟨w.heap.size, 0, none⟩ = some (.int .i64 o) ∧ w'.cell? ⟨w.heap.size, 1, none⟩ = some (.int .i64 i) ∧ w'.cell? ⟨w.heap.size + 1, 0, none⟩ = some (.int .i64 ca) ∧ w'.cell? ⟨w.heap.size + 1, 1, none⟩ = some (.int .i64 cb) ∧ w'.cell? ⟨w.heap.size + 1, 2, none⟩ = some (.int .i64 cx) ∧ w'.cell? ⟨w.heap.size + 1, 3, none⟩ = some (.int .u64 cd) ∧ w'.cell? ⟨w.heap.size + 1, 4, none⟩ = some (.int .i64 ce) ∧ w'.cell? ⟨w.heap.size + 1, 5, none⟩ = some (.int .i64 cf) ∧ w'.cell? ⟨w.heap.size + 1, 6, none⟩ = some (.int .i64 cg) ∧ w'.cell? ⟨w.heap.size + 1, 7, none⟩ = some (.int .i64 ch))
  (first | (with_reducible exact HBX4.out) | (with_reducible exact HBd.out) | (with_reducible exact HB5.out))
  (first | (go_at_call 71; (with_reducible refine HSC.out.mono ?_); rintro e w5 ⟨rfl, h5, hk5⟩; have H5 := hid h5; have HK5 := hid hk5; have hs5 := (hk5 _ (.inr HNS.out.1)).trans HS4.out; have hc5 := (hk5 _ (.inr HNS.out.2)).trans HC4.out; have HS5 := hid hs5; have HB5 := hid (Bx2.of h5 hs5 hc5).a; have HT5 := hid (Bx2.of h5 hs5 hc5); clear h5 hk5 hs5 hc5))
 have HBX5 : Hid (w5.cell? ⟨hb, 1, none⟩ = some (.pointer (some ⟨s.tb, 0, none⟩)) ∧ w5.cell? ⟨w.heap.size, 0, none⟩ = some (.int .i64 o) ∧ w5.cell? ⟨w.heap.size, 1, none⟩ = some (.int .i64 i)) := hid ⟨HT5.out.h1, HT5.out.k0, HT5.out.k1⟩
 have HBX5d : Hid (w5.drew.cell? ⟨hb, 1, none⟩ = some (.pointer (some ⟨s.tb, 0, none⟩)) ∧ w5.drew.cell? ⟨w.heap.size, 0, none⟩ = some (.int .i64 o) ∧ w5.drew.cell? ⟨w.heap.size, 1, none⟩ = some (.int .i64 i)) := hid HBX5.out
 have H5d := hid (H5.out.call (show Below w5.heap.size w5 w5.drew from (Below.refl _ _).drew))
 have HRC := hid (HRT.out _ _ H5d.out)
 have HS0 : Hid (∀ k, S k → w5.heap[k]? = w.heap[k]?) := hid (fun k q => (HK5.out k (.inl q)).trans (HW4.out.block k (HH.out.lt q)))
 clear HB5 HT5 HSC HRT HBX4 HBd HC4 HS4 HE4 HE4d
 go_upto_region 9 with fail
 go_region_held3 (fun w' => w'.cell? ⟨hb, 1, none⟩ = some (.pointer (some ⟨s.tb, 0, none⟩)) ∧ w'.cell? ⟨w.heap.size, 0, none⟩ = some (.int .i64 o) ∧ w'.cell? ⟨w.heap.size, 1, none⟩ = some (.int .i64 i))
  (first | (with_reducible exact HBX5.out) | (with_reducible exact HBX5d.out) | (with_reducible exact HB6.out))
  (first | (go_at_call 77; (with_reducible refine HRC.out.mono ?_); rintro e w6 ⟨rfl, h6, hk6⟩; have H6 := hid h6; have HK6 := hid hk6; have hs6 := (hk6 _ (.inr HNS.out.1)).trans HS5.out; have HB6 := hid (And.intro h6.c.2.1 (slot_cells hs6)); clear h6 hk6 hs6))
 all_goals
  go_wp2
  go_ret
  exact ⟨rfl, H6.out.weak (fun k q => .inl q), fun k q => (HK6.out k (.inl q)).trans (HS0.out k q)⟩
def childF (q : Int) (sm : Bool) (r : Int) : Int := if q = 1 ∨ q = 3 then q else if sm = false then 5 else if q ≠ 0 then q else r
def childN (L : List Sn) (l : List Nod) (o i p j : Int) (c : Cp) : Int := childF (pairN L o i p j) (someB c) (childA l o i p j).2
def childOn (L : List Sn) (o i p j : Int) (c : Cp) : Prop := pairN L o i p j = 0 ∧ someB c = true
abbrev triW (w : World) (o i p j : Int) (c : Cp) : World := ((w.alloc (slO o i)).alloc (slO p j)).alloc (.cells c.L.toArray 33)
theorem tri_boxes (w : World) (o i p j : Int) (c : Cp) : Below w.heap.size w (triW w o i p j c) ∧ (triW w o i p j c).heap[w.heap.size]? = some (.cells #[.int .i64 o, .int .i64 i] 30 (0, 0)) ∧ (triW w o i p j c).heap[w.heap.size + 1]? = some (.cells #[.int .i64 p, .int .i64 j] 30 (0, 0)) ∧ (triW w o i p j c).heap[w.heap.size + 2]? = some (.cells c.L.toArray 33 (0, 0)) := by
 have h1 := heap_alloc_new (w.alloc (slO o i)) (slO p j)
 have h2 := heap_alloc_new ((w.alloc (slO o i)).alloc (slO p j)) (.cells c.L.toArray 33)
 rw [World.size_alloc] at h1 h2
 rw [World.size_alloc] at h2
 exact ⟨bal (bal (bal (Below.refl _ _) _) _) _, (Below.heap_alloc _ _ _ (by simp; omega)).trans ((Below.heap_alloc _ _ _ (by simp)).trans (heap_alloc_new w _)), (Below.heap_alloc _ _ _ (by simp)).trans h1, h2⟩
theorem hchild_no (h : Hd W s hb rhb n L M l l2 S w) (hT0 : CX.TabG W) (o i p j : Int) (c : Cp) (he : c.e ≤ 9223372036854775807) (hno : ¬ childOn L o i p j c) :
  Calls Tryz.prog 35 #[.pointer (some ⟨hb, 0, none⟩), slV o i, slV p j, c.V] w fun e w' => e = .returned (.int .i64 (childN L l o i p j c)) ∧ Below w.heap.size w w' := by
 obtain ⟨hb1, hs1, ht1, hc1⟩ := tri_boxes w o i p j c
 obtain ⟨w1, hw1⟩ : ∃ y, y = triW w o i p j c := ⟨_, rfl⟩
 rw [← hw1] at hb1 hs1 ht1 hc1
 have H1 := hid (h.call hb1)
 have HB1 := hid hb1
 have HC1 := hid hc1
 have HS1 := hid hs1
 have HR1 := hid ht1
 have HG := hid (hpair H1.out o i p j)
 have HT1 := hid (fun (v : World) (hv : Below w1.heap.size w1 v) => hsome v (hT0.call (H1.out.call hv).below) c he)
 have hsb : someB c = (mayC c && decide (c.a ≠ 0)) := rfl
 rw [← hsb] at HT1
 obtain ⟨N, hN⟩ : ∃ y, y = childN L l o i p j c := ⟨_, rfl⟩
 rw [← hN]
 unfold childN childF at hN
 unfold childOn at hno
 generalize pairC L o i p j = t at *
 generalize pairN L o i p j = cn at *
 generalize someB c = sm at *
 obtain ⟨ta, tb, tx, td, te, tf, tg, th⟩ := t
 obtain ⟨ca, cb, cx, cd, ce, cf, cg, ch⟩ := c
 have HN := hid hN
 clear hN
 obtain ⟨k0, k1⟩ := slot_cells hs1
 obtain ⟨r0, r1⟩ := slot_cells ht1
 have HZ1 := hid (ags hc1).1
 have HW := hid hw1
 clear h hb1 hs1 ht1 hc1 hw1 hsb hT0 he
 go_enter Tryz.func35, Tryz.ntmps35
 go_upto_region 1 with fail
 rw [show (((w.alloc (slO o i)).alloc (slO p j)).alloc (.cells #[.int .i64 ca, .int .i64 cb, .int .i64 cx, .int .u64 cd, .int .i64 ce, .int .i64 cf, .int .i64 cg, .int .i64 ch] 33)) = w1 from HW.out.symm]
 go_upto_region 2 with (go_at_call 68; (with_reducible refine HG.out.mono ?_); rintro e w2 ⟨rfl, hb2⟩; have HB2 := hid hb2; clear hb2)
 obtain ⟨w3, hw3⟩ : ∃ y, y = w2.alloc (.cells #[.int .i64 ta, .int .i64 tb, .int .i64 tx, .int .u64 td, .int .i64 te, .int .i64 tf, .int .i64 tg, .int .i64 th] 33) := ⟨_, rfl⟩
 have hb3 : Below w1.heap.size w1 w3 := hw3 ▸ bal HB2.out _
 have HB3w := hid hb3
 have HZ0 : Hid (w.heap.size < w1.heap.size ∧ w.heap.size + 1 < w1.heap.size) := hid (by have := HZ1.out; omega)
 have HC3 := hid ((hb3.block _ HZ1.out).trans HC1.out)
 have HS3 := hid ((hb3.block _ HZ0.out.1).trans HS1.out)
 have HR3 := hid ((hb3.block _ HZ0.out.2).trans HR1.out)
 have HB3 := hid (HB1.out.trans (hb3.mono HB1.out.size))
 rw [← hw3]
 generalize w2.heap.size = xB at *
 clear hw3 hb3 k0 k1 r0 r1 HG H1 HB1 HC1 HB2 HS1 HR1
 obtain ⟨x0, x1, x2, x3, x4, x5, x6, x7⟩ := cap_cells HC3.out
 simp only [] at x0 x1 x2 x3 x4 x5 x6 x7
 have HSM := hid (HT1.out w3 HB3w.out)
 by_cases q1 : cn = 1
 ·subst q1
  obtain rfl : N = 1 := by rw [HN.out]; rfl
  go_wp2
  go_ret
  exact ⟨rfl, HB3.out⟩
 ·by_cases q3 : cn = 3
  ·subst q3
   obtain rfl : N = 3 := by rw [HN.out]; rfl
   go_wp2
   go_ret
   exact ⟨rfl, HB3.out⟩
  ·have q4 : ¬ (cn = 1 ∨ cn = 3) := fun e => e.elim q1 q3
   have q5 : (cn == 1) = false := beq_eq_false_iff_ne.2 q1
   have q6 : (cn == 3) = false := beq_eq_false_iff_ne.2 q3
   cases sm with
   | false =>
    obtain rfl : N = 5 := by rw [HN.out, if_neg q4]; rfl
    go_wp2_with (go_at_call 76; (with_reducible refine HSM.out.mono ?_); rintro e w4 ⟨rfl, hb4⟩; have HB4 := hid (HB3.out.trans (hb4.mono HB3.out.size)); clear hb4)
    go_ret
    exact ⟨rfl, HB4.out⟩
   | true =>
    have q0 : cn ≠ 0 := fun e => hno ⟨e, rfl⟩
    obtain rfl : cn = N := by rw [HN.out, if_neg q4, if_neg (by decide), if_pos q0]
    go_wp2_with (go_at_call 76; (with_reducible refine HSM.out.mono ?_); rintro e w4 ⟨rfl, hb4⟩; have HB4 := hid (HB3.out.trans (hb4.mono HB3.out.size)); clear hb4)
    go_ret
    exact ⟨rfl, HB4.out⟩
theorem hchild_yes (h : Hd W s hb rhb n L M l l2 S w) (hT0 : CX.TabG W) (o i p j : Int) (ho : InS o) (hi : InS i) (hp : InS p) (hj : InS j) (c : Cp) (he : c.e ≤ 9223372036854775807) (hnn : n < 1000000) (hon : childOn L o i p j c) :
  Calls Tryz.prog 35 #[.pointer (some ⟨hb, 0, none⟩), slV o i, slV p j, c.V] w fun e w' => e = .returned (.int .i64 (childA l o i p j).2) ∧ Hd W s hb rhb (n + 1) (setM L p j c) M (childA l o i p j).1 l2 S w' ∧ SameK S w w' := by
 obtain ⟨hb1, hs1, ht1, hc1⟩ := tri_boxes w o i p j c
 obtain ⟨w1, hw1⟩ : ∃ y, y = triW w o i p j c := ⟨_, rfl⟩
 rw [← hw1] at hb1 hs1 ht1 hc1
 have H1 := hid (h.call hb1)
 have HB1 := hid hb1
 have HC1 := hid hc1
 have HS1 := hid hs1
 have HR1 := hid ht1
 have HG := hid (hpair H1.out o i p j)
 have HT1 := hid (fun (v : World) (hv : Below w1.heap.size w1 v) => hsome v (hT0.call (H1.out.call hv).below) c he)
 have hsb : someB c = (mayC c && decide (c.a ≠ 0)) := rfl
 rw [← hsb] at HT1
 have HH := hid h
 unfold childOn at hon
 obtain ⟨L2, hL2⟩ : ∃ y, y = setM L p j c := ⟨_, rfl⟩
 obtain ⟨RA, hRA⟩ : ∃ y, y = childA l o i p j := ⟨_, rfl⟩
 rw [← hL2, ← hRA]
 have HST : Hid (∀ v T, Hd W s hb rhb n L M l l2 T v → Calls Tryz.prog 71 #[.pointer (some ⟨s.sb, 0, none⟩), slV p j, c.V] v fun e w' => e = .returned (.int .i64 (setN L p j c)) ∧ Hd W s hb rhb n L2 M l l2 T w' ∧ SameK T v w') := hid (fun v T hv => by rw [hL2]; exact hv.act (fun K hK => hK.set hT0 p j c he))
 have HRT : Hid (∀ v T, Hd W s hb rhb n L2 M l l2 T v → Calls Tryz.prog 84 #[.pointer (some ⟨s.tb, 0, none⟩), slV o i, slV p j] v fun e w' => e = .returned (.int .i64 RA.2) ∧ Hd W s hb rhb (n + 1) L2 M RA.1 l2 T w' ∧ SameK T v w') := hid (fun v T hv => by rw [hRA]; exact hv.act (fun K hK => hK.child o i p j ho hi hp hj hnn))
 clear hL2 hRA
 generalize setN L p j c = sn at *
 generalize pairC L o i p j = t at *
 generalize pairN L o i p j = cn at *
 generalize someB c = sm at *
 obtain ⟨ta, tb, tx, td, te, tf, tg, th⟩ := t
 obtain ⟨ca, cb, cx, cd, ce, cf, cg, ch⟩ := c
 obtain ⟨rfl, rfl⟩ := hon
 obtain ⟨k0, k1⟩ := slot_cells hs1
 obtain ⟨r0, r1⟩ := slot_cells ht1
 have HZ1 := hid (ags hc1).1
 have HW := hid hw1
 clear h hb1 hs1 ht1 hc1 hw1 hsb hT0 he ho hi hp hj hnn
 go_enter Tryz.func35, Tryz.ntmps35
 go_upto_region 1 with fail
 rw [show (((w.alloc (slO o i)).alloc (slO p j)).alloc (.cells #[.int .i64 ca, .int .i64 cb, .int .i64 cx, .int .u64 cd, .int .i64 ce, .int .i64 cf, .int .i64 cg, .int .i64 ch] 33)) = w1 from HW.out.symm]
 go_upto_region 2 with (go_at_call 68; (with_reducible refine HG.out.mono ?_); rintro e w2 ⟨rfl, hb2⟩; have HB2 := hid hb2; clear hb2)
 obtain ⟨w3, hw3⟩ : ∃ y, y = w2.alloc (.cells #[.int .i64 ta, .int .i64 tb, .int .i64 tx, .int .u64 td, .int .i64 te, .int .i64 tf, .int .i64 tg, .int .i64 th] 33) := ⟨_, rfl⟩
 have hb3 : Below w1.heap.size w1 w3 := hw3 ▸ bal HB2.out _
 have HB3w := hid hb3
 have HZ0 : Hid (w.heap.size < w1.heap.size ∧ w.heap.size + 1 < w1.heap.size) := hid (by have := HZ1.out; omega)
 have HC3 := hid ((hb3.block _ HZ1.out).trans HC1.out)
 have HS3 := hid ((hb3.block _ HZ0.out.1).trans HS1.out)
 have HR3 := hid ((hb3.block _ HZ0.out.2).trans HR1.out)
 have HB3 := hid (HB1.out.trans (hb3.mono HB1.out.size))
 rw [← hw3]
 generalize w2.heap.size = xB at *
 clear hw3 hb3 k0 k1 r0 r1 HG H1 HB1 HC1 HB2 HS1 HR1
 obtain ⟨x0, x1, x2, x3, x4, x5, x6, x7⟩ := cap_cells HC3.out
 simp only [] at x0 x1 x2 x3 x4 x5 x6 x7
 have HSM := hid (HT1.out w3 HB3w.out)
 go_upto_region 8 with (go_at_call 76; (with_reducible refine HSM.out.mono ?_); rintro e w4 ⟨rfl, hb4⟩; have HB4 := hid hb4; clear hb4)
 have HC4 := hid ((HB4.out.block _ (ags HC3.out).1).trans HC3.out)
 have HS4 := hid ((HB4.out.block _ (ags HS3.out).1).trans HS3.out)
 have HR4 := hid ((HB4.out.block _ (ags HR3.out).1).trans HR3.out)
 have HW4 := hid (HB3.out.trans (HB4.out.mono HB3.out.size))
 have HE4 := hid (HH.out.fresh HW4.out)
 have HE4d := hid (HE4.out.call (show Below w4.heap.size w4 w4.drew from (Below.refl _ _).drew))
 have HBX4 := hid (Bx2.of HE4.out HR4.out HC4.out).a
 have HNS : Hid (New w w4 w.heap.size ∧ New w w4 (w.heap.size + 1) ∧ New w w4 (w.heap.size + 2)) := hid ⟨⟨Nat.le_refl _, (ags HS4.out).1⟩, ⟨by omega, (ags HR4.out).1⟩, ⟨by omega, (ags HC4.out).1⟩⟩
 have HSC := hid (HST.out _ _ HE4d.out)
 have HBd : Hid (Bx2A w4.drew hb s p j ⟨ca, cb, cx, cd, ce, cf, cg, ch⟩ (w.heap.size + 1) (w.heap.size + 2)) := hid HBX4.out
 clear x0 x1 x2 x3 x4 x5 x6 x7 HT1 HSM HB3w HB3 HC3 HS3 HR3 HB4 HST
 go_region_held3 (fun w' => w'.cell? ⟨hb, 0, none⟩ = some (.pointer (some ⟨s.sb, 0, none⟩)) ∧ w'.cell? ⟨w.heap.size + 1, 0, none⟩ = some (.int .i64 p) ∧ w'.cell? ⟨w.heap.size + 1, 1, none⟩ = some (.int .i64 j) ∧ w'.cell? ⟨w.heap.size + 2, 0, none⟩ = some (.int .i64 ca) ∧ w'.cell? ⟨w.heap.size + 2, 1, none⟩ = some (.int .i64 cb) ∧ w'.cell? ⟨w.heap.size + 2, 2, none⟩ = some (.int .i64 cx) ∧ w'.cell? ⟨w.heap.size + 2, 3, none⟩ = some (.int .u64 cd) ∧ w'.cell? ⟨w.heap.size + 2, 4, none⟩ = some (.int .i64 ce) ∧ w'.cell? ⟨w.heap.size + 2, 5, none⟩ = some (.int .i64 cf) ∧ w'.cell? ⟨w.heap.size + 2, 6, none⟩ = some (.int .i64 cg) ∧ w'.cell? ⟨w.heap.size + 2, 7, none⟩ = some (.int .i64 ch))
  (first | (with_reducible exact HBX4.out) | (with_reducible exact HBd.out) | (with_reducible exact HB5.out))
  (first | (go_at_call 71; (with_reducible refine HSC.out.mono ?_); rintro e w5 ⟨rfl, h5, hk5⟩; have H5 := hid h5; have HK5 := hid hk5; have hs5 := (hk5 _ (.inr HNS.out.1)).trans HS4.out; have hr5 := (hk5 _ (.inr HNS.out.2.1)).trans HR4.out; have hc5 := (hk5 _ (.inr HNS.out.2.2)).trans HC4.out; have HS5 := hid hs5; have HR5 := hid hr5; have HB5 := hid (Bx2.of h5 hr5 hc5).a; clear h5 hk5 hs5 hr5 hc5))
 have HBX5 : Hid (w5.cell? ⟨hb, 1, none⟩ = some (.pointer (some ⟨s.tb, 0, none⟩)) ∧ w5.cell? ⟨w.heap.size, 0, none⟩ = some (.int .i64 o) ∧ w5.cell? ⟨w.heap.size, 1, none⟩ = some (.int .i64 i) ∧ w5.cell? ⟨w.heap.size + 1, 0, none⟩ = some (.int .i64 p) ∧ w5.cell? ⟨w.heap.size + 1, 1, none⟩ = some (.int .i64 j)) := hid ⟨H5.out.c.2.1, (slot_cells HS5.out).1, (slot_cells HS5.out).2, (slot_cells HR5.out).1, (slot_cells HR5.out).2⟩
 have HBX5d : Hid (w5.drew.cell? ⟨hb, 1, none⟩ = some (.pointer (some ⟨s.tb, 0, none⟩)) ∧ w5.drew.cell? ⟨w.heap.size, 0, none⟩ = some (.int .i64 o) ∧ w5.drew.cell? ⟨w.heap.size, 1, none⟩ = some (.int .i64 i) ∧ w5.drew.cell? ⟨w.heap.size + 1, 0, none⟩ = some (.int .i64 p) ∧ w5.drew.cell? ⟨w.heap.size + 1, 1, none⟩ = some (.int .i64 j)) := hid HBX5.out
 have H5d := hid (H5.out.call (show Below w5.heap.size w5 w5.drew from (Below.refl _ _).drew))
 have HRC := hid (HRT.out _ _ H5d.out)
 have HS0 : Hid (∀ k, S k → w5.heap[k]? = w.heap[k]?) := hid (fun k q => (HK5.out k (.inl q)).trans (HW4.out.block k (HH.out.lt q)))
 clear HB5 HSC HRT HBX4 HBd HC4 HS4 HR4 HE4 HE4d
 go_upto_region 9 with fail
 go_region_held3 (fun w' => w'.cell? ⟨hb, 1, none⟩ = some (.pointer (some ⟨s.tb, 0, none⟩)) ∧ w'.cell? ⟨w.heap.size, 0, none⟩ = some (.int .i64 o) ∧ w'.cell? ⟨w.heap.size, 1, none⟩ = some (.int .i64 i) ∧ w'.cell? ⟨w.heap.size + 1, 0, none⟩ = some (.int .i64 p) ∧ w'.cell? ⟨w.heap.size + 1, 1, none⟩ = some (.int .i64 j))
  (first | (with_reducible exact HBX5.out) | (with_reducible exact HBX5d.out) | (with_reducible exact HB6.out))
  (first | (go_at_call 84; (with_reducible refine HRC.out.mono ?_); rintro e w6 ⟨rfl, h6, hk6⟩; have H6 := hid h6; have HK6 := hid hk6; have hs6 := (hk6 _ (.inr HNS.out.1)).trans HS5.out; have hr6 := (hk6 _ (.inr HNS.out.2.1)).trans HR5.out; have HB6 : Hid (w6.cell? ⟨hb, 1, none⟩ = some (.pointer (some ⟨s.tb, 0, none⟩)) ∧ w6.cell? ⟨w.heap.size, 0, none⟩ = some (.int .i64 o) ∧ w6.cell? ⟨w.heap.size, 1, none⟩ = some (.int .i64 i) ∧ w6.cell? ⟨w.heap.size + 1, 0, none⟩ = some (.int .i64 p) ∧ w6.cell? ⟨w.heap.size + 1, 1, none⟩ = some (.int .i64 j)) := hid ⟨h6.c.2.1, (slot_cells hs6).1, (slot_cells hs6).2, (slot_cells hr6).1, (slot_cells hr6).2⟩; clear h6 hk6 hs6 hr6))
 all_goals
  go_wp2
  go_ret
  exact ⟨rfl, H6.out.weak (fun k q => .inl q), fun k q => (HK6.out k (.inl q)).trans (HS0.out k q)⟩
end HdS
end
section
namespace CX
open Go.ChangeShapes Go.WideShapes Go.ChangeAt Go.RowKit
def Kept (n : Nat) (a b : World) : Prop := Below n a b ∧ n ≤ b.heap.size
theorem Kept.refl {n : Nat} {a : World} (h : n ≤ a.heap.size) : Kept n a a := ⟨Below.refl _ _, h⟩
theorem Kept.alloc {n : Nat} {a b : World} (h : Kept n a b) (o : Obj) : Kept n a (b.alloc o) := ⟨h.1.alloc h.2 o, by simp; have := h.2; omega⟩
theorem Kept.cell {n : Nat} {a b : World} {o k : Nat} {v : Option Value} (h : Kept n a b) (hk : k < n) (q : a.cell? ⟨k, o, none⟩ = v) : b.cell? ⟨k, o, none⟩ = v := (h.1.cell (p := ⟨k, o, none⟩) hk).trans q
def alikeB (m n : Bool) (a a' b b' : Int) : Bool := m && n && decide (a ≠ 0) && decide (a = a') && decide (b = b')
theorem alike_any (a b c d e f g h a' b' c' d' e' f' g' h' : Int) (W : World) (hT : TabG W) (e1 : e ≤ 9223372036854775807) (e2 : e' ≤ 9223372036854775807) :
  Calls Tryz.prog 22 #[capV a b c d e f g h, capV a' b' c' d' e' f' g' h'] W fun r W' => r = .returned (.bool (alikeB (capB a b c d e f g h) (capB a' b' c' d' e' f' g' h') a a' b b')) ∧ Below W.heap.size W W' := by
 cases hx : capB a b c d e f g h <;> cases hy : capB a' b' c' d' e' f' g' h'
 all_goals
  have HX := hid hx
  have HY := hid hy
  clear hx hy
  go_enter Tryz.func22, Tryz.ntmps22
  go_wp2_with (first
   | (have _t := hb1; go_at_call 15; refine (capMay a' b' c' d' e' f' g' h' _ (by exact hT.call (by repeat (first | exact Below.refl _ _ | assumption | refine below_drewN ?_ _ | refine Below.drew ?_ | refine Below.setCell ?_ (by first | exact Nat.le_refl _ | (simp; done) | (simp; omega)) _ | refine bal ?_ _ | refine bgo ?_ (by assumption)))) e2).mono ?_; rw [HY.out]; rintro r w2 ⟨rfl, hb2⟩; obtain ⟨hc2, hf2⟩ := bcell hb2)
   | (go_at_call 15; refine (capMay a b c d e f g h _ (by exact hT.call (by repeat (first | exact Below.refl _ _ | assumption | refine below_drewN ?_ _ | refine Below.drew ?_ | refine Below.setCell ?_ (by first | exact Nat.le_refl _ | (simp; done) | (simp; omega)) _ | refine bal ?_ _ | refine bgo ?_ (by assumption)))) e1).mono ?_; rw [HX.out]; rintro r w1 ⟨rfl, hb1⟩; obtain ⟨hc1, hf1⟩ := bcell hb1; have hz1 : W.heap.size + 1 < w1.heap.size := (by have := hb1.size; simp at this; omega); have hz0 : W.heap.size < w1.heap.size := (by omega)))
  all_goals
   go_ret
   exact ⟨ret_bool (by first | (simp [alikeB, *]; done) | (refine Bool.eq_iff_iff.2 ?_; simp [alikeB, *] <;> omega)), (by repeat (first | exact Below.refl _ _ | assumption | refine below_drewN ?_ _ | refine Below.drew ?_ | refine Below.setCell ?_ (by first | exact Nat.le_refl _ | (simp; done) | (simp; omega)) _ | refine bal ?_ _ | refine bgo ?_ (by assumption)))⟩
theorem alike13_any (a b c d e f g h a' b' c' d' e' f' g' h' : Int) (W : World) :
  Calls Tryz.prog 86 #[capV a b c d e f g h, capV a' b' c' d' e' f' g' h'] W fun r W' => r = .returned (.bool (alikeB (capB a b c d e f g h) (capB a' b' c' d' e' f' g' h') a a' b b')) ∧ Below W.heap.size W W' := by
 cases hx : capB a b c d e f g h <;> cases hy : capB a' b' c' d' e' f' g' h'
 all_goals
  have HX := hid hx
  have HY := hid hy
  clear hx hy
  go_enter Tryz.func86, Tryz.ntmps86
  go_wp2_with (first
   | (have _t := hb1; go_at_call 110; refine (refMay13 a' b' c' d' e' f' g' h' _).mono ?_; rw [HY.out]; rintro r w2 ⟨rfl, hb2⟩; obtain ⟨hc2, hf2⟩ := bcell hb2)
   | (go_at_call 110; refine (refMay13 a b c d e f g h _).mono ?_; rw [HX.out]; rintro r w1 ⟨rfl, hb1⟩; obtain ⟨hc1, hf1⟩ := bcell hb1; have hz1 : W.heap.size + 1 < w1.heap.size := (by have := hb1.size; simp at this; omega); have hz0 : W.heap.size < w1.heap.size := (by omega)))
  all_goals
   go_ret
   exact ⟨ret_bool (by first | (simp [alikeB, *]; done) | (refine Bool.eq_iff_iff.2 ?_; simp [alikeB, *] <;> omega)), (by repeat (first | exact Below.refl _ _ | assumption | refine below_drewN ?_ _ | refine Below.drew ?_ | refine Below.setCell ?_ (by first | exact Nat.le_refl _ | (simp; done) | (simp; omega)) _ | refine bal ?_ _ | refine bgo ?_ (by assumption)))⟩
end CX
end
end Go.Proofs.YtchjfeafkmpmbaaGreatDoor
