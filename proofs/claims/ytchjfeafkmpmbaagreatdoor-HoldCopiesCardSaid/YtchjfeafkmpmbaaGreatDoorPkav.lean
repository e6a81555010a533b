import Derived.Test.YtchjfeafkmpmbaaGreatDoorPkau
import Derived.StillTailTactics
import Derived.Deep.RegionWith
import Derived.Deep.RegionHeld3
namespace Go.Proofs.YtchjfeafkmpmbaaGreatDoor
set_option linter.unusedVariables false
set_option linter.unusedSimpArgs false
set_option maxRecDepth 100000
set_option maxHeartbeats 8000000
open Lib (hid)
section
open Go.ChangeShapes Go.WideShapes Go.ChangeAt Go.RowKit Go.Shelf
namespace HdS
open TabS (Cp Sn zC mayC sizS getR getN Two Pr FootP foot_ltP foot_ltR SameS AddRel addSR setN setM rowsS hasS dropSR dropSL heldA hdsC)
structure Hd (W : World) (s : Sh) (hb rhb n : Nat) (L M : List Sn) (l l2 : List Nod) (S : Nat → Prop) (w : World) : Prop where
 bo : BoS W s n L M l l2 (fun k => k = hb ∨ k = rhb ∨ S k) w
 hd : w.heap[hb]? = some (.cells #[.pointer (some ⟨s.sb, 0, none⟩), .pointer (some ⟨s.tb, 0, none⟩)] 93 (0, 0))
 rh : w.heap[rhb]? = some (.cells #[.pointer (some ⟨s.srb, 0, none⟩), .pointer (some ⟨s.trb, 0, none⟩)] 71 (0, 0))
variable {W w w' : World} {s : Sh} {hb rhb n n' : Nat} {L M L' M' : List Sn} {l l2 l' l2' : List Nod} {S : Nat → Prop}
theorem Hd.lift (h : Hd W s hb rhb n L M l l2 S w) (hB : BoS W s n' L' M' l' l2' (fun k => k = hb ∨ k = rhb ∨ S k) w') (hK : SameK (fun k => k = hb ∨ k = rhb ∨ S k) w w') : Hd W s hb rhb n' L' M' l' l2' S w' :=
 ⟨hB, (hK hb (.inl rfl)).trans h.hd, (hK rhb (.inr (.inl rfl))).trans h.rh⟩
theorem Hd.call (h : Hd W s hb rhb n L M l l2 S w) (hb' : Below w.heap.size w w') : Hd W s hb rhb n L M l l2 S w' :=
 h.lift (h.bo.call hb').1 (h.bo.call hb').2
theorem Hd.below (h : Hd W s hb rhb n L M l l2 S w) : Below W.heap.size W w := h.bo.below
theorem Hd.c (h : Hd W s hb rhb n L M l l2 S w) : w.cell? ⟨hb, 0, none⟩ = some (.pointer (some ⟨s.sb, 0, none⟩)) ∧ w.cell? ⟨hb, 1, none⟩ = some (.pointer (some ⟨s.tb, 0, none⟩)) ∧ hb < w.heap.size :=
 ⟨cell_cur (cur := [.pointer (some ⟨s.sb, 0, none⟩), .pointer (some ⟨s.tb, 0, none⟩)]) h.hd 0, cell_cur (cur := [.pointer (some ⟨s.sb, 0, none⟩), .pointer (some ⟨s.tb, 0, none⟩)]) h.hd 1, (ags h.hd).1⟩
theorem Hd.rc (h : Hd W s hb rhb n L M l l2 S w) : w.cell? ⟨rhb, 0, none⟩ = some (.pointer (some ⟨s.srb, 0, none⟩)) ∧ w.cell? ⟨rhb, 1, none⟩ = some (.pointer (some ⟨s.trb, 0, none⟩)) ∧ rhb < w.heap.size :=
 ⟨cell_cur (cur := [.pointer (some ⟨s.srb, 0, none⟩), .pointer (some ⟨s.trb, 0, none⟩)]) h.rh 0, cell_cur (cur := [.pointer (some ⟨s.srb, 0, none⟩), .pointer (some ⟨s.trb, 0, none⟩)]) h.rh 1, (ags h.rh).1⟩
def gt (L : List Sn) (o i : Int) : Cp := (getR L o i).getD zC
def gn (L : List Sn) (o i : Int) : Int := getN (getR L o i)
theorem cap_cells {w : World} {k : Nat} {c : Cp} (h : w.heap[k]? = some (.cells c.L.toArray 33 (0, 0))) : w.cell? ⟨k, 0, none⟩ = some (.int .i64 c.a) ∧ w.cell? ⟨k, 1, none⟩ = some (.int .i64 c.b) ∧ w.cell? ⟨k, 2, none⟩ = some (.int .i64 c.c) ∧ w.cell? ⟨k, 3, none⟩ = some (.int .u64 c.d) ∧ w.cell? ⟨k, 4, none⟩ = some (.int .i64 c.e) ∧ w.cell? ⟨k, 5, none⟩ = some (.int .i64 c.f) ∧ w.cell? ⟨k, 6, none⟩ = some (.int .i64 c.g) ∧ w.cell? ⟨k, 7, none⟩ = some (.int .i64 c.h) :=
 ⟨cell_cur (cur := c.L) h 0, cell_cur (cur := c.L) h 1, cell_cur (cur := c.L) h 2, cell_cur (cur := c.L) h 3, cell_cur (cur := c.L) h 4, cell_cur (cur := c.L) h 5, cell_cur (cur := c.L) h 6, cell_cur (cur := c.L) h 7⟩
theorem cap_froz {w : World} {k : Nat} {xs : Array Value} {t : TypeId} (h : w.heap[k]? = some (.cells xs t (0, 0))) : ∀ j, w.frozen? ⟨k, j, none⟩ = false := fun j => by simp [World.frozen?, h]
theorem slot_cells {w : World} {k : Nat} {x y : Int} (h : w.heap[k]? = some (.cells #[.int .i64 x, .int .i64 y] 30 (0, 0))) : w.cell? ⟨k, 0, none⟩ = some (.int .i64 x) ∧ w.cell? ⟨k, 1, none⟩ = some (.int .i64 y) :=
 ⟨cell_cur (cur := [.int .i64 x, .int .i64 y]) h 0, cell_cur (cur := [.int .i64 x, .int .i64 y]) h 1⟩
def lay8 (w : World) (k : Nat) (n : Cp) : World := (((((((w.setCell ⟨k, 0, none⟩ (.int .i64 n.a)).setCell ⟨k, 1, none⟩ (.int .i64 n.b)).setCell ⟨k, 2, none⟩ (.int .i64 n.c)).setCell ⟨k, 3, none⟩ (.int .u64 n.d)).setCell ⟨k, 4, none⟩ (.int .i64 n.e)).setCell ⟨k, 5, none⟩ (.int .i64 n.f)).setCell ⟨k, 6, none⟩ (.int .i64 n.g)).setCell ⟨k, 7, none⟩ (.int .i64 n.h)
theorem set_step {w : World} {k : Nat} {l : List Value} {t : TypeId} (i : Nat) (v : Value) (h : w.heap[k]? = some (.cells l.toArray t (0, 0))) : (w.setCell ⟨k, i, none⟩ v).heap[k]? = some (.cells (l.set i v).toArray t (0, 0)) := by
 rw [Go.heap_setCell_same _ k i _ t v h]
 simp
theorem lay8_same {w : World} {k : Nat} {c : Cp} {t : TypeId} (n : Cp) (h : w.heap[k]? = some (.cells c.L.toArray t (0, 0))) : (lay8 w k n).heap[k]? = some (.cells n.L.toArray t (0, 0)) := by
 have e : (((((((c.L.set 0 (.int .i64 n.a)).set 1 (.int .i64 n.b)).set 2 (.int .i64 n.c)).set 3 (.int .u64 n.d)).set 4 (.int .i64 n.e)).set 5 (.int .i64 n.f)).set 6 (.int .i64 n.g)).set 7 (.int .i64 n.h) = n.L := rfl
 rw [← e]
 unfold lay8
 exact set_step 7 _ (set_step 6 _ (set_step 5 _ (set_step 4 _ (set_step 3 _ (set_step 2 _ (set_step 1 _ (set_step 0 _ h)))))))
theorem lay8_below {w0 w : World} {B k : Nat} (n : Cp) (h : Below B w0 w) (hk : B ≤ k) : Below B w0 (lay8 w k n) :=
 (((((((h.setCell (p := ⟨k, 0, none⟩) hk _).setCell (p := ⟨k, 1, none⟩) hk _).setCell (p := ⟨k, 2, none⟩) hk _).setCell (p := ⟨k, 3, none⟩) hk _).setCell (p := ⟨k, 4, none⟩) hk _).setCell (p := ⟨k, 5, none⟩) hk _).setCell (p := ⟨k, 6, none⟩) hk _).setCell (p := ⟨k, 7, none⟩) hk _
theorem hslots (h : Hd W s hb rhb n L M l l2 S w) :
  Calls Tryz.prog 51 #[.pointer (some ⟨hb, 0, none⟩)] w fun e w' => e = .returned (.pointer (some ⟨s.sb, 0, none⟩)) ∧ w = w' := by
 obtain ⟨c0, -, -⟩ := h.c
 clear h
 go_enter Tryz.func51, Tryz.ntmps51
 go_wp2
 go_ret
 exact ⟨rfl, by trivial⟩
theorem hsome (w : World) (hT : CX.TabG w) (c : Cp) (he : c.e ≤ 9223372036854775807) :
  Calls Tryz.prog 76 #[c.V] w fun e w' => e = .returned (.bool (mayC c && decide (c.a ≠ 0))) ∧ Below w.heap.size w w' := by
 obtain ⟨ca, cb, cx, cd, ce, cf, cg, ch⟩ := c
 have hal : Below w.heap.size w (w.alloc (.cells #[.int .i64 ca, .int .i64 cb, .int .i64 cx, .int .u64 cd, .int .i64 ce, .int .i64 cf, .int .i64 cg, .int .i64 ch] 33)) := bal (Below.refl _ _) _
 have HM := hid (CX.capMay ca cb cx cd ce cf cg ch _ (hT.call hal) he)
 have HAL := hid hal
 have hx : (w.alloc (.cells (⟨ca, cb, cx, cd, ce, cf, cg, ch⟩ : Cp).L.toArray 33)).heap[w.heap.size]? = some (.cells (⟨ca, cb, cx, cd, ce, cf, cg, ch⟩ : Cp).L.toArray 33 (0, 0)) := heap_alloc_new w _
 have HX := hid hx
 have hz : w.heap.size < (w.alloc (.cells (⟨ca, cb, cx, cd, ce, cf, cg, ch⟩ : Cp).L.toArray 33)).heap.size := by simp
 have HZ := hid hz
 obtain ⟨mb, hmb⟩ : ∃ y, y = mayC (⟨ca, cb, cx, cd, ce, cf, cg, ch⟩ : Cp) := ⟨_, rfl⟩
 have HM' : Hid (Calls Tryz.prog 15 #[.agg #[.int .i64 ca, .int .i64 cb, .int .i64 cx, .int .u64 cd, .int .i64 ce, .int .i64 cf, .int .i64 cg, .int .i64 ch]] (w.alloc (.cells #[.int .i64 ca, .int .i64 cb, .int .i64 cx, .int .u64 cd, .int .i64 ce, .int .i64 cf, .int .i64 cg, .int .i64 ch] 33)) fun e w' => e = .returned (.bool mb) ∧ Below (w.alloc (.cells #[.int .i64 ca, .int .i64 cb, .int .i64 cx, .int .u64 cd, .int .i64 ce, .int .i64 cf, .int .i64 cg, .int .i64 ch] 33)).heap.size (w.alloc (.cells #[.int .i64 ca, .int .i64 cb, .int .i64 cx, .int .u64 cd, .int .i64 ce, .int .i64 cf, .int .i64 cg, .int .i64 ch] 33)) w') := hid (by rw [hmb]; exact HM.out)
 rw [← hmb]
 simp only []
 clear hT hal hx hz hmb HM he
 cases mb with
 | false =>
  go_enter Tryz.func76, Tryz.ntmps76
  go_wp2_with (go_at_call 15; (with_reducible refine HM'.out.mono ?_); rintro e w1 ⟨rfl, hb1⟩; have HB1 := hid (HAL.out.trans (hb1.mono HAL.out.size)); clear hb1)
  go_ret
  exact ⟨by first | rfl | simp, HB1.out⟩
 | true =>
  by_cases h0 : ca = 0
  ·subst h0
   go_enter Tryz.func76, Tryz.ntmps76
   go_wp2_with (go_at_call 15; (with_reducible refine HM'.out.mono ?_); rintro e w1 ⟨rfl, hb1⟩; have HB1 := hid (HAL.out.trans (hb1.mono HAL.out.size)); have hx1 := (hb1.block w.heap.size HZ.out).trans HX.out; obtain ⟨x0, -⟩ := cap_cells hx1; simp only [] at x0; clear hb1 hx1)
   go_ret
   exact ⟨by first | rfl | simp, HB1.out⟩
  ·go_enter Tryz.func76, Tryz.ntmps76
   go_wp2_with (go_at_call 15; (with_reducible refine HM'.out.mono ?_); rintro e w1 ⟨rfl, hb1⟩; have HB1 := hid (HAL.out.trans (hb1.mono HAL.out.size)); have hx1 := (hb1.block w.heap.size HZ.out).trans HX.out; obtain ⟨x0, -⟩ := cap_cells hx1; simp only [] at x0; clear hb1 hx1)
   go_ret
   exact ⟨by first | rfl | simp [h0], HB1.out⟩
end HdS
end
section
open Go.ChangeShapes Go.WideShapes Go.ChangeAt Go.RowKit Go.Shelf
namespace HdS
open TabS (Cp Sn zC mayC sizS getR getN Two Pr FootP foot_ltP foot_ltR SameS AddRel addSR setN setM rowsS hasS dropSR dropSL heldA hdsC)
variable {W w w' : World} {s : Sh} {hb rhb n n' : Nat} {L M L' M' : List Sn} {l l2 l' l2' : List Nod} {S : Nat → Prop}
theorem two_boxes (w : World) (o i : Int) : Below w.heap.size w ((w.alloc (slO o i)).alloc (.cells zC.L.toArray 33)) ∧ ((w.alloc (slO o i)).alloc (.cells zC.L.toArray 33)).heap[w.heap.size]? = some (.cells #[.int .i64 o, .int .i64 i] 30 (0, 0)) ∧ ((w.alloc (slO o i)).alloc (.cells zC.L.toArray 33)).heap[w.heap.size + 1]? = some (.cells zC.L.toArray 33 (0, 0)) := by
 refine ⟨bal (bal (Below.refl _ _) _) _, (Below.heap_alloc _ _ _ (by simp)).trans (heap_alloc_new w _), ?_⟩
 have := heap_alloc_new (w.alloc (slO o i)) (.cells zC.L.toArray 33)
 rwa [World.size_alloc] at this
theorem lay8_cell {w : World} {k j i : Nat} (n : Cp) (h : j ≠ k) : (lay8 w k n).cell? ⟨j, i, none⟩ = w.cell? ⟨j, i, none⟩ := by
 refine World.cell?_of_block ?_
 unfold lay8
 iterate 8 rw [Go.heap_setCell_other _ _ _ _ h]
theorem hget (h : Hd W s hb rhb n L M l l2 S w) (o i : Int) :
  Calls Tryz.prog 20 #[.pointer (some ⟨hb, 0, none⟩), slV o i] w fun e w' => e = .returned (.tuple #[(gt L o i).V, .int .i64 (gn L o i)]) ∧ Below w.heap.size w w' := by
 obtain ⟨hb1, hs1, hc1⟩ := two_boxes w o i
 obtain ⟨w1, hw1⟩ : ∃ y, y = (w.alloc (slO o i)).alloc (.cells zC.L.toArray 33) := ⟨_, rfl⟩
 rw [← hw1] at hb1 hs1 hc1
 have H1 := hid (h.call hb1)
 have HB1 := hid hb1
 have HC1 := hid hc1
 have HSL := hid (fun (v : World) (hv : Hd W s hb rhb n L M l l2 S v) => hslots hv)
 have HG : Hid (∀ v, Hd W s hb rhb n L M l l2 S v → Calls Tryz.prog 66 #[.pointer (some ⟨s.sb, 0, none⟩), .agg #[.int .i64 o, .int .i64 i]] v fun e w' => e = .returned (.tuple #[(gt L o i).V, .int .i64 (gn L o i)]) ∧ Below v.heap.size v w') := hid (fun v hv => hv.bo.get o i)
 obtain ⟨k0, k1⟩ := slot_cells hs1
 have HK := hid (And.intro k0 k1)
 generalize gt L o i = c at *
 generalize gn L o i = cn at *
 obtain ⟨ca, cb, cx, cd, ce, cf, cg, ch⟩ := c
 have hz1 := (ags hc1).1
 have HZ1 := hid hz1
 have HW := hid hw1
 have HKd : Hid (w1.drew.cell? ⟨w.heap.size, 0, none⟩ = some (.int .i64 o) ∧ w1.drew.cell? ⟨w.heap.size, 1, none⟩ = some (.int .i64 i)) := hid HK.out
 have HZ0 : Hid (w.heap.size < w1.heap.size) := hid (by omega)
 have H1d := hid (H1.out.call (show Below w1.heap.size w1 w1.drew from (Below.refl _ _).drew))
 clear h hb1 hs1 hc1 hw1 hz1
 go_enter Tryz.func20, Tryz.ntmps20
 go_upto_region 1 with fail
 rw [show ((w.alloc (slO o i)).alloc (.cells #[.int .i64 0, .int .i64 0, .int .i64 0, .int .u64 0, .int .i64 0, .int .i64 0, .int .i64 0, .int .i64 0] 33)) = w1 from HW.out.symm]
 go_region_held3 (fun w' => w'.cell? ⟨w.heap.size, 0, none⟩ = some (.int .i64 o) ∧ w'.cell? ⟨w.heap.size, 1, none⟩ = some (.int .i64 i))
  (first | (with_reducible exact HK.out) | (with_reducible exact HKd.out) | (with_reducible exact K3.out) | (with_reducible exact KL.out))
  (first
   | (go_at_call 51; (with_reducible refine (HSL.out _ H1d.out).mono ?_); rintro e w2 ⟨rfl, rfl⟩)
   | (go_at_call 66; (with_reducible refine (HG.out _ H1d.out).mono ?_); rintro e w3 ⟨rfl, hb3⟩; have HB3 := hid hb3; have hc3 := (hb3.block _ HZ1.out).trans HC1.out; obtain ⟨y0, y1, y2, y3, y4, y5, y6, y7⟩ := cap_cells hc3; have g0 := cap_froz hc3 0; have g1 := cap_froz hc3 1; have g2 := cap_froz hc3 2; have g3 := cap_froz hc3 3; have g4 := cap_froz hc3 4; have g5 := cap_froz hc3 5; have g6 := cap_froz hc3 6; have g7 := cap_froz hc3 7; have hz3 := (ags hc3).1; have HC3 := hid hc3; have K3 := hid (And.intro ((hb3.cell (p := ⟨w.heap.size, 0, none⟩) HZ0.out).trans HK.out.1) ((hb3.cell (p := ⟨w.heap.size, 1, none⟩) HZ0.out).trans HK.out.2)); have kl := (And.intro ((lay8_cell (w := w3) (k := w.heap.size + 1) (i := 0) ⟨ca, cb, cx, cd, ce, cf, cg, ch⟩ (show w.heap.size ≠ w.heap.size + 1 by omega)).trans K3.out.1) ((lay8_cell (w := w3) (k := w.heap.size + 1) (i := 1) ⟨ca, cb, cx, cd, ce, cf, cg, ch⟩ (show w.heap.size ≠ w.heap.size + 1 by omega)).trans K3.out.2)); simp only [lay8] at kl; have KL := hid kl; clear hb3 hc3 kl))
 all_goals
  have HF := hid (lay8_same ⟨ca, cb, cx, cd, ce, cf, cg, ch⟩ HC3.out)
  have HFB := hid (lay8_below (k := w.heap.size + 1) ⟨ca, cb, cx, cd, ce, cf, cg, ch⟩ (HB1.out.trans ((show Below w1.heap.size w1 w3 from ((Below.refl _ _).drew).trans HB3.out).mono HB1.out.size)) (by omega))
  show Exit.then _ _ Exit.normal _ (lay8 w3 (w.heap.size + 1) ⟨ca, cb, cx, cd, ce, cf, cg, ch⟩)
  generalize lay8 w3 (w.heap.size + 1) ⟨ca, cb, cx, cd, ce, cf, cg, ch⟩ = w4 at *
  obtain ⟨x0, x1, x2, x3, x4, x5, x6, x7⟩ := cap_cells HF.out
  simp only [] at x0 x1 x2 x3 x4 x5 x6 x7
  clear y0 y1 y2 y3 y4 y5 y6 y7 g0 g1 g2 g3 g4 g5 g6 g7
  go_wp2
  exact bodyPost_ret (v := .tuple #[.agg #[.int .i64 ca, .int .i64 cb, .int .i64 cx, .int .u64 cd, .int .i64 ce, .int .i64 cf, .int .i64 cg, .int .i64 ch], .int .i64 cn]) (by simp [results, Tryz.results20, go_sem, x0, x1, x2, x3, x4, x5, x6, x7]) rfl ⟨rfl, HFB.out⟩
def fullN (L : List Sn) (o i : Int) : Int := if gn L o i = 0 ∧ (gt L o i).a = 0 then 10 else gn L o i
theorem hfull (h : Hd W s hb rhb n L M l l2 S w) (o i : Int) :
  Calls Tryz.prog 69 #[.pointer (some ⟨hb, 0, none⟩), slV o i] w fun e w' => e = .returned (.tuple #[(gt L o i).V, .int .i64 (fullN L o i)]) ∧ Below w.heap.size w w' := by
 obtain ⟨hb1, hs1, hc1⟩ := two_boxes w o i
 obtain ⟨w1, hw1⟩ : ∃ y, y = (w.alloc (slO o i)).alloc (.cells zC.L.toArray 33) := ⟨_, rfl⟩
 rw [← hw1] at hb1 hs1 hc1
 have H1 := hid (h.call hb1)
 have HB1 := hid hb1
 have HC1 := hid hc1
 have HG := hid (hget H1.out o i)
 obtain ⟨k0, k1⟩ := slot_cells hs1
 unfold fullN
 generalize gt L o i = c at *
 generalize gn L o i = cn at *
 obtain ⟨ca, cb, cx, cd, ce, cf, cg, ch⟩ := c
 obtain ⟨N, hN⟩ : ∃ y : Int, y = (if cn = 0 ∧ (⟨ca, cb, cx, cd, ce, cf, cg, ch⟩ : Cp).a = 0 then 10 else cn) := ⟨_, rfl⟩
 rw [← hN]
 have HN := hid hN
 clear hN
 have HZ1 := hid (ags hc1).1
 have HW := hid hw1
 clear h hb1 hs1 hc1 hw1
 go_enter Tryz.func69, Tryz.ntmps69
 go_upto_region 1 with fail
 rw [show ((w.alloc (slO o i)).alloc (.cells #[.int .i64 0, .int .i64 0, .int .i64 0, .int .u64 0, .int .i64 0, .int .i64 0, .int .i64 0, .int .i64 0] 33)) = w1 from HW.out.symm]
 go_upto_region 2 with (go_at_call 20; (with_reducible refine HG.out.mono ?_); rintro e w2 ⟨rfl, hb2⟩; have HB2 := hid hb2; clear hb2)
 obtain ⟨w3, hw3⟩ : ∃ y, y = w2.alloc (.cells #[.int .i64 ca, .int .i64 cb, .int .i64 cx, .int .u64 cd, .int .i64 ce, .int .i64 cf, .int .i64 cg, .int .i64 ch] 33) := ⟨_, rfl⟩
 have hb3 : Below w1.heap.size w1 w3 := hw3 ▸ bal HB2.out _
 have hx3 : w3.heap[w2.heap.size]? = some (.cells (⟨ca, cb, cx, cd, ce, cf, cg, ch⟩ : Cp).L.toArray 33 (0, 0)) := by rw [hw3]; exact heap_alloc_new w2 _
 have hc3 := (hb3.block _ HZ1.out).trans HC1.out
 have HC3 := hid hc3
 have HFB := hid (lay8_below (k := w.heap.size + 1) ⟨ca, cb, cx, cd, ce, cf, cg, ch⟩ (HB1.out.trans (hb3.mono HB1.out.size)) (by omega))
 rw [← hw3]
 generalize w2.heap.size = xB at *
 obtain ⟨x0, x1, x2, x3, x4, x5, x6, x7⟩ := cap_cells hx3
 simp only [] at x0 x1 x2 x3 x4 x5 x6 x7
 obtain ⟨y0, y1, y2, y3, y4, y5, y6, y7⟩ := cap_cells hc3
 have g0 := cap_froz hc3 0
 have g1 := cap_froz hc3 1
 have g2 := cap_froz hc3 2
 have g3 := cap_froz hc3 3
 have g4 := cap_froz hc3 4
 have g5 := cap_froz hc3 5
 have g6 := cap_froz hc3 6
 have g7 := cap_froz hc3 7
 have hz3 := (ags hc3).1
 have HF := hid (lay8_same ⟨ca, cb, cx, cd, ce, cf, cg, ch⟩ HC3.out)
 obtain ⟨w4, hw4⟩ : ∃ y, y = lay8 w3 (w.heap.size + 1) ⟨ca, cb, cx, cd, ce, cf, cg, ch⟩ := ⟨_, rfl⟩
 rw [← hw4] at HF HFB
 simp only [lay8] at hw4
 have H4 := hid hw4
 clear hw4
 clear hw3 hb3 hx3 hc3 k0 k1 HG H1
 by_cases hn : cn = 0
 ·subst hn
  by_cases h0 : ca = 0
  ·subst h0
   obtain rfl : N = 10 := by rw [HN.out]; rfl
   go_wp2
   rw [← H4.out]
   obtain ⟨q0, q1, q2, q3, q4, q5, q6, q7⟩ := cap_cells HF.out
   simp only [] at q0 q1 q2 q3 q4 q5 q6 q7
   exact bodyPost_ret (v := .tuple #[.agg #[.int .i64 0, .int .i64 cb, .int .i64 cx, .int .u64 cd, .int .i64 ce, .int .i64 cf, .int .i64 cg, .int .i64 ch], .int .i64 10]) (by simp [results, Tryz.results69, go_sem, q0, q1, q2, q3, q4, q5, q6, q7]) rfl ⟨rfl, HFB.out⟩
  ·obtain rfl : N = 0 := by rw [HN.out, if_neg (fun e => h0 e.2)]
   go_wp2
   rw [← H4.out]
   obtain ⟨q0, q1, q2, q3, q4, q5, q6, q7⟩ := cap_cells HF.out
   simp only [] at q0 q1 q2 q3 q4 q5 q6 q7
   exact bodyPost_ret (v := .tuple #[.agg #[.int .i64 ca, .int .i64 cb, .int .i64 cx, .int .u64 cd, .int .i64 ce, .int .i64 cf, .int .i64 cg, .int .i64 ch], .int .i64 0]) (by simp [results, Tryz.results69, go_sem, q0, q1, q2, q3, q4, q5, q6, q7]) rfl ⟨rfl, HFB.out⟩
 ·obtain rfl : N = cn := by rw [HN.out, if_neg (fun e => hn e.1)]
  go_wp2
  rw [← H4.out]
  obtain ⟨q0, q1, q2, q3, q4, q5, q6, q7⟩ := cap_cells HF.out
  simp only [] at q0 q1 q2 q3 q4 q5 q6 q7
  exact bodyPost_ret (v := .tuple #[.agg #[.int .i64 ca, .int .i64 cb, .int .i64 cx, .int .u64 cd, .int .i64 ce, .int .i64 cf, .int .i64 cg, .int .i64 ch], .int .i64 N]) (by simp [results, Tryz.results69, go_sem, q0, q1, q2, q3, q4, q5, q6, q7]) rfl ⟨rfl, HFB.out⟩
def pairF (cn fn : Int) (ta : Int) : Int := if cn ≠ 0 then cn else if fn ≠ 0 then fn else if ta ≠ 0 then 11 else 0
def pairN (L : List Sn) (o i p j : Int) : Int := pairF (gn L p j) (fullN L o i) (gt L p j).a
def pairC (L : List Sn) (o i p j : Int) : Cp := if pairN L o i p j = 0 then gt L o i else zC
theorem three_boxes (w : World) (o i p j : Int) : Below w.heap.size w (((w.alloc (slO o i)).alloc (slO p j)).alloc (.cells zC.L.toArray 33)) ∧ (((w.alloc (slO o i)).alloc (slO p j)).alloc (.cells zC.L.toArray 33)).heap[w.heap.size]? = some (.cells #[.int .i64 o, .int .i64 i] 30 (0, 0)) ∧ (((w.alloc (slO o i)).alloc (slO p j)).alloc (.cells zC.L.toArray 33)).heap[w.heap.size + 1]? = some (.cells #[.int .i64 p, .int .i64 j] 30 (0, 0)) ∧ (((w.alloc (slO o i)).alloc (slO p j)).alloc (.cells zC.L.toArray 33)).heap[w.heap.size + 2]? = some (.cells zC.L.toArray 33 (0, 0)) := by
 have h1 := heap_alloc_new (w.alloc (slO o i)) (slO p j)
 have h2 := heap_alloc_new ((w.alloc (slO o i)).alloc (slO p j)) (.cells zC.L.toArray 33)
 rw [World.size_alloc] at h1 h2
 rw [World.size_alloc] at h2
 exact ⟨bal (bal (bal (Below.refl _ _) _) _) _, (Below.heap_alloc _ _ _ (by simp; omega)).trans ((Below.heap_alloc _ _ _ (by simp)).trans (heap_alloc_new w _)), (Below.heap_alloc _ _ _ (by simp)).trans h1, h2⟩
theorem hpair (h : Hd W s hb rhb n L M l l2 S w) (o i p j : Int) :
  Calls Tryz.prog 68 #[.pointer (some ⟨hb, 0, none⟩), slV o i, slV p j] w fun e w' => e = .returned (.tuple #[(pairC L o i p j).V, .int .i64 (pairN L o i p j)]) ∧ Below w.heap.size w w' := by
 obtain ⟨hb1, hs1, ht1, hc1⟩ := three_boxes w o i p j
 obtain ⟨w1, hw1⟩ : ∃ y, y = ((w.alloc (slO o i)).alloc (slO p j)).alloc (.cells zC.L.toArray 33) := ⟨_, rfl⟩
 rw [← hw1] at hb1 hs1 ht1 hc1
 have H1 := hid (h.call hb1)
 have HB1 := hid hb1
 have HC1 := hid hc1
 have HS1 := hid hs1
 have HG := hid (hget H1.out p j)
 have HFU := hid (fun (v : World) (hv : Hd W s hb rhb n L M l l2 S v) => hfull hv o i)
 obtain ⟨PC, hpc⟩ : ∃ y, y = pairC L o i p j := ⟨_, rfl⟩
 obtain ⟨N, hN⟩ : ∃ y, y = pairN L o i p j := ⟨_, rfl⟩
 rw [← hpc, ← hN]
 unfold pairC at hpc
 rw [← hN] at hpc
 unfold pairN pairF at hN
 generalize gt L p j = t at *
 generalize gn L p j = cn at *
 generalize gt L o i = c at *
 generalize fullN L o i = fn at *
 obtain ⟨ca, cb, cx, cd, ce, cf, cg, ch⟩ := c
 obtain ⟨ta, tb, tx, td, te, tf, tg, th⟩ := t
 simp only [] at hN
 have HN := hid hN
 have HPC := hid hpc
 obtain ⟨k0, k1⟩ := slot_cells ht1
 have HZ1 := hid (ags hc1).1
 have HW := hid hw1
 clear h hb1 hs1 ht1 hc1 hw1 hN hpc
 go_enter Tryz.func68, Tryz.ntmps68
 go_upto_region 1 with fail
 rw [show (((w.alloc (slO o i)).alloc (slO p j)).alloc (.cells #[.int .i64 0, .int .i64 0, .int .i64 0, .int .u64 0, .int .i64 0, .int .i64 0, .int .i64 0, .int .i64 0] 33)) = w1 from HW.out.symm]
 go_upto_region 2 with (go_at_call 20; (with_reducible refine HG.out.mono ?_); rintro e w2 ⟨rfl, hb2⟩; have HB2 := hid hb2; clear hb2)
 obtain ⟨w3, hw3⟩ : ∃ y, y = w2.alloc (.cells #[.int .i64 ta, .int .i64 tb, .int .i64 tx, .int .u64 td, .int .i64 te, .int .i64 tf, .int .i64 tg, .int .i64 th] 33) := ⟨_, rfl⟩
 have hb3 : Below w1.heap.size w1 w3 := hw3 ▸ bal HB2.out _
 have hx3 : w3.heap[w2.heap.size]? = some (.cells (⟨ta, tb, tx, td, te, tf, tg, th⟩ : Cp).L.toArray 33 (0, 0)) := by rw [hw3]; exact heap_alloc_new w2 _
 have HX3 := hid hx3
 have H3 := hid (H1.out.call hb3)
 have HC3 := hid ((hb3.block _ HZ1.out).trans HC1.out)
 have HZ0 : Hid (w.heap.size < w1.heap.size) := hid (by have := HZ1.out; omega)
 have HS3 := hid ((hb3.block _ HZ0.out).trans HS1.out)
 have HB3 := hid (HB1.out.trans (hb3.mono HB1.out.size))
 rw [← hw3]
 generalize w2.heap.size = xB at *
 clear hw3 hb3 hx3 k0 k1 HG H1 HB1 HC1 HS1 HB2
 by_cases hn : cn = 0
 ·subst hn
  obtain ⟨k0, k1⟩ := slot_cells HS3.out
  have HFC := hid (HFU.out w3 H3.out)
  go_upto_region 5 with (go_at_call 69; (with_reducible refine HFC.out.mono ?_); rintro e w4 ⟨rfl, hb4⟩; have HB4 := hid hb4; clear hb4)
  obtain ⟨w5, hw5⟩ : ∃ y, y = w4.alloc (.cells #[.int .i64 ca, .int .i64 cb, .int .i64 cx, .int .u64 cd, .int .i64 ce, .int .i64 cf, .int .i64 cg, .int .i64 ch] 33) := ⟨_, rfl⟩
  have hb5 : Below w3.heap.size w3 w5 := hw5 ▸ bal HB4.out _
  have hx5 : w5.heap[w4.heap.size]? = some (.cells (⟨ca, cb, cx, cd, ce, cf, cg, ch⟩ : Cp).L.toArray 33 (0, 0)) := by rw [hw5]; exact heap_alloc_new w4 _
  have HC5 := hid ((hb5.block _ (ags HC3.out).1).trans HC3.out)
  have ht5 := (hb5.block _ (ags HX3.out).1).trans HX3.out
  have HB5 := hid (HB3.out.trans (hb5.mono HB3.out.size))
  rw [← hw5]
  generalize w4.heap.size = yB at *
  obtain ⟨t0, -⟩ := cap_cells ht5
  simp only [] at t0
  obtain ⟨x0, x1, x2, x3, x4, x5, x6, x7⟩ := cap_cells hx5
  simp only [] at x0 x1 x2 x3 x4 x5 x6 x7
  clear hw5 hb5 hx5 ht5 k0 k1 HFC HFU HB4 HB3 HC3 HS3 HX3 H3
  by_cases hf : fn = 0
  ·subst hf
   by_cases ht : ta = 0
   ·subst ht
    obtain rfl : N = 0 := by rw [HN.out]; rfl
    have hpc : PC = ⟨ca, cb, cx, cd, ce, cf, cg, ch⟩ := by rw [HPC.out]; exact if_pos rfl
    subst hpc
    have HF := hid (lay8_same ⟨ca, cb, cx, cd, ce, cf, cg, ch⟩ HC5.out)
    have HFB := hid (lay8_below (k := w.heap.size + 2) ⟨ca, cb, cx, cd, ce, cf, cg, ch⟩ HB5.out (by omega))
    obtain ⟨w9, hw9⟩ : ∃ y, y = lay8 w5 (w.heap.size + 2) ⟨ca, cb, cx, cd, ce, cf, cg, ch⟩ := ⟨_, rfl⟩
    rw [← hw9] at HF HFB
    simp only [lay8] at hw9
    have H9 := hid hw9
    clear hw9
    have hq := HC5.out
    have g0 := cap_froz hq 0
    have g1 := cap_froz hq 1
    have g2 := cap_froz hq 2
    have g3 := cap_froz hq 3
    have g4 := cap_froz hq 4
    have g5 := cap_froz hq 5
    have g6 := cap_froz hq 6
    have g7 := cap_froz hq 7
    have hzq := (ags hq).1
    obtain ⟨z0, z1, z2, z3, z4, z5, z6, z7⟩ := cap_cells hq
    clear hq
    go_wp2
    rw [← H9.out]
    obtain ⟨q0, q1, q2, q3, q4, q5, q6, q7⟩ := cap_cells HF.out
    simp only [] at q0 q1 q2 q3 q4 q5 q6 q7
    exact bodyPost_ret (v := .tuple #[.agg #[.int .i64 ca, .int .i64 cb, .int .i64 cx, .int .u64 cd, .int .i64 ce, .int .i64 cf, .int .i64 cg, .int .i64 ch], .int .i64 0]) (by simp [results, Tryz.results68, go_sem, q0, q1, q2, q3, q4, q5, q6, q7]) rfl ⟨rfl, HFB.out⟩
   ·have HNZ : Hid (¬ (11 : Int) = 0) := hid (by decide)
    obtain rfl : N = 11 := by rw [HN.out]; rw [if_neg (fun e => e rfl), if_neg (fun e => e rfl), if_pos ht]
    have hpc : PC = ⟨0, 0, 0, 0, 0, 0, 0, 0⟩ := by rw [HPC.out]; rw [if_neg HNZ.out]; rfl
    subst hpc
    have HF := hid (lay8_same ⟨0, 0, 0, 0, 0, 0, 0, 0⟩ HC5.out)
    have HFB := hid (lay8_below (k := w.heap.size + 2) ⟨0, 0, 0, 0, 0, 0, 0, 0⟩ HB5.out (by omega))
    obtain ⟨w9, hw9⟩ : ∃ y, y = lay8 w5 (w.heap.size + 2) ⟨0, 0, 0, 0, 0, 0, 0, 0⟩ := ⟨_, rfl⟩
    rw [← hw9] at HF HFB
    simp only [lay8] at hw9
    have H9 := hid hw9
    clear hw9
    have hq := HC5.out
    have g0 := cap_froz hq 0
    have g1 := cap_froz hq 1
    have g2 := cap_froz hq 2
    have g3 := cap_froz hq 3
    have g4 := cap_froz hq 4
    have g5 := cap_froz hq 5
    have g6 := cap_froz hq 6
    have g7 := cap_froz hq 7
    have hzq := (ags hq).1
    obtain ⟨z0, z1, z2, z3, z4, z5, z6, z7⟩ := cap_cells hq
    clear hq
    go_wp2
    rw [← H9.out]
    obtain ⟨q0, q1, q2, q3, q4, q5, q6, q7⟩ := cap_cells HF.out
    simp only [] at q0 q1 q2 q3 q4 q5 q6 q7
    exact bodyPost_ret (v := .tuple #[.agg #[.int .i64 0, .int .i64 0, .int .i64 0, .int .u64 0, .int .i64 0, .int .i64 0, .int .i64 0, .int .i64 0], .int .i64 11]) (by simp [results, Tryz.results68, go_sem, q0, q1, q2, q3, q4, q5, q6, q7]) rfl ⟨rfl, HFB.out⟩
  ·have HNZ := hid hf
   obtain rfl : fn = N := Eq.symm <| by rw [HN.out]; rw [if_neg (fun e => e rfl), if_pos hf]
   have hpc : PC = ⟨0, 0, 0, 0, 0, 0, 0, 0⟩ := by rw [HPC.out]; rw [if_neg HNZ.out]; rfl
   subst hpc
   have HF := hid (lay8_same ⟨0, 0, 0, 0, 0, 0, 0, 0⟩ HC5.out)
   have HFB := hid (lay8_below (k := w.heap.size + 2) ⟨0, 0, 0, 0, 0, 0, 0, 0⟩ HB5.out (by omega))
   obtain ⟨w9, hw9⟩ : ∃ y, y = lay8 w5 (w.heap.size + 2) ⟨0, 0, 0, 0, 0, 0, 0, 0⟩ := ⟨_, rfl⟩
   rw [← hw9] at HF HFB
   simp only [lay8] at hw9
   have H9 := hid hw9
   clear hw9
   have hq := HC5.out
   have g0 := cap_froz hq 0
   have g1 := cap_froz hq 1
   have g2 := cap_froz hq 2
   have g3 := cap_froz hq 3
   have g4 := cap_froz hq 4
   have g5 := cap_froz hq 5
   have g6 := cap_froz hq 6
   have g7 := cap_froz hq 7
   have hzq := (ags hq).1
   obtain ⟨z0, z1, z2, z3, z4, z5, z6, z7⟩ := cap_cells hq
   clear hq
   go_wp2
   rw [← H9.out]
   obtain ⟨q0, q1, q2, q3, q4, q5, q6, q7⟩ := cap_cells HF.out
   simp only [] at q0 q1 q2 q3 q4 q5 q6 q7
   exact bodyPost_ret (v := .tuple #[.agg #[.int .i64 0, .int .i64 0, .int .i64 0, .int .u64 0, .int .i64 0, .int .i64 0, .int .i64 0, .int .i64 0], .int .i64 fn]) (by simp [results, Tryz.results68, go_sem, q0, q1, q2, q3, q4, q5, q6, q7]) rfl ⟨rfl, HFB.out⟩
 ·have HNZ := hid hn
  obtain rfl : cn = N := Eq.symm <| by rw [HN.out]; rw [if_pos hn]
  have hpc : PC = ⟨0, 0, 0, 0, 0, 0, 0, 0⟩ := by rw [HPC.out]; rw [if_neg HNZ.out]; rfl
  subst hpc
  have HF := hid (lay8_same ⟨0, 0, 0, 0, 0, 0, 0, 0⟩ HC3.out)
  have HFB := hid (lay8_below (k := w.heap.size + 2) ⟨0, 0, 0, 0, 0, 0, 0, 0⟩ HB3.out (by omega))
  obtain ⟨w9, hw9⟩ : ∃ y, y = lay8 w3 (w.heap.size + 2) ⟨0, 0, 0, 0, 0, 0, 0, 0⟩ := ⟨_, rfl⟩
  rw [← hw9] at HF HFB
  simp only [lay8] at hw9
  have H9 := hid hw9
  clear hw9
  have hq := HC3.out
  have g0 := cap_froz hq 0
  have g1 := cap_froz hq 1
  have g2 := cap_froz hq 2
  have g3 := cap_froz hq 3
  have g4 := cap_froz hq 4
  have g5 := cap_froz hq 5
  have g6 := cap_froz hq 6
  have g7 := cap_froz hq 7
  have hzq := (ags hq).1
  obtain ⟨z0, z1, z2, z3, z4, z5, z6, z7⟩ := cap_cells hq
  clear hq
  go_wp2
  rw [← H9.out]
  obtain ⟨q0, q1, q2, q3, q4, q5, q6, q7⟩ := cap_cells HF.out
  simp only [] at q0 q1 q2 q3 q4 q5 q6 q7
  exact bodyPost_ret (v := .tuple #[.agg #[.int .i64 0, .int .i64 0, .int .i64 0, .int .u64 0, .int .i64 0, .int .i64 0, .int .i64 0, .int .i64 0], .int .i64 cn]) (by simp [results, Tryz.results68, go_sem, q0, q1, q2, q3, q4, q5, q6, q7]) rfl ⟨rfl, HFB.out⟩
def someB (c : Cp) : Bool := mayC c && decide (c.a ≠ 0)
def rootN (L : List Sn) (l : List Nod) (o i : Int) (c : Cp) : Int := if gn L o i ≠ 0 then gn L o i else if someB c = false then 5 else if (gt L o i).a ≠ 0 then 11 else (rootA l o i).2
def rootOn (L : List Sn) (o i : Int) (c : Cp) : Prop := gn L o i = 0 ∧ someB c = true ∧ (gt L o i).a = 0
theorem slot_cap_boxes (w : World) (o i : Int) (c : Cp) : Below w.heap.size w ((w.alloc (slO o i)).alloc (.cells c.L.toArray 33)) ∧ ((w.alloc (slO o i)).alloc (.cells c.L.toArray 33)).heap[w.heap.size]? = some (.cells #[.int .i64 o, .int .i64 i] 30 (0, 0)) ∧ ((w.alloc (slO o i)).alloc (.cells c.L.toArray 33)).heap[w.heap.size + 1]? = some (.cells c.L.toArray 33 (0, 0)) := by
 refine ⟨bal (bal (Below.refl _ _) _) _, (Below.heap_alloc _ _ _ (by simp)).trans (heap_alloc_new w _), ?_⟩
 have := heap_alloc_new (w.alloc (slO o i)) (.cells c.L.toArray 33)
 rwa [World.size_alloc] at this
theorem hroot_no (h : Hd W s hb rhb n L M l l2 S w) (hT0 : CX.TabG W) (o i : Int) (c : Cp) (he : c.e ≤ 9223372036854775807) (hno : ¬ rootOn L o i c) :
  Calls Tryz.prog 30 #[.pointer (some ⟨hb, 0, none⟩), slV o i, c.V] w fun e w' => e = .returned (.int .i64 (rootN L l o i c)) ∧ Below w.heap.size w w' := by
 obtain ⟨hb1, hs1, hc1⟩ := slot_cap_boxes w o i c
 obtain ⟨w1, hw1⟩ : ∃ y, y = (w.alloc (slO o i)).alloc (.cells c.L.toArray 33) := ⟨_, rfl⟩
 rw [← hw1] at hb1 hs1 hc1
 have H1 := hid (h.call hb1)
 have HB1 := hid hb1
 have HC1 := hid hc1
 have HG := hid (hget H1.out o i)
 have HT1 := hid (fun (v : World) (hv : Below w1.heap.size w1 v) => hsome v (hT0.call (H1.out.call hv).below) c he)
 have hsb : someB c = (mayC c && decide (c.a ≠ 0)) := rfl
 rw [← hsb] at HT1
 obtain ⟨N, hN⟩ : ∃ y, y = rootN L l o i c := ⟨_, rfl⟩
 rw [← hN]
 unfold rootN at hN
 unfold rootOn at hno
 generalize gt L o i = t at *
 generalize gn L o i = cn at *
 generalize someB c = sm at *
 obtain ⟨ta, tb, tx, td, te, tf, tg, th⟩ := t
 obtain ⟨ca, cb, cx, cd, ce, cf, cg, ch⟩ := c
 simp only [] at hN hno
 have HN := hid hN
 obtain ⟨k0, k1⟩ := slot_cells hs1
 have HZ1 := hid (ags hc1).1
 have HW := hid hw1
 clear h hb1 hs1 hc1 hw1 hN hsb hT0 he
 go_enter Tryz.func30, Tryz.ntmps30
 go_upto_region 1 with fail
 rw [show ((w.alloc (slO o i)).alloc (.cells #[.int .i64 ca, .int .i64 cb, .int .i64 cx, .int .u64 cd, .int .i64 ce, .int .i64 cf, .int .i64 cg, .int .i64 ch] 33)) = w1 from HW.out.symm]
 go_upto_region 2 with (go_at_call 20; (with_reducible refine HG.out.mono ?_); rintro e w2 ⟨rfl, hb2⟩; have HB2 := hid hb2; clear hb2)
 obtain ⟨w3, hw3⟩ : ∃ y, y = w2.alloc (.cells #[.int .i64 ta, .int .i64 tb, .int .i64 tx, .int .u64 td, .int .i64 te, .int .i64 tf, .int .i64 tg, .int .i64 th] 33) := ⟨_, rfl⟩
 have hb3 : Below w1.heap.size w1 w3 := hw3 ▸ bal HB2.out _
 have hx3 : w3.heap[w2.heap.size]? = some (.cells (⟨ta, tb, tx, td, te, tf, tg, th⟩ : Cp).L.toArray 33 (0, 0)) := by rw [hw3]; exact heap_alloc_new w2 _
 have HX3 := hid hx3
 have HB3w := hid hb3
 have HC3 := hid ((hb3.block _ HZ1.out).trans HC1.out)
 have HB3 := hid (HB1.out.trans (hb3.mono HB1.out.size))
 rw [← hw3]
 generalize w2.heap.size = xB at *
 clear hw3 hb3 hx3 k0 k1 HG H1 HB1 HC1 HB2
 by_cases hn : cn = 0
 ·subst hn
  obtain ⟨x0, x1, x2, x3, x4, x5, x6, x7⟩ := cap_cells HC3.out
  simp only [] at x0 x1 x2 x3 x4 x5 x6 x7
  have HSM := hid (HT1.out w3 HB3w.out)
  cases sm with
  | false =>
   obtain rfl : N = 5 := by rw [HN.out]; rfl
   go_wp2_with (go_at_call 76; (with_reducible refine HSM.out.mono ?_); rintro e w4 ⟨rfl, hb4⟩; have HB4 := hid (HB3.out.trans (hb4.mono HB3.out.size)); clear hb4)
   go_ret
   exact ⟨rfl, HB4.out⟩
  | true =>
   have ht : ta ≠ 0 := fun e => hno ⟨rfl, rfl, e⟩
   obtain rfl : N = 11 := by rw [HN.out, if_neg (fun e => e rfl), if_neg (by decide), if_pos ht]
   go_wp2_with (go_at_call 76; (with_reducible refine HSM.out.mono ?_); rintro e w4 ⟨rfl, hb4⟩; have HB4 := hid (HB3.out.trans (hb4.mono HB3.out.size)); have hx4 := (hb4.block xB (ags HX3.out).1).trans HX3.out; obtain ⟨t0, -⟩ := cap_cells hx4; simp only [] at t0; clear hb4 hx4)
   go_ret
   exact ⟨rfl, HB4.out⟩
 ·obtain rfl : cn = N := by rw [HN.out, if_pos hn]
  go_wp2
  go_ret
  exact ⟨rfl, HB3.out⟩
end HdS
end
end Go.Proofs.YtchjfeafkmpmbaaGreatDoor
