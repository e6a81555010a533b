import Derived.Test.YtekllgejmgoajaaDoorPkba
namespace Go.Proofs.YtekllgejmgoajaaDoor
set_option linter.unusedVariables false
set_option linter.unusedSimpArgs false
set_option maxRecDepth 100000
set_option maxHeartbeats 8000000
open Lib (hid)
section
open Go.ChangeShapes Go.WideShapes Go.ChangeAt Go.RowKit Go.Shelf
namespace HpS
open TabS (Cp Sn zC mayC sizS getR getN FootP foot_ltP SameS AddRel addSR setN setM rowsS hasS dropSR dropSL heldA hdsC)
open TabP (Two Pr)
variable {W w w' : World} {s : Sh} {hb rhb n n' : Nat} {L M L' M' : List Sn} {l l2 l' l2' : List Nod} {S : Nat → Prop}
theorem two_boxes (w : World) (o i : Int) : Below w.heap.size w ((w.alloc (slO o i)).alloc (.cells zC.L.toArray 26)) ∧ ((w.alloc (slO o i)).alloc (.cells zC.L.toArray 26)).heap[w.heap.size]? = some (.cells #[.int .i64 o, .int .i64 i] 23 (0, 0)) ∧ ((w.alloc (slO o i)).alloc (.cells zC.L.toArray 26)).heap[w.heap.size + 1]? = some (.cells zC.L.toArray 26 (0, 0)) := by
 refine ⟨bal (bal (Below.refl _ _) _) _, (Below.heap_alloc _ _ _ (by simp)).trans (heap_alloc_new w _), ?_⟩
 have := heap_alloc_new (w.alloc (slO o i)) (.cells zC.L.toArray 26)
 rwa [World.size_alloc] at this
theorem lay8_cell {w : World} {k j i : Nat} (n : Cp) (h : j ≠ k) : (lay8 w k n).cell? ⟨j, i, none⟩ = w.cell? ⟨j, i, none⟩ := by
 refine World.cell?_of_block ?_
 unfold lay8
 iterate 8 rw [Go.heap_setCell_other _ _ _ _ h]
theorem hget (h : Hd W s hb rhb n L M l l2 S w) (o i : Int) :
  Calls Tryd.prog 4 #[.pointer (some ⟨hb, 0, none⟩), slV o i] w fun e w' => e = .returned (.tuple #[(gt L o i).V, .int .i64 (gn L o i)]) ∧ Below w.heap.size w w' := by
 obtain ⟨hb1, hs1, hc1⟩ := two_boxes w o i
 obtain ⟨w1, hw1⟩ : ∃ y, y = (w.alloc (slO o i)).alloc (.cells zC.L.toArray 26) := ⟨_, rfl⟩
 rw [← hw1] at hb1 hs1 hc1
 have H1 := hid (h.call hb1)
 have HB1 := hid hb1
 have HC1 := hid hc1
 have HSL := hid (fun (v : World) (hv : Hd W s hb rhb n L M l l2 S v) => hslots hv)
 have HG : Hid (∀ v, Hd W s hb rhb n L M l l2 S v → Calls Tryd.prog 21 #[.pointer (some ⟨s.sb, 0, none⟩), .agg #[.int .i64 o, .int .i64 i]] v fun e w' => e = .returned (.tuple #[(gt L o i).V, .int .i64 (gn L o i)]) ∧ Below v.heap.size v w') := hid (fun v hv => hv.bo.get o i)
 obtain ⟨k0, k1⟩ := slot_cells hs1
 have HK := hid (And.intro k0 k1)
 generalize gt L o i = c at *
 generalize gn L o i = cn at *
 obtain ⟨ca, cb, cx, cd, ce, cf, cg, ch⟩ := c
 have hz1 := (ags hc1).1
 have HZ1 := hid hz1
 have HW := hid hw1
 have HKd : Hid (w1.drew.cell? ⟨w.heap.size, 0, none⟩ = some (.int .i64 o) ∧ w1.drew.cell? ⟨w.heap.size, 1, none⟩ = some (.int .i64 i)) := hid HK.out
 have HZ0 : Hid (w.heap.size < w1.heap.size) := hid (by omega)
 have H1d := hid (H1.out.call (show Below w1.heap.size w1 w1.drew from (Below.refl _ _).drew))
 clear h hb1 hs1 hc1 hw1 hz1
 go_enter Tryd.func4, Tryd.ntmps4
 go_upto_region 1 with fail
 rw [show ((w.alloc (slO o i)).alloc (.cells #[.int .i64 0, .int .i64 0, .int .i64 0, .int .u64 0, .int .i64 0, .int .i64 0, .int .i64 0, .int .i64 0] 26)) = w1 from HW.out.symm]
 go_region_held3 (fun w' => w'.cell? ⟨w.heap.size, 0, none⟩ = some (.int .i64 o) ∧ w'.cell? ⟨w.heap.size, 1, none⟩ = some (.int .i64 i))
  (first | (with_reducible exact HK.out) | (with_reducible exact HKd.out) | (with_reducible exact K3.out) | (with_reducible exact KL.out))
  (first
   | (go_at_call 19; (with_reducible refine (HSL.out _ H1d.out).mono ?_); rintro e w2 ⟨rfl, rfl⟩)
   | (go_at_call 21; (with_reducible refine (HG.out _ H1d.out).mono ?_); rintro e w3 ⟨rfl, hb3⟩; have HB3 := hid hb3; have hc3 := (hb3.block _ HZ1.out).trans HC1.out; obtain ⟨y0, y1, y2, y3, y4, y5, y6, y7⟩ := cap_cells hc3; have g0 := cap_froz hc3 0; have g1 := cap_froz hc3 1; have g2 := cap_froz hc3 2; have g3 := cap_froz hc3 3; have g4 := cap_froz hc3 4; have g5 := cap_froz hc3 5; have g6 := cap_froz hc3 6; have g7 := cap_froz hc3 7; have hz3 := (ags hc3).1; have HC3 := hid hc3; have K3 := hid (And.intro ((hb3.cell (p := ⟨w.heap.size, 0, none⟩) HZ0.out).trans HK.out.1) ((hb3.cell (p := ⟨w.heap.size, 1, none⟩) HZ0.out).trans HK.out.2)); have kl := (And.intro ((lay8_cell (w := w3) (k := w.heap.size + 1) (i := 0) ⟨ca, cb, cx, cd, ce, cf, cg, ch⟩ (show w.heap.size ≠ w.heap.size + 1 by omega)).trans K3.out.1) ((lay8_cell (w := w3) (k := w.heap.size + 1) (i := 1) ⟨ca, cb, cx, cd, ce, cf, cg, ch⟩ (show w.heap.size ≠ w.heap.size + 1 by omega)).trans K3.out.2)); simp only [lay8] at kl; have KL := hid kl; clear hb3 hc3 kl))
 all_goals
  have HF := hid (lay8_same ⟨ca, cb, cx, cd, ce, cf, cg, ch⟩ HC3.out)
  have HFB := hid (lay8_below (k := w.heap.size + 1) ⟨ca, cb, cx, cd, ce, cf, cg, ch⟩ (HB1.out.trans ((show Below w1.heap.size w1 w3 from ((Below.refl _ _).drew).trans HB3.out).mono HB1.out.size)) (by omega))
  show Exit.then _ _ Exit.normal _ (lay8 w3 (w.heap.size + 1) ⟨ca, cb, cx, cd, ce, cf, cg, ch⟩)
  generalize lay8 w3 (w.heap.size + 1) ⟨ca, cb, cx, cd, ce, cf, cg, ch⟩ = w4 at *
  obtain ⟨x0, x1, x2, x3, x4, x5, x6, x7⟩ := cap_cells HF.out
  simp only [] at x0 x1 x2 x3 x4 x5 x6 x7
  clear y0 y1 y2 y3 y4 y5 y6 y7 g0 g1 g2 g3 g4 g5 g6 g7
  go_wp2
  exact bodyPost_ret (v := .tuple #[.agg #[.int .i64 ca, .int .i64 cb, .int .i64 cx, .int .u64 cd, .int .i64 ce, .int .i64 cf, .int .i64 cg, .int .i64 ch], .int .i64 cn]) (by simp [results, Tryd.results4, go_sem, x0, x1, x2, x3, x4, x5, x6, x7]) rfl ⟨rfl, HFB.out⟩
def fullN (L : List Sn) (o i : Int) : Int := if gn L o i = 0 ∧ (gt L o i).a = 0 then 10 else gn L o i
theorem hfull (h : Hd W s hb rhb n L M l l2 S w) (o i : Int) :
  Calls Tryd.prog 22 #[.pointer (some ⟨hb, 0, none⟩), slV o i] w fun e w' => e = .returned (.tuple #[(gt L o i).V, .int .i64 (fullN L o i)]) ∧ Below w.heap.size w w' := by
 obtain ⟨hb1, hs1, hc1⟩ := two_boxes w o i
 obtain ⟨w1, hw1⟩ : ∃ y, y = (w.alloc (slO o i)).alloc (.cells zC.L.toArray 26) := ⟨_, rfl⟩
 rw [← hw1] at hb1 hs1 hc1
 have H1 := hid (h.call hb1)
 have HB1 := hid hb1
 have HC1 := hid hc1
 have HG := hid (hget H1.out o i)
 obtain ⟨k0, k1⟩ := slot_cells hs1
 unfold fullN
 generalize gt L o i = c at *
 generalize gn L o i = cn at *
 obtain ⟨ca, cb, cx, cd, ce, cf, cg, ch⟩ := c
 obtain ⟨N, hN⟩ : ∃ y : Int, y = (if cn = 0 ∧ (⟨ca, cb, cx, cd, ce, cf, cg, ch⟩ : Cp).a = 0 then 10 else cn) := ⟨_, rfl⟩
 rw [← hN]
 have HN := hid hN
 clear hN
 have HZ1 := hid (ags hc1).1
 have HW := hid hw1
 clear h hb1 hs1 hc1 hw1
 go_enter Tryd.func22, Tryd.ntmps22
 go_upto_region 1 with fail
 rw [show ((w.alloc (slO o i)).alloc (.cells #[.int .i64 0, .int .i64 0, .int .i64 0, .int .u64 0, .int .i64 0, .int .i64 0, .int .i64 0, .int .i64 0] 26)) = w1 from HW.out.symm]
 go_upto_region 2 with (go_at_call 4; (with_reducible refine HG.out.mono ?_); rintro e w2 ⟨rfl, hb2⟩; have HB2 := hid hb2; clear hb2)
 obtain ⟨w3, hw3⟩ : ∃ y, y = w2.alloc (.cells #[.int .i64 ca, .int .i64 cb, .int .i64 cx, .int .u64 cd, .int .i64 ce, .int .i64 cf, .int .i64 cg, .int .i64 ch] 26) := ⟨_, rfl⟩
 have hb3 : Below w1.heap.size w1 w3 := hw3 ▸ bal HB2.out _
 have hx3 : w3.heap[w2.heap.size]? = some (.cells (⟨ca, cb, cx, cd, ce, cf, cg, ch⟩ : Cp).L.toArray 26 (0, 0)) := by rw [hw3]; exact heap_alloc_new w2 _
 have hc3 := (hb3.block _ HZ1.out).trans HC1.out
 have HC3 := hid hc3
 have HFB := hid (lay8_below (k := w.heap.size + 1) ⟨ca, cb, cx, cd, ce, cf, cg, ch⟩ (HB1.out.trans (hb3.mono HB1.out.size)) (by omega))
 rw [← hw3]
 generalize w2.heap.size = xB at *
 obtain ⟨x0, x1, x2, x3, x4, x5, x6, x7⟩ := cap_cells hx3
 simp only [] at x0 x1 x2 x3 x4 x5 x6 x7
 obtain ⟨y0, y1, y2, y3, y4, y5, y6, y7⟩ := cap_cells hc3
 have g0 := cap_froz hc3 0
 have g1 := cap_froz hc3 1
 have g2 := cap_froz hc3 2
 have g3 := cap_froz hc3 3
 have g4 := cap_froz hc3 4
 have g5 := cap_froz hc3 5
 have g6 := cap_froz hc3 6
 have g7 := cap_froz hc3 7
 have hz3 := (ags hc3).1
 have HF := hid (lay8_same ⟨ca, cb, cx, cd, ce, cf, cg, ch⟩ HC3.out)
 obtain ⟨w4, hw4⟩ : ∃ y, y = lay8 w3 (w.heap.size + 1) ⟨ca, cb, cx, cd, ce, cf, cg, ch⟩ := ⟨_, rfl⟩
 rw [← hw4] at HF HFB
 simp only [lay8] at hw4
 have H4 := hid hw4
 clear hw4
 clear hw3 hb3 hx3 hc3 k0 k1 HG H1
 by_cases hn : cn = 0
 ·subst hn
  by_cases h0 : ca = 0
  ·subst h0
   obtain rfl : N = 10 := by rw [HN.out]; rfl
   go_wp2
   rw [← H4.out]
   obtain ⟨q0, q1, q2, q3, q4, q5, q6, q7⟩ := cap_cells HF.out
   simp only [] at q0 q1 q2 q3 q4 q5 q6 q7
   exact bodyPost_ret (v := .tuple #[.agg #[.int .i64 0, .int .i64 cb, .int .i64 cx, .int .u64 cd, .int .i64 ce, .int .i64 cf, .int .i64 cg, .int .i64 ch], .int .i64 10]) (by simp [results, Tryd.results22, go_sem, q0, q1, q2, q3, q4, q5, q6, q7]) rfl ⟨rfl, HFB.out⟩
  ·obtain rfl : N = 0 := by rw [HN.out, if_neg (fun e => h0 e.2)]
   go_wp2
   rw [← H4.out]
   obtain ⟨q0, q1, q2, q3, q4, q5, q6, q7⟩ := cap_cells HF.out
   simp only [] at q0 q1 q2 q3 q4 q5 q6 q7
   exact bodyPost_ret (v := .tuple #[.agg #[.int .i64 ca, .int .i64 cb, .int .i64 cx, .int .u64 cd, .int .i64 ce, .int .i64 cf, .int .i64 cg, .int .i64 ch], .int .i64 0]) (by simp [results, Tryd.results22, go_sem, q0, q1, q2, q3, q4, q5, q6, q7]) rfl ⟨rfl, HFB.out⟩
 ·obtain rfl : N = cn := by rw [HN.out, if_neg (fun e => hn e.1)]
  go_wp2
  rw [← H4.out]
  obtain ⟨q0, q1, q2, q3, q4, q5, q6, q7⟩ := cap_cells HF.out
  simp only [] at q0 q1 q2 q3 q4 q5 q6 q7
  exact bodyPost_ret (v := .tuple #[.agg #[.int .i64 ca, .int .i64 cb, .int .i64 cx, .int .u64 cd, .int .i64 ce, .int .i64 cf, .int .i64 cg, .int .i64 ch], .int .i64 N]) (by simp [results, Tryd.results22, go_sem, q0, q1, q2, q3, q4, q5, q6, q7]) rfl ⟨rfl, HFB.out⟩
end HpS
end
end Go.Proofs.YtekllgejmgoajaaDoor
