import Derived.Test.YtchjfeafkmpmbaaGreatDoorPkbl
namespace Go.Proofs.YtchjfeafkmpmbaaGreatDoor
set_option linter.unusedVariables false
set_option linter.unusedSimpArgs false
set_option maxRecDepth 100000
set_option maxHeartbeats 8000000
open Lib (hid)
section
open Go.ChangeShapes Go.WideShapes Go.ChangeAt Go.RowKit Go.Shelf
namespace HpS
open TabS (Cp Sn zC mayC sizS getR getN FootP foot_ltP SameS AddRel addSR setN setM rowsS hasS dropSR dropSL heldA hdsC)
open TabP (Two Pr)
variable {W w w' : World} {s : Sh} {hb rhb n n' : Nat} {L M L' M' : List Sn} {l l2 l' l2' : List Nod} {S : Nat → Prop}
def fullN (L : List Sn) (o i : Int) : Int := if gn L o i = 0 ∧ (gt L o i).a = 0 then 10 else gn L o i
theorem hfull (h : Hd W s hb rhb n L M l l2 S w) (o i : Int) :
  Calls Tryz.prog 69 #[.pointer (some ⟨hb, 0, none⟩), slV o i] w fun e w' => e = .returned (.tuple #[(gt L o i).V, .int .i64 (fullN L o i)]) ∧ Below w.heap.size w w' := by
 obtain ⟨hb1, hs1, hc1⟩ := two_boxes w o i
 obtain ⟨w1, hw1⟩ : ∃ y, y = (w.alloc (slO o i)).alloc (.cells zC.L.toArray 33) := ⟨_, rfl⟩
 rw [← hw1] at hb1 hs1 hc1
 have H1 := hid (h.call hb1)
 have HB1 := hid hb1
 have HC1 := hid hc1
 have HG := hid (hget H1.out o i)
 obtain ⟨k0, k1⟩ := slot_cells hs1
 unfold fullN
 generalize gt L o i = c at *
 generalize gn L o i = cn at *
 obtain ⟨ca, cb, cx, cd, ce, cf, cg, ch⟩ := c
 obtain ⟨N, hN⟩ : ∃ y : Int, y = (if cn = 0 ∧ (⟨ca, cb, cx, cd, ce, cf, cg, ch⟩ : Cp).a = 0 then 10 else cn) := ⟨_, rfl⟩
 rw [← hN]
 have HN := hid hN
 clear hN
 have HZ1 := hid (ags hc1).1
 have HW := hid hw1
 clear h hb1 hs1 hc1 hw1
 go_enter Tryz.func69, Tryz.ntmps69
 go_upto_region 1 with fail
 rw [show ((w.alloc (slO o i)).alloc (.cells #[.int .i64 0, .int .i64 0, .int .i64 0, .int .u64 0, .int .i64 0, .int .i64 0, .int .i64 0, .int .i64 0] 33)) = w1 from HW.out.symm]
 go_upto_region 2 with (go_at_call 20; (with_reducible refine HG.out.mono ?_); rintro e w2 ⟨rfl, hb2⟩; have HB2 := hid hb2; clear hb2)
 obtain ⟨w3, hw3⟩ : ∃ y, y = w2.alloc (.cells #[.int .i64 ca, .int .i64 cb, .int .i64 cx, .int .u64 cd, .int .i64 ce, .int .i64 cf, .int .i64 cg, .int .i64 ch] 33) := ⟨_, rfl⟩
 have hb3 : Below w1.heap.size w1 w3 := hw3 ▸ bal HB2.out _
 have hx3 : w3.heap[w2.heap.size]? = some (.cells (⟨ca, cb, cx, cd, ce, cf, cg, ch⟩ : Cp).L.toArray 33 (0, 0)) := by rw [hw3]; exact heap_alloc_new w2 _
 have hc3 := (hb3.block _ HZ1.out).trans HC1.out
 have HC3 := hid hc3
 have HFB := hid (lay8_below (k := w.heap.size + 1) ⟨ca, cb, cx, cd, ce, cf, cg, ch⟩ (HB1.out.trans (hb3.mono HB1.out.size)) (by omega))
 rw [← hw3]
 generalize w2.heap.size = xB at *
 obtain ⟨x0, x1, x2, x3, x4, x5, x6, x7⟩ := cap_cells hx3
 simp only [] at x0 x1 x2 x3 x4 x5 x6 x7
 obtain ⟨y0, y1, y2, y3, y4, y5, y6, y7⟩ := cap_cells hc3
 have g0 := cap_froz hc3 0
 have g1 := cap_froz hc3 1
 have g2 := cap_froz hc3 2
 have g3 := cap_froz hc3 3
 have g4 := cap_froz hc3 4
 have g5 := cap_froz hc3 5
 have g6 := cap_froz hc3 6
 have g7 := cap_froz hc3 7
 have hz3 := (ags hc3).1
 have HF := hid (lay8_same ⟨ca, cb, cx, cd, ce, cf, cg, ch⟩ HC3.out)
 obtain ⟨w4, hw4⟩ : ∃ y, y = lay8 w3 (w.heap.size + 1) ⟨ca, cb, cx, cd, ce, cf, cg, ch⟩ := ⟨_, rfl⟩
 rw [← hw4] at HF HFB
 simp only [lay8] at hw4
 have H4 := hid hw4
 clear hw4
 clear hw3 hb3 hx3 hc3 k0 k1 HG H1
 by_cases hn : cn = 0
 ·subst hn
  by_cases h0 : ca = 0
  ·subst h0
   obtain rfl : N = 10 := by rw [HN.out]; rfl
   go_wp2
   rw [← H4.out]
   obtain ⟨q0, q1, q2, q3, q4, q5, q6, q7⟩ := cap_cells HF.out
   simp only [] at q0 q1 q2 q3 q4 q5 q6 q7
   exact bodyPost_ret (v := .tuple #[.agg #[.int .i64 0, .int .i64 cb, .int .i64 cx, .int .u64 cd, .int .i64 ce, .int .i64 cf, .int .i64 cg, .int .i64 ch], .int .i64 10]) (by simp [results, Tryz.results69, go_sem, q0, q1, q2, q3, q4, q5, q6, q7]) rfl ⟨rfl, HFB.out⟩
  ·obtain rfl : N = 0 := by rw [HN.out, if_neg (fun e => h0 e.2)]
   go_wp2
   rw [← H4.out]
   obtain ⟨q0, q1, q2, q3, q4, q5, q6, q7⟩ := cap_cells HF.out
   simp only [] at q0 q1 q2 q3 q4 q5 q6 q7
   exact bodyPost_ret (v := .tuple #[.agg #[.int .i64 ca, .int .i64 cb, .int .i64 cx, .int .u64 cd, .int .i64 ce, .int .i64 cf, .int .i64 cg, .int .i64 ch], .int .i64 0]) (by simp [results, Tryz.results69, go_sem, q0, q1, q2, q3, q4, q5, q6, q7]) rfl ⟨rfl, HFB.out⟩
 ·obtain rfl : N = cn := by rw [HN.out, if_neg (fun e => hn e.1)]
  go_wp2
  rw [← H4.out]
  obtain ⟨q0, q1, q2, q3, q4, q5, q6, q7⟩ := cap_cells HF.out
  simp only [] at q0 q1 q2 q3 q4 q5 q6 q7
  exact bodyPost_ret (v := .tuple #[.agg #[.int .i64 ca, .int .i64 cb, .int .i64 cx, .int .u64 cd, .int .i64 ce, .int .i64 cf, .int .i64 cg, .int .i64 ch], .int .i64 N]) (by simp [results, Tryz.results69, go_sem, q0, q1, q2, q3, q4, q5, q6, q7]) rfl ⟨rfl, HFB.out⟩
def pairF (cn fn : Int) (ta : Int) : Int := if cn ≠ 0 then cn else if fn ≠ 0 then fn else if ta ≠ 0 then 11 else 0
def pairN (L : List Sn) (o i p j : Int) : Int := pairF (gn L p j) (fullN L o i) (gt L p j).a
def pairC (L : List Sn) (o i p j : Int) : Cp := if pairN L o i p j = 0 then gt L o i else zC
theorem three_boxes (w : World) (o i p j : Int) : Below w.heap.size w (((w.alloc (slO o i)).alloc (slO p j)).alloc (.cells zC.L.toArray 33)) ∧ (((w.alloc (slO o i)).alloc (slO p j)).alloc (.cells zC.L.toArray 33)).heap[w.heap.size]? = some (.cells #[.int .i64 o, .int .i64 i] 30 (0, 0)) ∧ (((w.alloc (slO o i)).alloc (slO p j)).alloc (.cells zC.L.toArray 33)).heap[w.heap.size + 1]? = some (.cells #[.int .i64 p, .int .i64 j] 30 (0, 0)) ∧ (((w.alloc (slO o i)).alloc (slO p j)).alloc (.cells zC.L.toArray 33)).heap[w.heap.size + 2]? = some (.cells zC.L.toArray 33 (0, 0)) := by
 have h1 := heap_alloc_new (w.alloc (slO o i)) (slO p j)
 have h2 := heap_alloc_new ((w.alloc (slO o i)).alloc (slO p j)) (.cells zC.L.toArray 33)
 rw [World.size_alloc] at h1 h2
 rw [World.size_alloc] at h2
 exact ⟨bal (bal (bal (Below.refl _ _) _) _) _, (Below.heap_alloc _ _ _ (by simp; omega)).trans ((Below.heap_alloc _ _ _ (by simp)).trans (heap_alloc_new w _)), (Below.heap_alloc _ _ _ (by simp)).trans h1, h2⟩
theorem hpair (h : Hd W s hb rhb n L M l l2 S w) (o i p j : Int) :
  Calls Tryz.prog 68 #[.pointer (some ⟨hb, 0, none⟩), slV o i, slV p j] w fun e w' => e = .returned (.tuple #[(pairC L o i p j).V, .int .i64 (pairN L o i p j)]) ∧ Below w.heap.size w w' := by
 obtain ⟨hb1, hs1, ht1, hc1⟩ := three_boxes w o i p j
 obtain ⟨w1, hw1⟩ : ∃ y, y = ((w.alloc (slO o i)).alloc (slO p j)).alloc (.cells zC.L.toArray 33) := ⟨_, rfl⟩
 rw [← hw1] at hb1 hs1 ht1 hc1
 have H1 := hid (h.call hb1)
 have HB1 := hid hb1
 have HC1 := hid hc1
 have HS1 := hid hs1
 have HG := hid (hget H1.out p j)
 have HFU := hid (fun (v : World) (hv : Hd W s hb rhb n L M l l2 S v) => hfull hv o i)
 obtain ⟨PC, hpc⟩ : ∃ y, y = pairC L o i p j := ⟨_, rfl⟩
 obtain ⟨N, hN⟩ : ∃ y, y = pairN L o i p j := ⟨_, rfl⟩
 rw [← hpc, ← hN]
 unfold pairC at hpc
 rw [← hN] at hpc
 unfold pairN pairF at hN
 generalize gt L p j = t at *
 generalize gn L p j = cn at *
 generalize gt L o i = c at *
 generalize fullN L o i = fn at *
 obtain ⟨ca, cb, cx, cd, ce, cf, cg, ch⟩ := c
 obtain ⟨ta, tb, tx, td, te, tf, tg, th⟩ := t
 simp only [] at hN
 have HN := hid hN
 have HPC := hid hpc
 obtain ⟨k0, k1⟩ := slot_cells ht1
 have HZ1 := hid (ags hc1).1
 have HW := hid hw1
 clear h hb1 hs1 ht1 hc1 hw1 hN hpc
 go_enter Tryz.func68, Tryz.ntmps68
 go_upto_region 1 with fail
 rw [show (((w.alloc (slO o i)).alloc (slO p j)).alloc (.cells #[.int .i64 0, .int .i64 0, .int .i64 0, .int .u64 0, .int .i64 0, .int .i64 0, .int .i64 0, .int .i64 0] 33)) = w1 from HW.out.symm]
 go_upto_region 2 with (go_at_call 20; (with_reducible refine HG.out.mono ?_); rintro e w2 ⟨rfl, hb2⟩; have HB2 := hid hb2; clear hb2)
 obtain ⟨w3, hw3⟩ : ∃ y, y = w2.alloc (.cells #[.int .i64 ta, .int .i64 tb, .int .i64 tx, .int .u64 td, .int .i64 te, .int .i64 tf, .int .i64 tg, .int .i64 th] 33) := ⟨_, rfl⟩
 have hb3 : Below w1.heap.size w1 w3 := hw3 ▸ bal HB2.out _
 have hx3 : w3.heap[w2.heap.size]? = some (.cells (⟨ta, tb, tx, td, te, tf, tg, th⟩ : Cp).L.toArray 33 (0, 0)) := by rw [hw3]; exact heap_alloc_new w2 _
 have HX3 := hid hx3
 have H3 := hid (H1.out.call hb3)
 have HC3 := hid ((hb3.block _ HZ1.out).trans HC1.out)
 have HZ0 : Hid (w.heap.size < w1.heap.size) := hid (by have := HZ1.out; omega)
 have HS3 := hid ((hb3.block _ HZ0.out).trans HS1.out)
 have HB3 := hid (HB1.out.trans (hb3.mono HB1.out.size))
 rw [← hw3]
 generalize w2.heap.size = xB at *
 clear hw3 hb3 hx3 k0 k1 HG H1 HB1 HC1 HS1 HB2
 by_cases hn : cn = 0
 ·subst hn
  obtain ⟨k0, k1⟩ := slot_cells HS3.out
  have HFC := hid (HFU.out w3 H3.out)
  go_upto_region 5 with (go_at_call 69; (with_reducible refine HFC.out.mono ?_); rintro e w4 ⟨rfl, hb4⟩; have HB4 := hid hb4; clear hb4)
  obtain ⟨w5, hw5⟩ : ∃ y, y = w4.alloc (.cells #[.int .i64 ca, .int .i64 cb, .int .i64 cx, .int .u64 cd, .int .i64 ce, .int .i64 cf, .int .i64 cg, .int .i64 ch] 33) := ⟨_, rfl⟩
  have hb5 : Below w3.heap.size w3 w5 := hw5 ▸ bal HB4.out _
  have hx5 : w5.heap[w4.heap.size]? = some (.cells (⟨ca, cb, cx, cd, ce, cf, cg, ch⟩ : Cp).L.toArray 33 (0, 0)) := by rw [hw5]; exact heap_alloc_new w4 _
  have HC5 := hid ((hb5.block _ (ags HC3.out).1).trans HC3.out)
  have ht5 := (hb5.block _ (ags HX3.out).1).trans HX3.out
  have HB5 := hid (HB3.out.trans (hb5.mono HB3.out.size))
  rw [← hw5]
  generalize w4.heap.size = yB at *
  obtain ⟨t0, -⟩ := cap_cells ht5
  simp only [] at t0
  obtain ⟨x0, x1, x2, x3, x4, x5, x6, x7⟩ := cap_cells hx5
  simp only [] at x0 x1 x2 x3 x4 x5 x6 x7
  clear hw5 hb5 hx5 ht5 k0 k1 HFC HFU HB4 HB3 HC3 HS3 HX3 H3
  by_cases hf : fn = 0
  ·subst hf
   by_cases ht : ta = 0
   ·subst ht
    obtain rfl : N = 0 := by rw [HN.out]; rfl
    have hpc : PC = ⟨ca, cb, cx, cd, ce, cf, cg, ch⟩ := by rw [HPC.out]; exact if_pos rfl
    subst hpc
    have HF := hid (lay8_same ⟨ca, cb, cx, cd, ce, cf, cg, ch⟩ HC5.out)
    have HFB := hid (lay8_below (k := w.heap.size + 2) ⟨ca, cb, cx, cd, ce, cf, cg, ch⟩ HB5.out (by omega))
    obtain ⟨w9, hw9⟩ : ∃ y, y = lay8 w5 (w.heap.size + 2) ⟨ca, cb, cx, cd, ce, cf, cg, ch⟩ := ⟨_, rfl⟩
    rw [← hw9] at HF HFB
    simp only [lay8] at hw9
    have H9 := hid hw9
    clear hw9
    have hq := HC5.out
    have g0 := cap_froz hq 0
    have g1 := cap_froz hq 1
    have g2 := cap_froz hq 2
    have g3 := cap_froz hq 3
    have g4 := cap_froz hq 4
    have g5 := cap_froz hq 5
    have g6 := cap_froz hq 6
    have g7 := cap_froz hq 7
    have hzq := (ags hq).1
    obtain ⟨z0, z1, z2, z3, z4, z5, z6, z7⟩ := cap_cells hq
    clear hq
    go_wp2
    rw [← H9.out]
    obtain ⟨q0, q1, q2, q3, q4, q5, q6, q7⟩ := cap_cells HF.out
    simp only [] at q0 q1 q2 q3 q4 q5 q6 q7
    exact bodyPost_ret (v := .tuple #[.agg #[.int .i64 ca, .int .i64 cb, .int .i64 cx, .int .u64 cd, .int .i64 ce, .int .i64 cf, .int .i64 cg, .int .i64 ch], .int .i64 0]) (by simp [results, Tryz.results68, go_sem, q0, q1, q2, q3, q4, q5, q6, q7]) rfl ⟨rfl, HFB.out⟩
   ·have HNZ : Hid (¬ (11 : Int) = 0) := hid (by decide)
    obtain rfl : N = 11 := by rw [HN.out]; rw [if_neg (fun e => e rfl), if_neg (fun e => e rfl), if_pos ht]
    have hpc : PC = ⟨0, 0, 0, 0, 0, 0, 0, 0⟩ := by rw [HPC.out]; rw [if_neg HNZ.out]; rfl
    subst hpc
    have HF := hid (lay8_same ⟨0, 0, 0, 0, 0, 0, 0, 0⟩ HC5.out)
    have HFB := hid (lay8_below (k := w.heap.size + 2) ⟨0, 0, 0, 0, 0, 0, 0, 0⟩ HB5.out (by omega))
    obtain ⟨w9, hw9⟩ : ∃ y, y = lay8 w5 (w.heap.size + 2) ⟨0, 0, 0, 0, 0, 0, 0, 0⟩ := ⟨_, rfl⟩
    rw [← hw9] at HF HFB
    simp only [lay8] at hw9
    have H9 := hid hw9
    clear hw9
    have hq := HC5.out
    have g0 := cap_froz hq 0
    have g1 := cap_froz hq 1
    have g2 := cap_froz hq 2
    have g3 := cap_froz hq 3
    have g4 := cap_froz hq 4
    have g5 := cap_froz hq 5
    have g6 := cap_froz hq 6
    have g7 := cap_froz hq 7
    have hzq := (ags hq).1
    obtain ⟨z0, z1, z2, z3, z4, z5, z6, z7⟩ := cap_cells hq
    clear hq
    go_wp2
    rw [← H9.out]
    obtain ⟨q0, q1, q2, q3, q4, q5, q6, q7⟩ := cap_cells HF.out
    simp only [] at q0 q1 q2 q3 q4 q5 q6 q7
    exact bodyPost_ret (v := .tuple #[.agg #[.int .i64 0, .int .i64 0, .int .i64 0, .int .u64 0, .int .i64 0, .int .i64 0, .int .i64 0, .int .i64 0], .int .i64 11]) (by simp [results, Tryz.results68, go_sem, q0, q1, q2, q3, q4, q5, q6, q7]) rfl ⟨rfl, HFB.out⟩
  ·have HNZ := hid hf
   obtain rfl : fn = N := Eq.symm <| by rw [HN.out]; rw [if_neg (fun e => e rfl), if_pos hf]
   have hpc : PC = ⟨0, 0, 0, 0, 0, 0, 0, 0⟩ := by rw [HPC.out]; rw [if_neg HNZ.out]; rfl
   subst hpc
   have HF := hid (lay8_same ⟨0, 0, 0, 0, 0, 0, 0, 0⟩ HC5.out)
   have HFB := hid (lay8_below (k := w.heap.size + 2) ⟨0, 0, 0, 0, 0, 0, 0, 0⟩ HB5.out (by omega))
   obtain ⟨w9, hw9⟩ : ∃ y, y = lay8 w5 (w.heap.size + 2) ⟨0, 0, 0, 0, 0, 0, 0, 0⟩ := ⟨_, rfl⟩
   rw [← hw9] at HF HFB
   simp only [lay8] at hw9
   have H9 := hid hw9
   clear hw9
   have hq := HC5.out
   have g0 := cap_froz hq 0
   have g1 := cap_froz hq 1
   have g2 := cap_froz hq 2
   have g3 := cap_froz hq 3
   have g4 := cap_froz hq 4
   have g5 := cap_froz hq 5
   have g6 := cap_froz hq 6
   have g7 := cap_froz hq 7
   have hzq := (ags hq).1
   obtain ⟨z0, z1, z2, z3, z4, z5, z6, z7⟩ := cap_cells hq
   clear hq
   go_wp2
   rw [← H9.out]
   obtain ⟨q0, q1, q2, q3, q4, q5, q6, q7⟩ := cap_cells HF.out
   simp only [] at q0 q1 q2 q3 q4 q5 q6 q7
   exact bodyPost_ret (v := .tuple #[.agg #[.int .i64 0, .int .i64 0, .int .i64 0, .int .u64 0, .int .i64 0, .int .i64 0, .int .i64 0, .int .i64 0], .int .i64 fn]) (by simp [results, Tryz.results68, go_sem, q0, q1, q2, q3, q4, q5, q6, q7]) rfl ⟨rfl, HFB.out⟩
 ·have HNZ := hid hn
  obtain rfl : cn = N := Eq.symm <| by rw [HN.out]; rw [if_pos hn]
  have hpc : PC = ⟨0, 0, 0, 0, 0, 0, 0, 0⟩ := by rw [HPC.out]; rw [if_neg HNZ.out]; rfl
  subst hpc
  have HF := hid (lay8_same ⟨0, 0, 0, 0, 0, 0, 0, 0⟩ HC3.out)
  have HFB := hid (lay8_below (k := w.heap.size + 2) ⟨0, 0, 0, 0, 0, 0, 0, 0⟩ HB3.out (by omega))
  obtain ⟨w9, hw9⟩ : ∃ y, y = lay8 w3 (w.heap.size + 2) ⟨0, 0, 0, 0, 0, 0, 0, 0⟩ := ⟨_, rfl⟩
  rw [← hw9] at HF HFB
  simp only [lay8] at hw9
  have H9 := hid hw9
  clear hw9
  have hq := HC3.out
  have g0 := cap_froz hq 0
  have g1 := cap_froz hq 1
  have g2 := cap_froz hq 2
  have g3 := cap_froz hq 3
  have g4 := cap_froz hq 4
  have g5 := cap_froz hq 5
  have g6 := cap_froz hq 6
  have g7 := cap_froz hq 7
  have hzq := (ags hq).1
  obtain ⟨z0, z1, z2, z3, z4, z5, z6, z7⟩ := cap_cells hq
  clear hq
  go_wp2
  rw [← H9.out]
  obtain ⟨q0, q1, q2, q3, q4, q5, q6, q7⟩ := cap_cells HF.out
  simp only [] at q0 q1 q2 q3 q4 q5 q6 q7
  exact bodyPost_ret (v := .tuple #[.agg #[.int .i64 0, .int .i64 0, .int .i64 0, .int .u64 0, .int .i64 0, .int .i64 0, .int .i64 0, .int .i64 0], .int .i64 cn]) (by simp [results, Tryz.results68, go_sem, q0, q1, q2, q3, q4, q5, q6, q7]) rfl ⟨rfl, HFB.out⟩
def someB (c : Cp) : Bool := mayC c && decide (c.a ≠ 0)
def rootN (L : List Sn) (l : List Nod) (o i : Int) (c : Cp) : Int := if gn L o i ≠ 0 then gn L o i else if someB c = false then 5 else if (gt L o i).a ≠ 0 then 11 else (rootA l o i).2
def rootOn (L : List Sn) (o i : Int) (c : Cp) : Prop := gn L o i = 0 ∧ someB c = true ∧ (gt L o i).a = 0
theorem slot_cap_boxes (w : World) (o i : Int) (c : Cp) : Below w.heap.size w ((w.alloc (slO o i)).alloc (.cells c.L.toArray 33)) ∧ ((w.alloc (slO o i)).alloc (.cells c.L.toArray 33)).heap[w.heap.size]? = some (.cells #[.int .i64 o, .int .i64 i] 30 (0, 0)) ∧ ((w.alloc (slO o i)).alloc (.cells c.L.toArray 33)).heap[w.heap.size + 1]? = some (.cells c.L.toArray 33 (0, 0)) := by
 refine ⟨bal (bal (Below.refl _ _) _) _, (Below.heap_alloc _ _ _ (by simp)).trans (heap_alloc_new w _), ?_⟩
 have := heap_alloc_new (w.alloc (slO o i)) (.cells c.L.toArray 33)
 rwa [World.size_alloc] at this
theorem hroot_no (h : Hd W s hb rhb n L M l l2 S w) (hT0 : CX.TabG W) (o i : Int) (c : Cp) (he : c.e ≤ 9223372036854775807) (hno : ¬ rootOn L o i c) :
  Calls Tryz.prog 30 #[.pointer (some ⟨hb, 0, none⟩), slV o i, c.V] w fun e w' => e = .returned (.int .i64 (rootN L l o i c)) ∧ Below w.heap.size w w' := by
 obtain ⟨hb1, hs1, hc1⟩ := slot_cap_boxes w o i c
 obtain ⟨w1, hw1⟩ : ∃ y, y = (w.alloc (slO o i)).alloc (.cells c.L.toArray 33) := ⟨_, rfl⟩
 rw [← hw1] at hb1 hs1 hc1
 have H1 := hid (h.call hb1)
 have HB1 := hid hb1
 have HC1 := hid hc1
 have HG := hid (hget H1.out o i)
 have HT1 := hid (fun (v : World) (hv : Below w1.heap.size w1 v) => hsome v (hT0.call (H1.out.call hv).below) c he)
 have hsb : someB c = (mayC c && decide (c.a ≠ 0)) := rfl
 rw [← hsb] at HT1
 obtain ⟨N, hN⟩ : ∃ y, y = rootN L l o i c := ⟨_, rfl⟩
 rw [← hN]
 unfold rootN at hN
 unfold rootOn at hno
 generalize gt L o i = t at *
 generalize gn L o i = cn at *
 generalize someB c = sm at *
 obtain ⟨ta, tb, tx, td, te, tf, tg, th⟩ := t
 obtain ⟨ca, cb, cx, cd, ce, cf, cg, ch⟩ := c
 simp only [] at hN hno
 have HN := hid hN
 obtain ⟨k0, k1⟩ := slot_cells hs1
 have HZ1 := hid (ags hc1).1
 have HW := hid hw1
 clear h hb1 hs1 hc1 hw1 hN hsb hT0 he
 go_enter Tryz.func30, Tryz.ntmps30
 go_upto_region 1 with fail
 rw [show ((w.alloc (slO o i)).alloc (.cells #[.int .i64 ca, .int .i64 cb, .int .i64 cx, .int .u64 cd, .int .i64 ce, .int .i64 cf, .int .i64 cg, .int .i64 ch] 33)) = w1 from HW.out.symm]
 go_upto_region 2 with (go_at_call 20; (with_reducible refine HG.out.mono ?_); rintro e w2 ⟨rfl, hb2⟩; have HB2 := hid hb2; clear hb2)
 obtain ⟨w3, hw3⟩ : ∃ y, y = w2.alloc (.cells #[.int .i64 ta, .int .i64 tb, .int .i64 tx, .int .u64 td, .int .i64 te, .int .i64 tf, .int .i64 tg, .int .i64 th] 33) := ⟨_, rfl⟩
 have hb3 : Below w1.heap.size w1 w3 := hw3 ▸ bal HB2.out _
 have hx3 : w3.heap[w2.heap.size]? = some (.cells (⟨ta, tb, tx, td, te, tf, tg, th⟩ : Cp).L.toArray 33 (0, 0)) := by rw [hw3]; exact heap_alloc_new w2 _
 have HX3 := hid hx3
 have HB3w := hid hb3
 have HC3 := hid ((hb3.block _ HZ1.out).trans HC1.out)
 have HB3 := hid (HB1.out.trans (hb3.mono HB1.out.size))
 rw [← hw3]
 generalize w2.heap.size = xB at *
 clear hw3 hb3 hx3 k0 k1 HG H1 HB1 HC1 HB2
 by_cases hn : cn = 0
 ·subst hn
  obtain ⟨x0, x1, x2, x3, x4, x5, x6, x7⟩ := cap_cells HC3.out
  simp only [] at x0 x1 x2 x3 x4 x5 x6 x7
  have HSM := hid (HT1.out w3 HB3w.out)
  cases sm with
  | false =>
   obtain rfl : N = 5 := by rw [HN.out]; rfl
   go_wp2_with (go_at_call 76; (with_reducible refine HSM.out.mono ?_); rintro e w4 ⟨rfl, hb4⟩; have HB4 := hid (HB3.out.trans (hb4.mono HB3.out.size)); clear hb4)
   go_ret
   exact ⟨rfl, HB4.out⟩
  | true =>
   have ht : ta ≠ 0 := fun e => hno ⟨rfl, rfl, e⟩
   obtain rfl : N = 11 := by rw [HN.out, if_neg (fun e => e rfl), if_neg (by decide), if_pos ht]
   go_wp2_with (go_at_call 76; (with_reducible refine HSM.out.mono ?_); rintro e w4 ⟨rfl, hb4⟩; have HB4 := hid (HB3.out.trans (hb4.mono HB3.out.size)); have hx4 := (hb4.block xB (ags HX3.out).1).trans HX3.out; obtain ⟨t0, -⟩ := cap_cells hx4; simp only [] at t0; clear hb4 hx4)
   go_ret
   exact ⟨rfl, HB4.out⟩
 ·obtain rfl : cn = N := by rw [HN.out, if_pos hn]
  go_wp2
  go_ret
  exact ⟨rfl, HB3.out⟩
end HpS
end
section
open Go.ChangeShapes Go.WideShapes Go.ChangeAt Go.RowKit Go.Shelf
namespace HpS
open TabS (Cp Sn zC mayC sizS getR getN FootP foot_ltP SameS AddRel addSR setN setM rowsS hasS dropSR dropSL heldA hdsC)
open TabP (Two Pr)
variable {W w w' : World} {s : Sh} {hb rhb n n' : Nat} {L M L' M' : List Sn} {l l2 l' l2' : List Nod} {S K T : Nat → Prop}
def New (w w' : World) (k : Nat) : Prop := w.heap.size ≤ k ∧ k < w'.heap.size
theorem Bo.fresh (h : BoS W s n L M l l2 K w) (hb : Below w.heap.size w w') : BoS W s n L M l l2 (fun k => K k ∨ New w w' k) w' := by
 obtain ⟨ps, f, u, h⟩ := h
 refine ⟨ps, f, u, h.tr.call hb, (h.pr.fresh hb).mono (fun k q => ?_), fun k q => ?_⟩
 ·rcases q with q | q | q
  ·exact .inl (.inl q)
  ·exact .inl (.inr q)
  ·exact .inr q
 ·rcases q with q | q
  ·exact h.bs k q
  ·exact fun p => by have := h.tr.lt p; have := q.1; omega
theorem Bo.weak (h : BoS W s n L M l l2 K w) (ht : ∀ k, T k → K k) : BoS W s n L M l l2 T w := by
 obtain ⟨ps, f, u, h⟩ := h
 refine ⟨ps, f, u, h.tr, h.pr.mono (fun k q => ?_), fun k q => h.bs k (ht k q)⟩
 rcases q with q | q
 ·exact .inl q
 ·exact .inr (ht k q)
theorem Hd.fresh (h : Hd W s hb rhb n L M l l2 S w) (hB : Below w.heap.size w w') : Hd W s hb rhb n L M l l2 (fun k => S k ∨ New w w' k) w' := by
 have h1 := h.bo.fresh hB
 have h2 := h.call hB
 refine ⟨h1.weak (fun k q => ?_), h2.hd⟩
 rcases q with q | q | q
 ·exact .inl (.inl q)
 ·exact .inl (.inr q)
 ·exact .inr q
theorem Hd.weak (h : Hd W s hb rhb n L M l l2 S w) (ht : ∀ k, T k → S k) : Hd W s hb rhb n L M l l2 T w :=
 ⟨h.bo.weak (fun k q => q.imp id (ht k)), h.hd⟩
theorem Hd.lt (h : Hd W s hb rhb n L M l l2 S w) {k : Nat} (hk : S k) : k < w.heap.size := by
 obtain ⟨ps, f, u, hb⟩ := h.bo
 exact hb.ltK (.inr (.inr hk))
theorem Hd.act {F : FuncId} {args : Array Value} {r : Value} (h : Hd W s hb rhb n L M l l2 S w) (hc : ∀ K, BoS W s n L M l l2 K w → Calls Tryz.prog F args w fun e w' => e = .returned r ∧ BoS W s n' L' M' l' l2' K w' ∧ SameK K w w') :
  Calls Tryz.prog F args w fun e w' => e = .returned r ∧ Hd W s hb rhb n' L' M' l' l2' S w' ∧ SameK S w w' :=
 (hc _ h.bo).mono fun e w' ⟨he, hB, hK⟩ => ⟨he, h.lift hB hK, fun k q => hK k (.inr q)⟩
structure Bx2 (w : World) (hb : Nat) (s : Sh) (o i : Int) (c : Cp) (sB cB : Nat) : Prop where
 h0 : w.cell? ⟨hb, 0, none⟩ = some (.pointer (some ⟨s.sb, 0, none⟩))
 h1 : w.cell? ⟨hb, 1, none⟩ = some (.pointer (some ⟨s.tb, 0, none⟩))
 k0 : w.cell? ⟨sB, 0, none⟩ = some (.int .i64 o)
 k1 : w.cell? ⟨sB, 1, none⟩ = some (.int .i64 i)
 x0 : w.cell? ⟨cB, 0, none⟩ = some (.int .i64 c.a)
 x1 : w.cell? ⟨cB, 1, none⟩ = some (.int .i64 c.b)
 x2 : w.cell? ⟨cB, 2, none⟩ = some (.int .i64 c.c)
 x3 : w.cell? ⟨cB, 3, none⟩ = some (.int .u64 c.d)
 x4 : w.cell? ⟨cB, 4, none⟩ = some (.int .i64 c.e)
 x5 : w.cell? ⟨cB, 5, none⟩ = some (.int .i64 c.f)
 x6 : w.cell? ⟨cB, 6, none⟩ = some (.int .i64 c.g)
 x7 : w.cell? ⟨cB, 7, none⟩ = some (.int .i64 c.h)
theorem Bx2.of {o i : Int} {c : Cp} {sB cB : Nat} (h : Hd W s hb rhb n L M l l2 S w) (hs : w.heap[sB]? = some (.cells #[.int .i64 o, .int .i64 i] 30 (0, 0))) (hc : w.heap[cB]? = some (.cells c.L.toArray 33 (0, 0))) : Bx2 w hb s o i c sB cB :=
 ⟨h.c.1, h.c.2.1, (slot_cells hs).1, (slot_cells hs).2, (cap_cells hc).1, (cap_cells hc).2.1, (cap_cells hc).2.2.1, (cap_cells hc).2.2.2.1, (cap_cells hc).2.2.2.2.1, (cap_cells hc).2.2.2.2.2.1, (cap_cells hc).2.2.2.2.2.2.1, (cap_cells hc).2.2.2.2.2.2.2⟩
end HpS
end
section
open Go.ChangeShapes Go.WideShapes Go.ChangeAt Go.RowKit Go.Shelf
namespace HpS
open TabS (Cp Sn zC mayC sizS getR getN FootP foot_ltP SameS AddRel addSR setN setM rowsS hasS dropSR dropSL heldA hdsC)
open TabP (Two Pr)
variable {W w w' : World} {s : Sh} {hb rhb n n' : Nat} {L M L' M' : List Sn} {l l2 l' l2' : List Nod} {S : Nat → Prop}
abbrev Bx2A (w : World) (hb : Nat) (s : Sh) (o i : Int) (c : Cp) (sB cB : Nat) : Prop := w.cell? ⟨hb, 0, none⟩ = some (.pointer (some ⟨s.sb, 0, none⟩)) ∧ w.cell? ⟨sB, 0, none⟩ = some (.int .i64 o) ∧ w.cell? ⟨sB, 1, none⟩ = some (.int .i64 i) ∧ w.cell? ⟨cB, 0, none⟩ = some (.int .i64 c.a) ∧ w.cell? ⟨cB, 1, none⟩ = some (.int .i64 c.b) ∧ w.cell? ⟨cB, 2, none⟩ = some (.int .i64 c.c) ∧ w.cell? ⟨cB, 3, none⟩ = some (.int .u64 c.d) ∧ w.cell? ⟨cB, 4, none⟩ = some (.int .i64 c.e) ∧ w.cell? ⟨cB, 5, none⟩ = some (.int .i64 c.f) ∧ w.cell? ⟨cB, 6, none⟩ = some (.int .i64 c.g) ∧ w.cell? ⟨cB, 7, none⟩ = some (.int .i64 c.h)
theorem Bx2.a {o i : Int} {c : Cp} {sB cB : Nat} (h : Bx2 w hb s o i c sB cB) : Bx2A w hb s o i c sB cB := ⟨h.h0, h.k0, h.k1, h.x0, h.x1, h.x2, h.x3, h.x4, h.x5, h.x6, h.x7⟩
theorem hroot_yes (h : Hd W s hb rhb n L M l l2 S w) (hT0 : CX.TabG W) (o i : Int) (ho : InS o) (hi : InS i) (c : Cp) (he : c.e ≤ 9223372036854775807) (hnn : n < 1000000) (hon : rootOn L o i c) :
  Calls Tryz.prog 30 #[.pointer (some ⟨hb, 0, none⟩), slV o i, c.V] w fun e w' => e = .returned (.int .i64 (rootA l o i).2) ∧ Hd W s hb rhb (n + 1) (setM L o i c) M (rootA l o i).1 l2 S w' ∧ SameK S w w' := by
 obtain ⟨hb1, hs1, hc1⟩ := slot_cap_boxes w o i c
 obtain ⟨w1, hw1⟩ : ∃ y, y = (w.alloc (slO o i)).alloc (.cells c.L.toArray 33) := ⟨_, rfl⟩
 rw [← hw1] at hb1 hs1 hc1
 have H1 := hid (h.call hb1)
 have HB1 := hid hb1
 have HC1 := hid hc1
 have HG := hid (hget H1.out o i)
 have HT1 := hid (fun (v : World) (hv : Below w1.heap.size w1 v) => hsome v (hT0.call (H1.out.call hv).below) c he)
 have hsb : someB c = (mayC c && decide (c.a ≠ 0)) := rfl
 rw [← hsb] at HT1
 have HH := hid h
 have HTW := hid hT0
 have HE := hid he
 have HO := hid (And.intro ho hi)
 unfold rootOn at hon
 obtain ⟨L2, hL2⟩ : ∃ y, y = setM L o i c := ⟨_, rfl⟩
 obtain ⟨RA, hRA⟩ : ∃ y, y = rootA l o i := ⟨_, rfl⟩
 rw [← hL2, ← hRA]
 have HST : Hid (∀ v T, Hd W s hb rhb n L M l l2 T v → Calls Tryz.prog 71 #[.pointer (some ⟨s.sb, 0, none⟩), slV o i, c.V] v fun e w' => e = .returned (.int .i64 (setN L o i c)) ∧ Hd W s hb rhb n L2 M l l2 T w' ∧ SameK T v w') := hid (fun v T hv => by rw [hL2]; exact hv.act (fun K hK => hK.set hT0 o i c he))
 have HRT : Hid (∀ v T, Hd W s hb rhb n L2 M l l2 T v → Calls Tryz.prog 77 #[.pointer (some ⟨s.tb, 0, none⟩), slV o i] v fun e w' => e = .returned (.int .i64 RA.2) ∧ Hd W s hb rhb (n + 1) L2 M RA.1 l2 T w' ∧ SameK T v w') := hid (fun v T hv => by rw [hRA]; exact hv.act (fun K hK => hK.root o i ho hi hnn))
 clear hL2 hRA
 generalize setN L o i c = sn at *
 generalize gt L o i = t at *
 generalize gn L o i = cn at *
 generalize someB c = sm at *
 obtain ⟨ta, tb, tx, td, te, tf, tg, th⟩ := t
 obtain ⟨ca, cb, cx, cd, ce, cf, cg, ch⟩ := c
 simp only [] at hon
 obtain ⟨rfl, rfl, rfl⟩ := hon
 obtain ⟨k0, k1⟩ := slot_cells hs1
 have HZ1 := hid (ags hc1).1
 have HW := hid hw1
 have HS1 := hid hs1
 clear h hb1 hs1 hc1 hw1 hsb hT0 he ho hi hnn
 go_enter Tryz.func30, Tryz.ntmps30
 go_upto_region 1 with fail
 rw [show ((w.alloc (slO o i)).alloc (.cells #[.int .i64 ca, .int .i64 cb, .int .i64 cx, .int .u64 cd, .int .i64 ce, .int .i64 cf, .int .i64 cg, .int .i64 ch] 33)) = w1 from HW.out.symm]
 go_upto_region 2 with (go_at_call 20; (with_reducible refine HG.out.mono ?_); rintro e w2 ⟨rfl, hb2⟩; have HB2 := hid hb2; clear hb2)
 obtain ⟨w3, hw3⟩ : ∃ y, y = w2.alloc (.cells #[.int .i64 0, .int .i64 tb, .int .i64 tx, .int .u64 td, .int .i64 te, .int .i64 tf, .int .i64 tg, .int .i64 th] 33) := ⟨_, rfl⟩
 have hb3 : Below w1.heap.size w1 w3 := hw3 ▸ bal HB2.out _
 have hx3 : w3.heap[w2.heap.size]? = some (.cells (⟨0, tb, tx, td, te, tf, tg, th⟩ : Cp).L.toArray 33 (0, 0)) := by rw [hw3]; exact heap_alloc_new w2 _
 have HX3 := hid hx3
 have HB3w := hid hb3
 have HC3 := hid ((hb3.block _ HZ1.out).trans HC1.out)
 have HB3 := hid (HB1.out.trans (hb3.mono HB1.out.size))
 rw [← hw3]
 generalize w2.heap.size = xB at *
 have HZ0 : Hid (w.heap.size < w1.heap.size) := hid (by have := HZ1.out; omega)
 have HS3 := hid ((hb3.block _ HZ0.out).trans HS1.out)
 clear hw3 hb3 hx3 k0 k1 HG H1 HB1 HC1 HB2 HS1
 obtain ⟨x0, x1, x2, x3, x4, x5, x6, x7⟩ := cap_cells HC3.out
 simp only [] at x0 x1 x2 x3 x4 x5 x6 x7
 have HSM := hid (HT1.out w3 HB3w.out)
 go_upto_region 8 with (go_at_call 76; (with_reducible refine HSM.out.mono ?_); rintro e w4 ⟨rfl, hb4⟩; have HB4 := hid hb4; have hx4 := (hb4.block xB (ags HX3.out).1).trans HX3.out; obtain ⟨t0, -⟩ := cap_cells hx4; simp only [] at t0; clear hb4 hx4)
 have HC4 := hid ((HB4.out.block _ (ags HC3.out).1).trans HC3.out)
 have HS4 := hid ((HB4.out.block _ (ags HS3.out).1).trans HS3.out)
 have HW4 := hid (HB3.out.trans (HB4.out.mono HB3.out.size))
 have HE4 := hid (HH.out.fresh HW4.out)
 have HE4d := hid (HE4.out.call (show Below w4.heap.size w4 w4.drew from (Below.refl _ _).drew))
 have HBX4 := hid (Bx2.of HE4.out HS4.out HC4.out).a
 have HNS : Hid (New w w4 w.heap.size ∧ New w w4 (w.heap.size + 1)) := hid ⟨⟨Nat.le_refl _, (ags HS4.out).1⟩, ⟨by omega, (ags HC4.out).1⟩⟩
 have HSC := hid (HST.out _ _ HE4d.out)
 have HBd : Hid (Bx2A w4.drew hb s o i ⟨ca, cb, cx, cd, ce, cf, cg, ch⟩ w.heap.size (w.heap.size + 1)) := hid HBX4.out
 clear x0 x1 x2 x3 x4 x5 x6 x7 t0 HT1 HSM HX3 HB3w HB3 HC3 HS3 HB4 HST
 go_region_held3 (fun w' => w'.cell? ⟨hb, 0, none⟩ = some (.pointer (some ⟨s.sb, 0, none⟩)) ∧ w'.cell? ⟨w.heap.size, 0, none⟩ = some (.int .i64 o) ∧ w'.cell? ⟨w.heap.size, 1, none⟩ = some (.int .i64 i) ∧ w'.cell? ⟨w.heap.size + 1, 0, none⟩ = some (.int .i64 ca) ∧ w'.cell? ⟨w.heap.size + 1, 1, none⟩ = some (.int .i64 cb) ∧ w'.cell? ⟨w.heap.size + 1, 2, none⟩ = some (.int .i64 cx) ∧ w'.cell? ⟨w.heap.size + 1, 3, none⟩ = some (.int .u64 cd) ∧ w'.cell? ⟨w.heap.size + 1, 4, none⟩ = some (.int .i64 ce) ∧ w'.cell? ⟨w.heap.size + 1, 5, none⟩ = some (.int .i64 cf) ∧ w'.cell? ⟨w.heap.size + 1, 6, none⟩ = some (.int .i64 cg) ∧ w'.cell? ⟨w.heap.size + 1, 7, none⟩ = some (.int .i64 ch))
  (first | (with_reducible exact HBX4.out) | (with_reducible exact HBd.out) | (with_reducible exact HB5.out))
  (first | (go_at_call 71; (with_reducible refine HSC.out.mono ?_); rintro e w5 ⟨rfl, h5, hk5⟩; have H5 := hid h5; have HK5 := hid hk5; have hs5 := (hk5 _ (.inr HNS.out.1)).trans HS4.out; have hc5 := (hk5 _ (.inr HNS.out.2)).trans HC4.out; have HS5 := hid hs5; have HB5 := hid (Bx2.of h5 hs5 hc5).a; have HT5 := hid (Bx2.of h5 hs5 hc5); clear h5 hk5 hs5 hc5))
 have HBX5 : Hid (w5.cell? ⟨hb, 1, none⟩ = some (.pointer (some ⟨s.tb, 0, none⟩)) ∧ w5.cell? ⟨w.heap.size, 0, none⟩ = some (.int .i64 o) ∧ w5.cell? ⟨w.heap.size, 1, none⟩ = some (.int .i64 i)) := hid ⟨HT5.out.h1, HT5.out.k0, HT5.out.k1⟩
 have HBX5d : Hid (w5.drew.cell? ⟨hb, 1, none⟩ = some (.pointer (some ⟨s.tb, 0, none⟩)) ∧ w5.drew.cell? ⟨w.heap.size, 0, none⟩ = some (.int .i64 o) ∧ w5.drew.cell? ⟨w.heap.size, 1, none⟩ = some (.int .i64 i)) := hid HBX5.out
 have H5d := hid (H5.out.call (show Below w5.heap.size w5 w5.drew from (Below.refl _ _).drew))
 have HRC := hid (HRT.out _ _ H5d.out)
 have HS0 : Hid (∀ k, S k → w5.heap[k]? = w.heap[k]?) := hid (fun k q => (HK5.out k (.inl q)).trans (HW4.out.block k (HH.out.lt q)))
 clear HB5 HT5 HSC HRT HBX4 HBd HC4 HS4 HE4 HE4d
 go_upto_region 9 with fail
 go_region_held3 (fun w' => w'.cell? ⟨hb, 1, none⟩ = some (.pointer (some ⟨s.tb, 0, none⟩)) ∧ w'.cell? ⟨w.heap.size, 0, none⟩ = some (.int .i64 o) ∧ w'.cell? ⟨w.heap.size, 1, none⟩ = some (.int .i64 i))
  (first | (with_reducible exact HBX5.out) | (with_reducible exact HBX5d.out) | (with_reducible exact HB6.out))
  (first | (go_at_call 77; (with_reducible refine HRC.out.mono ?_); rintro e w6 ⟨rfl, h6, hk6⟩; have H6 := hid h6; have HK6 := hid hk6; have hs6 := (hk6 _ (.inr HNS.out.1)).trans HS5.out; have HB6 := hid (And.intro h6.c.2.1 (slot_cells hs6)); clear h6 hk6 hs6))
 all_goals
  go_wp2
  go_ret
  exact ⟨rfl, H6.out.weak (fun k q => .inl q), fun k q => (HK6.out k (.inl q)).trans (HS0.out k q)⟩
end HpS
end
end Go.Proofs.YtchjfeafkmpmbaaGreatDoor
