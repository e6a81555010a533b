import Derived.Test.YtekllgejmgoajaaDoorPkbb
namespace Go.Proofs.YtekllgejmgoajaaDoor
set_option linter.unusedVariables false
set_option linter.unusedSimpArgs false
set_option maxRecDepth 100000
set_option maxHeartbeats 8000000
open Lib (hid)
section
open Go.ChangeShapes Go.WideShapes Go.ChangeAt Go.RowKit Go.Shelf
namespace HpS
open TabS (Cp Sn zC mayC sizS getR getN FootP foot_ltP SameS AddRel addSR setN setM rowsS hasS dropSR dropSL heldA hdsC)
open TabP (Two Pr)
variable {W w w' : World} {s : Sh} {hb rhb n n' : Nat} {L M L' M' : List Sn} {l l2 l' l2' : List Nod} {S : Nat → Prop}
def pairF (cn fn : Int) (ta : Int) : Int := if cn ≠ 0 then cn else if fn ≠ 0 then fn else if ta ≠ 0 then 11 else 0
def pairN (L : List Sn) (o i p j : Int) : Int := pairF (gn L p j) (fullN L o i) (gt L p j).a
def pairC (L : List Sn) (o i p j : Int) : Cp := if pairN L o i p j = 0 then gt L o i else zC
theorem three_boxes (w : World) (o i p j : Int) : Below w.heap.size w (((w.alloc (slO o i)).alloc (slO p j)).alloc (.cells zC.L.toArray 26)) ∧ (((w.alloc (slO o i)).alloc (slO p j)).alloc (.cells zC.L.toArray 26)).heap[w.heap.size]? = some (.cells #[.int .i64 o, .int .i64 i] 23 (0, 0)) ∧ (((w.alloc (slO o i)).alloc (slO p j)).alloc (.cells zC.L.toArray 26)).heap[w.heap.size + 1]? = some (.cells #[.int .i64 p, .int .i64 j] 23 (0, 0)) ∧ (((w.alloc (slO o i)).alloc (slO p j)).alloc (.cells zC.L.toArray 26)).heap[w.heap.size + 2]? = some (.cells zC.L.toArray 26 (0, 0)) := by
 have h1 := heap_alloc_new (w.alloc (slO o i)) (slO p j)
 have h2 := heap_alloc_new ((w.alloc (slO o i)).alloc (slO p j)) (.cells zC.L.toArray 26)
 rw [World.size_alloc] at h1 h2
 rw [World.size_alloc] at h2
 exact ⟨bal (bal (bal (Below.refl _ _) _) _) _, (Below.heap_alloc _ _ _ (by simp; omega)).trans ((Below.heap_alloc _ _ _ (by simp)).trans (heap_alloc_new w _)), (Below.heap_alloc _ _ _ (by simp)).trans h1, h2⟩
theorem hpair (h : Hd W s hb rhb n L M l l2 S w) (o i p j : Int) :
  Calls Tryd.prog 27 #[.pointer (some ⟨hb, 0, none⟩), slV o i, slV p j] w fun e w' => e = .returned (.tuple #[(pairC L o i p j).V, .int .i64 (pairN L o i p j)]) ∧ Below w.heap.size w w' := by
 obtain ⟨hb1, hs1, ht1, hc1⟩ := three_boxes w o i p j
 obtain ⟨w1, hw1⟩ : ∃ y, y = ((w.alloc (slO o i)).alloc (slO p j)).alloc (.cells zC.L.toArray 26) := ⟨_, rfl⟩
 rw [← hw1] at hb1 hs1 ht1 hc1
 have H1 := hid (h.call hb1)
 have HB1 := hid hb1
 have HC1 := hid hc1
 have HS1 := hid hs1
 have HG := hid (hget H1.out p j)
 have HFU := hid (fun (v : World) (hv : Hd W s hb rhb n L M l l2 S v) => hfull hv o i)
 obtain ⟨PC, hpc⟩ : ∃ y, y = pairC L o i p j := ⟨_, rfl⟩
 obtain ⟨N, hN⟩ : ∃ y, y = pairN L o i p j := ⟨_, rfl⟩
 rw [← hpc, ← hN]
 unfold pairC at hpc
 rw [← hN] at hpc
 unfold pairN pairF at hN
 generalize gt L p j = t at *
 generalize gn L p j = cn at *
 generalize gt L o i = c at *
 generalize fullN L o i = fn at *
 obtain ⟨ca, cb, cx, cd, ce, cf, cg, ch⟩ := c
 obtain ⟨ta, tb, tx, td, te, tf, tg, th⟩ := t
 simp only [] at hN
 have HN := hid hN
 have HPC := hid hpc
 obtain ⟨k0, k1⟩ := slot_cells ht1
 have HZ1 := hid (ags hc1).1
 have HW := hid hw1
 clear h hb1 hs1 ht1 hc1 hw1 hN hpc
 go_enter Tryd.func27, Tryd.ntmps27
 go_upto_region 1 with fail
 rw [show (((w.alloc (slO o i)).alloc (slO p j)).alloc (.cells #[.int .i64 0, .int .i64 0, .int .i64 0, .int .u64 0, .int .i64 0, .int .i64 0, .int .i64 0, .int .i64 0] 26)) = w1 from HW.out.symm]
 go_upto_region 2 with (go_at_call 4; (with_reducible refine HG.out.mono ?_); rintro e w2 ⟨rfl, hb2⟩; have HB2 := hid hb2; clear hb2)
 obtain ⟨w3, hw3⟩ : ∃ y, y = w2.alloc (.cells #[.int .i64 ta, .int .i64 tb, .int .i64 tx, .int .u64 td, .int .i64 te, .int .i64 tf, .int .i64 tg, .int .i64 th] 26) := ⟨_, rfl⟩
 have hb3 : Below w1.heap.size w1 w3 := hw3 ▸ bal HB2.out _
 have hx3 : w3.heap[w2.heap.size]? = some (.cells (⟨ta, tb, tx, td, te, tf, tg, th⟩ : Cp).L.toArray 26 (0, 0)) := by rw [hw3]; exact heap_alloc_new w2 _
 have HX3 := hid hx3
 have H3 := hid (H1.out.call hb3)
 have HC3 := hid ((hb3.block _ HZ1.out).trans HC1.out)
 have HZ0 : Hid (w.heap.size < w1.heap.size) := hid (by have := HZ1.out; omega)
 have HS3 := hid ((hb3.block _ HZ0.out).trans HS1.out)
 have HB3 := hid (HB1.out.trans (hb3.mono HB1.out.size))
 rw [← hw3]
 generalize w2.heap.size = xB at *
 clear hw3 hb3 hx3 k0 k1 HG H1 HB1 HC1 HS1 HB2
 by_cases hn : cn = 0
 ·subst hn
  obtain ⟨k0, k1⟩ := slot_cells HS3.out
  have HFC := hid (HFU.out w3 H3.out)
  go_upto_region 5 with (go_at_call 22; (with_reducible refine HFC.out.mono ?_); rintro e w4 ⟨rfl, hb4⟩; have HB4 := hid hb4; clear hb4)
  obtain ⟨w5, hw5⟩ : ∃ y, y = w4.alloc (.cells #[.int .i64 ca, .int .i64 cb, .int .i64 cx, .int .u64 cd, .int .i64 ce, .int .i64 cf, .int .i64 cg, .int .i64 ch] 26) := ⟨_, rfl⟩
  have hb5 : Below w3.heap.size w3 w5 := hw5 ▸ bal HB4.out _
  have hx5 : w5.heap[w4.heap.size]? = some (.cells (⟨ca, cb, cx, cd, ce, cf, cg, ch⟩ : Cp).L.toArray 26 (0, 0)) := by rw [hw5]; exact heap_alloc_new w4 _
  have HC5 := hid ((hb5.block _ (ags HC3.out).1).trans HC3.out)
  have ht5 := (hb5.block _ (ags HX3.out).1).trans HX3.out
  have HB5 := hid (HB3.out.trans (hb5.mono HB3.out.size))
  rw [← hw5]
  generalize w4.heap.size = yB at *
  obtain ⟨t0, -⟩ := cap_cells ht5
  simp only [] at t0
  obtain ⟨x0, x1, x2, x3, x4, x5, x6, x7⟩ := cap_cells hx5
  simp only [] at x0 x1 x2 x3 x4 x5 x6 x7
  clear hw5 hb5 hx5 ht5 k0 k1 HFC HFU HB4 HB3 HC3 HS3 HX3 H3
  by_cases hf : fn = 0
  ·subst hf
   by_cases ht : ta = 0
   ·subst ht
    obtain rfl : N = 0 := by rw [HN.out]; rfl
    have hpc : PC = ⟨ca, cb, cx, cd, ce, cf, cg, ch⟩ := by rw [HPC.out]; exact if_pos rfl
    subst hpc
    have HF := hid (lay8_same ⟨ca, cb, cx, cd, ce, cf, cg, ch⟩ HC5.out)
    have HFB := hid (lay8_below (k := w.heap.size + 2) ⟨ca, cb, cx, cd, ce, cf, cg, ch⟩ HB5.out (by omega))
    obtain ⟨w9, hw9⟩ : ∃ y, y = lay8 w5 (w.heap.size + 2) ⟨ca, cb, cx, cd, ce, cf, cg, ch⟩ := ⟨_, rfl⟩
    rw [← hw9] at HF HFB
    simp only [lay8] at hw9
    have H9 := hid hw9
    clear hw9
    have hq := HC5.out
    have g0 := cap_froz hq 0
    have g1 := cap_froz hq 1
    have g2 := cap_froz hq 2
    have g3 := cap_froz hq 3
    have g4 := cap_froz hq 4
    have g5 := cap_froz hq 5
    have g6 := cap_froz hq 6
    have g7 := cap_froz hq 7
    have hzq := (ags hq).1
    obtain ⟨z0, z1, z2, z3, z4, z5, z6, z7⟩ := cap_cells hq
    clear hq
    go_wp2
    rw [← H9.out]
    obtain ⟨q0, q1, q2, q3, q4, q5, q6, q7⟩ := cap_cells HF.out
    simp only [] at q0 q1 q2 q3 q4 q5 q6 q7
    exact bodyPost_ret (v := .tuple #[.agg #[.int .i64 ca, .int .i64 cb, .int .i64 cx, .int .u64 cd, .int .i64 ce, .int .i64 cf, .int .i64 cg, .int .i64 ch], .int .i64 0]) (by simp [results, Tryd.results27, go_sem, q0, q1, q2, q3, q4, q5, q6, q7]) rfl ⟨rfl, HFB.out⟩
   ·have HNZ : Hid (¬ (11 : Int) = 0) := hid (by decide)
    obtain rfl : N = 11 := by rw [HN.out]; rw [if_neg (fun e => e rfl), if_neg (fun e => e rfl), if_pos ht]
    have hpc : PC = ⟨0, 0, 0, 0, 0, 0, 0, 0⟩ := by rw [HPC.out]; rw [if_neg HNZ.out]; rfl
    subst hpc
    have HF := hid (lay8_same ⟨0, 0, 0, 0, 0, 0, 0, 0⟩ HC5.out)
    have HFB := hid (lay8_below (k := w.heap.size + 2) ⟨0, 0, 0, 0, 0, 0, 0, 0⟩ HB5.out (by omega))
    obtain ⟨w9, hw9⟩ : ∃ y, y = lay8 w5 (w.heap.size + 2) ⟨0, 0, 0, 0, 0, 0, 0, 0⟩ := ⟨_, rfl⟩
    rw [← hw9] at HF HFB
    simp only [lay8] at hw9
    have H9 := hid hw9
    clear hw9
    have hq := HC5.out
    have g0 := cap_froz hq 0
    have g1 := cap_froz hq 1
    have g2 := cap_froz hq 2
    have g3 := cap_froz hq 3
    have g4 := cap_froz hq 4
    have g5 := cap_froz hq 5
    have g6 := cap_froz hq 6
    have g7 := cap_froz hq 7
    have hzq := (ags hq).1
    obtain ⟨z0, z1, z2, z3, z4, z5, z6, z7⟩ := cap_cells hq
    clear hq
    go_wp2
    rw [← H9.out]
    obtain ⟨q0, q1, q2, q3, q4, q5, q6, q7⟩ := cap_cells HF.out
    simp only [] at q0 q1 q2 q3 q4 q5 q6 q7
    exact bodyPost_ret (v := .tuple #[.agg #[.int .i64 0, .int .i64 0, .int .i64 0, .int .u64 0, .int .i64 0, .int .i64 0, .int .i64 0, .int .i64 0], .int .i64 11]) (by simp [results, Tryd.results27, go_sem, q0, q1, q2, q3, q4, q5, q6, q7]) rfl ⟨rfl, HFB.out⟩
  ·have HNZ := hid hf
   obtain rfl : fn = N := Eq.symm <| by rw [HN.out]; rw [if_neg (fun e => e rfl), if_pos hf]
   have hpc : PC = ⟨0, 0, 0, 0, 0, 0, 0, 0⟩ := by rw [HPC.out]; rw [if_neg HNZ.out]; rfl
   subst hpc
   have HF := hid (lay8_same ⟨0, 0, 0, 0, 0, 0, 0, 0⟩ HC5.out)
   have HFB := hid (lay8_below (k := w.heap.size + 2) ⟨0, 0, 0, 0, 0, 0, 0, 0⟩ HB5.out (by omega))
   obtain ⟨w9, hw9⟩ : ∃ y, y = lay8 w5 (w.heap.size + 2) ⟨0, 0, 0, 0, 0, 0, 0, 0⟩ := ⟨_, rfl⟩
   rw [← hw9] at HF HFB
   simp only [lay8] at hw9
   have H9 := hid hw9
   clear hw9
   have hq := HC5.out
   have g0 := cap_froz hq 0
   have g1 := cap_froz hq 1
   have g2 := cap_froz hq 2
   have g3 := cap_froz hq 3
   have g4 := cap_froz hq 4
   have g5 := cap_froz hq 5
   have g6 := cap_froz hq 6
   have g7 := cap_froz hq 7
   have hzq := (ags hq).1
   obtain ⟨z0, z1, z2, z3, z4, z5, z6, z7⟩ := cap_cells hq
   clear hq
   go_wp2
   rw [← H9.out]
   obtain ⟨q0, q1, q2, q3, q4, q5, q6, q7⟩ := cap_cells HF.out
   simp only [] at q0 q1 q2 q3 q4 q5 q6 q7
   exact bodyPost_ret (v := .tuple #[.agg #[.int .i64 0, .int .i64 0, .int .i64 0, .int .u64 0, .int .i64 0, .int .i64 0, .int .i64 0, .int .i64 0], .int .i64 fn]) (by simp [results, Tryd.results27, go_sem, q0, q1, q2, q3, q4, q5, q6, q7]) rfl ⟨rfl, HFB.out⟩
 ·have HNZ := hid hn
  obtain rfl : cn = N := Eq.symm <| by rw [HN.out]; rw [if_pos hn]
  have hpc : PC = ⟨0, 0, 0, 0, 0, 0, 0, 0⟩ := by rw [HPC.out]; rw [if_neg HNZ.out]; rfl
  subst hpc
  have HF := hid (lay8_same ⟨0, 0, 0, 0, 0, 0, 0, 0⟩ HC3.out)
  have HFB := hid (lay8_below (k := w.heap.size + 2) ⟨0, 0, 0, 0, 0, 0, 0, 0⟩ HB3.out (by omega))
  obtain ⟨w9, hw9⟩ : ∃ y, y = lay8 w3 (w.heap.size + 2) ⟨0, 0, 0, 0, 0, 0, 0, 0⟩ := ⟨_, rfl⟩
  rw [← hw9] at HF HFB
  simp only [lay8] at hw9
  have H9 := hid hw9
  clear hw9
  have hq := HC3.out
  have g0 := cap_froz hq 0
  have g1 := cap_froz hq 1
  have g2 := cap_froz hq 2
  have g3 := cap_froz hq 3
  have g4 := cap_froz hq 4
  have g5 := cap_froz hq 5
  have g6 := cap_froz hq 6
  have g7 := cap_froz hq 7
  have hzq := (ags hq).1
  obtain ⟨z0, z1, z2, z3, z4, z5, z6, z7⟩ := cap_cells hq
  clear hq
  go_wp2
  rw [← H9.out]
  obtain ⟨q0, q1, q2, q3, q4, q5, q6, q7⟩ := cap_cells HF.out
  simp only [] at q0 q1 q2 q3 q4 q5 q6 q7
  exact bodyPost_ret (v := .tuple #[.agg #[.int .i64 0, .int .i64 0, .int .i64 0, .int .u64 0, .int .i64 0, .int .i64 0, .int .i64 0, .int .i64 0], .int .i64 cn]) (by simp [results, Tryd.results27, go_sem, q0, q1, q2, q3, q4, q5, q6, q7]) rfl ⟨rfl, HFB.out⟩
def someB (c : Cp) : Bool := mayC c && decide (c.a ≠ 0)
def rootN (L : List Sn) (l : List Nod) (o i : Int) (c : Cp) : Int := if gn L o i ≠ 0 then gn L o i else if someB c = false then 5 else if (gt L o i).a ≠ 0 then 11 else (rootA l o i).2
def rootOn (L : List Sn) (o i : Int) (c : Cp) : Prop := gn L o i = 0 ∧ someB c = true ∧ (gt L o i).a = 0
theorem slot_cap_boxes (w : World) (o i : Int) (c : Cp) : Below w.heap.size w ((w.alloc (slO o i)).alloc (.cells c.L.toArray 26)) ∧ ((w.alloc (slO o i)).alloc (.cells c.L.toArray 26)).heap[w.heap.size]? = some (.cells #[.int .i64 o, .int .i64 i] 23 (0, 0)) ∧ ((w.alloc (slO o i)).alloc (.cells c.L.toArray 26)).heap[w.heap.size + 1]? = some (.cells c.L.toArray 26 (0, 0)) := by
 refine ⟨bal (bal (Below.refl _ _) _) _, (Below.heap_alloc _ _ _ (by simp)).trans (heap_alloc_new w _), ?_⟩
 have := heap_alloc_new (w.alloc (slO o i)) (.cells c.L.toArray 26)
 rwa [World.size_alloc] at this
end HpS
end
section
open Go.ChangeShapes Go.WideShapes Go.ChangeAt Go.RowKit Go.Shelf
namespace HpS
open TabS (Cp Sn zC mayC sizS getR getN FootP foot_ltP SameS AddRel addSR setN setM rowsS hasS dropSR dropSL heldA hdsC)
open TabP (Two Pr)
variable {W w w' : World} {s : Sh} {hb rhb n n' : Nat} {L M L' M' : List Sn} {l l2 l' l2' : List Nod} {S K T : Nat → Prop}
def New (w w' : World) (k : Nat) : Prop := w.heap.size ≤ k ∧ k < w'.heap.size
theorem Bo.fresh (h : BoS W s n L M l l2 K w) (hb : Below w.heap.size w w') : BoS W s n L M l l2 (fun k => K k ∨ New w w' k) w' := by
 obtain ⟨ps, f, u, h⟩ := h
 refine ⟨ps, f, u, h.tr.call hb, (h.pr.fresh hb).mono (fun k q => ?_), fun k q => ?_⟩
 ·rcases q with q | q | q
  ·exact .inl (.inl q)
  ·exact .inl (.inr q)
  ·exact .inr q
 ·rcases q with q | q
  ·exact h.bs k q
  ·exact fun p => by have := h.tr.lt p; have := q.1; omega
theorem Bo.weak (h : BoS W s n L M l l2 K w) (ht : ∀ k, T k → K k) : BoS W s n L M l l2 T w := by
 obtain ⟨ps, f, u, h⟩ := h
 refine ⟨ps, f, u, h.tr, h.pr.mono (fun k q => ?_), fun k q => h.bs k (ht k q)⟩
 rcases q with q | q
 ·exact .inl q
 ·exact .inr (ht k q)
theorem Hd.fresh (h : Hd W s hb rhb n L M l l2 S w) (hB : Below w.heap.size w w') : Hd W s hb rhb n L M l l2 (fun k => S k ∨ New w w' k) w' := by
 have h1 := h.bo.fresh hB
 have h2 := h.call hB
 refine ⟨h1.weak (fun k q => ?_), h2.hd⟩
 rcases q with q | q | q
 ·exact .inl (.inl q)
 ·exact .inl (.inr q)
 ·exact .inr q
theorem Hd.weak (h : Hd W s hb rhb n L M l l2 S w) (ht : ∀ k, T k → S k) : Hd W s hb rhb n L M l l2 T w :=
 ⟨h.bo.weak (fun k q => q.imp id (ht k)), h.hd⟩
theorem Hd.lt (h : Hd W s hb rhb n L M l l2 S w) {k : Nat} (hk : S k) : k < w.heap.size := by
 obtain ⟨ps, f, u, hb⟩ := h.bo
 exact hb.ltK (.inr (.inr hk))
theorem Hd.act {F : FuncId} {args : Array Value} {r : Value} (h : Hd W s hb rhb n L M l l2 S w) (hc : ∀ K, BoS W s n L M l l2 K w → Calls Tryd.prog F args w fun e w' => e = .returned r ∧ BoS W s n' L' M' l' l2' K w' ∧ SameK K w w') :
  Calls Tryd.prog F args w fun e w' => e = .returned r ∧ Hd W s hb rhb n' L' M' l' l2' S w' ∧ SameK S w w' :=
 (hc _ h.bo).mono fun e w' ⟨he, hB, hK⟩ => ⟨he, h.lift hB hK, fun k q => hK k (.inr q)⟩
structure Bx2 (w : World) (hb : Nat) (s : Sh) (o i : Int) (c : Cp) (sB cB : Nat) : Prop where
 h0 : w.cell? ⟨hb, 0, none⟩ = some (.pointer (some ⟨s.sb, 0, none⟩))
 h1 : w.cell? ⟨hb, 1, none⟩ = some (.pointer (some ⟨s.tb, 0, none⟩))
 k0 : w.cell? ⟨sB, 0, none⟩ = some (.int .i64 o)
 k1 : w.cell? ⟨sB, 1, none⟩ = some (.int .i64 i)
 x0 : w.cell? ⟨cB, 0, none⟩ = some (.int .i64 c.a)
 x1 : w.cell? ⟨cB, 1, none⟩ = some (.int .i64 c.b)
 x2 : w.cell? ⟨cB, 2, none⟩ = some (.int .i64 c.c)
 x3 : w.cell? ⟨cB, 3, none⟩ = some (.int .u64 c.d)
 x4 : w.cell? ⟨cB, 4, none⟩ = some (.int .i64 c.e)
 x5 : w.cell? ⟨cB, 5, none⟩ = some (.int .i64 c.f)
 x6 : w.cell? ⟨cB, 6, none⟩ = some (.int .i64 c.g)
 x7 : w.cell? ⟨cB, 7, none⟩ = some (.int .i64 c.h)
theorem Bx2.of {o i : Int} {c : Cp} {sB cB : Nat} (h : Hd W s hb rhb n L M l l2 S w) (hs : w.heap[sB]? = some (.cells #[.int .i64 o, .int .i64 i] 23 (0, 0))) (hc : w.heap[cB]? = some (.cells c.L.toArray 26 (0, 0))) : Bx2 w hb s o i c sB cB :=
 ⟨h.c.1, h.c.2.1, (slot_cells hs).1, (slot_cells hs).2, (cap_cells hc).1, (cap_cells hc).2.1, (cap_cells hc).2.2.1, (cap_cells hc).2.2.2.1, (cap_cells hc).2.2.2.2.1, (cap_cells hc).2.2.2.2.2.1, (cap_cells hc).2.2.2.2.2.2.1, (cap_cells hc).2.2.2.2.2.2.2⟩
end HpS
end
end Go.Proofs.YtekllgejmgoajaaDoor
