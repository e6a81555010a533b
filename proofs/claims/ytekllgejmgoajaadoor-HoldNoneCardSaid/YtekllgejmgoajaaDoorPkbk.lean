import Derived.Test.YtekllgejmgoajaaDoorPkbj
import Derived.RangeFuncNested
import Derived.Sort.CutIn
namespace Go.Proofs.YtekllgejmgoajaaDoor
set_option linter.unusedVariables false
set_option linter.unusedSimpArgs false
set_option maxRecDepth 100000
set_option maxHeartbeats 8000000
open Lib (hid)
section
open Go.ChangeShapes Go.WideShapes Go.ChangeAt Go.RowKit Go.Shelf
attribute [local go_sem] Oper.semAt_some
namespace HpS
open TabS (Cp Sn zC mayC sizS getR getN FootP foot_ltP SameS AddRel addSR setN setM rowsS hasS dropSR dropSL heldA hdsC)
open TabP (Two Pr)
variable {W w w' : World} {s : Sh} {hb rhb n n' : Nat} {L M L' M' : List Sn} {l l2 l' l2' : List Nod} {S : Nat → Prop}
theorem scope_wide {n : Nat} {P : Program} {c : Code} {Q : Exit → Act → World → Prop} {a : Act} {w : World} (h : c.wpIn Fence.wide n P (Exit.noGoto Q) a w) : (Code.scope c).wpIn Fence.wide n P Q a w :=
 wpIn_wide.2 (wp_scope_straight (wpIn_wide.1 h))
def aliW (w : World) (hb : Nat) (c : Cp) : World := (w.alloc (.cells #[.pointer (some ⟨hb, 0, none⟩)] 29)).alloc (.cells c.L.toArray 26)
theorem halikef (w : World) (hb : Nat) (c : Cp) :
  Calls Tryd.prog 38 #[.pointer (some ⟨hb, 0, none⟩), c.V] w fun e w' => e = .returned (.func (.func 59) #[] #[.pointer (some ⟨w.heap.size, 0, none⟩), .pointer (some ⟨w.heap.size + 1, 0, none⟩)]) ∧ w' = aliW w hb c := by
 obtain ⟨ca, cb, cx, cd, ce, cf, cg, ch⟩ := c
 go_enter Tryd.func38, Tryd.ntmps38
 go_wp2
 go_ret
 first | trivial | exact ⟨rfl, rfl⟩ | rfl
theorem aliW_boxes (w : World) (hb : Nat) (c : Cp) : Below w.heap.size w (aliW w hb c) ∧ (aliW w hb c).heap[w.heap.size]? = some (.cells #[.pointer (some ⟨hb, 0, none⟩)] 29 (0, 0)) ∧ (aliW w hb c).heap[w.heap.size + 1]? = some (.cells c.L.toArray 26 (0, 0)) ∧ (aliW w hb c).heap.size = w.heap.size + 2 := by
 unfold aliW
 refine ⟨bal (bal (Below.refl _ _) _) _, (Below.heap_alloc _ _ _ (by simp)).trans (heap_alloc_new w _), ?_, by simp⟩
 have := heap_alloc_new (w.alloc (.cells #[.pointer (some ⟨hb, 0, none⟩)] 29)) (.cells c.L.toArray 26)
 rwa [World.size_alloc] at this
def onlyB (H : List TabS.Hd) (o i : Int) (c : Cp) : Bool := (List.finRange H.length).all fun x => !likeP c H x.1 || decide ((TabS.hdAt H x.1).n = o ∧ ((TabS.hdAt H x.1).i : Int) = i)
def finB (L : List Sn) (o i : Int) : Bool := decide (fullN L o i = 0) && onlyB (heldA L) o i (gt L o i)
theorem hfinal_no (h : Hd W s hb rhb n L M l l2 S w) (o i : Int) (hno : fullN L o i ≠ 0) :
  Calls Tryd.prog 15 #[.pointer (some ⟨hb, 0, none⟩), slV o i] w fun e w' => e = .returned (.bool false) ∧ Below w.heap.size w w' := by
 have hb1 : Below w.heap.size w (w.alloc (slO o i)) := bal (Below.refl _ _) _
 obtain ⟨w1, hw1⟩ : ∃ y, y = w.alloc (slO o i) := ⟨_, rfl⟩
 have hs1 : w1.heap[w.heap.size]? = some (.cells #[.int .i64 o, .int .i64 i] 23 (0, 0)) := by rw [hw1]; exact heap_alloc_new w _
 rw [← hw1] at hb1
 have HB1 := hid hb1
 have HG := hid (hfull (h.call hb1) o i)
 generalize gt L o i = c at *
 generalize fullN L o i = cn at *
 have HW := hid hw1
 have hcn' : (cn != 0) = true := bne_iff_ne.2 hno
 obtain ⟨k0, k1⟩ := slot_cells hs1
 clear h hb1 hw1 hs1 hno
 obtain ⟨ca, cb, cx, cd, ce, cf, cg, ch⟩ := c
 go_enter Tryd.func15, Tryd.ntmps15
 go_wp2
 go_step3
 go_wp2_with (go_at_call 22; rw [← HW.out]; (with_reducible refine HG.out.mono ?_); rintro e w2 ⟨rfl, hb2⟩; have HB2 := hid hb2; clear hb2)
 (try rw [Exit.noGoto_ret])
 refine bodyPost_ret (v := .bool false) (by simp [results, Tryd.results15, go_sem]) rfl ?_
 exact ⟨rfl, bal (HB1.out.trans (HB2.out.mono HB1.out.size)) _⟩
structure OneT (b : Nat) (u v : World) : Prop where
 os : v.os = u.os
 tape : v.tape = u.tape
 output : v.output = u.output
 size : u.heap.size ≤ v.heap.size
 block : ∀ k, k < u.heap.size → k ≠ b → v.heap[k]? = u.heap[k]?
theorem OneT.refl (b : Nat) (w : World) : OneT b w w := ⟨rfl, rfl, rfl, Nat.le_refl _, fun _ _ _ => rfl⟩
theorem OneT.trans {b : Nat} {u v x : World} (h : OneT b u v) (k : OneT b v x) : OneT b u x := ⟨k.os.trans h.os, k.tape.trans h.tape, k.output.trans h.output, Nat.le_trans h.size k.size, fun i hi h1 => (k.block i (Nat.lt_of_lt_of_le hi h.size) h1).trans (h.block i hi h1)⟩
theorem OneT.of_below {b : Nat} {u v : World} (h : Below u.heap.size u v) : OneT b u v := ⟨h.os, h.tape, h.output, h.size, fun k hk _ => h.block k hk⟩
theorem OneT.set {b : Nat} {u v : World} (h : OneT b u v) (j : Nat) (x : Value) : OneT b u (v.setCell ⟨b, j, none⟩ x) :=
 ⟨h.os, h.tape, h.output, by simpa using h.size, fun k hk h1 => (Go.heap_setCell_other _ _ _ _ (by simpa using h1)).trans (h.block k hk h1)⟩
theorem OneT.grown {b : Nat} {u v x : World} {row : Option Nat} (h : OneT b u v) (hg : v.grownBy x row) (hr : ∀ r, row = some r → u.heap.size ≤ r) : OneT b u x :=
 ⟨hg.os.trans h.os, hg.tape.trans h.tape, hg.output.trans h.output, Nat.le_trans h.size hg.size, fun k hk h1 => (hg.block k (Nat.lt_of_lt_of_le hk h.size) (fun e => by have := hr k e.symm; omega)).trans (h.block k hk h1)⟩
theorem OneT.below {b D : Nat} {u v : World} (h : OneT b u v) (hD : D ≤ b) (hs : D ≤ u.heap.size) : Below D u v := ⟨h.os, h.tape, h.output, h.size, fun k hk => h.block k (by omega) (by omega)⟩
theorem OneT.keeps {b B : Nat} {u v : World} (h : OneT b u v) (hB : b < B) : KeepsFrom B u v := ⟨h.size, fun k o hk ho _ => (h.block k (ags ho).1 (by omega)).trans ho⟩
theorem OneT.kpu {b B0 N p q : Nat} {u v : World} (h : OneT b u v) (h0 : B0 ≤ b) (hN : b < N) (hB : B0 ≤ u.heap.size) (hp : p < u.heap.size) (hq : q < u.heap.size) (ep : p ≠ b) (eq : q ≠ b) : KpU B0 N p q u v :=
 ⟨h.os, h.tape, h.output, h.size, fun k hk => h.block k (by omega) (by omega), h.block p hp ep, h.block q hq eq, fun k j x hk hx => (World.cell?_of_block (a := ⟨k, j, none⟩) (h.block k (World.block_lt_of_cell? u _ hx) (by omega))).trans hx⟩
abbrev BoolAt (W : World) (b : Nat) (t : Bool) : Prop := W.heap[b]? = some (.cells #[.bool t] 4 (0, 0))
def oneS (H : List TabS.Hd) (o i : Int) (k : Nat) : Prop := (TabS.hdAt H k).n = o ∧ ((TabS.hdAt H k).i : Int) = i
structure FinI (wA : World) (b : Nat) (H : List TabS.Hd) (o i : Int) (pre : List (Fin H.length)) (W : World) : Prop where
 bx : BoolAt W b true
 all : ∀ x ∈ pre, oneS H o i x.1
 but : OneT b wA W
structure FinX (wA : World) (b : Nat) (H : List TabS.Hd) (o i : Int) (c : Code) (pre : List (Fin H.length)) (W : World) : Prop where
 c : c = .exit 0
 bx : BoolAt W b false
 no : ∃ x ∈ pre, ¬ oneS H o i x.1
 but : OneT b wA W
theorem grown_blk {A C : World} {row : Option Nat} {b B : Nat} (hg : A.grownBy C row) (hr : ∀ r, row = some r → B ≤ r ∧ ∃ o : Obj, A.heap[r]? = some o ∧ o.isCells = false) (hb : b < A.heap.size) (hB : b < B) : C.heap[b]? = A.heap[b]? :=
 hg.block b hb (fun e => by have := (hr b e.symm).1; omega)
theorem FinI.from {wA : World} {b : Nat} {H : List TabS.Hd} {o i : Int} (hb : b < wA.heap.size) : OwnFrom wA.heap.size (FinI wA b H o i) := by
 intro s A C row h hg hr
 exact ⟨(grown_blk hg hr (Nat.lt_of_lt_of_le hb h.but.size) hb).trans h.bx, h.all, h.but.grown hg (fun r e => (hr r e).1)⟩
theorem FinX.from {wA : World} {b : Nat} {H : List TabS.Hd} {o i : Int} (hb : b < wA.heap.size) (c : Code) : OwnFrom wA.heap.size (FinX wA b H o i c) := by
 intro s A C row h hg hr
 exact ⟨h.c, (grown_blk hg hr (Nat.lt_of_lt_of_le hb h.but.size) hb).trans h.bx, h.no, h.but.grown hg (fun r e => (hr r e).1)⟩
theorem put_ne {W : World} {l k : Nat} {o : Obj} (h : k ≠ l) : (W.putObj l o).heap[k]? = W.heap[k]? := by
 simp [World.putObj, Array.getElem?_setIfInBounds, h.symm]
theorem kpu_put {B0 N p q l : Nat} {W : World} {o o' : Obj} (hl : N ≤ l) (h0 : B0 ≤ l) (hp : p ≠ l) (hq : q ≠ l) (ho : W.heap[l]? = some o) (hc : o.isCells = false) : KpU B0 N p q W (W.putObj l o') := by
 refine ⟨rfl, rfl, rfl, by simp, fun k hk => put_ne (by omega), put_ne hp, put_ne hq, fun k j v hk hv => ?_⟩
 by_cases e : k = l
 ·subst e
  cases o <;> simp_all [World.cell?, Obj.isCells]
 ·exact (World.cell?_of_block (a := ⟨k, j, none⟩) (put_ne e)).trans hv
theorem bool_set {W : World} {b : Nat} {x : Bool} (y : Bool) (h : BoolAt W b x) : BoolAt (W.setCell ⟨b, 0, none⟩ (.bool y)) b y := by
 have := Go.heap_setCell_same W b 0 _ _ (.bool y) h
 exact this
theorem hfinal_in {W0 : World} (h : Hd W0 s hb rhb n L M l l2 S w) (hT0 : CX.TabG W0) (o i : Int) (hon : fullN L o i = 0) (hg : (gt L o i).e ≤ 9223372036854775807) (hHe : ∀ k, (TabS.hdAt (heldA L) k).c.e ≤ 9223372036854775807) (hl : L.length < 1000000) (hn : (heldA L).length < 1000000) :
  CallsIn Fence.wide 3 Tryd.prog 15 #[.pointer (some ⟨hb, 0, none⟩), slV o i] w fun e w' => e = .returned (.bool (onlyB (heldA L) o i (gt L o i))) ∧ Below w.heap.size w w' := by
 have hb1 : Below w.heap.size w (w.alloc (slO o i)) := bal (Below.refl _ _) _
 obtain ⟨w1, hw1⟩ : ∃ y, y = w.alloc (slO o i) := ⟨_, rfl⟩
 have hs1 : w1.heap[w.heap.size]? = some (.cells #[.int .i64 o, .int .i64 i] 23 (0, 0)) := by rw [hw1]; exact heap_alloc_new w _
 rw [← hw1] at hb1
 have H1 := hid (h.call hb1)
 have HB1 := hid hb1
 have HS1 := hid hs1
 have HG := hid (hfull H1.out o i)
 rw [hon] at HG
 have HSEQ := hid (fun (p q : Nat) (w0 : World) (h : Hd W0 s hb rhb n L M l l2 S w0) hp hq => alike1_seq (W := W0) 1 p q (gt L o i) w0 h hT0 hp hq hg hHe hl hn)
 obtain ⟨fb, hfb⟩ : ∃ y, y = onlyB (heldA L) o i (gt L o i) := ⟨_, rfl⟩
 rw [← hfb]
 generalize gt L o i = c at *
 generalize heldA L = H at *
 have HFB := hid hfb
 have HW := hid hw1
 have HWH := hid (show W0.heap.size ≤ w.heap.size from h.below.size)
 obtain ⟨k0, k1⟩ := slot_cells hs1
 clear h hb1 hw1 hs1 hT0 hg hHe hl hn hfb hon
 obtain ⟨ca, cb, cx, cd, ce, cf, cg, ch⟩ := c
 refine callsIn_of_wp_marks Tryd.func15 rfl trivial ?_ rfl
 simp only [Tryd.ntmps15, List.size_toArray, List.length_cons, List.length_nil, Nat.reduceAdd, Nat.reduceSub, Array.replicate_succ, Array.replicate_zero, List.push_toArray, List.append_toArray, List.nil_append, List.cons_append]
 gi_wp2
 refine scope_wide ?_
 gi_wp2_with fail
 refine ⟨trivial, ?_⟩
 gi_at_call 22
 rw [← HW.out]
 refine (callsIn_wide.2 HG.out).mono ?_
 rintro e w2 ⟨rfl, hb2⟩
 have HB2 := hid hb2
 clear hb2 k0 k1
 gi_wp2_with fail
 obtain ⟨w4, hw4⟩ : ∃ y, y = (w2.alloc (.cells #[.int .i64 ca, .int .i64 cb, .int .i64 cx, .int .u64 cd, .int .i64 ce, .int .i64 cf, .int .i64 cg, .int .i64 ch] 26)).alloc (.cells #[.bool true] 4) := ⟨_, rfl⟩
 have hb4 : Below w1.heap.size w1 w4 := hw4 ▸ bal (bal HB2.out _) _
 have hsz4 : w4.heap.size = w2.heap.size + 2 := by rw [hw4]; simp
 have hc4 : w4.heap[w2.heap.size]? = some (.cells (⟨ca, cb, cx, cd, ce, cf, cg, ch⟩ : Cp).L.toArray 26 (0, 0)) := by rw [hw4]; exact (Below.heap_alloc _ _ _ (by simp)).trans (heap_alloc_new w2 _)
 have hf4 : w4.heap[w2.heap.size + 1]? = some (.cells #[.bool true] 4 (0, 0)) := by
  have := heap_alloc_new (w2.alloc (.cells #[.int .i64 ca, .int .i64 cb, .int .i64 cx, .int .u64 cd, .int .i64 ce, .int .i64 cf, .int .i64 cg, .int .i64 ch] 26)) (.cells #[.bool true] 4)
  rw [World.size_alloc] at this
  rw [hw4]
  exact this
 have hs4 := (hb4.block _ (ags HS1.out).1).trans HS1.out
 rw [← hw4]
 have HB4 := hid (HB1.out.trans (hb4.mono HB1.out.size))
 have H4 := hid (H1.out.call hb4)
 have HC4 := hid hc4
 have HF4 := hid hf4
 have HS4 := hid hs4
 have HZ4 := hid (show w1.heap.size ≤ w2.heap.size from HB2.out.size)
 obtain ⟨x0, x1, x2, x3, x4, x5, x6, x7⟩ := cap_cells hc4
 simp only [] at x0 x1 x2 x3 x4 x5 x6 x7
 obtain ⟨N2, hN2⟩ : ∃ y, y = w2.heap.size := ⟨_, rfl⟩
 rw [← hN2] at hsz4 HC4 HF4 HZ4 x0 x1 x2 x3 x4 x5 x6 x7
 rw [← hN2]
 clear hw4 hb4 hc4 hf4 hs4 HB2 hN2
 refine wpIn_label ?_
 gi_wp2_with (refine ⟨trivial, ?_⟩; (gi_at_call 38; refine (callsIn_wide.2 (halikef w4 hb ⟨ca, cb, cx, cd, ce, cf, cg, ch⟩)).mono ?_; rintro e w5 ⟨rfl, rfl⟩))
 obtain ⟨bA, pA, qA, sA⟩ := aliW_boxes w4 hb ⟨ca, cb, cx, cd, ce, cf, cg, ch⟩
 obtain ⟨wA, hwA⟩ : ∃ y, y = aliW w4 hb ⟨ca, cb, cx, cd, ce, cf, cg, ch⟩ := ⟨_, rfl⟩
 rw [← hwA] at bA pA qA sA
 rw [← hwA]
 rw [hsz4] at pA qA sA
 have HA := hid (H4.out.call bA)
 have FA : BoolAt wA (N2 + 1) true := (bA.block _ (by omega)).trans HF4.out
 have SA : wA.heap[w.heap.size]? = some (.cells #[.int .i64 o, .int .i64 i] 23 (0, 0)) := (bA.block _ (ags HS4.out).1).trans HS4.out
 have HSA := hid SA
 have hzw : w.heap.size < N2 := by have := (ags HS1.out).1; have := HZ4.out; omega
 have HBA := hid (HB4.out.trans (bA.mono HB4.out.size))
 have hWN : W0.heap.size ≤ N2 := by have := HWH.out; omega
 have HSQ := hid (HSEQ.out (N2 + 2) (N2 + 2 + 1) wA HA.out pA qA)
 clear hwA x0 x1 x2 x3 x4 x5 x6 x7 bA pA qA SA HSEQ hsz4
 refine wpIn_rangeFunc_ownH (α := Fin H.length) rfl (by decide) (gf := 59) (lb := #[.pointer (some ⟨N2 + 2, 0, none⟩), .pointer (some ⟨N2 + 2 + 1, 0, none⟩)]) rfl trivial (enters_of Tryd.func59 (by kernel_rfl) rfl)
  (encs := fun x : Fin H.length => #[slV (TabS.hdAt H x.1).n (TabS.hdAt H x.1).i]) (Kp := KpU W0.heap.size wA.heap.size (N2 + 2) (N2 + 2 + 1)) (S := fun xs => ∀ x, x ∈ xs ↔ likeP ⟨ca, cb, cx, cd, ce, cf, cg, ch⟩ H x.1 = true) (Sp := fun pre => ∀ x ∈ pre, likeP ⟨ca, cb, cx, cd, ce, cf, cg, ch⟩ H x.1 = true) (N := H.length) (w0 := wA) HSQ.out
  (fun h k => h.trans k) ?hKb (Below.refl _ _) (fun _ => rfl) (FinI wA (N2 + 1) H o i) (FinX wA (N2 + 1) H o i) (FinI.from (by omega)) (fun c => FinX.from (by omega) c) ⟨FA, (fun _ h => absurd h List.not_mem_nil), OneT.refl _ _⟩
  (fun x a' W => ∃ d, a' = { tmps := #[.pointer (some ⟨hb, 0, none⟩), slV o i, undef, .pointer (some ⟨w.heap.size, 0, none⟩), .bool false, .pointer (some ⟨N2, 0, none⟩), .int .i64 0, .pointer (some ⟨N2 + 1, 0, none⟩), .pointer (some ⟨d, 0, none⟩), .tuple #[(⟨ca, cb, cx, cd, ce, cf, cg, ch⟩ : Cp).V, .int .i64 0], .pointer (some ⟨hb, 0, none⟩), .agg #[.int .i64 o, .int .i64 i], .tuple #[(⟨ca, cb, cx, cd, ce, cf, cg, ch⟩ : Cp).V, .int .i64 0], (⟨ca, cb, cx, cd, ce, cf, cg, ch⟩ : Cp).V, .int .i64 0, .int .i64 0, .bool false, .pointer (some ⟨hb, 0, none⟩), .agg #[.int .i64 ca, .int .i64 cb, .int .i64 cx, .int .u64 cd, .int .i64 ce, .int .i64 cf, .int .i64 cg, .int .i64 ch], .func (.func 59) #[] #[.pointer (some ⟨N2 + 2, 0, none⟩), .pointer (some ⟨N2 + 2 + 1, 0, none⟩)], slV (TabS.hdAt H x.1).n (TabS.hdAt H x.1).i, undef, undef, undef, undef], defers := [] } ∧ W.heap[d]? = some (.cells #[.int .i64 (TabS.hdAt H x.1).n, .int .i64 (TabS.hdAt H x.1).i] 23 (0, 0)) ∧ N2 + 4 ≤ d) ?hAx
  ?hassign ?hbody ?hdone ?hstop
 case hKb =>
  intro W l o o' hl ho hc _
  exact kpu_put (by omega) (by omega) (by omega) (by omega) ho hc
 case hAx =>
  rintro x a' _ A C row ⟨d, h1, h2, h3⟩ hg hr
  refine ⟨d, h1, (hg.block d (ags h2).1 (fun e => ?_)).trans h2, h3⟩
  obtain ⟨-, o, ho, hc⟩ := hr d e.symm
  rw [show A.heap[d]? = _ from h2] at ho
  cases ho
  cases hc
 case hassign =>
  intro l pre x W K hI hK
  gi_wp2
  have tw : OneT (N2 + 1) W (W.alloc (.cells #[.int .i64 (TabS.hdAt H x.1).n, .int .i64 (TabS.hdAt H x.1).i] 23)) := OneT.of_below (bal (Below.refl _ _) _)
  have hz := hI.but.size
  exact hK _ _ (tw.keeps (by omega)) (tw.kpu (by omega) (by omega) (by omega) (by omega) (by omega) (by omega) (by omega)) ⟨(Below.heap_alloc _ _ _ (by omega)).trans hI.bx, hI.all, hI.but.trans tw⟩ ⟨W.heap.size, rfl, World.alloc_heap_new _ _, by omega⟩
 case hbody =>
  rintro l pre x a' W hl hr hI ⟨d, rfl, hd, hd4⟩ hlen
  have hz := hI.but.size
  have hs := (hI.but.block w.heap.size (by omega) (by omega)).trans HSA.out
  obtain ⟨k0, k1⟩ := slot_cells hs
  obtain ⟨e0, e1⟩ := slot_cells hd
  have f0 : W.cell? ⟨N2 + 1, 0, none⟩ = some (.bool true) := cell_cur (cur := [.bool true]) hI.bx 0
  have g0 := cap_froz hI.bx 0
  have hdl : d < W.heap.size := (ags hd).1
  have hq := TabS.eqSl (TabS.hdAt H x.1).n (TabS.hdAt H x.1).i o i
  have HI := hid hI
  have HO : Hid (oneS H o i x.1 ↔ ((TabS.hdAt H x.1).n = o ∧ ((TabS.hdAt H x.1).i : Int) = i)) := hid Iff.rfl
  have hall : oneS H o i x.1 → ∀ y ∈ pre ++ [x], oneS H o i y.1 := fun h y hy => by
   rcases List.mem_append.1 hy with hy | hy
   ·exact HI.out.all y hy
   ·rw [List.mem_singleton] at hy
    rw [hy]; exact h
  have HALL := hid hall
  have HKP : Hid (∀ V, OneT (N2 + 1) W V → KeepsFrom wA.heap.size W V ∧ KpU W0.heap.size wA.heap.size (N2 + 2) (N2 + 2 + 1) W V) := hid (fun V h => ⟨h.keeps (by omega), h.kpu (by omega) (by omega) (by omega) (by omega) (by omega) (by omega) (by omega)⟩)
  clear hI hs hd hall
  generalize (TabS.hdAt H x.1).n = xn at *
  generalize ((TabS.hdAt H x.1).i : Int) = xi at *
  by_cases h1 : xn = o ∧ xi = i
  ·have hb : (xn == o && xi == i) = true := by simp [h1]
   have hon := HO.out.2 h1
   have HON := hid hon
   clear h1 hon
   gi_wp2
   exact ⟨(HKP.out _ (OneT.refl _ _)).1, (HKP.out _ (OneT.refl _ _)).2, HI.out.bx, HALL.out HON.out, HI.out.but⟩
  ·have hb : (xn == o && xi == i) = false := by
    rcases Decidable.not_and_iff_or_not.1 h1 with q | q
    ·simp [q]
    ·simp [q]
   have HON := hid (fun h => h1 (HO.out.1 h))
   clear h1
   gi_wp2
   have tw := (OneT.refl (N2 + 1) W).set 0 (.bool false)
   exact ⟨(HKP.out _ tw).1, rfl, bool_set false HI.out.bx, ⟨x, List.mem_append_right _ List.mem_cons_self, HON.out⟩, HI.out.but.trans tw⟩
 case hdone =>
  rintro D xs W hD hS hI hK
  have hz := hI.but.size
  have f0 : W.cell? ⟨N2 + 1, 0, none⟩ = some (.bool true) := cell_cur (cur := [.bool true]) hI.bx 0
  have hfb : fb = true := by
   rw [HFB.out]
   unfold onlyB
   rw [List.all_eq_true]
   intro x _
   cases hx : likeP ⟨ca, cb, cx, cd, ce, cf, cg, ch⟩ H x.1 with
   | false => rfl
   | true => simpa [oneS] using hI.all x ((hS x).2 hx)
  have HBW := hid (HBA.out.trans (hI.but.below (by omega) (by omega)))
  have HFT := hid hfb
  clear hI hS hfb
  gi_wp2
  rw [Exit.noGoto_ret]
  refine ⟨by simp, .inl ⟨_, _, rfl, run_takeDeferred hK, ?_⟩⟩
  exact ⟨_, results_tmp rfl _ _ _, (by rw [HFT.out]; rfl), ⟨HBW.out.os, HBW.out.tape, HBW.out.output, by simpa using HBW.out.size, fun k hk => (put_ne (by omega)).trans (HBW.out.block k hk)⟩⟩
 case hstop =>
  rintro D c pre W hD hSp hX hK
  have hz := hX.but.size
  have f0 : W.cell? ⟨N2 + 1, 0, none⟩ = some (.bool false) := cell_cur (cur := [.bool false]) hX.bx 0
  have hfb : fb = false := by
   rw [HFB.out]
   unfold onlyB
   rw [List.all_eq_false]
   obtain ⟨x, hx, hno⟩ := hX.no
   refine ⟨x, List.mem_finRange x, ?_⟩
   rw [hSp x hx]
   simpa [oneS] using hno
  have HBW := hid (HBA.out.trans (hX.but.below (by omega) (by omega)))
  have HFT := hid hfb
  obtain rfl := hX.c
  clear hX hSp hfb
  gi_wp2
  rw [Exit.noGoto_ret]
  refine ⟨by simp, .inl ⟨_, _, rfl, run_takeDeferred hK, ?_⟩⟩
  exact ⟨_, results_tmp rfl _ _ _, (by rw [HFT.out]; rfl), ⟨HBW.out.os, HBW.out.tape, HBW.out.output, by simpa using HBW.out.size, fun k hk => (put_ne (by omega)).trans (HBW.out.block k hk)⟩⟩
end HpS
end
end Go.Proofs.YtekllgejmgoajaaDoor
