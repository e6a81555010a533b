import Derived.Test.YtekllgejmgoajaaDoorPkbi
namespace Go.Proofs.YtekllgejmgoajaaDoor
set_option linter.unusedVariables false
set_option linter.unusedSimpArgs false
set_option maxRecDepth 100000
set_option maxHeartbeats 8000000
open Lib (hid)
section
open Go.ChangeShapes Go.WideShapes Go.ChangeAt Go.RowKit Go.Shelf
attribute [local go_sem] Oper.semAt_some
namespace HpS
open TabS (Cp Sn zC mayC sizS getR getN FootP foot_ltP SameS AddRel addSR setN setM rowsS hasS dropSR dropSL heldA hdsC)
open TabP (Two Pr)
variable {W w w' : World} {s : Sh} {hb rhb n n' : Nat} {L M L' M' : List Sn} {l l2 l' l2' : List Nod} {S : Nat → Prop}
structure KpU (B0 N p q : Nat) (A B : World) : Prop where
 os : B.os = A.os
 tape : B.tape = A.tape
 output : B.output = A.output
 size : A.heap.size ≤ B.heap.size
 low : ∀ k, k < B0 → B.heap[k]? = A.heap[k]?
 bp : B.heap[p]? = A.heap[p]?
 bq : B.heap[q]? = A.heap[q]?
 up : ∀ k j v, N ≤ k → A.cell? ⟨k, j, none⟩ = some v → B.cell? ⟨k, j, none⟩ = some v
theorem KpU.refl {B0 N p q : Nat} (A : World) : KpU B0 N p q A A := ⟨rfl, rfl, rfl, Nat.le_refl _, fun _ _ => rfl, rfl, rfl, fun _ _ _ _ h => h⟩
theorem KpU.trans {B0 N p q : Nat} {A B C : World} (h : KpU B0 N p q A B) (k : KpU B0 N p q B C) : KpU B0 N p q A C :=
 ⟨k.os.trans h.os, k.tape.trans h.tape, k.output.trans h.output, Nat.le_trans h.size k.size, fun i hi => (k.low i hi).trans (h.low i hi), k.bp.trans h.bp, k.bq.trans h.bq, fun i j v hi hv => k.up i j v hi (h.up i j v hi hv)⟩
theorem KpU.of_below {B0 N p q : Nat} {A B : World} (h : Below A.heap.size A B) (h0 : B0 ≤ A.heap.size) (hp : p < A.heap.size) (hq : q < A.heap.size) : KpU B0 N p q A B :=
 ⟨h.os, h.tape, h.output, h.size, fun k hk => h.block k (by omega), h.block p hp, h.block q hq, fun k j v _ hv => (h.cell (p := ⟨k, j, none⟩) (World.block_lt_of_cell? A _ hv)).trans hv⟩
theorem KpU.below {B0 N p q : Nat} {U A B : World} (h : KpU B0 N p q A B) (hA : Below B0 U A) : Below B0 U B :=
 ⟨h.os.trans hA.os, h.tape.trans hA.tape, h.output.trans hA.output, Nat.le_trans hA.size h.size, fun k hk => (h.low k hk).trans (hA.block k hk)⟩
theorem held_cells {w : World} {k : Nat} {n i a b c d e f g h : Int} (hh : w.heap[k]? = some (.cells #[.int .i64 n, .int .i64 i, .int .i64 a, .int .i64 b, .int .i64 c, .int .u64 d, .int .i64 e, .int .i64 f, .int .i64 g, .int .i64 h] 100 (0, 0))) : w.cell? ⟨k, 0, none⟩ = some (.int .i64 n) ∧ w.cell? ⟨k, 1, none⟩ = some (.int .i64 i) ∧ True :=
 ⟨cell_cur (cur := [.int .i64 n, .int .i64 i, .int .i64 a, .int .i64 b, .int .i64 c, .int .u64 d, .int .i64 e, .int .i64 f, .int .i64 g, .int .i64 h]) hh 0, cell_cur (cur := [.int .i64 n, .int .i64 i, .int .i64 a, .int .i64 b, .int .i64 c, .int .u64 d, .int .i64 e, .int .i64 f, .int .i64 g, .int .i64 h]) hh 1, trivial⟩
theorem yield_two {A B : World → Prop} {e : Ending} {W' : World} (h : (e = .returned (.bool true) ∧ A W') ∨ (e = .returned (.bool false) ∧ B W')) : ∃ t, e = .returned (.bool t) ∧ (t = true → A W') ∧ (t = false → B W') := by
 rcases h with ⟨h1, h2⟩ | ⟨h1, h2⟩
 ·exact ⟨true, h1, fun _ => h2, fun e => by cases e⟩
 ·exact ⟨false, h1, fun e => (by cases e), fun _ => h2⟩
def hdC (H : List TabS.Hd) (k : Nat) : TabS.Hd := TabS.hdAt H k
def likeP (c : Cp) (H : List TabS.Hd) (k : Nat) : Bool := sameC (TabS.hdAt H k).c c
theorem alike1_seq (z p q : Nat) (c : Cp) (w0 : World) (h : Hd W s hb rhb n L M l l2 S w0) (hT0 : CX.TabG W) (hp : w0.heap[p]? = some (.cells #[.pointer (some ⟨hb, 0, none⟩)] 29 (0, 0))) (hq : w0.heap[q]? = some (.cells c.L.toArray 26 (0, 0))) (hce : c.e ≤ 9223372036854775807) (hHe : ∀ k, (TabS.hdAt (heldA L) k).c.e ≤ 9223372036854775807) (hl : L.length < 1000000) (hn : (heldA L).length < 1000000) :
  SeqStopsK Fence.wide (z + 1) Tryd.prog 59 #[.pointer (some ⟨p, 0, none⟩), .pointer (some ⟨q, 0, none⟩)] (fun x : Fin (heldA L).length => #[slV (TabS.hdAt (heldA L) x.1).n (TabS.hdAt (heldA L) x.1).i]) (KpU W.heap.size w0.heap.size p q) (fun xs => ∀ x, x ∈ xs ↔ likeP c (heldA L) x.1 = true) (fun pre => ∀ x ∈ pre, likeP c (heldA L) x.1 = true) (heldA L).length w0 := by
 intro y J Jx U hB hAb hAx hY h0
 have hU := h.call hB
 have hWU := hU.below
 have hpz : p < U.heap.size := Nat.lt_of_lt_of_le (ags hp).1 hB.size
 have hqz : q < U.heap.size := Nat.lt_of_lt_of_le (ags hq).1 hB.size
 have hpU := (hB.block p (ags hp).1).trans hp
 have HQU := hid ((hB.block q (ags hq).1).trans hq)
 have HUS := hid (hU.bo.used hl)
 have p0 := (cell_box hpU).1
 obtain ⟨u0, -, u2⟩ := hU.c
 have HY := hid hY
 have HAB := hid hAb
 have HWU := hid hWU
 have HT := hid hT0
 have HZ := hid (And.intro hpz hqz)
 have HE := hid (And.intro hce hHe)
 have HB := hid hB
 have HN := hid hn
 have H0 := hid h0
 clear hY hAb hAx h hT0 hp hq hU hWU hpz hqz hpU hce hHe hB hl hn h0
 generalize heldA L = H at *
 refine callsIn_of_wp Tryd.func59 rfl trivial ?_ rfl
 simp only [Tryd.ntmps59, List.size_toArray, List.length_cons, List.length_nil, Nat.reduceAdd, Nat.reduceSub, Array.replicate_succ, Array.replicate_zero, List.push_toArray, List.append_toArray, List.nil_append, List.cons_append]
 gi_wp2_with (refine ⟨trivial, ?_⟩; (gi_at_call 40; refine (callsIn_wide.2 HUS.out).mono ?_; rintro e w1 ⟨r, rfl, hr, hb1⟩; obtain ⟨ra, rc, rfl, hrc, hra⟩ := TabS.hs_of hr; have HB1 := hid hb1; have HRA := hid hra; clear hr hb1 hra))
 clear p0 u0 u2
 have hJ1 : J [] w1 := HAB.out _ U w1 none H0.out ⟨HB1.out.os, HB1.out.tape, HB1.out.output, HB1.out.size, fun j hj _ => HB1.out.block j hj⟩ (fun r e => by cases e)
 have HJ1 := hid hJ1
 clear hJ1
 gi_loopw [5, 12] (fun bx i wr => ∃ (k : Nat) (pre : List (Fin H.length)), k ≤ H.length ∧ i = .int .i64 k ∧ Hid (J pre wr ∧ KpU W.heap.size w0.heap.size p q w1 wr ∧ pre.length ≤ k ∧ ∀ x, x ∈ pre ↔ x.1 < k ∧ likeP c H x.1 = true)) (fun bx i _ => H.length - (intOf i).toNat)
 case atStart => exact ⟨0, [], by omega, rfl, hid ⟨HJ1.out, KpU.refl _, by simp, fun x => ⟨fun h => absurd h List.not_mem_nil, fun h => absurd h.1 (by omega)⟩⟩⟩
 case round =>
  obtain ⟨k, pre, hk, rfl, HP⟩ := hrel
  by_cases hlt : k < H.length
  ·have hltI : (k : Int) < H.length := by omega
   have hat : TabS.hdAt H k = H[k] := by unfold TabS.hdAt; rw [List.getElem?_eq_getElem hlt]; rfl
   obtain ⟨g, rfl, hg1, hg2, hg3⟩ := HRA.out k hlt
   have hrow := hg3 k _ (List.getElem?_eq_getElem hlt)
   have HS := hid (show likeP c H k = sameC (TabS.hdAt H k).c c from rfl)
   have hxe := HE.out.2 k
   obtain ⟨x, hx⟩ : ∃ x, x = TabS.hdAt H k := ⟨_, rfl⟩
   rw [← hat, ← hx] at hrow
   rw [← hx] at HS hxe
   have HX := hid hx
   clear hx hat
   obtain ⟨xn, xi, ⟨xa, xb, xx, xd, xe, xf, xg, xh⟩⟩ := x
   have hz : ∀ (j : Nat) (v : Value), (TabS.Hd.L ⟨xn, xi, ⟨xa, xb, xx, xd, xe, xf, xg, xh⟩⟩)[j]? = some v → wr.cell? ⟨g, k * 10 + j, none⟩ = some v := fun j v hv => HP.out.2.1.up g _ v (Nat.le_trans HB.out.size hg1) (hrow j v hv)
   have z0 := hz 0 _ rfl
   rw [Nat.add_zero] at z0
   have z1 := hz 1 _ rfl
   have z2 := hz 2 _ rfl
   have z3 := hz 3 _ rfl
   have z4 := hz 4 _ rfl
   have z5 := hz 5 _ rfl
   have z6 := hz 6 _ rfl
   have z7 := hz 7 _ rfl
   have z8 := hz 8 _ rfl
   have z9 := hz 9 _ rfl
   have lgr : g < wr.heap.size := World.block_lt_of_cell? wr _ z0
   have hqr := HP.out.2.1.bq.trans ((HB1.out.block q HZ.out.2).trans HQU.out)
   have lqr := (ags hqr).1
   have hsz : w1.heap.size ≤ wr.heap.size := HP.out.2.1.size
   have HSZ := hid (show U.heap.size ≤ wr.heap.size from Nat.le_trans HB1.out.size hsz)
   have HBW : Hid (Below W.heap.size W wr) := hid (HP.out.2.1.below (HWU.out.trans (HB1.out.mono HWU.out.size)))
   obtain ⟨w2, hw2⟩ : ∃ y, y = wr.alloc (.cells #[.int .i64 xn, .int .i64 xi, .int .i64 xa, .int .i64 xb, .int .i64 xx, .int .u64 xd, .int .i64 xe, .int .i64 xf, .int .i64 xg, .int .i64 xh] 100) := ⟨_, rfl⟩
   have hb2 : Below wr.heap.size wr w2 := hw2 ▸ bal (Below.refl _ _) _
   have hAL := halike w2 (HT.out.call (HBW.out.trans (hb2.mono HBW.out.size))) ⟨xa, xb, xx, xd, xe, xf, xg, xh⟩ c hxe HE.out.1
   have hx2 : w2.heap[wr.heap.size]? = some (.cells #[.int .i64 xn, .int .i64 xi, .int .i64 xa, .int .i64 xb, .int .i64 xx, .int .u64 xd, .int .i64 xe, .int .i64 xf, .int .i64 xg, .int .i64 xh] 100 (0, 0)) := by rw [hw2]; exact World.alloc_heap_new wr _
   have HX2 := hid hx2
   have HB2 := hid hb2
   have HW2 := hid hw2
   obtain ⟨sm, hsm⟩ : ∃ y, y = sameC (⟨xa, xb, xx, xd, xe, xf, xg, xh⟩ : Cp) c := ⟨_, rfl⟩
   rw [← hsm] at hAL HS
   have HSM := hid hsm
   clear hsm
   obtain ⟨y0, y1, y2, y3, y4, y5, y6, y7⟩ := cap_cells hqr
   obtain ⟨ca, cb, cx, cd, ce, cf, cg, ch⟩ := c
   simp only [] at y0 y1 y2 y3 y4 y5 y6 y7
   have HAL := hid hAL
   have HG := hid lgr
   clear hrow hz hAL hx2 hb2 hw2 hqr hxe hg1 hg2 hg3 lgr
   have HJW : Hid (∀ v, Below wr.heap.size wr v → J pre v) := hid (fun v hv => HAB.out _ wr v none HP.out.1 ⟨hv.os, hv.tape, hv.output, hv.size, fun j hj _ => hv.block j hj⟩ (fun r e => by cases e))
   have HKW : Hid (∀ v, Below wr.heap.size wr v → KpU W.heap.size w0.heap.size p q w1 v) := hid (fun v hv => HP.out.2.1.trans (KpU.of_below hv HBW.out.size (Nat.lt_of_lt_of_le HZ.out.1 HSZ.out) lqr))
   have hkb : k + 1 < 4000000 := by have := HN.out; omega
   cases sm
   ·gi_wp2_with (refine ⟨trivial, ?_⟩; (gi_at_call 29; rw [← HW2.out]; refine (callsIn_wide.2 HAL.out).mono ?_; rintro e w3 ⟨rfl, hb3⟩; have HB3 := hid (HB2.out.trans (hb3.mono HB2.out.size)); clear hb3))
    refine ⟨fun _ h => (by cases h), ?_⟩
    gi_wp2
    go_roundw
    case rel => exact ⟨k + 1, pre, by omega, by go_num, hid ⟨HJW.out w3 HB3.out, HKW.out w3 HB3.out, Nat.le_succ_of_le HP.out.2.2.1, fun x => ⟨fun h => ⟨Nat.lt_succ_of_lt ((HP.out.2.2.2 x).1 h).1, ((HP.out.2.2.2 x).1 h).2⟩, fun h => (HP.out.2.2.2 x).2 ⟨(by
     rcases Nat.lt_or_ge x.1 k with q1 | q1
     ·exact q1
     ·have q2 : x.1 = k := by have := h.1; omega
      have q3 := h.2
      rw [q2, HS.out] at q3
      cases q3), h.2⟩⟩⟩⟩
    case measure => first | (simp [intOf]; done) | (simp [intOf]; omega)
   ·gi_wp2_with fail
    refine ⟨trivial, ?_⟩
    gi_at_call 29
    rw [← HW2.out]
    refine (callsIn_wide.2 HAL.out).mono ?_
    rintro e w3 ⟨rfl, hb3⟩
    have HB3 := hid (HB2.out.trans (hb3.mono HB2.out.size))
    have hx3 := (hb3.block _ (ags HX2.out).1).trans HX2.out
    obtain ⟨e0, e1, -⟩ := held_cells hx3
    have HL := hid (show pre.length < H.length from Nat.lt_of_le_of_lt HP.out.2.2.1 hlt)
    obtain ⟨fn, tmps, assign, body, hy, hR⟩ := HY.out pre ⟨k, hlt⟩ w3 (HJW.out w3 HB3.out) HL.out
    rw [show TabS.hdAt H (⟨k, hlt⟩ : Fin H.length).1 = _ from HX.out.symm] at hy
    (try dsimp only at hy)
    have HR := hid (hR.mono (fun e W' h => yield_two (A := fun W' => J (pre ++ [⟨k, hlt⟩]) W' ∧ KpU W.heap.size w0.heap.size p q w3 W') (B := fun W' => Jx (pre ++ [⟨k, hlt⟩]) W') h))
    clear hb3 hx3 hR
    gi_wp2
    refine HR.out.mono ?_
    rintro e W' ⟨t, rfl, ht⟩
    have HTT := hid ht
    clear ht
    cases t
    ·gi_wp2
     first
      | refine bodyPost_ret (results_none rfl _ _ _) rfl ?_
      | go_end0
     exact ⟨⟨_, rfl⟩, .inr ⟨pre ++ [⟨k, hlt⟩], fun x hx => (by
      rcases List.mem_append.1 hx with q1 | q1
      ·exact ((HP.out.2.2.2 x).1 q1).2
      ·rw [List.mem_singleton] at q1
       rw [q1]
       exact HS.out), HTT.out.2 (by first | rfl | trivial)⟩⟩
    ·gi_wp2
     go_roundw
     case rel => exact ⟨k + 1, pre ++ [⟨k, hlt⟩], by omega, by go_num, hid ⟨(HTT.out.1 (by first | rfl | trivial)).1, (HKW.out w3 HB3.out).trans (HTT.out.1 (by first | rfl | trivial)).2, by have := HP.out.2.2.1; simp; omega, fun x => ⟨fun h => (by
      rcases List.mem_append.1 h with q1 | q1
      ·exact ⟨Nat.lt_succ_of_lt ((HP.out.2.2.2 x).1 q1).1, ((HP.out.2.2.2 x).1 q1).2⟩
      ·rw [List.mem_singleton] at q1
       rw [q1]
       exact ⟨Nat.lt_succ_self k, HS.out⟩), fun h => List.mem_append.2 (by
      rcases Nat.lt_or_ge x.1 k with q1 | q1
      ·exact .inl ((HP.out.2.2.2 x).2 ⟨q1, h.2⟩)
      ·have q2 : x.1 = k := by have := h.1; omega
       exact .inr (List.mem_singleton.2 (Fin.ext q2)))⟩⟩⟩
     case measure => first | (simp [intOf]; done) | (simp [intOf]; omega)
  ·obtain rfl : k = H.length := by omega
   gi_wp2
   go_end0
   exact ⟨⟨_, rfl⟩, .inl ⟨pre, fun x => ⟨fun h => ((HP.out.2.2.2 x).1 h).2, fun h => (HP.out.2.2.2 x).2 ⟨x.2, h⟩⟩, HP.out.1⟩⟩
end HpS
end
end Go.Proofs.YtekllgejmgoajaaDoor
