/- LookupAll. -/
import Derived.Test.YtnjdljjmengjbaaDoorLkU
import Derived.Test.YtnjdljjmengjbaaDoorLkI
import Derived.Test.YtnjdljjmengjbaaDoorPkg
import Derived.StillTailTactics
import Derived.Deep.RegionWith
import Derived.Deep.RegionHeld3
import Derived.IntWalk
namespace Go.Proofs.YtnjdljjmengjbaaDoor
set_option linter.unusedVariables false
set_option linter.unusedSimpArgs false
open Go.ChangeShapes Go.WideShapes Go.ChangeAt Go.RowKit Go.Shelf

namespace LkS
theorem xor_i : ∀ g, g < 2048 → bits BinOp.xor IntKind.i64 ((g : Nat) : Int) 1 = ((g ^^^ 1 : Nat) : Int) := by decide +kernel
theorem cap8 {w : World} {k : Nat} {a b c e f g h : Int} {d : Int} (hh : w.heap[k]? = some (.cells (TabS.Cp.L ⟨a, b, c, d, e, f, g, h⟩).toArray 25 (0, 0))) : w.cell? ⟨k, 0, none⟩ = some (.int .i64 a) ∧ w.cell? ⟨k, 1, none⟩ = some (.int .i64 b) ∧ w.cell? ⟨k, 2, none⟩ = some (.int .i64 c) ∧ w.cell? ⟨k, 3, none⟩ = some (.int .u64 d) ∧ w.cell? ⟨k, 4, none⟩ = some (.int .i64 e) ∧ w.cell? ⟨k, 5, none⟩ = some (.int .i64 f) ∧ w.cell? ⟨k, 6, none⟩ = some (.int .i64 g) ∧ w.cell? ⟨k, 7, none⟩ = some (.int .i64 h) := cap_cells hh
/-- The room, and the box of the capability. -/
def RmX (W w : World) (sb srb b rb xB : Nat) (c : TabS.Cp) : Prop := RmP W w sb srb b rb (cnS 5) (cnS 5) ∧ w.heap[xB]? = some (.cells c.L.toArray 25 (0, 0))
theorem RmX.call {W w w' : World} {sb srb b rb xB : Nat} {c : TabS.Cp} (h : RmX W w sb srb b rb xB c) (hb : Below w.heap.size w w') : RmX W w' sb srb b rb xB c := ⟨h.1.call hb, (hb.block xB (Array.getElem?_eq_some_iff.1 h.2).1).trans h.2⟩
theorem set2_below {w v : World} (h : Below w.heap.size w v) (x y : Value) : Below w.heap.size w ((v.setCell ⟨w.heap.size, 0, none⟩ x).setCell ⟨w.heap.size, 1, none⟩ y) := (h.setCell (p := ⟨w.heap.size, 0, none⟩) (Nat.le_refl _) x).setCell (p := ⟨w.heap.size, 1, none⟩) (Nat.le_refl _) y
theorem set2_same {v : World} {k : Nat} {p q : Value} (h : v.heap[k]? = some (.cells #[p, q] 34 (0, 0))) (x y : Value) : ((v.setCell ⟨k, 0, none⟩ x).setCell ⟨k, 1, none⟩ y).heap[k]? = some (.cells #[x, y] 34 (0, 0)) := Go.heap_setCell_same _ k 1 _ _ y (Go.heap_setCell_same v k 0 _ _ x h)
end LkS
open LkS in
set_option maxRecDepth 100000 in
set_option maxHeartbeats 20000000 in
theorem walk_lookupAll {W : World} (a0 : Int) (w0 : (Lit.int .i64 a0).wf = true) (a1 : Int) (w1 : (Lit.int .i64 a1).wf = true) (a2 : Int) (w2 : (Lit.int .i64 a2).wf = true) (hL : LaidV_laid_math_bits_deBruijn64tab W) :
    Calls Tryd.prog 5 #[.int .i64 a0, .int .i64 a1, .int .i64 a2] W fun e w' => e = .returned (.bool true) ∧ Below W.heap.size W w' := by
  have HT : Hid (CX.TabG W) := Lib.hid hL
  have q0 := TabS.wf_S w0
  have Q1 := Lib.hid (TabS.wf_S w1)
  have Q2 := Lib.hid (TabS.wf_S w2)
  have HL0 : Hid (∀ v, Calls Tryd.prog 17 #[.int .i64 a0, .int .i64 4] v fun e w' => e = .returned (.int .i64 (lowI a0 4)) ∧ v = w') := Lib.hid (fun v => low_any a0 4 v q0 (by decide) (by decide))
  have i0 := lowI_0 a0 4 (by decide)
  have i1 := lowI_1 a0 4 (by decide)
  obtain ⟨k, hk⟩ : ∃ i : Nat, lowI a0 4 = i := ⟨(lowI a0 4).toNat, by omega⟩
  rw [hk] at HL0 i1
  have hk4 : k < 4 := by omega
  clear w0 w1 w2 hL q0 i0 i1 hk
  go_enter Tryd.func5, Tryd.ntmps5
  go_upto_region 4 with (go_at_call 9; (with_reducible refine (room_nil W HT.out).mono ?_); rintro e w1 ⟨sb, srb, b, rb, rfl, h1⟩; have H1 := Lib.hid h1; clear h1)
  obtain rfl | rfl | rfl | rfl : k = 0 ∨ k = 1 ∨ k = 2 ∨ k = 3 := by omega
  · have HLk : Hid (∀ v, Calls Tryd.prog 17 #[.int .i64 a0, .int .i64 4] v fun e w' => e = .returned (.int .i64 0) ∧ v = w') := HL0
    have HL1 : Hid (∀ v, Calls Tryd.prog 17 #[.int .i64 a1, .int .i64 2048] v fun e w' => e = .returned (.int .i64 (lowI a1 2048)) ∧ v = w') := Lib.hid (fun v => low_any a1 2048 v Q1.out (by decide) (by decide))
    have HL2 : Hid (∀ v, Calls Tryd.prog 17 #[.int .i64 a2, .int .i64 2] v fun e w' => e = .returned (.int .i64 (lowI a2 2)) ∧ v = w') := Lib.hid (fun v => low_any a2 2 v Q2.out (by decide) (by decide))
    have g0 := lowI_0 a1 2048 (by decide)
    have g1 := lowI_1 a1 2048 (by decide)
    have j0 := lowI_0 a2 2 (by decide)
    have j1 := lowI_1 a2 2 (by decide)
    obtain ⟨g, hg⟩ : ∃ i : Nat, lowI a1 2048 = i := ⟨(lowI a1 2048).toNat, by omega⟩
    obtain ⟨i, hi⟩ : ∃ i : Nat, lowI a2 2 = i := ⟨(lowI a2 2).toNat, by omega⟩
    rw [hg] at HL1 g1
    rw [hi] at HL2 j1
    have hG : (g : Int) < 2048 := g1
    have hI : (i : Int) < 2 := j1
    have HALL := Lib.hid (all_1 g (by omega) i (by omega))
    have hx : (g ^^^ 1) < 2048 := Nat.xor_lt_two_pow (n := 11) (by omega) (by decide)
    have HXOR := Lib.hid (xor_i g (by omega))
    obtain ⟨x, hxx⟩ : ∃ x, x = g ^^^ 1 := ⟨_, rfl⟩
    rw [← hxx] at HALL HXOR hx
    have hX : (x : Int) < 2048 := by omega
    clear g0 g1 j0 j1 hg hi hk4 HL0 hxx hx
    go_upto_region 6 with (go_at_call 17; (with_reducible refine (HLk.out _).mono ?_); rintro e w' ⟨rfl, rfl⟩)
    obtain ⟨w2, hw2⟩ : ∃ y, y = w1.alloc (.cells #[.int .i64 1, .int .i64 2, .int .i64 3, .int .i64 5] 3) := ⟨_, rfl⟩
    have hb2 : Below w1.heap.size w1 w2 := hw2 ▸ bal (Below.refl _ _) _
    rw [← hw2]
    have H2 := Lib.hid (H1.out.call hb2)
    clear hw2 hb2 H1
    go_quiet ((first | (go_at_call 17; with_reducible exact Calls.quiet_of_same (same_q (HL1.out _))) | (go_at_call 17; with_reducible exact Calls.quiet_of_same (same_q (HL2.out _)))))
    obtain ⟨w3, hw3⟩ : ∃ y, y = w2.drewN nq := ⟨_, rfl⟩
    have hb3 : Below w2.heap.size w2 w3 := hw3 ▸ below_drewN (Below.refl _ _) nq
    rw [← hw3]
    have H3 := Lib.hid (H2.out.call hb3)
    clear hw3 hb3 H2
    go_upto_region 8 with fail
    obtain ⟨w4, hw4⟩ : ∃ y, y = w3.alloc (.cells #[.int .i64 2, .int .i64 1, .int .i64 0, .int .u64 0, .int .i64 g, .int .i64 11, .int .i64 0, .int .i64 0] 25) := ⟨_, rfl⟩
    have hb4 : Below w3.heap.size w3 w4 := hw4 ▸ bal (Below.refl _ _) _
    have hc4 : w4.heap[w3.heap.size]? = some (.cells (TabS.Cp.L ⟨2, 1, 0, 0, g, 11, 0, 0⟩).toArray 25 (0, 0)) := by rw [hw4]; exact heap_alloc_new w3 _
    rw [← hw4]
    have H4 := Lib.hid (H3.out.call hb4)
    have HC4 := Lib.hid hc4
    generalize w3.heap.size = xB at *
    clear hw4 hb4 hc4 H3
    have R1 : Hid (∀ v, RmP W v sb srb b rb (cnS 5) (cnS 5) → Calls Tryd.prog 10 #[.pointer (some ⟨sb, 0, none⟩), .pointer (some ⟨b, 0, none⟩), .agg #[.int .i64 2, .int .i64 1, .int .i64 0, .int .u64 0, .int .i64 g, .int .i64 11, .int .i64 0, .int .i64 0], .int .u64 ((g : Int) * 2 + i), .int .i64 12] v fun e w' => e = .returned (.tuple #[.agg #[.int .i64 1, .int .i64 i], .int .i64 0]) ∧ Below v.heap.size v w') := Lib.hid (fun v hv => by
      have h := hv.resolve HT.out caps_cn ⟨2, 1, 0, 0, g, ((12 - 1 : Nat) : Int), 0, 0⟩ (g * 2 + i) 12 (by show (g : Int) ≤ _; omega) (by omega)
      rw [HALL.out.1, show (((g * 2 + i : Nat)) : Int) = (g : Int) * 2 + i by omega] at h
      exact h)
    have R2 : Hid (∀ v, RmP W v sb srb b rb (cnS 5) (cnS 5) → Calls Tryd.prog 10 #[.pointer (some ⟨sb, 0, none⟩), .pointer (some ⟨b, 0, none⟩), .agg #[.int .i64 2, .int .i64 1, .int .i64 0, .int .u64 0, .int .i64 g, .int .i64 11, .int .i64 0, .int .i64 0], .int .u64 ((x : Int) * 2 + i), .int .i64 12] v fun e w' => e = .returned (.tuple #[.agg #[.int .i64 0, .int .i64 0], .int .i64 12]) ∧ Below v.heap.size v w') := Lib.hid (fun v hv => by
      have h := hv.resolve HT.out caps_cn ⟨2, 1, 0, 0, g, ((12 - 1 : Nat) : Int), 0, 0⟩ (x * 2 + i) 12 (by show (g : Int) ≤ _; omega) (by omega)
      rw [HALL.out.2, show (((x * 2 + i : Nat)) : Int) = (x : Int) * 2 + i by omega] at h
      exact h)
    have hw1 : IntKind.i64.wrap ((g : Int) * 2) = (g : Int) * 2 := IntWalk.i64_in _ (by omega)
    have hw2 : IntKind.i64.wrap ((g : Int) * 2 + i) = (g : Int) * 2 + i := IntWalk.i64_in _ (by omega)
    have hw3 : IntKind.u64.wrap ((g : Int) * 2 + i) = (g : Int) * 2 + i := IntWalk.u64_in _ (by omega)
    have HX4 := Lib.hid (show RmX W w4 sb srb b rb xB ⟨2, 1, 0, 0, g, 11, 0, 0⟩ from ⟨H4.out, HC4.out⟩)
    clear H4 HC4 HLk HL1 HL2 HALL Q1 Q2
    go_cut [15, 16] from 19 to 91 (fun y er wc => ∃ yB : Nat, y = .pointer (some ⟨yB, 0, none⟩) ∧ er = .int .i64 0 ∧ Hid (RmX W wc sb srb b rb xB ⟨2, 1, 0, 0, g, 11, 0, 0⟩) ∧ wc.heap[yB]? = some (.cells #[.int .i64 1, .int .i64 (i : Int)] 34 (0, 0)))
    case first =>
      have H4d := Lib.hid (HX4.out.1.call (show Below w4.heap.size w4 w4.drew from (Below.refl _ _).drew))
      have H4a := Lib.hid (HX4.out.1.call (show Below w4.heap.size w4 (w4.alloc (.cells #[.int .i64 0, .int .i64 0] 34)).drew from (bal (Below.refl _ _) _).drew))
      have KS := Lib.hid (fun (v : World) (hv : Below w4.heap.size w4 v) => cap8 ((hv.block xB (Array.getElem?_eq_some_iff.1 HX4.out.2).1).trans HX4.out.2))
      have KA := Lib.hid (fun (o : Obj) => KS.out (w4.alloc o) (bal (Below.refl _ _) _))
      have K4 := Lib.hid (cap8 HX4.out.2)
      go_region_held3 (fun v => v.cell? ⟨xB, 0, none⟩ = some (.int .i64 2) ∧ v.cell? ⟨xB, 1, none⟩ = some (.int .i64 1) ∧ v.cell? ⟨xB, 2, none⟩ = some (.int .i64 0) ∧ v.cell? ⟨xB, 3, none⟩ = some (.int .u64 0) ∧ v.cell? ⟨xB, 4, none⟩ = some (.int .i64 g) ∧ v.cell? ⟨xB, 5, none⟩ = some (.int .i64 11) ∧ v.cell? ⟨xB, 6, none⟩ = some (.int .i64 0) ∧ v.cell? ⟨xB, 7, none⟩ = some (.int .i64 0))
        (first | exact K4.out | exact KA.out _ | exact K5.out | exact KS.out _ (bal HB5.out _) | exact KS.out _ (set2_below HB5.out _ _))
        (first
          | (go_at_call 10; (with_reducible refine (R1.out _ H4d.out).mono ?_); rintro e w5 ⟨rfl, hb5⟩; have HB5 := Lib.hid (show Below w4.heap.size w4 w5 from (show Below w4.heap.size w4 w4.drew from (Below.refl _ _).drew).trans hb5); have K5 := Lib.hid (KS.out w5 HB5.out); clear hb5)
          | (go_at_call 10; (with_reducible refine (R1.out _ H4a.out).mono ?_); rintro e w5 ⟨rfl, hb5⟩; have HB5 := Lib.hid (show Below w4.heap.size w4 w5 from bgo (show Below w4.heap.size w4 (w4.alloc (.cells #[.int .i64 0, .int .i64 0] 34)).drew from (bal (Below.refl _ _) _).drew) hb5); have HSB := Lib.hid ((hb5.block w4.heap.size (by simp)).trans (heap_alloc_new w4 (.cells #[.int .i64 0, .int .i64 0] 34))); obtain ⟨s0, s1, sf0, sf1⟩ := slot_cells HSB.out; have K5 := Lib.hid (KS.out w5 HB5.out); clear hb5))
      all_goals
        go_wp2_with fail
        go_meet
        first
          | exact ⟨w5.heap.size, rfl, rfl, Lib.hid (RmX.call HX4.out (bal HB5.out _)), heap_alloc_new w5 _⟩
          | exact ⟨w4.heap.size, rfl, rfl, Lib.hid (RmX.call HX4.out (set2_below HB5.out _ _)), set2_same HSB.out _ _⟩
    case rest =>
      obtain ⟨yB, rfl, rfl, HX6, hy6⟩ := hcut
      have HY6 := Lib.hid hy6
      have hw5 : IntKind.i64.wrap ((x : Int) * 2) = (x : Int) * 2 := IntWalk.i64_in _ (by omega)
      have hw6 : IntKind.i64.wrap ((x : Int) * 2 + i) = (x : Int) * 2 + i := IntWalk.i64_in _ (by omega)
      have hw7 : IntKind.u64.wrap ((x : Int) * 2 + i) = (x : Int) * 2 + i := IntWalk.u64_in _ (by omega)
      have hxor := HXOR.out
      clear hy6 HX4 hw1 hw2 hw3 R1
      go_upto_region 9 with fail
      go_cut [18] from 19 to 91 (fun er wd => er = .int .i64 12 ∧ Hid (RmX W wd sb srb b rb xB ⟨2, 1, 0, 0, g, 11, 0, 0⟩) ∧ wd.heap[yB]? = some (.cells #[.int .i64 1, .int .i64 (i : Int)] 34 (0, 0)))
      case first =>
        have H4d := Lib.hid (HX6.out.1.call (show Below wc.heap.size wc wc.drew from (Below.refl _ _).drew))
        have H4a := Lib.hid (HX6.out.1.call (show Below wc.heap.size wc (wc.alloc (.cells #[.int .i64 0, .int .i64 0] 34)).drew from (bal (Below.refl _ _) _).drew))
        have KS := Lib.hid (fun (v : World) (hv : Below wc.heap.size wc v) => cap8 ((hv.block xB (Array.getElem?_eq_some_iff.1 HX6.out.2).1).trans HX6.out.2))
        have KA := Lib.hid (fun (o : Obj) => KS.out (wc.alloc o) (bal (Below.refl _ _) _))
        have K4 := Lib.hid (cap8 HX6.out.2)
        go_region_held3 (fun v => v.cell? ⟨xB, 0, none⟩ = some (.int .i64 2) ∧ v.cell? ⟨xB, 1, none⟩ = some (.int .i64 1) ∧ v.cell? ⟨xB, 2, none⟩ = some (.int .i64 0) ∧ v.cell? ⟨xB, 3, none⟩ = some (.int .u64 0) ∧ v.cell? ⟨xB, 4, none⟩ = some (.int .i64 g) ∧ v.cell? ⟨xB, 5, none⟩ = some (.int .i64 11) ∧ v.cell? ⟨xB, 6, none⟩ = some (.int .i64 0) ∧ v.cell? ⟨xB, 7, none⟩ = some (.int .i64 0))
          (first | exact K4.out | exact KA.out _ | exact K5.out | exact KS.out _ (bal HB5.out _) | exact KS.out _ (set2_below HB5.out _ _))
          (first
            | (go_at_call 10; (with_reducible refine (R2.out _ H4d.out).mono ?_); rintro e w5 ⟨rfl, hb5⟩; have HB5 := Lib.hid (show Below wc.heap.size wc w5 from (show Below wc.heap.size wc wc.drew from (Below.refl _ _).drew).trans hb5); have K5 := Lib.hid (KS.out w5 HB5.out); clear hb5)
            | (go_at_call 10; (with_reducible refine (R2.out _ H4a.out).mono ?_); rintro e w5 ⟨rfl, hb5⟩; have HB5 := Lib.hid (show Below wc.heap.size wc w5 from bgo (show Below wc.heap.size wc (wc.alloc (.cells #[.int .i64 0, .int .i64 0] 34)).drew from (bal (Below.refl _ _) _).drew) hb5); have HSB := Lib.hid ((hb5.block wc.heap.size (by simp)).trans (heap_alloc_new wc (.cells #[.int .i64 0, .int .i64 0] 34))); obtain ⟨s0, s1, sf0, sf1⟩ := slot_cells HSB.out; have K5 := Lib.hid (KS.out w5 HB5.out); clear hb5))
        all_goals
          go_wp2_with fail
          go_meet
          first
            | exact ⟨rfl, Lib.hid (RmX.call HX6.out (bal HB5.out _)), (bal HB5.out _).block yB (Array.getElem?_eq_some_iff.1 HY6.out).1 |>.trans HY6.out⟩
            | exact ⟨rfl, Lib.hid (RmX.call HX6.out (set2_below HB5.out _ _)), (set2_below HB5.out _ _).block yB (Array.getElem?_eq_some_iff.1 HY6.out).1 |>.trans HY6.out⟩
      case rest =>
        obtain ⟨rfl, HX7, hy7⟩ := hcut
        obtain ⟨k0, k1, -, -⟩ := slot_cells hy7
        have HBL := Lib.hid HX7.out.1.below
        have HTL := Lib.hid (HT.out.call HBL.out)
        clear hy7 HX6 HY6 R2 hw5 hw6 hw7 hxor
        go_wp2_with (go_at_call 8; (with_reducible refine (awake16 _ HTL.out).mono ?_); rintro e w7 ⟨rfl, hb7⟩)
        go_ret
        exact ⟨rfl, HBL.out.trans (hb7.mono HBL.out.size)⟩
  · have HLk : Hid (∀ v, Calls Tryd.prog 17 #[.int .i64 a0, .int .i64 4] v fun e w' => e = .returned (.int .i64 1) ∧ v = w') := HL0
    have HL1 : Hid (∀ v, Calls Tryd.prog 17 #[.int .i64 a1, .int .i64 1024] v fun e w' => e = .returned (.int .i64 (lowI a1 1024)) ∧ v = w') := Lib.hid (fun v => low_any a1 1024 v Q1.out (by decide) (by decide))
    have HL2 : Hid (∀ v, Calls Tryd.prog 17 #[.int .i64 a2, .int .i64 4] v fun e w' => e = .returned (.int .i64 (lowI a2 4)) ∧ v = w') := Lib.hid (fun v => low_any a2 4 v Q2.out (by decide) (by decide))
    have g0 := lowI_0 a1 1024 (by decide)
    have g1 := lowI_1 a1 1024 (by decide)
    have j0 := lowI_0 a2 4 (by decide)
    have j1 := lowI_1 a2 4 (by decide)
    obtain ⟨g, hg⟩ : ∃ i : Nat, lowI a1 1024 = i := ⟨(lowI a1 1024).toNat, by omega⟩
    obtain ⟨i, hi⟩ : ∃ i : Nat, lowI a2 4 = i := ⟨(lowI a2 4).toNat, by omega⟩
    rw [hg] at HL1 g1
    rw [hi] at HL2 j1
    have hG : (g : Int) < 1024 := g1
    have hI : (i : Int) < 4 := j1
    have HALL := Lib.hid (all_2 g (by omega) i (by omega))
    have hx : (g ^^^ 1) < 2048 := Nat.xor_lt_two_pow (n := 11) (by omega) (by decide)
    have HXOR := Lib.hid (xor_i g (by omega))
    obtain ⟨x, hxx⟩ : ∃ x, x = g ^^^ 1 := ⟨_, rfl⟩
    rw [← hxx] at HALL HXOR hx
    have hX : (x : Int) < 2048 := by omega
    clear g0 g1 j0 j1 hg hi hk4 HL0 hxx hx
    go_upto_region 6 with (go_at_call 17; (with_reducible refine (HLk.out _).mono ?_); rintro e w' ⟨rfl, rfl⟩)
    obtain ⟨w2, hw2⟩ : ∃ y, y = w1.alloc (.cells #[.int .i64 1, .int .i64 2, .int .i64 3, .int .i64 5] 3) := ⟨_, rfl⟩
    have hb2 : Below w1.heap.size w1 w2 := hw2 ▸ bal (Below.refl _ _) _
    rw [← hw2]
    have H2 := Lib.hid (H1.out.call hb2)
    clear hw2 hb2 H1
    go_quiet ((first | (go_at_call 17; with_reducible exact Calls.quiet_of_same (same_q (HL1.out _))) | (go_at_call 17; with_reducible exact Calls.quiet_of_same (same_q (HL2.out _)))))
    obtain ⟨w3, hw3⟩ : ∃ y, y = w2.drewN nq := ⟨_, rfl⟩
    have hb3 : Below w2.heap.size w2 w3 := hw3 ▸ below_drewN (Below.refl _ _) nq
    rw [← hw3]
    have H3 := Lib.hid (H2.out.call hb3)
    clear hw3 hb3 H2
    go_upto_region 8 with fail
    obtain ⟨w4, hw4⟩ : ∃ y, y = w3.alloc (.cells #[.int .i64 2, .int .i64 2, .int .i64 0, .int .u64 0, .int .i64 g, .int .i64 10, .int .i64 0, .int .i64 0] 25) := ⟨_, rfl⟩
    have hb4 : Below w3.heap.size w3 w4 := hw4 ▸ bal (Below.refl _ _) _
    have hc4 : w4.heap[w3.heap.size]? = some (.cells (TabS.Cp.L ⟨2, 2, 0, 0, g, 10, 0, 0⟩).toArray 25 (0, 0)) := by rw [hw4]; exact heap_alloc_new w3 _
    rw [← hw4]
    have H4 := Lib.hid (H3.out.call hb4)
    have HC4 := Lib.hid hc4
    generalize w3.heap.size = xB at *
    clear hw4 hb4 hc4 H3
    have R1 : Hid (∀ v, RmP W v sb srb b rb (cnS 5) (cnS 5) → Calls Tryd.prog 10 #[.pointer (some ⟨sb, 0, none⟩), .pointer (some ⟨b, 0, none⟩), .agg #[.int .i64 2, .int .i64 2, .int .i64 0, .int .u64 0, .int .i64 g, .int .i64 10, .int .i64 0, .int .i64 0], .int .u64 ((g : Int) * 4 + i), .int .i64 12] v fun e w' => e = .returned (.tuple #[.agg #[.int .i64 2, .int .i64 i], .int .i64 0]) ∧ Below v.heap.size v w') := Lib.hid (fun v hv => by
      have h := hv.resolve HT.out caps_cn ⟨2, 2, 0, 0, g, ((12 - 2 : Nat) : Int), 0, 0⟩ (g * 4 + i) 12 (by show (g : Int) ≤ _; omega) (by omega)
      rw [HALL.out.1, show (((g * 4 + i : Nat)) : Int) = (g : Int) * 4 + i by omega] at h
      exact h)
    have R2 : Hid (∀ v, RmP W v sb srb b rb (cnS 5) (cnS 5) → Calls Tryd.prog 10 #[.pointer (some ⟨sb, 0, none⟩), .pointer (some ⟨b, 0, none⟩), .agg #[.int .i64 2, .int .i64 2, .int .i64 0, .int .u64 0, .int .i64 g, .int .i64 10, .int .i64 0, .int .i64 0], .int .u64 ((x : Int) * 4 + i), .int .i64 12] v fun e w' => e = .returned (.tuple #[.agg #[.int .i64 0, .int .i64 0], .int .i64 12]) ∧ Below v.heap.size v w') := Lib.hid (fun v hv => by
      have h := hv.resolve HT.out caps_cn ⟨2, 2, 0, 0, g, ((12 - 2 : Nat) : Int), 0, 0⟩ (x * 4 + i) 12 (by show (g : Int) ≤ _; omega) (by omega)
      rw [HALL.out.2, show (((x * 4 + i : Nat)) : Int) = (x : Int) * 4 + i by omega] at h
      exact h)
    have hw1 : IntKind.i64.wrap ((g : Int) * 4) = (g : Int) * 4 := IntWalk.i64_in _ (by omega)
    have hw2 : IntKind.i64.wrap ((g : Int) * 4 + i) = (g : Int) * 4 + i := IntWalk.i64_in _ (by omega)
    have hw3 : IntKind.u64.wrap ((g : Int) * 4 + i) = (g : Int) * 4 + i := IntWalk.u64_in _ (by omega)
    have HX4 := Lib.hid (show RmX W w4 sb srb b rb xB ⟨2, 2, 0, 0, g, 10, 0, 0⟩ from ⟨H4.out, HC4.out⟩)
    clear H4 HC4 HLk HL1 HL2 HALL Q1 Q2
    go_cut [15, 16] from 19 to 91 (fun y er wc => ∃ yB : Nat, y = .pointer (some ⟨yB, 0, none⟩) ∧ er = .int .i64 0 ∧ Hid (RmX W wc sb srb b rb xB ⟨2, 2, 0, 0, g, 10, 0, 0⟩) ∧ wc.heap[yB]? = some (.cells #[.int .i64 2, .int .i64 (i : Int)] 34 (0, 0)))
    case first =>
      have H4d := Lib.hid (HX4.out.1.call (show Below w4.heap.size w4 w4.drew from (Below.refl _ _).drew))
      have H4a := Lib.hid (HX4.out.1.call (show Below w4.heap.size w4 (w4.alloc (.cells #[.int .i64 0, .int .i64 0] 34)).drew from (bal (Below.refl _ _) _).drew))
      have KS := Lib.hid (fun (v : World) (hv : Below w4.heap.size w4 v) => cap8 ((hv.block xB (Array.getElem?_eq_some_iff.1 HX4.out.2).1).trans HX4.out.2))
      have KA := Lib.hid (fun (o : Obj) => KS.out (w4.alloc o) (bal (Below.refl _ _) _))
      have K4 := Lib.hid (cap8 HX4.out.2)
      go_region_held3 (fun v => v.cell? ⟨xB, 0, none⟩ = some (.int .i64 2) ∧ v.cell? ⟨xB, 1, none⟩ = some (.int .i64 2) ∧ v.cell? ⟨xB, 2, none⟩ = some (.int .i64 0) ∧ v.cell? ⟨xB, 3, none⟩ = some (.int .u64 0) ∧ v.cell? ⟨xB, 4, none⟩ = some (.int .i64 g) ∧ v.cell? ⟨xB, 5, none⟩ = some (.int .i64 10) ∧ v.cell? ⟨xB, 6, none⟩ = some (.int .i64 0) ∧ v.cell? ⟨xB, 7, none⟩ = some (.int .i64 0))
        (first | exact K4.out | exact KA.out _ | exact K5.out | exact KS.out _ (bal HB5.out _) | exact KS.out _ (set2_below HB5.out _ _))
        (first
          | (go_at_call 10; (with_reducible refine (R1.out _ H4d.out).mono ?_); rintro e w5 ⟨rfl, hb5⟩; have HB5 := Lib.hid (show Below w4.heap.size w4 w5 from (show Below w4.heap.size w4 w4.drew from (Below.refl _ _).drew).trans hb5); have K5 := Lib.hid (KS.out w5 HB5.out); clear hb5)
          | (go_at_call 10; (with_reducible refine (R1.out _ H4a.out).mono ?_); rintro e w5 ⟨rfl, hb5⟩; have HB5 := Lib.hid (show Below w4.heap.size w4 w5 from bgo (show Below w4.heap.size w4 (w4.alloc (.cells #[.int .i64 0, .int .i64 0] 34)).drew from (bal (Below.refl _ _) _).drew) hb5); have HSB := Lib.hid ((hb5.block w4.heap.size (by simp)).trans (heap_alloc_new w4 (.cells #[.int .i64 0, .int .i64 0] 34))); obtain ⟨s0, s1, sf0, sf1⟩ := slot_cells HSB.out; have K5 := Lib.hid (KS.out w5 HB5.out); clear hb5))
      all_goals
        go_wp2_with fail
        go_meet
        first
          | exact ⟨w5.heap.size, rfl, rfl, Lib.hid (RmX.call HX4.out (bal HB5.out _)), heap_alloc_new w5 _⟩
          | exact ⟨w4.heap.size, rfl, rfl, Lib.hid (RmX.call HX4.out (set2_below HB5.out _ _)), set2_same HSB.out _ _⟩
    case rest =>
      obtain ⟨yB, rfl, rfl, HX6, hy6⟩ := hcut
      have HY6 := Lib.hid hy6
      have hw5 : IntKind.i64.wrap ((x : Int) * 4) = (x : Int) * 4 := IntWalk.i64_in _ (by omega)
      have hw6 : IntKind.i64.wrap ((x : Int) * 4 + i) = (x : Int) * 4 + i := IntWalk.i64_in _ (by omega)
      have hw7 : IntKind.u64.wrap ((x : Int) * 4 + i) = (x : Int) * 4 + i := IntWalk.u64_in _ (by omega)
      have hxor := HXOR.out
      clear hy6 HX4 hw1 hw2 hw3 R1
      go_upto_region 9 with fail
      go_cut [18] from 19 to 91 (fun er wd => er = .int .i64 12 ∧ Hid (RmX W wd sb srb b rb xB ⟨2, 2, 0, 0, g, 10, 0, 0⟩) ∧ wd.heap[yB]? = some (.cells #[.int .i64 2, .int .i64 (i : Int)] 34 (0, 0)))
      case first =>
        have H4d := Lib.hid (HX6.out.1.call (show Below wc.heap.size wc wc.drew from (Below.refl _ _).drew))
        have H4a := Lib.hid (HX6.out.1.call (show Below wc.heap.size wc (wc.alloc (.cells #[.int .i64 0, .int .i64 0] 34)).drew from (bal (Below.refl _ _) _).drew))
        have KS := Lib.hid (fun (v : World) (hv : Below wc.heap.size wc v) => cap8 ((hv.block xB (Array.getElem?_eq_some_iff.1 HX6.out.2).1).trans HX6.out.2))
        have KA := Lib.hid (fun (o : Obj) => KS.out (wc.alloc o) (bal (Below.refl _ _) _))
        have K4 := Lib.hid (cap8 HX6.out.2)
        go_region_held3 (fun v => v.cell? ⟨xB, 0, none⟩ = some (.int .i64 2) ∧ v.cell? ⟨xB, 1, none⟩ = some (.int .i64 2) ∧ v.cell? ⟨xB, 2, none⟩ = some (.int .i64 0) ∧ v.cell? ⟨xB, 3, none⟩ = some (.int .u64 0) ∧ v.cell? ⟨xB, 4, none⟩ = some (.int .i64 g) ∧ v.cell? ⟨xB, 5, none⟩ = some (.int .i64 10) ∧ v.cell? ⟨xB, 6, none⟩ = some (.int .i64 0) ∧ v.cell? ⟨xB, 7, none⟩ = some (.int .i64 0))
          (first | exact K4.out | exact KA.out _ | exact K5.out | exact KS.out _ (bal HB5.out _) | exact KS.out _ (set2_below HB5.out _ _))
          (first
            | (go_at_call 10; (with_reducible refine (R2.out _ H4d.out).mono ?_); rintro e w5 ⟨rfl, hb5⟩; have HB5 := Lib.hid (show Below wc.heap.size wc w5 from (show Below wc.heap.size wc wc.drew from (Below.refl _ _).drew).trans hb5); have K5 := Lib.hid (KS.out w5 HB5.out); clear hb5)
            | (go_at_call 10; (with_reducible refine (R2.out _ H4a.out).mono ?_); rintro e w5 ⟨rfl, hb5⟩; have HB5 := Lib.hid (show Below wc.heap.size wc w5 from bgo (show Below wc.heap.size wc (wc.alloc (.cells #[.int .i64 0, .int .i64 0] 34)).drew from (bal (Below.refl _ _) _).drew) hb5); have HSB := Lib.hid ((hb5.block wc.heap.size (by simp)).trans (heap_alloc_new wc (.cells #[.int .i64 0, .int .i64 0] 34))); obtain ⟨s0, s1, sf0, sf1⟩ := slot_cells HSB.out; have K5 := Lib.hid (KS.out w5 HB5.out); clear hb5))
        all_goals
          go_wp2_with fail
          go_meet
          first
            | exact ⟨rfl, Lib.hid (RmX.call HX6.out (bal HB5.out _)), (bal HB5.out _).block yB (Array.getElem?_eq_some_iff.1 HY6.out).1 |>.trans HY6.out⟩
            | exact ⟨rfl, Lib.hid (RmX.call HX6.out (set2_below HB5.out _ _)), (set2_below HB5.out _ _).block yB (Array.getElem?_eq_some_iff.1 HY6.out).1 |>.trans HY6.out⟩
      case rest =>
        obtain ⟨rfl, HX7, hy7⟩ := hcut
        obtain ⟨k0, k1, -, -⟩ := slot_cells hy7
        have HBL := Lib.hid HX7.out.1.below
        have HTL := Lib.hid (HT.out.call HBL.out)
        clear hy7 HX6 HY6 R2 hw5 hw6 hw7 hxor
        go_wp2_with (go_at_call 8; (with_reducible refine (awake16 _ HTL.out).mono ?_); rintro e w7 ⟨rfl, hb7⟩)
        go_ret
        exact ⟨rfl, HBL.out.trans (hb7.mono HBL.out.size)⟩
  · have HLk : Hid (∀ v, Calls Tryd.prog 17 #[.int .i64 a0, .int .i64 4] v fun e w' => e = .returned (.int .i64 2) ∧ v = w') := HL0
    have HL1 : Hid (∀ v, Calls Tryd.prog 17 #[.int .i64 a1, .int .i64 512] v fun e w' => e = .returned (.int .i64 (lowI a1 512)) ∧ v = w') := Lib.hid (fun v => low_any a1 512 v Q1.out (by decide) (by decide))
    have HL2 : Hid (∀ v, Calls Tryd.prog 17 #[.int .i64 a2, .int .i64 8] v fun e w' => e = .returned (.int .i64 (lowI a2 8)) ∧ v = w') := Lib.hid (fun v => low_any a2 8 v Q2.out (by decide) (by decide))
    have g0 := lowI_0 a1 512 (by decide)
    have g1 := lowI_1 a1 512 (by decide)
    have j0 := lowI_0 a2 8 (by decide)
    have j1 := lowI_1 a2 8 (by decide)
    obtain ⟨g, hg⟩ : ∃ i : Nat, lowI a1 512 = i := ⟨(lowI a1 512).toNat, by omega⟩
    obtain ⟨i, hi⟩ : ∃ i : Nat, lowI a2 8 = i := ⟨(lowI a2 8).toNat, by omega⟩
    rw [hg] at HL1 g1
    rw [hi] at HL2 j1
    have hG : (g : Int) < 512 := g1
    have hI : (i : Int) < 8 := j1
    have HALL := Lib.hid (all_3 g (by omega) i (by omega))
    have hx : (g ^^^ 1) < 2048 := Nat.xor_lt_two_pow (n := 11) (by omega) (by decide)
    have HXOR := Lib.hid (xor_i g (by omega))
    obtain ⟨x, hxx⟩ : ∃ x, x = g ^^^ 1 := ⟨_, rfl⟩
    rw [← hxx] at HALL HXOR hx
    have hX : (x : Int) < 2048 := by omega
    clear g0 g1 j0 j1 hg hi hk4 HL0 hxx hx
    go_upto_region 6 with (go_at_call 17; (with_reducible refine (HLk.out _).mono ?_); rintro e w' ⟨rfl, rfl⟩)
    obtain ⟨w2, hw2⟩ : ∃ y, y = w1.alloc (.cells #[.int .i64 1, .int .i64 2, .int .i64 3, .int .i64 5] 3) := ⟨_, rfl⟩
    have hb2 : Below w1.heap.size w1 w2 := hw2 ▸ bal (Below.refl _ _) _
    rw [← hw2]
    have H2 := Lib.hid (H1.out.call hb2)
    clear hw2 hb2 H1
    go_quiet ((first | (go_at_call 17; with_reducible exact Calls.quiet_of_same (same_q (HL1.out _))) | (go_at_call 17; with_reducible exact Calls.quiet_of_same (same_q (HL2.out _)))))
    obtain ⟨w3, hw3⟩ : ∃ y, y = w2.drewN nq := ⟨_, rfl⟩
    have hb3 : Below w2.heap.size w2 w3 := hw3 ▸ below_drewN (Below.refl _ _) nq
    rw [← hw3]
    have H3 := Lib.hid (H2.out.call hb3)
    clear hw3 hb3 H2
    go_upto_region 8 with fail
    obtain ⟨w4, hw4⟩ : ∃ y, y = w3.alloc (.cells #[.int .i64 2, .int .i64 3, .int .i64 0, .int .u64 0, .int .i64 g, .int .i64 9, .int .i64 0, .int .i64 0] 25) := ⟨_, rfl⟩
    have hb4 : Below w3.heap.size w3 w4 := hw4 ▸ bal (Below.refl _ _) _
    have hc4 : w4.heap[w3.heap.size]? = some (.cells (TabS.Cp.L ⟨2, 3, 0, 0, g, 9, 0, 0⟩).toArray 25 (0, 0)) := by rw [hw4]; exact heap_alloc_new w3 _
    rw [← hw4]
    have H4 := Lib.hid (H3.out.call hb4)
    have HC4 := Lib.hid hc4
    generalize w3.heap.size = xB at *
    clear hw4 hb4 hc4 H3
    have R1 : Hid (∀ v, RmP W v sb srb b rb (cnS 5) (cnS 5) → Calls Tryd.prog 10 #[.pointer (some ⟨sb, 0, none⟩), .pointer (some ⟨b, 0, none⟩), .agg #[.int .i64 2, .int .i64 3, .int .i64 0, .int .u64 0, .int .i64 g, .int .i64 9, .int .i64 0, .int .i64 0], .int .u64 ((g : Int) * 8 + i), .int .i64 12] v fun e w' => e = .returned (.tuple #[.agg #[.int .i64 3, .int .i64 i], .int .i64 0]) ∧ Below v.heap.size v w') := Lib.hid (fun v hv => by
      have h := hv.resolve HT.out caps_cn ⟨2, 3, 0, 0, g, ((12 - 3 : Nat) : Int), 0, 0⟩ (g * 8 + i) 12 (by show (g : Int) ≤ _; omega) (by omega)
      rw [HALL.out.1, show (((g * 8 + i : Nat)) : Int) = (g : Int) * 8 + i by omega] at h
      exact h)
    have R2 : Hid (∀ v, RmP W v sb srb b rb (cnS 5) (cnS 5) → Calls Tryd.prog 10 #[.pointer (some ⟨sb, 0, none⟩), .pointer (some ⟨b, 0, none⟩), .agg #[.int .i64 2, .int .i64 3, .int .i64 0, .int .u64 0, .int .i64 g, .int .i64 9, .int .i64 0, .int .i64 0], .int .u64 ((x : Int) * 8 + i), .int .i64 12] v fun e w' => e = .returned (.tuple #[.agg #[.int .i64 0, .int .i64 0], .int .i64 12]) ∧ Below v.heap.size v w') := Lib.hid (fun v hv => by
      have h := hv.resolve HT.out caps_cn ⟨2, 3, 0, 0, g, ((12 - 3 : Nat) : Int), 0, 0⟩ (x * 8 + i) 12 (by show (g : Int) ≤ _; omega) (by omega)
      rw [HALL.out.2, show (((x * 8 + i : Nat)) : Int) = (x : Int) * 8 + i by omega] at h
      exact h)
    have hw1 : IntKind.i64.wrap ((g : Int) * 8) = (g : Int) * 8 := IntWalk.i64_in _ (by omega)
    have hw2 : IntKind.i64.wrap ((g : Int) * 8 + i) = (g : Int) * 8 + i := IntWalk.i64_in _ (by omega)
    have hw3 : IntKind.u64.wrap ((g : Int) * 8 + i) = (g : Int) * 8 + i := IntWalk.u64_in _ (by omega)
    have HX4 := Lib.hid (show RmX W w4 sb srb b rb xB ⟨2, 3, 0, 0, g, 9, 0, 0⟩ from ⟨H4.out, HC4.out⟩)
    clear H4 HC4 HLk HL1 HL2 HALL Q1 Q2
    go_cut [15, 16] from 19 to 91 (fun y er wc => ∃ yB : Nat, y = .pointer (some ⟨yB, 0, none⟩) ∧ er = .int .i64 0 ∧ Hid (RmX W wc sb srb b rb xB ⟨2, 3, 0, 0, g, 9, 0, 0⟩) ∧ wc.heap[yB]? = some (.cells #[.int .i64 3, .int .i64 (i : Int)] 34 (0, 0)))
    case first =>
      have H4d := Lib.hid (HX4.out.1.call (show Below w4.heap.size w4 w4.drew from (Below.refl _ _).drew))
      have H4a := Lib.hid (HX4.out.1.call (show Below w4.heap.size w4 (w4.alloc (.cells #[.int .i64 0, .int .i64 0] 34)).drew from (bal (Below.refl _ _) _).drew))
      have KS := Lib.hid (fun (v : World) (hv : Below w4.heap.size w4 v) => cap8 ((hv.block xB (Array.getElem?_eq_some_iff.1 HX4.out.2).1).trans HX4.out.2))
      have KA := Lib.hid (fun (o : Obj) => KS.out (w4.alloc o) (bal (Below.refl _ _) _))
      have K4 := Lib.hid (cap8 HX4.out.2)
      go_region_held3 (fun v => v.cell? ⟨xB, 0, none⟩ = some (.int .i64 2) ∧ v.cell? ⟨xB, 1, none⟩ = some (.int .i64 3) ∧ v.cell? ⟨xB, 2, none⟩ = some (.int .i64 0) ∧ v.cell? ⟨xB, 3, none⟩ = some (.int .u64 0) ∧ v.cell? ⟨xB, 4, none⟩ = some (.int .i64 g) ∧ v.cell? ⟨xB, 5, none⟩ = some (.int .i64 9) ∧ v.cell? ⟨xB, 6, none⟩ = some (.int .i64 0) ∧ v.cell? ⟨xB, 7, none⟩ = some (.int .i64 0))
        (first | exact K4.out | exact KA.out _ | exact K5.out | exact KS.out _ (bal HB5.out _) | exact KS.out _ (set2_below HB5.out _ _))
        (first
          | (go_at_call 10; (with_reducible refine (R1.out _ H4d.out).mono ?_); rintro e w5 ⟨rfl, hb5⟩; have HB5 := Lib.hid (show Below w4.heap.size w4 w5 from (show Below w4.heap.size w4 w4.drew from (Below.refl _ _).drew).trans hb5); have K5 := Lib.hid (KS.out w5 HB5.out); clear hb5)
          | (go_at_call 10; (with_reducible refine (R1.out _ H4a.out).mono ?_); rintro e w5 ⟨rfl, hb5⟩; have HB5 := Lib.hid (show Below w4.heap.size w4 w5 from bgo (show Below w4.heap.size w4 (w4.alloc (.cells #[.int .i64 0, .int .i64 0] 34)).drew from (bal (Below.refl _ _) _).drew) hb5); have HSB := Lib.hid ((hb5.block w4.heap.size (by simp)).trans (heap_alloc_new w4 (.cells #[.int .i64 0, .int .i64 0] 34))); obtain ⟨s0, s1, sf0, sf1⟩ := slot_cells HSB.out; have K5 := Lib.hid (KS.out w5 HB5.out); clear hb5))
      all_goals
        go_wp2_with fail
        go_meet
        first
          | exact ⟨w5.heap.size, rfl, rfl, Lib.hid (RmX.call HX4.out (bal HB5.out _)), heap_alloc_new w5 _⟩
          | exact ⟨w4.heap.size, rfl, rfl, Lib.hid (RmX.call HX4.out (set2_below HB5.out _ _)), set2_same HSB.out _ _⟩
    case rest =>
      obtain ⟨yB, rfl, rfl, HX6, hy6⟩ := hcut
      have HY6 := Lib.hid hy6
      have hw5 : IntKind.i64.wrap ((x : Int) * 8) = (x : Int) * 8 := IntWalk.i64_in _ (by omega)
      have hw6 : IntKind.i64.wrap ((x : Int) * 8 + i) = (x : Int) * 8 + i := IntWalk.i64_in _ (by omega)
      have hw7 : IntKind.u64.wrap ((x : Int) * 8 + i) = (x : Int) * 8 + i := IntWalk.u64_in _ (by omega)
      have hxor := HXOR.out
      clear hy6 HX4 hw1 hw2 hw3 R1
      go_upto_region 9 with fail
      go_cut [18] from 19 to 91 (fun er wd => er = .int .i64 12 ∧ Hid (RmX W wd sb srb b rb xB ⟨2, 3, 0, 0, g, 9, 0, 0⟩) ∧ wd.heap[yB]? = some (.cells #[.int .i64 3, .int .i64 (i : Int)] 34 (0, 0)))
      case first =>
        have H4d := Lib.hid (HX6.out.1.call (show Below wc.heap.size wc wc.drew from (Below.refl _ _).drew))
        have H4a := Lib.hid (HX6.out.1.call (show Below wc.heap.size wc (wc.alloc (.cells #[.int .i64 0, .int .i64 0] 34)).drew from (bal (Below.refl _ _) _).drew))
        have KS := Lib.hid (fun (v : World) (hv : Below wc.heap.size wc v) => cap8 ((hv.block xB (Array.getElem?_eq_some_iff.1 HX6.out.2).1).trans HX6.out.2))
        have KA := Lib.hid (fun (o : Obj) => KS.out (wc.alloc o) (bal (Below.refl _ _) _))
        have K4 := Lib.hid (cap8 HX6.out.2)
        go_region_held3 (fun v => v.cell? ⟨xB, 0, none⟩ = some (.int .i64 2) ∧ v.cell? ⟨xB, 1, none⟩ = some (.int .i64 3) ∧ v.cell? ⟨xB, 2, none⟩ = some (.int .i64 0) ∧ v.cell? ⟨xB, 3, none⟩ = some (.int .u64 0) ∧ v.cell? ⟨xB, 4, none⟩ = some (.int .i64 g) ∧ v.cell? ⟨xB, 5, none⟩ = some (.int .i64 9) ∧ v.cell? ⟨xB, 6, none⟩ = some (.int .i64 0) ∧ v.cell? ⟨xB, 7, none⟩ = some (.int .i64 0))
          (first | exact K4.out | exact KA.out _ | exact K5.out | exact KS.out _ (bal HB5.out _) | exact KS.out _ (set2_below HB5.out _ _))
          (first
            | (go_at_call 10; (with_reducible refine (R2.out _ H4d.out).mono ?_); rintro e w5 ⟨rfl, hb5⟩; have HB5 := Lib.hid (show Below wc.heap.size wc w5 from (show Below wc.heap.size wc wc.drew from (Below.refl _ _).drew).trans hb5); have K5 := Lib.hid (KS.out w5 HB5.out); clear hb5)
            | (go_at_call 10; (with_reducible refine (R2.out _ H4a.out).mono ?_); rintro e w5 ⟨rfl, hb5⟩; have HB5 := Lib.hid (show Below wc.heap.size wc w5 from bgo (show Below wc.heap.size wc (wc.alloc (.cells #[.int .i64 0, .int .i64 0] 34)).drew from (bal (Below.refl _ _) _).drew) hb5); have HSB := Lib.hid ((hb5.block wc.heap.size (by simp)).trans (heap_alloc_new wc (.cells #[.int .i64 0, .int .i64 0] 34))); obtain ⟨s0, s1, sf0, sf1⟩ := slot_cells HSB.out; have K5 := Lib.hid (KS.out w5 HB5.out); clear hb5))
        all_goals
          go_wp2_with fail
          go_meet
          first
            | exact ⟨rfl, Lib.hid (RmX.call HX6.out (bal HB5.out _)), (bal HB5.out _).block yB (Array.getElem?_eq_some_iff.1 HY6.out).1 |>.trans HY6.out⟩
            | exact ⟨rfl, Lib.hid (RmX.call HX6.out (set2_below HB5.out _ _)), (set2_below HB5.out _ _).block yB (Array.getElem?_eq_some_iff.1 HY6.out).1 |>.trans HY6.out⟩
      case rest =>
        obtain ⟨rfl, HX7, hy7⟩ := hcut
        obtain ⟨k0, k1, -, -⟩ := slot_cells hy7
        have HBL := Lib.hid HX7.out.1.below
        have HTL := Lib.hid (HT.out.call HBL.out)
        clear hy7 HX6 HY6 R2 hw5 hw6 hw7 hxor
        go_wp2_with (go_at_call 8; (with_reducible refine (awake16 _ HTL.out).mono ?_); rintro e w7 ⟨rfl, hb7⟩)
        go_ret
        exact ⟨rfl, HBL.out.trans (hb7.mono HBL.out.size)⟩
  · have HLk : Hid (∀ v, Calls Tryd.prog 17 #[.int .i64 a0, .int .i64 4] v fun e w' => e = .returned (.int .i64 3) ∧ v = w') := HL0
    have HL1 : Hid (∀ v, Calls Tryd.prog 17 #[.int .i64 a1, .int .i64 256] v fun e w' => e = .returned (.int .i64 (lowI a1 256)) ∧ v = w') := Lib.hid (fun v => low_any a1 256 v Q1.out (by decide) (by decide))
    have HL2 : Hid (∀ v, Calls Tryd.prog 17 #[.int .i64 a2, .int .i64 16] v fun e w' => e = .returned (.int .i64 (lowI a2 16)) ∧ v = w') := Lib.hid (fun v => low_any a2 16 v Q2.out (by decide) (by decide))
    have g0 := lowI_0 a1 256 (by decide)
    have g1 := lowI_1 a1 256 (by decide)
    have j0 := lowI_0 a2 16 (by decide)
    have j1 := lowI_1 a2 16 (by decide)
    obtain ⟨g, hg⟩ : ∃ i : Nat, lowI a1 256 = i := ⟨(lowI a1 256).toNat, by omega⟩
    obtain ⟨i, hi⟩ : ∃ i : Nat, lowI a2 16 = i := ⟨(lowI a2 16).toNat, by omega⟩
    rw [hg] at HL1 g1
    rw [hi] at HL2 j1
    have hG : (g : Int) < 256 := g1
    have hI : (i : Int) < 16 := j1
    have HALL := Lib.hid (all_4 g (by omega) i (by omega))
    have hx : (g ^^^ 1) < 2048 := Nat.xor_lt_two_pow (n := 11) (by omega) (by decide)
    have HXOR := Lib.hid (xor_i g (by omega))
    obtain ⟨x, hxx⟩ : ∃ x, x = g ^^^ 1 := ⟨_, rfl⟩
    rw [← hxx] at HALL HXOR hx
    have hX : (x : Int) < 2048 := by omega
    clear g0 g1 j0 j1 hg hi hk4 HL0 hxx hx
    go_upto_region 6 with (go_at_call 17; (with_reducible refine (HLk.out _).mono ?_); rintro e w' ⟨rfl, rfl⟩)
    obtain ⟨w2, hw2⟩ : ∃ y, y = w1.alloc (.cells #[.int .i64 1, .int .i64 2, .int .i64 3, .int .i64 5] 3) := ⟨_, rfl⟩
    have hb2 : Below w1.heap.size w1 w2 := hw2 ▸ bal (Below.refl _ _) _
    rw [← hw2]
    have H2 := Lib.hid (H1.out.call hb2)
    clear hw2 hb2 H1
    go_quiet ((first | (go_at_call 17; with_reducible exact Calls.quiet_of_same (same_q (HL1.out _))) | (go_at_call 17; with_reducible exact Calls.quiet_of_same (same_q (HL2.out _)))))
    obtain ⟨w3, hw3⟩ : ∃ y, y = w2.drewN nq := ⟨_, rfl⟩
    have hb3 : Below w2.heap.size w2 w3 := hw3 ▸ below_drewN (Below.refl _ _) nq
    rw [← hw3]
    have H3 := Lib.hid (H2.out.call hb3)
    clear hw3 hb3 H2
    go_upto_region 8 with fail
    obtain ⟨w4, hw4⟩ : ∃ y, y = w3.alloc (.cells #[.int .i64 2, .int .i64 5, .int .i64 0, .int .u64 0, .int .i64 g, .int .i64 8, .int .i64 0, .int .i64 0] 25) := ⟨_, rfl⟩
    have hb4 : Below w3.heap.size w3 w4 := hw4 ▸ bal (Below.refl _ _) _
    have hc4 : w4.heap[w3.heap.size]? = some (.cells (TabS.Cp.L ⟨2, 5, 0, 0, g, 8, 0, 0⟩).toArray 25 (0, 0)) := by rw [hw4]; exact heap_alloc_new w3 _
    rw [← hw4]
    have H4 := Lib.hid (H3.out.call hb4)
    have HC4 := Lib.hid hc4
    generalize w3.heap.size = xB at *
    clear hw4 hb4 hc4 H3
    have R1 : Hid (∀ v, RmP W v sb srb b rb (cnS 5) (cnS 5) → Calls Tryd.prog 10 #[.pointer (some ⟨sb, 0, none⟩), .pointer (some ⟨b, 0, none⟩), .agg #[.int .i64 2, .int .i64 5, .int .i64 0, .int .u64 0, .int .i64 g, .int .i64 8, .int .i64 0, .int .i64 0], .int .u64 ((g : Int) * 16 + i), .int .i64 12] v fun e w' => e = .returned (.tuple #[.agg #[.int .i64 5, .int .i64 i], .int .i64 0]) ∧ Below v.heap.size v w') := Lib.hid (fun v hv => by
      have h := hv.resolve HT.out caps_cn ⟨2, 5, 0, 0, g, ((12 - 4 : Nat) : Int), 0, 0⟩ (g * 16 + i) 12 (by show (g : Int) ≤ _; omega) (by omega)
      rw [HALL.out.1, show (((g * 16 + i : Nat)) : Int) = (g : Int) * 16 + i by omega] at h
      exact h)
    have R2 : Hid (∀ v, RmP W v sb srb b rb (cnS 5) (cnS 5) → Calls Tryd.prog 10 #[.pointer (some ⟨sb, 0, none⟩), .pointer (some ⟨b, 0, none⟩), .agg #[.int .i64 2, .int .i64 5, .int .i64 0, .int .u64 0, .int .i64 g, .int .i64 8, .int .i64 0, .int .i64 0], .int .u64 ((x : Int) * 16 + i), .int .i64 12] v fun e w' => e = .returned (.tuple #[.agg #[.int .i64 0, .int .i64 0], .int .i64 12]) ∧ Below v.heap.size v w') := Lib.hid (fun v hv => by
      have h := hv.resolve HT.out caps_cn ⟨2, 5, 0, 0, g, ((12 - 4 : Nat) : Int), 0, 0⟩ (x * 16 + i) 12 (by show (g : Int) ≤ _; omega) (by omega)
      rw [HALL.out.2, show (((x * 16 + i : Nat)) : Int) = (x : Int) * 16 + i by omega] at h
      exact h)
    have hw1 : IntKind.i64.wrap ((g : Int) * 16) = (g : Int) * 16 := IntWalk.i64_in _ (by omega)
    have hw2 : IntKind.i64.wrap ((g : Int) * 16 + i) = (g : Int) * 16 + i := IntWalk.i64_in _ (by omega)
    have hw3 : IntKind.u64.wrap ((g : Int) * 16 + i) = (g : Int) * 16 + i := IntWalk.u64_in _ (by omega)
    have HX4 := Lib.hid (show RmX W w4 sb srb b rb xB ⟨2, 5, 0, 0, g, 8, 0, 0⟩ from ⟨H4.out, HC4.out⟩)
    clear H4 HC4 HLk HL1 HL2 HALL Q1 Q2
    go_cut [15, 16] from 19 to 91 (fun y er wc => ∃ yB : Nat, y = .pointer (some ⟨yB, 0, none⟩) ∧ er = .int .i64 0 ∧ Hid (RmX W wc sb srb b rb xB ⟨2, 5, 0, 0, g, 8, 0, 0⟩) ∧ wc.heap[yB]? = some (.cells #[.int .i64 5, .int .i64 (i : Int)] 34 (0, 0)))
    case first =>
      have H4d := Lib.hid (HX4.out.1.call (show Below w4.heap.size w4 w4.drew from (Below.refl _ _).drew))
      have H4a := Lib.hid (HX4.out.1.call (show Below w4.heap.size w4 (w4.alloc (.cells #[.int .i64 0, .int .i64 0] 34)).drew from (bal (Below.refl _ _) _).drew))
      have KS := Lib.hid (fun (v : World) (hv : Below w4.heap.size w4 v) => cap8 ((hv.block xB (Array.getElem?_eq_some_iff.1 HX4.out.2).1).trans HX4.out.2))
      have KA := Lib.hid (fun (o : Obj) => KS.out (w4.alloc o) (bal (Below.refl _ _) _))
      have K4 := Lib.hid (cap8 HX4.out.2)
      go_region_held3 (fun v => v.cell? ⟨xB, 0, none⟩ = some (.int .i64 2) ∧ v.cell? ⟨xB, 1, none⟩ = some (.int .i64 5) ∧ v.cell? ⟨xB, 2, none⟩ = some (.int .i64 0) ∧ v.cell? ⟨xB, 3, none⟩ = some (.int .u64 0) ∧ v.cell? ⟨xB, 4, none⟩ = some (.int .i64 g) ∧ v.cell? ⟨xB, 5, none⟩ = some (.int .i64 8) ∧ v.cell? ⟨xB, 6, none⟩ = some (.int .i64 0) ∧ v.cell? ⟨xB, 7, none⟩ = some (.int .i64 0))
        (first | exact K4.out | exact KA.out _ | exact K5.out | exact KS.out _ (bal HB5.out _) | exact KS.out _ (set2_below HB5.out _ _))
        (first
          | (go_at_call 10; (with_reducible refine (R1.out _ H4d.out).mono ?_); rintro e w5 ⟨rfl, hb5⟩; have HB5 := Lib.hid (show Below w4.heap.size w4 w5 from (show Below w4.heap.size w4 w4.drew from (Below.refl _ _).drew).trans hb5); have K5 := Lib.hid (KS.out w5 HB5.out); clear hb5)
          | (go_at_call 10; (with_reducible refine (R1.out _ H4a.out).mono ?_); rintro e w5 ⟨rfl, hb5⟩; have HB5 := Lib.hid (show Below w4.heap.size w4 w5 from bgo (show Below w4.heap.size w4 (w4.alloc (.cells #[.int .i64 0, .int .i64 0] 34)).drew from (bal (Below.refl _ _) _).drew) hb5); have HSB := Lib.hid ((hb5.block w4.heap.size (by simp)).trans (heap_alloc_new w4 (.cells #[.int .i64 0, .int .i64 0] 34))); obtain ⟨s0, s1, sf0, sf1⟩ := slot_cells HSB.out; have K5 := Lib.hid (KS.out w5 HB5.out); clear hb5))
      all_goals
        go_wp2_with fail
        go_meet
        first
          | exact ⟨w5.heap.size, rfl, rfl, Lib.hid (RmX.call HX4.out (bal HB5.out _)), heap_alloc_new w5 _⟩
          | exact ⟨w4.heap.size, rfl, rfl, Lib.hid (RmX.call HX4.out (set2_below HB5.out _ _)), set2_same HSB.out _ _⟩
    case rest =>
      obtain ⟨yB, rfl, rfl, HX6, hy6⟩ := hcut
      have HY6 := Lib.hid hy6
      have hw5 : IntKind.i64.wrap ((x : Int) * 16) = (x : Int) * 16 := IntWalk.i64_in _ (by omega)
      have hw6 : IntKind.i64.wrap ((x : Int) * 16 + i) = (x : Int) * 16 + i := IntWalk.i64_in _ (by omega)
      have hw7 : IntKind.u64.wrap ((x : Int) * 16 + i) = (x : Int) * 16 + i := IntWalk.u64_in _ (by omega)
      have hxor := HXOR.out
      clear hy6 HX4 hw1 hw2 hw3 R1
      go_upto_region 9 with fail
      go_cut [18] from 19 to 91 (fun er wd => er = .int .i64 12 ∧ Hid (RmX W wd sb srb b rb xB ⟨2, 5, 0, 0, g, 8, 0, 0⟩) ∧ wd.heap[yB]? = some (.cells #[.int .i64 5, .int .i64 (i : Int)] 34 (0, 0)))
      case first =>
        have H4d := Lib.hid (HX6.out.1.call (show Below wc.heap.size wc wc.drew from (Below.refl _ _).drew))
        have H4a := Lib.hid (HX6.out.1.call (show Below wc.heap.size wc (wc.alloc (.cells #[.int .i64 0, .int .i64 0] 34)).drew from (bal (Below.refl _ _) _).drew))
        have KS := Lib.hid (fun (v : World) (hv : Below wc.heap.size wc v) => cap8 ((hv.block xB (Array.getElem?_eq_some_iff.1 HX6.out.2).1).trans HX6.out.2))
        have KA := Lib.hid (fun (o : Obj) => KS.out (wc.alloc o) (bal (Below.refl _ _) _))
        have K4 := Lib.hid (cap8 HX6.out.2)
        go_region_held3 (fun v => v.cell? ⟨xB, 0, none⟩ = some (.int .i64 2) ∧ v.cell? ⟨xB, 1, none⟩ = some (.int .i64 5) ∧ v.cell? ⟨xB, 2, none⟩ = some (.int .i64 0) ∧ v.cell? ⟨xB, 3, none⟩ = some (.int .u64 0) ∧ v.cell? ⟨xB, 4, none⟩ = some (.int .i64 g) ∧ v.cell? ⟨xB, 5, none⟩ = some (.int .i64 8) ∧ v.cell? ⟨xB, 6, none⟩ = some (.int .i64 0) ∧ v.cell? ⟨xB, 7, none⟩ = some (.int .i64 0))
          (first | exact K4.out | exact KA.out _ | exact K5.out | exact KS.out _ (bal HB5.out _) | exact KS.out _ (set2_below HB5.out _ _))
          (first
            | (go_at_call 10; (with_reducible refine (R2.out _ H4d.out).mono ?_); rintro e w5 ⟨rfl, hb5⟩; have HB5 := Lib.hid (show Below wc.heap.size wc w5 from (show Below wc.heap.size wc wc.drew from (Below.refl _ _).drew).trans hb5); have K5 := Lib.hid (KS.out w5 HB5.out); clear hb5)
            | (go_at_call 10; (with_reducible refine (R2.out _ H4a.out).mono ?_); rintro e w5 ⟨rfl, hb5⟩; have HB5 := Lib.hid (show Below wc.heap.size wc w5 from bgo (show Below wc.heap.size wc (wc.alloc (.cells #[.int .i64 0, .int .i64 0] 34)).drew from (bal (Below.refl _ _) _).drew) hb5); have HSB := Lib.hid ((hb5.block wc.heap.size (by simp)).trans (heap_alloc_new wc (.cells #[.int .i64 0, .int .i64 0] 34))); obtain ⟨s0, s1, sf0, sf1⟩ := slot_cells HSB.out; have K5 := Lib.hid (KS.out w5 HB5.out); clear hb5))
        all_goals
          go_wp2_with fail
          go_meet
          first
            | exact ⟨rfl, Lib.hid (RmX.call HX6.out (bal HB5.out _)), (bal HB5.out _).block yB (Array.getElem?_eq_some_iff.1 HY6.out).1 |>.trans HY6.out⟩
            | exact ⟨rfl, Lib.hid (RmX.call HX6.out (set2_below HB5.out _ _)), (set2_below HB5.out _ _).block yB (Array.getElem?_eq_some_iff.1 HY6.out).1 |>.trans HY6.out⟩
      case rest =>
        obtain ⟨rfl, HX7, hy7⟩ := hcut
        obtain ⟨k0, k1, -, -⟩ := slot_cells hy7
        have HBL := Lib.hid HX7.out.1.below
        have HTL := Lib.hid (HT.out.call HBL.out)
        clear hy7 HX6 HY6 R2 hw5 hw6 hw7 hxor
        go_wp2_with (go_at_call 8; (with_reducible refine (awake16 _ HTL.out).mono ?_); rintro e w7 ⟨rfl, hb7⟩)
        go_ret
        exact ⟨rfl, HBL.out.trans (hb7.mono HBL.out.size)⟩
end Go.Proofs.YtnjdljjmengjbaaDoor
