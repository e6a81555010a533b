/- LookupTwo. -/
import Derived.Test.YtnjdljjmengjbaaDoorLkT
import Derived.Test.YtnjdljjmengjbaaDoorLkI
import Derived.Test.YtnjdljjmengjbaaDoorPkg
namespace Go.Proofs.YtnjdljjmengjbaaDoor
set_option linter.unusedVariables false
set_option linter.unusedSimpArgs false
open Go.ChangeShapes Go.WideShapes Go.ChangeAt Go.RowKit Go.Shelf

open LkS in
set_option maxRecDepth 100000 in
set_option maxHeartbeats 1000000 in
theorem walk_lookupTwo {W : World} (a0 : Int) (w0 : (Lit.int .i64 a0).wf = true) (a1 : Int) (w1 : (Lit.int .i64 a1).wf = true) (a2 : Int) (w2 : (Lit.int .i64 a2).wf = true) (hL : LaidV_laid_math_bits_deBruijn64tab W) :
    Calls Tryd.prog 6 #[.int .i64 a0, .int .i64 a1, .int .i64 a2] W fun e w' => e = .returned (.bool true) ∧ Below W.heap.size W w' := by
  have HT : Hid (CX.TabG W) := Lib.hid hL
  have q0 := TabS.wf_S w0
  have q1 := TabS.wf_S w1
  have q2 := TabS.wf_S w2
  have HL0 : Hid (∀ v, Calls Tryd.prog 17 #[.int .i64 a0, .int .i64 16] v fun e w' => e = .returned (.int .i64 (lowI a0 16)) ∧ v = w') := Lib.hid (fun v => low_any a0 16 v q0 (by decide) (by decide))
  have HL1 : Hid (∀ v, Calls Tryd.prog 17 #[.int .i64 a1, .int .i64 8] v fun e w' => e = .returned (.int .i64 (lowI a1 8)) ∧ v = w') := Lib.hid (fun v => low_any a1 8 v q1 (by decide) (by decide))
  have HL2 : Hid (∀ v, Calls Tryd.prog 17 #[.int .i64 a2, .int .i64 32] v fun e w' => e = .returned (.int .i64 (lowI a2 32)) ∧ v = w') := Lib.hid (fun v => low_any a2 32 v q2 (by decide) (by decide))
  have i0 := lowI_0 a0 16 (by decide)
  have i1 := lowI_1 a0 16 (by decide)
  have j0 := lowI_0 a1 8 (by decide)
  have j1 := lowI_1 a1 8 (by decide)
  have g0 := lowI_0 a2 32 (by decide)
  have g1 := lowI_1 a2 32 (by decide)
  obtain ⟨i, hi⟩ : ∃ i : Nat, lowI a0 16 = i := ⟨(lowI a0 16).toNat, by omega⟩
  obtain ⟨j, hj⟩ : ∃ i : Nat, lowI a1 8 = i := ⟨(lowI a1 8).toNat, by omega⟩
  obtain ⟨g, hg⟩ : ∃ i : Nat, lowI a2 32 = i := ⟨(lowI a2 32).toNat, by omega⟩
  rw [hi] at HL0 i1
  rw [hj] at HL1 j1
  rw [hg] at HL2 g1
  have hI : (i : Int) < 16 := i1
  have hJ : (j : Int) < 8 := j1
  have hG : (g : Int) < 32 := g1
  have HRES := Lib.hid (two_res i (by omega) g (by omega) j (by omega))
  clear w0 w1 w2 hL q0 q1 q2 i0 j0 g0 hi hj hg i1 j1 g1
  go_enter Tryd.func6, Tryd.ntmps6
  go_upto_region 2 with (first
    | (go_at_call 17; (with_reducible refine (HL0.out _).mono ?_); rintro e w' ⟨rfl, rfl⟩)
    | (go_at_call 17; (with_reducible refine (HL1.out _).mono ?_); rintro e w' ⟨rfl, rfl⟩)
    | (go_at_call 17; (with_reducible refine (HL2.out _).mono ?_); rintro e w' ⟨rfl, rfl⟩))
  obtain ⟨W1, hW1⟩ : ∃ y, y = W.alloc (.cells #[.int .i64 5, .int .i64 (i : Int), .int .i64 2, .int .i64 3, .int .i64 0, .int .u64 0, .int .i64 (g : Int), .int .i64 5, .int .i64 0, .int .i64 0] 52) := ⟨_, rfl⟩
  have hbW1 : Below W.heap.size W W1 := hW1 ▸ bal (Below.refl _ _) _
  have hblk : W1.heap[W.heap.size]? = some (.cells (PutC.cells ⟨5, i, ⟨2, 3, 0, 0, g, 5, 0, 0⟩⟩).toArray 52 (0, 0)) := by rw [hW1]; exact heap_alloc_new W _
  have hput : PutsAt W1 (some ⟨W.heap.size, 0, none⟩) 1 (fun _ => ⟨5, i, ⟨2, 3, 0, 0, g, 5, 0, 0⟩⟩) := ⟨W.heap.size, 0, fun _ => ⟨rfl, (Array.getElem?_eq_some_iff.1 hblk).1⟩, fun k hk => by
    obtain rfl : k = 0 := by omega
    refine ⟨fun t v ht => ?_, ?_⟩
    · rw [show 0 + 0 * 10 + t = t by omega, cell_cur hblk t]
      exact ht
    · show (g : Int) ≤ 9223372036854775807
      omega⟩
  have HROOM := Lib.hid (room_any W1 (some ⟨W.heap.size, 0, none⟩) 1 1 _ (by omega) hput (HT.out.call hbW1))
  have HBW1 := Lib.hid hbW1
  have HTW1 := Lib.hid (HT.out.call hbW1)
  rw [hW1] at HROOM
  have HW1 := Lib.hid hW1
  clear hW1 hbW1 hblk hput
  go_upto_region 5 with (go_at_call 9; (with_reducible refine HROOM.out.mono ?_); rintro e w1 ⟨sb, srb, b, rb, rfl, h1⟩; rw [← HW1.out] at h1; have H1 := Lib.hid h1; clear h1)
  clear HROOM HW1
  have RES : Hid (Calls Tryd.prog 10 #[.pointer (some ⟨sb, 0, none⟩), .pointer (some ⟨b, 0, none⟩), .agg #[.int .i64 2, .int .i64 5, .int .i64 0, .int .u64 0, .int .i64 0, .int .i64 0, .int .i64 0, .int .i64 0], .int .u64 ((i : Int) * 256 + g * 8 + j), .int .i64 12] w1 fun e w' => e = .returned (.tuple #[.agg #[.int .i64 3, .int .i64 j], .int .i64 0]) ∧ Below w1.heap.size w1 w') := Lib.hid (by
    have h := H1.out.resolve HTW1.out (caps_play _ 1) ⟨2, 5, 0, 0, 0, 0, 0, 0⟩ (i * 256 + g * 8 + j) 12 (by decide) (by omega)
    rw [show playP (fun _ => ⟨5, (i : Int), ⟨2, 3, 0, 0, (g : Int), 5, 0, 0⟩⟩) 1 = TabS.setM (cnS 5) 5 i ⟨2, 3, 0, 0, g, 5, 0, 0⟩ from rfl, HRES.out, show (((i * 256 + g * 8 + j : Nat)) : Int) = (i : Int) * 256 + g * 8 + j by omega] at h
    exact h)
  have HBW := Lib.hid (HBW1.out.trans (H1.out.below.mono HBW1.out.size))
  clear H1 HRES HBW1 HTW1 HL0 HL1 HL2
  go_upto_region 7 with (go_at_call 10; (with_reducible refine RES.out.mono ?_); rintro e w2 ⟨rfl, hb2⟩; have HB2 := Lib.hid hb2; clear hb2)
  obtain ⟨w3, hw3⟩ : ∃ y, y = w2.alloc (.cells #[.int .i64 3, .int .i64 (j : Int)] 34) := ⟨_, rfl⟩
  have hb3 : Below w1.heap.size w1 w3 := hw3 ▸ bal HB2.out _
  have hs3 : w3.heap[w2.heap.size]? = some (.cells #[.int .i64 3, .int .i64 (j : Int)] 34 (0, 0)) := by rw [hw3]; exact heap_alloc_new w2 _
  rw [← hw3]
  have HBW3 := Lib.hid (HBW.out.trans (hb3.mono HBW.out.size))
  obtain ⟨k0, k1, -, -⟩ := slot_cells hs3
  generalize w2.heap.size = yB at *
  clear hw3 hb3 hs3 HB2 RES HBW
  go_wp2_with (go_at_call 8; (with_reducible refine (awake16 _ (HT.out.call HBW3.out)).mono ?_); rintro e w7 ⟨rfl, hb7⟩)
  go_ret
  exact ⟨rfl, HBW3.out.trans (hb7.mono HBW3.out.size)⟩
end Go.Proofs.YtnjdljjmengjbaaDoor
