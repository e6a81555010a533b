/- LookupNone. -/
import Derived.Test.YtnjdljjmengjbaaDoorPkj
namespace Go.Proofs.YtnjdljjmengjbaaDoor
set_option linter.unusedVariables false
set_option linter.unusedSimpArgs false
open Go.ChangeShapes Go.WideShapes Go.ChangeAt Go.RowKit Go.Shelf

set_option maxRecDepth 100000 in
theorem open_t25 {W : World} {base : Nat} {v : Value} (hv : Value.okWide Tryd.prog W .any base 25 v) : ∃ x : TabS.Cp, v = x.V ∧ TabS.InS x.e := by
  obtain ⟨cs, rfl, hl, hc⟩ := agg_cells (ts := [3, 3, 3, 23, 3, 3, 3, 3]) Tryd.underlying25 (by kernel_rfl) (by kernel_rfl) hv
  obtain ⟨v0, e0, o0⟩ := hc 0 _ rfl
  obtain ⟨a, rfl, b0⟩ := cell_i64 Tryd.underlying3 o0
  obtain ⟨v1, e1, o1⟩ := hc 1 _ rfl
  obtain ⟨b, rfl, b1⟩ := cell_i64 Tryd.underlying3 o1
  obtain ⟨v2, e2, o2⟩ := hc 2 _ rfl
  obtain ⟨c, rfl, b2⟩ := cell_i64 Tryd.underlying3 o2
  obtain ⟨v3, e3, o3⟩ := hc 3 _ rfl
  obtain ⟨d, rfl, b3⟩ := cell_u64 Tryd.underlying23 o3
  obtain ⟨v4, e4, o4⟩ := hc 4 _ rfl
  obtain ⟨e, rfl, b4⟩ := cell_i64 Tryd.underlying3 o4
  obtain ⟨v5, e5, o5⟩ := hc 5 _ rfl
  obtain ⟨f, rfl, b5⟩ := cell_i64 Tryd.underlying3 o5
  obtain ⟨v6, e6, o6⟩ := hc 6 _ rfl
  obtain ⟨g, rfl, b6⟩ := cell_i64 Tryd.underlying3 o6
  obtain ⟨v7, e7, o7⟩ := hc 7 _ rfl
  obtain ⟨h, rfl, b7⟩ := cell_i64 Tryd.underlying3 o7
  match cs, hl with
  | [x0, x1, x2, x3, x4, x5, x6, x7], _ =>
    cases e0
    cases e1
    cases e2
    cases e3
    cases e4
    cases e5
    cases e6
    cases e7
    exact ⟨⟨a, b, c, d, e, f, g, h⟩, rfl, b4⟩
abbrev zval_t25 : Value := .agg #[.int .i64 0, .int .i64 0, .int .i64 0, .int .u64 0, .int .i64 0, .int .i64 0, .int .i64 0, .int .i64 0]
abbrev zdat_t25 {H : Type} : DataW H := .agg [.lit (.int .i64 0), .lit (.int .i64 0), .lit (.int .i64 0), .lit (.int .u64 0), .lit (.int .i64 0), .lit (.int .i64 0), .lit (.int .i64 0), .lit (.int .i64 0)]

theorem u64_in {n : Int} (h : (Lit.int .u64 n).wf = true) : ∃ a : Nat, n = a ∧ a < 2 ^ 64 := by
  have e1 : IntKind.u64.min = 0 := rfl
  have e2 : IntKind.u64.max = 18446744073709551615 := rfl
  simp [Lit.wf, e1, e2] at h
  exact ⟨n.toNat, by omega, by omega⟩
open LkS in
set_option maxRecDepth 100000 in
set_option maxHeartbeats 1000000 in
theorem walk_lookupNone {W : World} (c : TabS.Cp) (w0 : TabS.InS c.e) (a1 : Int) (w1 : (Lit.int .u64 a1).wf = true) (d : Int) (w2 : (Lit.int .i64 d).wf = true) (hL : LaidV_laid_math_bits_deBruijn64tab W) :
    Calls Tryd.prog 7 #[c.V, .int .u64 a1, .int .i64 d] W fun e w' => e = .returned (.bool true) ∧ Below W.heap.size W w' := by
  obtain ⟨a, rfl, ha⟩ := u64_in w1
  have HT : Hid (CX.TabG W) := Lib.hid hL
  clear w0 w1 w2 hL ha
  have hal : Below W.heap.size W (W.alloc (.cells #[.int .i64 c.a, .int .i64 c.b, .int .i64 c.c, .int .u64 c.d, .int .i64 c.e, .int .i64 c.f, .int .i64 c.g, .int .i64 c.h] 25)) := bal (Below.refl _ _) _
  have hc0 : (W.alloc (.cells c.L.toArray 25)).heap[W.heap.size]? = some (.cells c.L.toArray 25 (0, 0)) := heap_alloc_new W _
  have HAL := Lib.hid hal
  have HC0 := Lib.hid hc0
  clear hal hc0
  go_enter Tryd.func7, Tryd.ntmps7
  go_upto_region 2 with (go_at_call 9; (with_reducible refine (room_nil _ (HT.out.call HAL.out)).mono ?_); rintro e w1 ⟨sb, srb, b, rb, rfl, h1⟩; have HB1 := Lib.hid h1.below; clear h1)
  have HBW1 := Lib.hid (HAL.out.trans (HB1.out.mono HAL.out.size))
  have HC1 := Lib.hid ((HB1.out.block W.heap.size (by simp)).trans HC0.out)
  obtain ⟨xB, hxB⟩ : ∃ x, x = W.heap.size := ⟨_, rfl⟩
  rw [← hxB] at HC1 ⊢
  clear hxB HC0 HB1 HAL
  obtain ⟨x0, x1, x2, x3, x4, x5, x6, x7⟩ := cap_cells HC1.out
  go_upto_region 3 with (go_at_call 10; (with_reducible refine (resolve_nil _ none _ c a d (.inl rfl)).mono ?_); rintro e w2 ⟨rfl, hb2⟩; have HB2 := Lib.hid hb2; clear hb2)
  obtain ⟨w3, hw3⟩ : ∃ y, y = w2.alloc (.cells #[.int .i64 0, .int .i64 0] 34) := ⟨_, rfl⟩
  have hb3 : Below w1.heap.size w1 w3 := hw3 ▸ bal HB2.out _
  have hs3 : w3.heap[w2.heap.size]? = some (.cells #[.int .i64 0, .int .i64 0] 34 (0, 0)) := by rw [hw3]; exact heap_alloc_new w2 _
  rw [← hw3]
  have HBW3 := Lib.hid (HBW1.out.trans (hb3.mono HBW1.out.size))
  have HC3 := Lib.hid ((hb3.block xB (Array.getElem?_eq_some_iff.1 HC1.out).1).trans HC1.out)
  have HS3 := Lib.hid hs3
  clear x0 x1 x2 x3 x4 x5 x6 x7
  obtain ⟨x0, x1, x2, x3, x4, x5, x6, x7⟩ := cap_cells HC3.out
  generalize w2.heap.size = yB at *
  clear hw3 hb3 hs3 HC1 HB2 HBW1
  go_upto_region 4 with (go_at_call 10; (with_reducible refine (resolve_nil _ _ none c a d (.inr rfl)).mono ?_); rintro e w4 ⟨rfl, hb4⟩; have HB4 := Lib.hid hb4; clear hb4)
  obtain ⟨w5, hw5⟩ : ∃ y, y = w4.alloc (.cells #[.int .i64 0, .int .i64 0] 34) := ⟨_, rfl⟩
  have hb5 : Below w3.heap.size w3 w5 := hw5 ▸ bal HB4.out _
  have hs5 : w5.heap[w4.heap.size]? = some (.cells #[.int .i64 0, .int .i64 0] 34 (0, 0)) := by rw [hw5]; exact heap_alloc_new w4 _
  rw [← hw5]
  have HBW5 := Lib.hid (HBW3.out.trans (hb5.mono HBW3.out.size))
  have HC5 := Lib.hid ((hb5.block xB (Array.getElem?_eq_some_iff.1 HC3.out).1).trans HC3.out)
  have HS5 := Lib.hid ((hb5.block yB (Array.getElem?_eq_some_iff.1 HS3.out).1).trans HS3.out)
  clear x0 x1 x2 x3 x4 x5 x6 x7
  obtain ⟨x0, x1, x2, x3, x4, x5, x6, x7⟩ := cap_cells HC5.out
  obtain ⟨k0, k1, -, -⟩ := slot_cells HS5.out
  obtain ⟨m0, m1, -, -⟩ := slot_cells hs5
  generalize w4.heap.size = zB at *
  clear hw5 hb5 hs5 HC3 HS3 HB4 HBW3
  go_wp2_with (first
    | (go_at_call 12; (with_reducible refine (path_nil _ none _ c a d (.inl rfl)).mono ?_); rintro e w6 ⟨rfl, hb6⟩; have HBW6 := Lib.hid (HBW5.out.trans (hb6.mono HBW5.out.size)); clear hb6)
    | (go_at_call 8; (with_reducible refine (awake16 _ (HT.out.call HBW6.out)).mono ?_); rintro e w7 ⟨rfl, hb7⟩))
  go_ret
  exact ⟨rfl, HBW6.out.trans (hb7.mono HBW6.out.size)⟩
end Go.Proofs.YtnjdljjmengjbaaDoor
