import Derived.Test.YtnjdljjmengjbaaDoorPki
import Derived.Test.YtnjdljjmengjbaaDoorPkc
namespace Go.Proofs.YtnjdljjmengjbaaDoor
/- chapter 16: awake; without slots or arena. -/
section
set_option linter.unusedVariables false
set_option linter.unusedSimpArgs false
open Go.ChangeShapes Go.WideShapes Go.ChangeAt Go.RowKit Go.Shelf

namespace LkS
open TabS (Cp Sn zC mayC)
theorem puts_nil (W : World) : PutsAt W none 0 (fun _ => ⟨0, 0, zC⟩) := ⟨0, 0, fun h => by omega, fun k h => by omega⟩
theorem room_nil (W : World) (hT : CX.TabG W) : Calls Tryd.prog 9 #[.slice none 0 0] W fun e w' => ∃ sb srb b rb, e = .returned (.tuple #[.pointer (some ⟨sb, 0, none⟩), .pointer (some ⟨b, 0, none⟩), .pointer (some ⟨srb, 0, none⟩), .pointer (some ⟨rb, 0, none⟩)]) ∧ RmP W w' sb srb b rb (cnS 5) (cnS 5) := room_any W none 0 0 _ (by omega) (puts_nil W) hT
theorem res_5 : resR (cnS 5) (stO 5).2 ⟨2, 5, 0, 0, 0, 8, 0, 0⟩ 5 12 = (5, 5, 0) := by decide +kernel
theorem res_105 : resR (cnS 5) (stO 5).2 ⟨2, 5, 0, 0, 0, 8, 0, 0⟩ 261 12 = (0, 0, 12) := by decide +kernel
set_option maxRecDepth 100000 in
set_option maxHeartbeats 1000000 in
theorem awake16 (W : World) (hT : CX.TabG W) : Calls Tryd.prog 8 #[] W fun e w' => e = .returned (.bool true) ∧ Below W.heap.size W w' := by
  have HT := Lib.hid hT
  clear hT
  go_enter Tryd.func8, Tryd.ntmps8
  go_upto_region 5 with (go_at_call 9; (with_reducible refine (room_nil _ HT.out).mono ?_); rintro e w1 ⟨sb, srb, b, rb, rfl, h1⟩; have H1 := Lib.hid h1; clear h1)
  obtain ⟨w2, hw2⟩ : ∃ y, y = w1.alloc (.cells #[.int .i64 2, .int .i64 5, .int .i64 0, .int .u64 0, .int .i64 0, .int .i64 8, .int .i64 0, .int .i64 0] 25) := ⟨_, rfl⟩
  have hb2 : Below w1.heap.size w1 w2 := hw2 ▸ bal (Below.refl _ _) _
  have hc2 : w2.heap[w1.heap.size]? = some (.cells (Cp.L ⟨2, 5, 0, 0, 0, 8, 0, 0⟩).toArray 25 (0, 0)) := by rw [hw2]; exact heap_alloc_new w1 _
  rw [← hw2]
  have H2 := Lib.hid (H1.out.call hb2)
  have HC2 := Lib.hid hc2
  obtain ⟨x0, x1, x2, x3, x4, x5, x6, x7⟩ := cap_cells hc2
  simp only [] at x0 x1 x2 x3 x4 x5 x6 x7
  have R1 : Hid (∀ v, RmP W v sb srb b rb (cnS 5) (cnS 5) → Calls Tryd.prog 10 #[.pointer (some ⟨sb, 0, none⟩), .pointer (some ⟨b, 0, none⟩), .agg #[.int .i64 2, .int .i64 5, .int .i64 0, .int .u64 0, .int .i64 0, .int .i64 8, .int .i64 0, .int .i64 0], .int .u64 5, .int .i64 12] v fun e w' => e = .returned (.tuple #[.agg #[.int .i64 5, .int .i64 5], .int .i64 0]) ∧ Below v.heap.size v w') := Lib.hid (fun v hv => by
    have := hv.resolve HT.out caps_cn ⟨2, 5, 0, 0, 0, 8, 0, 0⟩ 5 12 (by decide) (by decide)
    rw [res_5] at this
    exact this)
  have R2 : Hid (∀ v, RmP W v sb srb b rb (cnS 5) (cnS 5) → Calls Tryd.prog 10 #[.pointer (some ⟨sb, 0, none⟩), .pointer (some ⟨b, 0, none⟩), .agg #[.int .i64 2, .int .i64 5, .int .i64 0, .int .u64 0, .int .i64 0, .int .i64 8, .int .i64 0, .int .i64 0], .int .u64 261, .int .i64 12] v fun e w' => e = .returned (.tuple #[.agg #[.int .i64 0, .int .i64 0], .int .i64 12]) ∧ Below v.heap.size v w') := Lib.hid (fun v hv => by
    have := hv.resolve HT.out caps_cn ⟨2, 5, 0, 0, 0, 8, 0, 0⟩ 261 12 (by decide) (by decide)
    rw [res_105] at this
    exact this)
  generalize w1.heap.size = xB at *
  clear hw2 hb2 hc2 H1
  go_upto_region 6 with (go_at_call 10; (with_reducible refine (R1.out _ H2.out).mono ?_); rintro e w3 ⟨rfl, hb3⟩; have HB3 := Lib.hid hb3; clear hb3)
  obtain ⟨w4, hw4⟩ : ∃ y, y = w3.alloc (.cells #[.int .i64 5, .int .i64 5] 34) := ⟨_, rfl⟩
  have hb4 : Below w2.heap.size w2 w4 := hw4 ▸ bal HB3.out _
  have hs4 : w4.heap[w3.heap.size]? = some (.cells #[.int .i64 5, .int .i64 5] 34 (0, 0)) := by rw [hw4]; exact heap_alloc_new w3 _
  rw [← hw4]
  have H4 := Lib.hid (H2.out.call hb4)
  have HC4 := Lib.hid ((hb4.block xB (Array.getElem?_eq_some_iff.1 HC2.out).1).trans HC2.out)
  have HS4 := Lib.hid hs4
  clear x0 x1 x2 x3 x4 x5 x6 x7
  obtain ⟨x0, x1, x2, x3, x4, x5, x6, x7⟩ := cap_cells HC4.out
  simp only [] at x0 x1 x2 x3 x4 x5 x6 x7
  generalize w3.heap.size = yB at *
  clear hw4 hb4 hs4 H2 HC2 HB3 R1
  go_upto_region 7 with (go_at_call 10; (with_reducible refine (R2.out _ H4.out).mono ?_); rintro e w5 ⟨rfl, hb5⟩; have HB5 := Lib.hid hb5; clear hb5)
  obtain ⟨w6, hw6⟩ : ∃ y, y = w5.alloc (.cells #[.int .i64 0, .int .i64 0] 34) := ⟨_, rfl⟩
  have hb6 : Below w4.heap.size w4 w6 := hw6 ▸ bal HB5.out _
  have hs6 := (hb6.block yB (Array.getElem?_eq_some_iff.1 HS4.out).1).trans HS4.out
  rw [← hw6]
  have H6 := Lib.hid (H4.out.call hb6)
  obtain ⟨k0, k1, -, -⟩ := slot_cells hs6
  clear hw6 hb6 hs6 H4 HC4 HS4 HB5 R2 x0 x1 x2 x3 x4 x5 x6 x7
  go_wp2
  go_ret
  exact ⟨rfl, H6.out.below⟩
end LkS
end
end Go.Proofs.YtnjdljjmengjbaaDoor
