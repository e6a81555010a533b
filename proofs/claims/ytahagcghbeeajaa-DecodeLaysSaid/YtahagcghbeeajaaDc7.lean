/- package decode: formsOf, Op by Op. -/
import Derived.Test.YtahagcghbeeajaaDc4
import Derived.Deep.MidRow
import Derived.OwnWalk
namespace Go.Proofs.Ytahagcghbeeajaa
set_option linter.unusedVariables false
set_option linter.unusedSimpArgs false
open Go.ChangeShapes Go.WideShapes Go.ChangeAt Go.RowKit Go.Shelf

set_option maxRecDepth 100000 in
set_option maxHeartbeats 2000000 in
theorem forms_16 (w : World) : Calls Try.prog 14 #[.int .u64 16] w fun e w' => ∃ v, e = .returned v ∧ FormsAt w' v [(1, 0, 4095), (3, 0, 4096)] ∧ Below w.heap.size w w' := by
  go_enter Try.func14, Try.ntmps14
  go_wp2
  rw [show ((((((w.alloc (frmO 1 0 4095)).alloc (frmO 2 0 4095)).alloc (frmO 3 0 4096)).alloc (frmO 3 0 7)).alloc (frmO 7 0 18446744073709551615)).alloc (frmO 3 0 2)).alloc (.cells #[.int .i64 0, .int .u64 0, .int .u64 0, .int .i64 0, .int .u64 0, .int .u64 0, .int .i64 0, .int .u64 0, .int .u64 0, .int .i64 0, .int .u64 0, .int .u64 0] 61) = own7 w from rfl]
  obtain ⟨h6, hm, hs, hb⟩ := own7_ok w
  generalize own7 w = w0 at h6 hm hs hb ⊢
  obtain ⟨B, hB⟩ : ∃ B, w.heap.size = B := ⟨_, rfl⟩
  rw [hB] at h6 hm hs hb ⊢
  have ha := h6.a
  have hb1 := h6.b
  have hg2 : w0.heap[B + 1 + 1]? = _ := h6.g
  have hk3 : w0.heap[B + 1 + 1 + 1]? = _ := h6.k
  have hx4 : w0.heap[B + 1 + 1 + 1 + 1]? = _ := h6.x
  have ho5 : w0.heap[B + 1 + 1 + 1 + 1 + 1]? = _ := h6.o
  have hm6 : w0.heap[B + 1 + 1 + 1 + 1 + 1 + 1]? = _ := hm
  have HS := Lib.hid hs
  have hBe : Hid (w.heap.size = B) := Lib.hid hB
  clear h6 hm hs hB
  generalize e1 : B + 1 = b1 at *
  generalize e2 : b1 + 1 = b2 at *
  generalize e3 : b2 + 1 = b3 at *
  generalize e4 : b3 + 1 = b4 at *
  generalize e5 : b4 + 1 = b5 at *
  generalize e6 : b5 + 1 = b6 at *
  have HE : Hid (B < b6 ∧ b1 < b6 ∧ b2 < b6 ∧ b3 < b6 ∧ b4 < b6 ∧ b5 < b6 ∧ b6 < w0.heap.size ∧ B ≤ b6) := Lib.hid (by have := HS.out; omega)
  have HB : Hid (Below B w w0) := Lib.hid hb
  clear e1 e2 e3 e4 e5 e6 hb
  have hi0 : MsgI w0 w0 b6 0 := ⟨hm6, Below.refl _ _, rfl⟩
  clear hm6
  go_loopw [17] (fun i wr => ∃ k : Nat, k ≤ 4 ∧ i = .int .i64 k ∧ Hid (MsgI w0 wr b6 k)) (fun i _ => 4 - (intOf i).toNat)
  case atStart => exact ⟨0, by omega, rfl, Lib.hid hi0⟩
  case round =>
    clear hi0
    obtain ⟨k, hk, rfl, HI⟩ := hrel
    have row := HI.out.row
    by_cases hlt : k < 4
    · have hf := frozen_of_row wr b6
      have hfr : ∀ j, wr.frozen? ⟨b6, j, none⟩ = false := fun j => frozen_of_row wr b6 j _ _ row
      clear row
      obtain rfl | rfl | rfl | rfl : k = 0 ∨ k = 1 ∨ k = 2 ∨ k = 3 := by omega
      all_goals clear hlt hk
      · go_wp2_with (refine wpList_store_mid rfl 53 _ _ rfl b6 0 #[.int .i64 8, .int .u64 0, .int .u64 18446744073709551615] rfl rfl (HI.out.there 0 (by decide)) (by kernel_rfl) (by kernel_rfl) ?_)
        go_roundw
        case rel => exact ⟨1, by omega, rfl, Lib.hid (HI.out.step (i := 0) rfl)⟩
        case measure => simp [intOf]
      · go_wp2_with (refine wpList_store_mid rfl 53 _ _ rfl b6 3 #[.int .i64 9, .int .u64 0, .int .u64 18446744073709551615] rfl rfl (HI.out.there 3 (by decide)) (by kernel_rfl) (by kernel_rfl) ?_)
        go_roundw
        case rel => exact ⟨2, by omega, rfl, Lib.hid (HI.out.step (i := 3) rfl)⟩
        case measure => simp [intOf]
      · go_wp2_with (refine wpList_store_mid rfl 53 _ _ rfl b6 6 #[.int .i64 10, .int .u64 0, .int .u64 18446744073709551615] rfl rfl (HI.out.there 6 (by decide)) (by kernel_rfl) (by kernel_rfl) ?_)
        go_roundw
        case rel => exact ⟨3, by omega, rfl, Lib.hid (HI.out.step (i := 6) rfl)⟩
        case measure => simp [intOf]
      · go_wp2_with (refine wpList_store_mid rfl 53 _ _ rfl b6 9 #[.int .i64 11, .int .u64 0, .int .u64 18446744073709551615] rfl rfl (HI.out.there 9 (by decide)) (by kernel_rfl) (by kernel_rfl) ?_)
        go_roundw
        case rel => exact ⟨4, by omega, rfl, Lib.hid (HI.out.step (i := 9) rfl)⟩
        case measure => simp [intOf]
    · obtain rfl : k = 4 := by omega
      have hbe := HI.out.below
      obtain ⟨l0, l1, l2, l3, l4, l5, l6, l7⟩ := HE.out
      obtain ⟨p0, p1, p2⟩ := frm_cells ((hbe.block _ l0).trans ha)
      obtain ⟨q0, q1, q2⟩ := frm_cells ((hbe.block _ l1).trans hb1)
      obtain ⟨r0, r1, r2⟩ := frm_cells ((hbe.block _ l2).trans hg2)
      obtain ⟨s0, s1, s2⟩ := frm_cells ((hbe.block _ l3).trans hk3)
      obtain ⟨t0, t1, t2⟩ := frm_cells ((hbe.block _ l4).trans hx4)
      obtain ⟨v0, v1, v2⟩ := frm_cells ((hbe.block _ l5).trans ho5)
      have HK : Hid (Below w.heap.size w wr) := Lib.hid (bel7 HB.out hbe hBe.out l7)
      clear ha hb1 hg2 hk3 hx4 ho5 hbe l0 l1 l2 l3 l4 l5 l6 l7 HE row HI
      go_wp2
      go_ret
      exact ⟨.slice (some ⟨wr.heap.size, 0, none⟩) 2 2, rfl, forms_new wr [(1, 0, 4095), (3, 0, 4096)] 2 _ (by decide), bal HK.out _⟩
set_option maxRecDepth 100000 in
set_option maxHeartbeats 2000000 in
theorem forms_19 (w : World) : Calls Try.prog 14 #[.int .u64 19] w fun e w' => ∃ v, e = .returned v ∧ FormsAt w' v [(1, 0, 4095), (3, 0, 2), (2, 0, 4095)] ∧ Below w.heap.size w w' := by
  go_enter Try.func14, Try.ntmps14
  go_wp2
  rw [show ((((((w.alloc (frmO 1 0 4095)).alloc (frmO 2 0 4095)).alloc (frmO 3 0 4096)).alloc (frmO 3 0 7)).alloc (frmO 7 0 18446744073709551615)).alloc (frmO 3 0 2)).alloc (.cells #[.int .i64 0, .int .u64 0, .int .u64 0, .int .i64 0, .int .u64 0, .int .u64 0, .int .i64 0, .int .u64 0, .int .u64 0, .int .i64 0, .int .u64 0, .int .u64 0] 61) = own7 w from rfl]
  obtain ⟨h6, hm, hs, hb⟩ := own7_ok w
  generalize own7 w = w0 at h6 hm hs hb ⊢
  obtain ⟨B, hB⟩ : ∃ B, w.heap.size = B := ⟨_, rfl⟩
  rw [hB] at h6 hm hs hb ⊢
  have ha := h6.a
  have hb1 := h6.b
  have hg2 : w0.heap[B + 1 + 1]? = _ := h6.g
  have hk3 : w0.heap[B + 1 + 1 + 1]? = _ := h6.k
  have hx4 : w0.heap[B + 1 + 1 + 1 + 1]? = _ := h6.x
  have ho5 : w0.heap[B + 1 + 1 + 1 + 1 + 1]? = _ := h6.o
  have hm6 : w0.heap[B + 1 + 1 + 1 + 1 + 1 + 1]? = _ := hm
  have HS := Lib.hid hs
  have hBe : Hid (w.heap.size = B) := Lib.hid hB
  clear h6 hm hs hB
  generalize e1 : B + 1 = b1 at *
  generalize e2 : b1 + 1 = b2 at *
  generalize e3 : b2 + 1 = b3 at *
  generalize e4 : b3 + 1 = b4 at *
  generalize e5 : b4 + 1 = b5 at *
  generalize e6 : b5 + 1 = b6 at *
  have HE : Hid (B < b6 ∧ b1 < b6 ∧ b2 < b6 ∧ b3 < b6 ∧ b4 < b6 ∧ b5 < b6 ∧ b6 < w0.heap.size ∧ B ≤ b6) := Lib.hid (by have := HS.out; omega)
  have HB : Hid (Below B w w0) := Lib.hid hb
  clear e1 e2 e3 e4 e5 e6 hb
  have hi0 : MsgI w0 w0 b6 0 := ⟨hm6, Below.refl _ _, rfl⟩
  clear hm6
  go_loopw [17] (fun i wr => ∃ k : Nat, k ≤ 4 ∧ i = .int .i64 k ∧ Hid (MsgI w0 wr b6 k)) (fun i _ => 4 - (intOf i).toNat)
  case atStart => exact ⟨0, by omega, rfl, Lib.hid hi0⟩
  case round =>
    clear hi0
    obtain ⟨k, hk, rfl, HI⟩ := hrel
    have row := HI.out.row
    by_cases hlt : k < 4
    · have hf := frozen_of_row wr b6
      have hfr : ∀ j, wr.frozen? ⟨b6, j, none⟩ = false := fun j => frozen_of_row wr b6 j _ _ row
      clear row
      obtain rfl | rfl | rfl | rfl : k = 0 ∨ k = 1 ∨ k = 2 ∨ k = 3 := by omega
      all_goals clear hlt hk
      · go_wp2_with (refine wpList_store_mid rfl 53 _ _ rfl b6 0 #[.int .i64 8, .int .u64 0, .int .u64 18446744073709551615] rfl rfl (HI.out.there 0 (by decide)) (by kernel_rfl) (by kernel_rfl) ?_)
        go_roundw
        case rel => exact ⟨1, by omega, rfl, Lib.hid (HI.out.step (i := 0) rfl)⟩
        case measure => simp [intOf]
      · go_wp2_with (refine wpList_store_mid rfl 53 _ _ rfl b6 3 #[.int .i64 9, .int .u64 0, .int .u64 18446744073709551615] rfl rfl (HI.out.there 3 (by decide)) (by kernel_rfl) (by kernel_rfl) ?_)
        go_roundw
        case rel => exact ⟨2, by omega, rfl, Lib.hid (HI.out.step (i := 3) rfl)⟩
        case measure => simp [intOf]
      · go_wp2_with (refine wpList_store_mid rfl 53 _ _ rfl b6 6 #[.int .i64 10, .int .u64 0, .int .u64 18446744073709551615] rfl rfl (HI.out.there 6 (by decide)) (by kernel_rfl) (by kernel_rfl) ?_)
        go_roundw
        case rel => exact ⟨3, by omega, rfl, Lib.hid (HI.out.step (i := 6) rfl)⟩
        case measure => simp [intOf]
      · go_wp2_with (refine wpList_store_mid rfl 53 _ _ rfl b6 9 #[.int .i64 11, .int .u64 0, .int .u64 18446744073709551615] rfl rfl (HI.out.there 9 (by decide)) (by kernel_rfl) (by kernel_rfl) ?_)
        go_roundw
        case rel => exact ⟨4, by omega, rfl, Lib.hid (HI.out.step (i := 9) rfl)⟩
        case measure => simp [intOf]
    · obtain rfl : k = 4 := by omega
      have hbe := HI.out.below
      obtain ⟨l0, l1, l2, l3, l4, l5, l6, l7⟩ := HE.out
      obtain ⟨p0, p1, p2⟩ := frm_cells ((hbe.block _ l0).trans ha)
      obtain ⟨q0, q1, q2⟩ := frm_cells ((hbe.block _ l1).trans hb1)
      obtain ⟨r0, r1, r2⟩ := frm_cells ((hbe.block _ l2).trans hg2)
      obtain ⟨s0, s1, s2⟩ := frm_cells ((hbe.block _ l3).trans hk3)
      obtain ⟨t0, t1, t2⟩ := frm_cells ((hbe.block _ l4).trans hx4)
      obtain ⟨v0, v1, v2⟩ := frm_cells ((hbe.block _ l5).trans ho5)
      have HK : Hid (Below w.heap.size w wr) := Lib.hid (bel7 HB.out hbe hBe.out l7)
      clear ha hb1 hg2 hk3 hx4 ho5 hbe l0 l1 l2 l3 l4 l5 l6 l7 HE row HI
      go_wp2
      go_ret
      exact ⟨.slice (some ⟨wr.heap.size, 0, none⟩) 3 3, rfl, forms_new wr [(1, 0, 4095), (3, 0, 2), (2, 0, 4095)] 3 _ (by decide), bal HK.out _⟩
set_option maxRecDepth 100000 in
set_option maxHeartbeats 2000000 in
theorem forms_20 (w : World) : Calls Try.prog 14 #[.int .u64 20] w fun e w' => ∃ v, e = .returned v ∧ FormsAt w' v [(1, 0, 4095), (3, 0, 2)] ∧ Below w.heap.size w w' := by
  go_enter Try.func14, Try.ntmps14
  go_wp2
  rw [show ((((((w.alloc (frmO 1 0 4095)).alloc (frmO 2 0 4095)).alloc (frmO 3 0 4096)).alloc (frmO 3 0 7)).alloc (frmO 7 0 18446744073709551615)).alloc (frmO 3 0 2)).alloc (.cells #[.int .i64 0, .int .u64 0, .int .u64 0, .int .i64 0, .int .u64 0, .int .u64 0, .int .i64 0, .int .u64 0, .int .u64 0, .int .i64 0, .int .u64 0, .int .u64 0] 61) = own7 w from rfl]
  obtain ⟨h6, hm, hs, hb⟩ := own7_ok w
  generalize own7 w = w0 at h6 hm hs hb ⊢
  obtain ⟨B, hB⟩ : ∃ B, w.heap.size = B := ⟨_, rfl⟩
  rw [hB] at h6 hm hs hb ⊢
  have ha := h6.a
  have hb1 := h6.b
  have hg2 : w0.heap[B + 1 + 1]? = _ := h6.g
  have hk3 : w0.heap[B + 1 + 1 + 1]? = _ := h6.k
  have hx4 : w0.heap[B + 1 + 1 + 1 + 1]? = _ := h6.x
  have ho5 : w0.heap[B + 1 + 1 + 1 + 1 + 1]? = _ := h6.o
  have hm6 : w0.heap[B + 1 + 1 + 1 + 1 + 1 + 1]? = _ := hm
  have HS := Lib.hid hs
  have hBe : Hid (w.heap.size = B) := Lib.hid hB
  clear h6 hm hs hB
  generalize e1 : B + 1 = b1 at *
  generalize e2 : b1 + 1 = b2 at *
  generalize e3 : b2 + 1 = b3 at *
  generalize e4 : b3 + 1 = b4 at *
  generalize e5 : b4 + 1 = b5 at *
  generalize e6 : b5 + 1 = b6 at *
  have HE : Hid (B < b6 ∧ b1 < b6 ∧ b2 < b6 ∧ b3 < b6 ∧ b4 < b6 ∧ b5 < b6 ∧ b6 < w0.heap.size ∧ B ≤ b6) := Lib.hid (by have := HS.out; omega)
  have HB : Hid (Below B w w0) := Lib.hid hb
  clear e1 e2 e3 e4 e5 e6 hb
  have hi0 : MsgI w0 w0 b6 0 := ⟨hm6, Below.refl _ _, rfl⟩
  clear hm6
  go_loopw [17] (fun i wr => ∃ k : Nat, k ≤ 4 ∧ i = .int .i64 k ∧ Hid (MsgI w0 wr b6 k)) (fun i _ => 4 - (intOf i).toNat)
  case atStart => exact ⟨0, by omega, rfl, Lib.hid hi0⟩
  case round =>
    clear hi0
    obtain ⟨k, hk, rfl, HI⟩ := hrel
    have row := HI.out.row
    by_cases hlt : k < 4
    · have hf := frozen_of_row wr b6
      have hfr : ∀ j, wr.frozen? ⟨b6, j, none⟩ = false := fun j => frozen_of_row wr b6 j _ _ row
      clear row
      obtain rfl | rfl | rfl | rfl : k = 0 ∨ k = 1 ∨ k = 2 ∨ k = 3 := by omega
      all_goals clear hlt hk
      · go_wp2_with (refine wpList_store_mid rfl 53 _ _ rfl b6 0 #[.int .i64 8, .int .u64 0, .int .u64 18446744073709551615] rfl rfl (HI.out.there 0 (by decide)) (by kernel_rfl) (by kernel_rfl) ?_)
        go_roundw
        case rel => exact ⟨1, by omega, rfl, Lib.hid (HI.out.step (i := 0) rfl)⟩
        case measure => simp [intOf]
      · go_wp2_with (refine wpList_store_mid rfl 53 _ _ rfl b6 3 #[.int .i64 9, .int .u64 0, .int .u64 18446744073709551615] rfl rfl (HI.out.there 3 (by decide)) (by kernel_rfl) (by kernel_rfl) ?_)
        go_roundw
        case rel => exact ⟨2, by omega, rfl, Lib.hid (HI.out.step (i := 3) rfl)⟩
        case measure => simp [intOf]
      · go_wp2_with (refine wpList_store_mid rfl 53 _ _ rfl b6 6 #[.int .i64 10, .int .u64 0, .int .u64 18446744073709551615] rfl rfl (HI.out.there 6 (by decide)) (by kernel_rfl) (by kernel_rfl) ?_)
        go_roundw
        case rel => exact ⟨3, by omega, rfl, Lib.hid (HI.out.step (i := 6) rfl)⟩
        case measure => simp [intOf]
      · go_wp2_with (refine wpList_store_mid rfl 53 _ _ rfl b6 9 #[.int .i64 11, .int .u64 0, .int .u64 18446744073709551615] rfl rfl (HI.out.there 9 (by decide)) (by kernel_rfl) (by kernel_rfl) ?_)
        go_roundw
        case rel => exact ⟨4, by omega, rfl, Lib.hid (HI.out.step (i := 9) rfl)⟩
        case measure => simp [intOf]
    · obtain rfl : k = 4 := by omega
      have hbe := HI.out.below
      obtain ⟨l0, l1, l2, l3, l4, l5, l6, l7⟩ := HE.out
      obtain ⟨p0, p1, p2⟩ := frm_cells ((hbe.block _ l0).trans ha)
      obtain ⟨q0, q1, q2⟩ := frm_cells ((hbe.block _ l1).trans hb1)
      obtain ⟨r0, r1, r2⟩ := frm_cells ((hbe.block _ l2).trans hg2)
      obtain ⟨s0, s1, s2⟩ := frm_cells ((hbe.block _ l3).trans hk3)
      obtain ⟨t0, t1, t2⟩ := frm_cells ((hbe.block _ l4).trans hx4)
      obtain ⟨v0, v1, v2⟩ := frm_cells ((hbe.block _ l5).trans ho5)
      have HK : Hid (Below w.heap.size w wr) := Lib.hid (bel7 HB.out hbe hBe.out l7)
      clear ha hb1 hg2 hk3 hx4 ho5 hbe l0 l1 l2 l3 l4 l5 l6 l7 HE row HI
      go_wp2
      go_ret
      exact ⟨.slice (some ⟨wr.heap.size, 0, none⟩) 2 2, rfl, forms_new wr [(1, 0, 4095), (3, 0, 2)] 2 _ (by decide), bal HK.out _⟩
set_option maxRecDepth 100000 in
set_option maxHeartbeats 2000000 in
theorem forms_21 (w : World) : Calls Try.prog 14 #[.int .u64 21] w fun e w' => ∃ v, e = .returned v ∧ FormsAt w' v [(1, 0, 4095)] ∧ Below w.heap.size w w' := by
  go_enter Try.func14, Try.ntmps14
  go_wp2
  rw [show ((((((w.alloc (frmO 1 0 4095)).alloc (frmO 2 0 4095)).alloc (frmO 3 0 4096)).alloc (frmO 3 0 7)).alloc (frmO 7 0 18446744073709551615)).alloc (frmO 3 0 2)).alloc (.cells #[.int .i64 0, .int .u64 0, .int .u64 0, .int .i64 0, .int .u64 0, .int .u64 0, .int .i64 0, .int .u64 0, .int .u64 0, .int .i64 0, .int .u64 0, .int .u64 0] 61) = own7 w from rfl]
  obtain ⟨h6, hm, hs, hb⟩ := own7_ok w
  generalize own7 w = w0 at h6 hm hs hb ⊢
  obtain ⟨B, hB⟩ : ∃ B, w.heap.size = B := ⟨_, rfl⟩
  rw [hB] at h6 hm hs hb ⊢
  have ha := h6.a
  have hb1 := h6.b
  have hg2 : w0.heap[B + 1 + 1]? = _ := h6.g
  have hk3 : w0.heap[B + 1 + 1 + 1]? = _ := h6.k
  have hx4 : w0.heap[B + 1 + 1 + 1 + 1]? = _ := h6.x
  have ho5 : w0.heap[B + 1 + 1 + 1 + 1 + 1]? = _ := h6.o
  have hm6 : w0.heap[B + 1 + 1 + 1 + 1 + 1 + 1]? = _ := hm
  have HS := Lib.hid hs
  have hBe : Hid (w.heap.size = B) := Lib.hid hB
  clear h6 hm hs hB
  generalize e1 : B + 1 = b1 at *
  generalize e2 : b1 + 1 = b2 at *
  generalize e3 : b2 + 1 = b3 at *
  generalize e4 : b3 + 1 = b4 at *
  generalize e5 : b4 + 1 = b5 at *
  generalize e6 : b5 + 1 = b6 at *
  have HE : Hid (B < b6 ∧ b1 < b6 ∧ b2 < b6 ∧ b3 < b6 ∧ b4 < b6 ∧ b5 < b6 ∧ b6 < w0.heap.size ∧ B ≤ b6) := Lib.hid (by have := HS.out; omega)
  have HB : Hid (Below B w w0) := Lib.hid hb
  clear e1 e2 e3 e4 e5 e6 hb
  have hi0 : MsgI w0 w0 b6 0 := ⟨hm6, Below.refl _ _, rfl⟩
  clear hm6
  go_loopw [17] (fun i wr => ∃ k : Nat, k ≤ 4 ∧ i = .int .i64 k ∧ Hid (MsgI w0 wr b6 k)) (fun i _ => 4 - (intOf i).toNat)
  case atStart => exact ⟨0, by omega, rfl, Lib.hid hi0⟩
  case round =>
    clear hi0
    obtain ⟨k, hk, rfl, HI⟩ := hrel
    have row := HI.out.row
    by_cases hlt : k < 4
    · have hf := frozen_of_row wr b6
      have hfr : ∀ j, wr.frozen? ⟨b6, j, none⟩ = false := fun j => frozen_of_row wr b6 j _ _ row
      clear row
      obtain rfl | rfl | rfl | rfl : k = 0 ∨ k = 1 ∨ k = 2 ∨ k = 3 := by omega
      all_goals clear hlt hk
      · go_wp2_with (refine wpList_store_mid rfl 53 _ _ rfl b6 0 #[.int .i64 8, .int .u64 0, .int .u64 18446744073709551615] rfl rfl (HI.out.there 0 (by decide)) (by kernel_rfl) (by kernel_rfl) ?_)
        go_roundw
        case rel => exact ⟨1, by omega, rfl, Lib.hid (HI.out.step (i := 0) rfl)⟩
        case measure => simp [intOf]
      · go_wp2_with (refine wpList_store_mid rfl 53 _ _ rfl b6 3 #[.int .i64 9, .int .u64 0, .int .u64 18446744073709551615] rfl rfl (HI.out.there 3 (by decide)) (by kernel_rfl) (by kernel_rfl) ?_)
        go_roundw
        case rel => exact ⟨2, by omega, rfl, Lib.hid (HI.out.step (i := 3) rfl)⟩
        case measure => simp [intOf]
      · go_wp2_with (refine wpList_store_mid rfl 53 _ _ rfl b6 6 #[.int .i64 10, .int .u64 0, .int .u64 18446744073709551615] rfl rfl (HI.out.there 6 (by decide)) (by kernel_rfl) (by kernel_rfl) ?_)
        go_roundw
        case rel => exact ⟨3, by omega, rfl, Lib.hid (HI.out.step (i := 6) rfl)⟩
        case measure => simp [intOf]
      · go_wp2_with (refine wpList_store_mid rfl 53 _ _ rfl b6 9 #[.int .i64 11, .int .u64 0, .int .u64 18446744073709551615] rfl rfl (HI.out.there 9 (by decide)) (by kernel_rfl) (by kernel_rfl) ?_)
        go_roundw
        case rel => exact ⟨4, by omega, rfl, Lib.hid (HI.out.step (i := 9) rfl)⟩
        case measure => simp [intOf]
    · obtain rfl : k = 4 := by omega
      have hbe := HI.out.below
      obtain ⟨l0, l1, l2, l3, l4, l5, l6, l7⟩ := HE.out
      obtain ⟨p0, p1, p2⟩ := frm_cells ((hbe.block _ l0).trans ha)
      obtain ⟨q0, q1, q2⟩ := frm_cells ((hbe.block _ l1).trans hb1)
      obtain ⟨r0, r1, r2⟩ := frm_cells ((hbe.block _ l2).trans hg2)
      obtain ⟨s0, s1, s2⟩ := frm_cells ((hbe.block _ l3).trans hk3)
      obtain ⟨t0, t1, t2⟩ := frm_cells ((hbe.block _ l4).trans hx4)
      obtain ⟨v0, v1, v2⟩ := frm_cells ((hbe.block _ l5).trans ho5)
      have HK : Hid (Below w.heap.size w wr) := Lib.hid (bel7 HB.out hbe hBe.out l7)
      clear ha hb1 hg2 hk3 hx4 ho5 hbe l0 l1 l2 l3 l4 l5 l6 l7 HE row HI
      go_wp2
      go_ret
      exact ⟨.slice (some ⟨wr.heap.size, 0, none⟩) 1 1, rfl, forms_new wr [(1, 0, 4095)] 1 _ (by decide), bal HK.out _⟩
set_option maxRecDepth 100000 in
set_option maxHeartbeats 2000000 in
theorem forms_22 (w : World) : Calls Try.prog 14 #[.int .u64 22] w fun e w' => ∃ v, e = .returned v ∧ FormsAt w' v [(1, 0, 4095)] ∧ Below w.heap.size w w' := by
  go_enter Try.func14, Try.ntmps14
  go_wp2
  rw [show ((((((w.alloc (frmO 1 0 4095)).alloc (frmO 2 0 4095)).alloc (frmO 3 0 4096)).alloc (frmO 3 0 7)).alloc (frmO 7 0 18446744073709551615)).alloc (frmO 3 0 2)).alloc (.cells #[.int .i64 0, .int .u64 0, .int .u64 0, .int .i64 0, .int .u64 0, .int .u64 0, .int .i64 0, .int .u64 0, .int .u64 0, .int .i64 0, .int .u64 0, .int .u64 0] 61) = own7 w from rfl]
  obtain ⟨h6, hm, hs, hb⟩ := own7_ok w
  generalize own7 w = w0 at h6 hm hs hb ⊢
  obtain ⟨B, hB⟩ : ∃ B, w.heap.size = B := ⟨_, rfl⟩
  rw [hB] at h6 hm hs hb ⊢
  have ha := h6.a
  have hb1 := h6.b
  have hg2 : w0.heap[B + 1 + 1]? = _ := h6.g
  have hk3 : w0.heap[B + 1 + 1 + 1]? = _ := h6.k
  have hx4 : w0.heap[B + 1 + 1 + 1 + 1]? = _ := h6.x
  have ho5 : w0.heap[B + 1 + 1 + 1 + 1 + 1]? = _ := h6.o
  have hm6 : w0.heap[B + 1 + 1 + 1 + 1 + 1 + 1]? = _ := hm
  have HS := Lib.hid hs
  have hBe : Hid (w.heap.size = B) := Lib.hid hB
  clear h6 hm hs hB
  generalize e1 : B + 1 = b1 at *
  generalize e2 : b1 + 1 = b2 at *
  generalize e3 : b2 + 1 = b3 at *
  generalize e4 : b3 + 1 = b4 at *
  generalize e5 : b4 + 1 = b5 at *
  generalize e6 : b5 + 1 = b6 at *
  have HE : Hid (B < b6 ∧ b1 < b6 ∧ b2 < b6 ∧ b3 < b6 ∧ b4 < b6 ∧ b5 < b6 ∧ b6 < w0.heap.size ∧ B ≤ b6) := Lib.hid (by have := HS.out; omega)
  have HB : Hid (Below B w w0) := Lib.hid hb
  clear e1 e2 e3 e4 e5 e6 hb
  have hi0 : MsgI w0 w0 b6 0 := ⟨hm6, Below.refl _ _, rfl⟩
  clear hm6
  go_loopw [17] (fun i wr => ∃ k : Nat, k ≤ 4 ∧ i = .int .i64 k ∧ Hid (MsgI w0 wr b6 k)) (fun i _ => 4 - (intOf i).toNat)
  case atStart => exact ⟨0, by omega, rfl, Lib.hid hi0⟩
  case round =>
    clear hi0
    obtain ⟨k, hk, rfl, HI⟩ := hrel
    have row := HI.out.row
    by_cases hlt : k < 4
    · have hf := frozen_of_row wr b6
      have hfr : ∀ j, wr.frozen? ⟨b6, j, none⟩ = false := fun j => frozen_of_row wr b6 j _ _ row
      clear row
      obtain rfl | rfl | rfl | rfl : k = 0 ∨ k = 1 ∨ k = 2 ∨ k = 3 := by omega
      all_goals clear hlt hk
      · go_wp2_with (refine wpList_store_mid rfl 53 _ _ rfl b6 0 #[.int .i64 8, .int .u64 0, .int .u64 18446744073709551615] rfl rfl (HI.out.there 0 (by decide)) (by kernel_rfl) (by kernel_rfl) ?_)
        go_roundw
        case rel => exact ⟨1, by omega, rfl, Lib.hid (HI.out.step (i := 0) rfl)⟩
        case measure => simp [intOf]
      · go_wp2_with (refine wpList_store_mid rfl 53 _ _ rfl b6 3 #[.int .i64 9, .int .u64 0, .int .u64 18446744073709551615] rfl rfl (HI.out.there 3 (by decide)) (by kernel_rfl) (by kernel_rfl) ?_)
        go_roundw
        case rel => exact ⟨2, by omega, rfl, Lib.hid (HI.out.step (i := 3) rfl)⟩
        case measure => simp [intOf]
      · go_wp2_with (refine wpList_store_mid rfl 53 _ _ rfl b6 6 #[.int .i64 10, .int .u64 0, .int .u64 18446744073709551615] rfl rfl (HI.out.there 6 (by decide)) (by kernel_rfl) (by kernel_rfl) ?_)
        go_roundw
        case rel => exact ⟨3, by omega, rfl, Lib.hid (HI.out.step (i := 6) rfl)⟩
        case measure => simp [intOf]
      · go_wp2_with (refine wpList_store_mid rfl 53 _ _ rfl b6 9 #[.int .i64 11, .int .u64 0, .int .u64 18446744073709551615] rfl rfl (HI.out.there 9 (by decide)) (by kernel_rfl) (by kernel_rfl) ?_)
        go_roundw
        case rel => exact ⟨4, by omega, rfl, Lib.hid (HI.out.step (i := 9) rfl)⟩
        case measure => simp [intOf]
    · obtain rfl : k = 4 := by omega
      have hbe := HI.out.below
      obtain ⟨l0, l1, l2, l3, l4, l5, l6, l7⟩ := HE.out
      obtain ⟨p0, p1, p2⟩ := frm_cells ((hbe.block _ l0).trans ha)
      obtain ⟨q0, q1, q2⟩ := frm_cells ((hbe.block _ l1).trans hb1)
      obtain ⟨r0, r1, r2⟩ := frm_cells ((hbe.block _ l2).trans hg2)
      obtain ⟨s0, s1, s2⟩ := frm_cells ((hbe.block _ l3).trans hk3)
      obtain ⟨t0, t1, t2⟩ := frm_cells ((hbe.block _ l4).trans hx4)
      obtain ⟨v0, v1, v2⟩ := frm_cells ((hbe.block _ l5).trans ho5)
      have HK : Hid (Below w.heap.size w wr) := Lib.hid (bel7 HB.out hbe hBe.out l7)
      clear ha hb1 hg2 hk3 hx4 ho5 hbe l0 l1 l2 l3 l4 l5 l6 l7 HE row HI
      go_wp2
      go_ret
      exact ⟨.slice (some ⟨wr.heap.size, 0, none⟩) 1 1, rfl, forms_new wr [(1, 0, 4095)] 1 _ (by decide), bal HK.out _⟩
set_option maxRecDepth 100000 in
set_option maxHeartbeats 2000000 in
theorem forms_23 (w : World) : Calls Try.prog 14 #[.int .u64 23] w fun e w' => ∃ v, e = .returned v ∧ FormsAt w' v [(1, 0, 4095), (3, 0, 7)] ∧ Below w.heap.size w w' := by
  go_enter Try.func14, Try.ntmps14
  go_wp2
  rw [show ((((((w.alloc (frmO 1 0 4095)).alloc (frmO 2 0 4095)).alloc (frmO 3 0 4096)).alloc (frmO 3 0 7)).alloc (frmO 7 0 18446744073709551615)).alloc (frmO 3 0 2)).alloc (.cells #[.int .i64 0, .int .u64 0, .int .u64 0, .int .i64 0, .int .u64 0, .int .u64 0, .int .i64 0, .int .u64 0, .int .u64 0, .int .i64 0, .int .u64 0, .int .u64 0] 61) = own7 w from rfl]
  obtain ⟨h6, hm, hs, hb⟩ := own7_ok w
  generalize own7 w = w0 at h6 hm hs hb ⊢
  obtain ⟨B, hB⟩ : ∃ B, w.heap.size = B := ⟨_, rfl⟩
  rw [hB] at h6 hm hs hb ⊢
  have ha := h6.a
  have hb1 := h6.b
  have hg2 : w0.heap[B + 1 + 1]? = _ := h6.g
  have hk3 : w0.heap[B + 1 + 1 + 1]? = _ := h6.k
  have hx4 : w0.heap[B + 1 + 1 + 1 + 1]? = _ := h6.x
  have ho5 : w0.heap[B + 1 + 1 + 1 + 1 + 1]? = _ := h6.o
  have hm6 : w0.heap[B + 1 + 1 + 1 + 1 + 1 + 1]? = _ := hm
  have HS := Lib.hid hs
  have hBe : Hid (w.heap.size = B) := Lib.hid hB
  clear h6 hm hs hB
  generalize e1 : B + 1 = b1 at *
  generalize e2 : b1 + 1 = b2 at *
  generalize e3 : b2 + 1 = b3 at *
  generalize e4 : b3 + 1 = b4 at *
  generalize e5 : b4 + 1 = b5 at *
  generalize e6 : b5 + 1 = b6 at *
  have HE : Hid (B < b6 ∧ b1 < b6 ∧ b2 < b6 ∧ b3 < b6 ∧ b4 < b6 ∧ b5 < b6 ∧ b6 < w0.heap.size ∧ B ≤ b6) := Lib.hid (by have := HS.out; omega)
  have HB : Hid (Below B w w0) := Lib.hid hb
  clear e1 e2 e3 e4 e5 e6 hb
  have hi0 : MsgI w0 w0 b6 0 := ⟨hm6, Below.refl _ _, rfl⟩
  clear hm6
  go_loopw [17] (fun i wr => ∃ k : Nat, k ≤ 4 ∧ i = .int .i64 k ∧ Hid (MsgI w0 wr b6 k)) (fun i _ => 4 - (intOf i).toNat)
  case atStart => exact ⟨0, by omega, rfl, Lib.hid hi0⟩
  case round =>
    clear hi0
    obtain ⟨k, hk, rfl, HI⟩ := hrel
    have row := HI.out.row
    by_cases hlt : k < 4
    · have hf := frozen_of_row wr b6
      have hfr : ∀ j, wr.frozen? ⟨b6, j, none⟩ = false := fun j => frozen_of_row wr b6 j _ _ row
      clear row
      obtain rfl | rfl | rfl | rfl : k = 0 ∨ k = 1 ∨ k = 2 ∨ k = 3 := by omega
      all_goals clear hlt hk
      · go_wp2_with (refine wpList_store_mid rfl 53 _ _ rfl b6 0 #[.int .i64 8, .int .u64 0, .int .u64 18446744073709551615] rfl rfl (HI.out.there 0 (by decide)) (by kernel_rfl) (by kernel_rfl) ?_)
        go_roundw
        case rel => exact ⟨1, by omega, rfl, Lib.hid (HI.out.step (i := 0) rfl)⟩
        case measure => simp [intOf]
      · go_wp2_with (refine wpList_store_mid rfl 53 _ _ rfl b6 3 #[.int .i64 9, .int .u64 0, .int .u64 18446744073709551615] rfl rfl (HI.out.there 3 (by decide)) (by kernel_rfl) (by kernel_rfl) ?_)
        go_roundw
        case rel => exact ⟨2, by omega, rfl, Lib.hid (HI.out.step (i := 3) rfl)⟩
        case measure => simp [intOf]
      · go_wp2_with (refine wpList_store_mid rfl 53 _ _ rfl b6 6 #[.int .i64 10, .int .u64 0, .int .u64 18446744073709551615] rfl rfl (HI.out.there 6 (by decide)) (by kernel_rfl) (by kernel_rfl) ?_)
        go_roundw
        case rel => exact ⟨3, by omega, rfl, Lib.hid (HI.out.step (i := 6) rfl)⟩
        case measure => simp [intOf]
      · go_wp2_with (refine wpList_store_mid rfl 53 _ _ rfl b6 9 #[.int .i64 11, .int .u64 0, .int .u64 18446744073709551615] rfl rfl (HI.out.there 9 (by decide)) (by kernel_rfl) (by kernel_rfl) ?_)
        go_roundw
        case rel => exact ⟨4, by omega, rfl, Lib.hid (HI.out.step (i := 9) rfl)⟩
        case measure => simp [intOf]
    · obtain rfl : k = 4 := by omega
      have hbe := HI.out.below
      obtain ⟨l0, l1, l2, l3, l4, l5, l6, l7⟩ := HE.out
      obtain ⟨p0, p1, p2⟩ := frm_cells ((hbe.block _ l0).trans ha)
      obtain ⟨q0, q1, q2⟩ := frm_cells ((hbe.block _ l1).trans hb1)
      obtain ⟨r0, r1, r2⟩ := frm_cells ((hbe.block _ l2).trans hg2)
      obtain ⟨s0, s1, s2⟩ := frm_cells ((hbe.block _ l3).trans hk3)
      obtain ⟨t0, t1, t2⟩ := frm_cells ((hbe.block _ l4).trans hx4)
      obtain ⟨v0, v1, v2⟩ := frm_cells ((hbe.block _ l5).trans ho5)
      have HK : Hid (Below w.heap.size w wr) := Lib.hid (bel7 HB.out hbe hBe.out l7)
      clear ha hb1 hg2 hk3 hx4 ho5 hbe l0 l1 l2 l3 l4 l5 l6 l7 HE row HI
      go_wp2
      go_ret
      exact ⟨.slice (some ⟨wr.heap.size, 0, none⟩) 2 2, rfl, forms_new wr [(1, 0, 4095), (3, 0, 7)] 2 _ (by decide), bal HK.out _⟩
end Go.Proofs.Ytahagcghbeeajaa
