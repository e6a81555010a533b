/- package decode: formsOf, Op by Op. -/
import Derived.Test.YtahagcghbeeajaaDc4
import Derived.Deep.RegionLawGrows
import Derived.Deep.MidRow
import Derived.OwnWalk
namespace Go.Proofs.Ytahagcghbeeajaa
set_option linter.unusedVariables false
set_option linter.unusedSimpArgs false
open Go.ChangeShapes Go.WideShapes Go.ChangeAt Go.RowKit Go.Shelf

theorem infoFm : (Try.prog.info? 53).map (fun i => (i.zero, i.size, i.bytes)) = some (some (.agg #[.int .i64 0, .int .u64 0, .int .u64 0]), 3, 24) := by kernel_rfl
theorem own_form {B : Nat} {w : World} {e : TypeId} {size : Nat} {v : Value} {n : Nat} {xs : List Value} (h : w.ownsRow B e size v n xs) (h0 : 0 < n) : ∃ g c, v = .slice (some ⟨g, 0, none⟩) n c ∧ n ≤ c ∧ c ≤ maxLen ∧ B ≤ g ∧ g < w.heap.size ∧ (∀ j, w.frozen? ⟨g, j, none⟩ = false) ∧ ∀ j u, xs[j]? = some u → w.cell? ⟨g, j, none⟩ = some u := by
  have hlt := h.lt
  have hcs := fun g hg => h.cells (g := g) hg
  obtain ⟨hl, h | ⟨g, cap, cur, rfl, hg, hblk, h1, h2, h3, h4⟩⟩ := h
  · omega
  · refine ⟨g, cap, rfl, h1, h2, hg, (hlt g rfl).2, fun j => by simp [World.frozen?, hblk], fun j u hj => ?_⟩
    have := hcs g rfl j u hj
    have e : ((⟨g, 0, none⟩ : Addr).add j) = ⟨g, j, none⟩ := by unfold Addr.add; split <;> simp_all
    rwa [e] at this
theorem addr_add (q j : Nat) : ((⟨q, 0, none⟩ : Addr).add j) = ⟨q, j, none⟩ := by unfold Addr.add; split <;> simp_all
theorem olds14 (wr W : World) (L : List Frm) (t : TypeId) (h : W.heap = (wr.alloc (.cells (frmC L).toArray t)).heap) : ∀ b, some (⟨wr.heap.size, 0, none⟩ : Addr) = some b → ∀ j u, (frmC L)[j]? = some u → W.cell? (b.add j) = some u := by
  rintro b e j u hj
  cases e
  rw [addr_add, row_cell (by rw [h]; exact World.alloc_heap_new _ _)]
  simpa using hj
theorem news14 (wr W : World) (o : Obj) (q : Nat) (h : q < wr.heap.size ∧ wr.heap[q]? = some (.cells (msgA 4) 61 (0, 0))) (e : W.heap = (wr.alloc o).heap) : ∀ j u, (msgA 4).toList[j]? = some u → W.cell? ((⟨q, 0, none⟩ : Addr).add j) = some u := by
  intro j u hj
  rw [addr_add, row_cell (by rw [e]; exact alloc_old h.2 h.1)]
  simpa using hj
theorem end14 (wr W : World) (o : Obj) (L M : List Frm) (v : Value) (w' : World) (hg : W.grownBy w' none) (e : W.heap = (wr.alloc o).heap) (hos : W.os = wr.os) (htp : W.tape = wr.tape) (hou : W.output = wr.output) (hown : w'.ownsRow W.heap.size 53 3 v M.length (frmC L ++ (msgA 4).toList)) (hM : frmC L ++ (msgA 4).toList = frmC M) (h0 : 0 < M.length) : ∃ g c, v = .slice (some ⟨g, 0, none⟩) M.length c ∧ FormsAt w' (.slice (some ⟨g, 0, none⟩) M.length c) M ∧ Below wr.heap.size wr w' := by
  rw [hM] at hown
  obtain ⟨g, c, rfl, hc, -, -, hgl, -, hcs⟩ := own_form hown h0
  refine ⟨g, c, rfl, ⟨g, c, rfl, hc, hgl, fun i f hf => ?_⟩, ?_⟩
  · obtain ⟨a, b, d⟩ := frmC_get M i f hf
    exact ⟨hcs _ _ a, hcs _ _ b, hcs _ _ d⟩
  · have hW : W.heap.size = wr.heap.size + 1 := by rw [e]; simp
    have hb : Below wr.heap.size wr W := ⟨hos, htp, hou, by omega, fun k hk => by rw [e]; exact Below.heap_alloc _ _ _ hk⟩
    exact hb.grown hg (by omega) (fun j ej => by cases ej)
theorem msg_one : ∀ u ∈ (msgA 4).toList, u.oneCell' = true := by
  intro u hu
  simp [msgA] at hu
  rcases hu with rfl | rfl | rfl | rfl | rfl | rfl | rfl | rfl | rfl | rfl | rfl | rfl <;> rfl
set_option maxRecDepth 100000 in
set_option maxHeartbeats 2000000 in
theorem forms_14 (w : World) : Calls Try.prog 14 #[.int .u64 14] w fun e w' => ∃ v, e = .returned v ∧ FormsAt w' v [(1, 0, 4095), (3, 0, 4096), (8, 0, 18446744073709551615), (9, 0, 18446744073709551615), (10, 0, 18446744073709551615), (11, 0, 18446744073709551615)] ∧ Below w.heap.size w w' := by
  go_enter Try.func14, Try.ntmps14
  go_wp2
  rw [show ((((((w.alloc (frmO 1 0 4095)).alloc (frmO 2 0 4095)).alloc (frmO 3 0 4096)).alloc (frmO 3 0 7)).alloc (frmO 7 0 18446744073709551615)).alloc (frmO 3 0 2)).alloc (.cells #[.int .i64 0, .int .u64 0, .int .u64 0, .int .i64 0, .int .u64 0, .int .u64 0, .int .i64 0, .int .u64 0, .int .u64 0, .int .i64 0, .int .u64 0, .int .u64 0] 61) = own7 w from rfl]
  obtain ⟨h6, hm, hs, hb⟩ := own7_ok w
  generalize own7 w = w0 at h6 hm hs hb ⊢
  obtain ⟨B, hB⟩ : ∃ B, w.heap.size = B := ⟨_, rfl⟩
  rw [hB] at h6 hm hs hb ⊢
  have ha := h6.a
  have hb1 := h6.b
  have hg2 : w0.heap[B + 1 + 1]? = _ := h6.g
  have hk3 : w0.heap[B + 1 + 1 + 1]? = _ := h6.k
  have hx4 : w0.heap[B + 1 + 1 + 1 + 1]? = _ := h6.x
  have ho5 : w0.heap[B + 1 + 1 + 1 + 1 + 1]? = _ := h6.o
  have hm6 : w0.heap[B + 1 + 1 + 1 + 1 + 1 + 1]? = _ := hm
  have HS := Lib.hid hs
  have hBe : Hid (w.heap.size = B) := Lib.hid hB
  clear h6 hm hs hB
  generalize e1 : B + 1 = b1 at *
  generalize e2 : b1 + 1 = b2 at *
  generalize e3 : b2 + 1 = b3 at *
  generalize e4 : b3 + 1 = b4 at *
  generalize e5 : b4 + 1 = b5 at *
  generalize e6 : b5 + 1 = b6 at *
  have HE : Hid (B < b6 ∧ b1 < b6 ∧ b2 < b6 ∧ b3 < b6 ∧ b4 < b6 ∧ b5 < b6 ∧ b6 < w0.heap.size ∧ B ≤ b6) := Lib.hid (by have := HS.out; omega)
  have HB : Hid (Below B w w0) := Lib.hid hb
  clear e1 e2 e3 e4 e5 e6 hb
  have hi0 : MsgI w0 w0 b6 0 := ⟨hm6, Below.refl _ _, rfl⟩
  clear hm6
  go_loopw [17] (fun i wr => ∃ k : Nat, k ≤ 4 ∧ i = .int .i64 k ∧ Hid (MsgI w0 wr b6 k)) (fun i _ => 4 - (intOf i).toNat)
  case atStart => exact ⟨0, by omega, rfl, Lib.hid hi0⟩
  case round =>
    clear hi0
    obtain ⟨k, hk, rfl, HI⟩ := hrel
    have row := HI.out.row
    by_cases hlt : k < 4
    · have hf := frozen_of_row wr b6
      have hfr : ∀ j, wr.frozen? ⟨b6, j, none⟩ = false := fun j => frozen_of_row wr b6 j _ _ row
      clear row
      obtain rfl | rfl | rfl | rfl : k = 0 ∨ k = 1 ∨ k = 2 ∨ k = 3 := by omega
      all_goals clear hlt hk
      · go_wp2_with (refine wpList_store_mid rfl 53 _ _ rfl b6 0 #[.int .i64 8, .int .u64 0, .int .u64 18446744073709551615] rfl rfl (HI.out.there 0 (by decide)) (by kernel_rfl) (by kernel_rfl) ?_)
        go_roundw
        case rel => exact ⟨1, by omega, rfl, Lib.hid (HI.out.step (i := 0) rfl)⟩
        case measure => simp [intOf]
      · go_wp2_with (refine wpList_store_mid rfl 53 _ _ rfl b6 3 #[.int .i64 9, .int .u64 0, .int .u64 18446744073709551615] rfl rfl (HI.out.there 3 (by decide)) (by kernel_rfl) (by kernel_rfl) ?_)
        go_roundw
        case rel => exact ⟨2, by omega, rfl, Lib.hid (HI.out.step (i := 3) rfl)⟩
        case measure => simp [intOf]
      · go_wp2_with (refine wpList_store_mid rfl 53 _ _ rfl b6 6 #[.int .i64 10, .int .u64 0, .int .u64 18446744073709551615] rfl rfl (HI.out.there 6 (by decide)) (by kernel_rfl) (by kernel_rfl) ?_)
        go_roundw
        case rel => exact ⟨3, by omega, rfl, Lib.hid (HI.out.step (i := 6) rfl)⟩
        case measure => simp [intOf]
      · go_wp2_with (refine wpList_store_mid rfl 53 _ _ rfl b6 9 #[.int .i64 11, .int .u64 0, .int .u64 18446744073709551615] rfl rfl (HI.out.there 9 (by decide)) (by kernel_rfl) (by kernel_rfl) ?_)
        go_roundw
        case rel => exact ⟨4, by omega, rfl, Lib.hid (HI.out.step (i := 9) rfl)⟩
        case measure => simp [intOf]
    · obtain rfl : k = 4 := by omega
      have hbe := HI.out.below
      obtain ⟨l0, l1, l2, l3, l4, l5, l6, l7⟩ := HE.out
      obtain ⟨p0, p1, p2⟩ := frm_cells ((hbe.block _ l0).trans ha)
      obtain ⟨q0, q1, q2⟩ := frm_cells ((hbe.block _ l1).trans hb1)
      obtain ⟨r0, r1, r2⟩ := frm_cells ((hbe.block _ l2).trans hg2)
      obtain ⟨s0, s1, s2⟩ := frm_cells ((hbe.block _ l3).trans hk3)
      obtain ⟨t0, t1, t2⟩ := frm_cells ((hbe.block _ l4).trans hx4)
      obtain ⟨v0, v1, v2⟩ := frm_cells ((hbe.block _ l5).trans ho5)
      have HK : Hid (Below w.heap.size w wr) := Lib.hid (bel7 HB.out hbe hBe.out l7)
      have hrow := HI.out.row
      have hsz := HI.out.size
      obtain ⟨i0, hi, hz0, hz1, hz2⟩ := info_parts infoFm
      have HI0 := Lib.hid hi
      have HR := Lib.hid (show b6 < wr.heap.size ∧ wr.heap[b6]? = _ from ⟨by rw [hsz]; exact l6, hrow⟩)
      clear ha hb1 hg2 hk3 hx4 ho5 hbe l0 l1 l2 l3 l4 l5 l6 l7 HE row HI hrow hsz hi
      go_wp2
      go_region_law (refine step_append_grows rfl _ _ 46 rfl 53 i0 _ 3 24 Try.underlying46 HI0.out hz0 hz1 hz2 rfl (by decide) (some ⟨wr.heap.size, 0, none⟩) 2 2 (frmC [(1, 0, 4095), (3, 0, 4096)]) rfl (by simp) rfl (olds14 wr _ _ _ rfl) ⟨b6, 0, none⟩ 4 4 (msgA 4).toList rfl rfl (news14 wr _ _ b6 HR.out rfl) msg_one (by decide) (by unfold maxLen; decide) (by decide) ?_; intro v' w' hown hgrow; obtain ⟨g, c, rfl, hfm, hbl⟩ := end14 wr _ _ [(1, 0, 4095), (3, 0, 4096)] [(1, 0, 4095), (3, 0, 4096), (8, 0, 18446744073709551615), (9, 0, 18446744073709551615), (10, 0, 18446744073709551615), (11, 0, 18446744073709551615)] _ _ hgrow rfl rfl rfl rfl hown rfl (by decide))
      all_goals
        go_wp2
        go_ret
        exact ⟨_, rfl, hfm, HK.out.trans (hbl.mono HK.out.size)⟩
set_option maxRecDepth 100000 in
set_option maxHeartbeats 2000000 in
theorem forms_15 (w : World) : Calls Try.prog 14 #[.int .u64 15] w fun e w' => ∃ v, e = .returned v ∧ FormsAt w' v [(1, 0, 4095), (3, 0, 4096), (8, 0, 18446744073709551615), (9, 0, 18446744073709551615), (10, 0, 18446744073709551615), (11, 0, 18446744073709551615)] ∧ Below w.heap.size w w' := by
  go_enter Try.func14, Try.ntmps14
  go_wp2
  rw [show ((((((w.alloc (frmO 1 0 4095)).alloc (frmO 2 0 4095)).alloc (frmO 3 0 4096)).alloc (frmO 3 0 7)).alloc (frmO 7 0 18446744073709551615)).alloc (frmO 3 0 2)).alloc (.cells #[.int .i64 0, .int .u64 0, .int .u64 0, .int .i64 0, .int .u64 0, .int .u64 0, .int .i64 0, .int .u64 0, .int .u64 0, .int .i64 0, .int .u64 0, .int .u64 0] 61) = own7 w from rfl]
  obtain ⟨h6, hm, hs, hb⟩ := own7_ok w
  generalize own7 w = w0 at h6 hm hs hb ⊢
  obtain ⟨B, hB⟩ : ∃ B, w.heap.size = B := ⟨_, rfl⟩
  rw [hB] at h6 hm hs hb ⊢
  have ha := h6.a
  have hb1 := h6.b
  have hg2 : w0.heap[B + 1 + 1]? = _ := h6.g
  have hk3 : w0.heap[B + 1 + 1 + 1]? = _ := h6.k
  have hx4 : w0.heap[B + 1 + 1 + 1 + 1]? = _ := h6.x
  have ho5 : w0.heap[B + 1 + 1 + 1 + 1 + 1]? = _ := h6.o
  have hm6 : w0.heap[B + 1 + 1 + 1 + 1 + 1 + 1]? = _ := hm
  have HS := Lib.hid hs
  have hBe : Hid (w.heap.size = B) := Lib.hid hB
  clear h6 hm hs hB
  generalize e1 : B + 1 = b1 at *
  generalize e2 : b1 + 1 = b2 at *
  generalize e3 : b2 + 1 = b3 at *
  generalize e4 : b3 + 1 = b4 at *
  generalize e5 : b4 + 1 = b5 at *
  generalize e6 : b5 + 1 = b6 at *
  have HE : Hid (B < b6 ∧ b1 < b6 ∧ b2 < b6 ∧ b3 < b6 ∧ b4 < b6 ∧ b5 < b6 ∧ b6 < w0.heap.size ∧ B ≤ b6) := Lib.hid (by have := HS.out; omega)
  have HB : Hid (Below B w w0) := Lib.hid hb
  clear e1 e2 e3 e4 e5 e6 hb
  have hi0 : MsgI w0 w0 b6 0 := ⟨hm6, Below.refl _ _, rfl⟩
  clear hm6
  go_loopw [17] (fun i wr => ∃ k : Nat, k ≤ 4 ∧ i = .int .i64 k ∧ Hid (MsgI w0 wr b6 k)) (fun i _ => 4 - (intOf i).toNat)
  case atStart => exact ⟨0, by omega, rfl, Lib.hid hi0⟩
  case round =>
    clear hi0
    obtain ⟨k, hk, rfl, HI⟩ := hrel
    have row := HI.out.row
    by_cases hlt : k < 4
    · have hf := frozen_of_row wr b6
      have hfr : ∀ j, wr.frozen? ⟨b6, j, none⟩ = false := fun j => frozen_of_row wr b6 j _ _ row
      clear row
      obtain rfl | rfl | rfl | rfl : k = 0 ∨ k = 1 ∨ k = 2 ∨ k = 3 := by omega
      all_goals clear hlt hk
      · go_wp2_with (refine wpList_store_mid rfl 53 _ _ rfl b6 0 #[.int .i64 8, .int .u64 0, .int .u64 18446744073709551615] rfl rfl (HI.out.there 0 (by decide)) (by kernel_rfl) (by kernel_rfl) ?_)
        go_roundw
        case rel => exact ⟨1, by omega, rfl, Lib.hid (HI.out.step (i := 0) rfl)⟩
        case measure => simp [intOf]
      · go_wp2_with (refine wpList_store_mid rfl 53 _ _ rfl b6 3 #[.int .i64 9, .int .u64 0, .int .u64 18446744073709551615] rfl rfl (HI.out.there 3 (by decide)) (by kernel_rfl) (by kernel_rfl) ?_)
        go_roundw
        case rel => exact ⟨2, by omega, rfl, Lib.hid (HI.out.step (i := 3) rfl)⟩
        case measure => simp [intOf]
      · go_wp2_with (refine wpList_store_mid rfl 53 _ _ rfl b6 6 #[.int .i64 10, .int .u64 0, .int .u64 18446744073709551615] rfl rfl (HI.out.there 6 (by decide)) (by kernel_rfl) (by kernel_rfl) ?_)
        go_roundw
        case rel => exact ⟨3, by omega, rfl, Lib.hid (HI.out.step (i := 6) rfl)⟩
        case measure => simp [intOf]
      · go_wp2_with (refine wpList_store_mid rfl 53 _ _ rfl b6 9 #[.int .i64 11, .int .u64 0, .int .u64 18446744073709551615] rfl rfl (HI.out.there 9 (by decide)) (by kernel_rfl) (by kernel_rfl) ?_)
        go_roundw
        case rel => exact ⟨4, by omega, rfl, Lib.hid (HI.out.step (i := 9) rfl)⟩
        case measure => simp [intOf]
    · obtain rfl : k = 4 := by omega
      have hbe := HI.out.below
      obtain ⟨l0, l1, l2, l3, l4, l5, l6, l7⟩ := HE.out
      obtain ⟨p0, p1, p2⟩ := frm_cells ((hbe.block _ l0).trans ha)
      obtain ⟨q0, q1, q2⟩ := frm_cells ((hbe.block _ l1).trans hb1)
      obtain ⟨r0, r1, r2⟩ := frm_cells ((hbe.block _ l2).trans hg2)
      obtain ⟨s0, s1, s2⟩ := frm_cells ((hbe.block _ l3).trans hk3)
      obtain ⟨t0, t1, t2⟩ := frm_cells ((hbe.block _ l4).trans hx4)
      obtain ⟨v0, v1, v2⟩ := frm_cells ((hbe.block _ l5).trans ho5)
      have HK : Hid (Below w.heap.size w wr) := Lib.hid (bel7 HB.out hbe hBe.out l7)
      have hrow := HI.out.row
      have hsz := HI.out.size
      obtain ⟨i0, hi, hz0, hz1, hz2⟩ := info_parts infoFm
      have HI0 := Lib.hid hi
      have HR := Lib.hid (show b6 < wr.heap.size ∧ wr.heap[b6]? = _ from ⟨by rw [hsz]; exact l6, hrow⟩)
      clear ha hb1 hg2 hk3 hx4 ho5 hbe l0 l1 l2 l3 l4 l5 l6 l7 HE row HI hrow hsz hi
      go_wp2
      go_region_law (refine step_append_grows rfl _ _ 46 rfl 53 i0 _ 3 24 Try.underlying46 HI0.out hz0 hz1 hz2 rfl (by decide) (some ⟨wr.heap.size, 0, none⟩) 2 2 (frmC [(1, 0, 4095), (3, 0, 4096)]) rfl (by simp) rfl (olds14 wr _ _ _ rfl) ⟨b6, 0, none⟩ 4 4 (msgA 4).toList rfl rfl (news14 wr _ _ b6 HR.out rfl) msg_one (by decide) (by unfold maxLen; decide) (by decide) ?_; intro v' w' hown hgrow; obtain ⟨g, c, rfl, hfm, hbl⟩ := end14 wr _ _ [(1, 0, 4095), (3, 0, 4096)] [(1, 0, 4095), (3, 0, 4096), (8, 0, 18446744073709551615), (9, 0, 18446744073709551615), (10, 0, 18446744073709551615), (11, 0, 18446744073709551615)] _ _ hgrow rfl rfl rfl rfl hown rfl (by decide))
      all_goals
        go_wp2
        go_ret
        exact ⟨_, rfl, hfm, HK.out.trans (hbl.mono HK.out.size)⟩
end Go.Proofs.Ytahagcghbeeajaa
