/- The law DecodeLays. -/
import Derived.Test.YtahagcghbeeajaaDcS
import Derived.Test.YtahagcghbeeajaaDcQ
namespace Go.Proofs.Ytahagcghbeeajaa
set_option linter.unusedVariables false
set_option linter.unusedSimpArgs false
open Go.ChangeShapes Go.WideShapes Go.ChangeAt Go.RowKit Go.Shelf

set_option maxRecDepth 100000 in
set_option maxHeartbeats 4000000 in
theorem lays_any (o : Nat → Int) (ho : OkO o) (W : World) :
    Calls Try.prog 4 #[.agg (ordA o)] W fun e w' => e = .returned (.bool true) ∧ Below W.heap.size W w' := by
  have hzc := zeroCall
  have hd := fun w => encode_any o w
  have hr := fun w => refenc_any o ho w
  obtain ⟨⟨⟨m, b⟩, c⟩, hm⟩ : ∃ z, encM o = z := ⟨_, rfl⟩
  rw [hm] at hd hr
  have HD := Lib.hid hd
  have HR := Lib.hid hr
  clear hd hr hm ho
  go_enter Try.func4, Try.ntmps4
  go_upto_region 2 with (first
    | (refine wpList_load_mid rfl 29 (.tmp 1) rfl W.heap.size 0 rfl (ordA o).toList _ (ord_range (ord_new W o)) Try.underlying29 rfl (by kernel_rfl) ?_; rw [Array.toArray_toList])
    | (go_at_call 11; refine (HD.out _).mono ?_; rintro e w1 ⟨rfl, hb1⟩)
    | (refine wpList_store_mid rfl 25 (.tmp 3) (.tmp 10) rfl w1.heap.size 0 (callA m b) rfl rfl (call_new w1 0 zW).there (by kernel_rfl) (call_one _ _) ?_; obtain ⟨ho2, hb2⟩ := box_call w1 m b; generalize (w1.alloc (.cells (callA 0 zW) 25)).setCells w1.heap.size 0 (callA m b).toList = w2 at ho2 hb2 ⊢))
  have hoa : OrdAt w2 W.heap.size o := (ord_new W o).call (bgo hb1 hb2)
  have HO := Lib.hid hoa
  have HO2 := Lib.hid ho2
  have HB2 := Lib.hid (bgo (bgo (bal (Below.refl _ _) _) hb1) hb2)
  clear hoa ho2 hb1 hb2
  go_upto_region 3 with (first
    | (refine wpList_load_mid rfl 29 (.tmp 1) rfl W.heap.size 0 rfl (ordA o).toList _ (ord_range HO.out) Try.underlying29 rfl (by kernel_rfl) ?_; rw [Array.toArray_toList])
    | (go_at_call 12; refine (HR.out _).mono ?_; rintro e w3 ⟨rfl, hb3⟩)
    | (refine wpList_store_mid rfl 25 (.tmp 5) (.tmp 15) rfl w3.heap.size 0 (callA m b) rfl rfl (call_new w3 0 zW).there (by kernel_rfl) (call_one _ _) ?_; obtain ⟨ho4, hb4⟩ := box_call w3 m b; generalize (w3.alloc (.cells (callA 0 zW) 25)).setCells w3.heap.size 0 (callA m b).toList = w4 at ho4 hb4 ⊢))
  have hb24 : Below w2.heap.size w2 w4 := bgo hb3 hb4
  have ho24 := HO2.out.call hb24
  have HB4 := Lib.hid (bgo HB2.out hb24)
  obtain ⟨x0, x1, x2, x3, x4, x5, x6⟩ := ho4.cells
  obtain ⟨y0, y1, y2, y3, y4, y5, y6⟩ := ho24.cells
  have hq : ∀ w, (binOp .eql 25 (.agg #[.int .u64 m, .int .u64 (b 0), .int .u64 (b 1), .int .u64 (b 2), .int .u64 (b 3), .int .u64 (b 4), .int .u64 (b 5)]) (.agg #[.int .u64 m, .int .u64 (b 0), .int .u64 (b 1), .int .u64 (b 2), .int .u64 (b 3), .int .u64 (b 4), .int .u64 (b 5)])).run Try.prog w = .ok (.bool true) w := fun w => by
    have := eqC m m b b w
    rw [(eqCB_iff m m b b).2 ⟨rfl, fun _ _ => rfl⟩] at this
    exact this
  clear ho4 hb3 hb4 ho24 hb24 hzc
  go_wp2_with (first
    | (go_at_call 9; refine (num_any _ _).mono ?_; rintro e w5 ⟨rfl, rfl⟩)
    | (go_at_call 10; refine (awake28 _).mono ?_; rintro e w9 ⟨rfl, hb9⟩))
  go_ret
  exact ⟨rfl, bgo HB4.out hb9⟩
theorem OrderX.Ok.okO {x : OrderX} (h : x.Ok) : OkO x.o := by
  obtain ⟨h0, h1, h2, h3, h4, h5, h6, h7, h8, h9, h10, h11⟩ := h
  refine ⟨fun j hj => ?_, fun j hj h12 => ?_⟩
  · obtain rfl | rfl | rfl | rfl | rfl | rfl | rfl : j = 0 ∨ j = 1 ∨ j = 2 ∨ j = 3 ∨ j = 4 ∨ j = 5 ∨ j = 6 := by omega
    all_goals assumption
  · obtain rfl | rfl | rfl | rfl | rfl : j = 7 ∨ j = 8 ∨ j = 9 ∨ j = 10 ∨ j = 11 := by omega
    all_goals assumption
theorem walk_decodeLays (a0 : OrderX) (w0 : a0.Ok) (W : World) :
    Calls Try.prog 4 #[a0.val] W fun e w' => e = .returned (.bool true) ∧ Below W.heap.size W w' := by
  rw [a0.val_eq]
  exact lays_any a0.o w0.okO W
end Go.Proofs.Ytahagcghbeeajaa
