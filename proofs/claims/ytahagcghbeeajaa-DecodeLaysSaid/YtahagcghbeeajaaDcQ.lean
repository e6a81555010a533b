/- The law DecodeReads. -/
import Derived.Test.YtahagcghbeeajaaDcP
import Derived.Test.YtahagcghbeeajaaDcK
namespace Go.Proofs.Ytahagcghbeeajaa
set_option linter.unusedVariables false
set_option linter.unusedSimpArgs false
open Go.ChangeShapes Go.WideShapes Go.ChangeAt Go.RowKit Go.Shelf

theorem num_any (x : Int) (w : World) : Calls Try.prog 9 #[.int .i64 x] w fun e w' => e = .returned (.int .i64 x) ∧ w = w' := by
  go_enter Try.func9, Try.ntmps9
  go_wp2
  go_ret
  exact ⟨rfl, rfl⟩
set_option maxRecDepth 100000 in
set_option maxHeartbeats 4000000 in
theorem reads_any (n : Nat) (a : Nat → Int) (ha : ∀ j < 6, 0 ≤ a j ∧ a j ≤ 18446744073709551615) (W : World) :
    Calls Try.prog 3 #[.agg (callA n a)] W fun e w' => e = .returned (.bool true) ∧ Below W.heap.size W w' := by
  have hz := zeroOrd
  have hd := fun w => decode_any n a w
  have hr := fun w => refdec_any n a ha w
  obtain ⟨⟨p, c⟩, hm⟩ : ∃ z, decM n a = z := ⟨_, rfl⟩
  rw [hm] at hd hr
  have HD := Lib.hid hd
  have HR := Lib.hid hr
  clear hd hr hm
  go_enter Try.func3, Try.ntmps3
  go_upto_region 2 with (first
    | (refine wpList_load_mid rfl 25 (.tmp 1) rfl W.heap.size 0 rfl (callA n a).toList _ (call_range (call_new W n a)) Try.underlying25 rfl (by kernel_rfl) ?_; rw [Array.toArray_toList])
    | (go_at_call 7; refine (HD.out _).mono ?_; rintro e w1 ⟨rfl, hb1⟩)
    | (refine wpList_store_mid rfl 29 (.tmp 3) (.tmp 10) rfl w1.heap.size 0 (ordA p) rfl rfl (ord_new w1 zO).there (by kernel_rfl) (ord_one p) ?_; obtain ⟨ho2, hb2⟩ := box_ord w1 p; generalize (w1.alloc (.cells (ordA zO) 29)).setCells w1.heap.size 0 (ordA p).toList = w2 at ho2 hb2 ⊢))
  have hca : CallAt w2 W.heap.size n a := (call_new W n a).call (bgo hb1 hb2)
  have HC2 := Lib.hid hca
  have HO2 := Lib.hid ho2
  have HB2 := Lib.hid (bgo (bgo (bal (Below.refl _ _) _) hb1) hb2)
  clear hca ho2 hb1 hb2
  go_upto_region 3 with (first
    | (refine wpList_load_mid rfl 25 (.tmp 1) rfl W.heap.size 0 rfl (callA n a).toList _ (call_range HC2.out) Try.underlying25 rfl (by kernel_rfl) ?_; rw [Array.toArray_toList])
    | (go_at_call 8; refine (HR.out _).mono ?_; rintro e w3 ⟨rfl, hb3⟩)
    | (refine wpList_store_mid rfl 29 (.tmp 5) (.tmp 15) rfl w3.heap.size 0 (ordA p) rfl rfl (ord_new w3 zO).there (by kernel_rfl) (ord_one p) ?_; obtain ⟨ho4, hb4⟩ := box_ord w3 p; generalize (w3.alloc (.cells (ordA zO) 29)).setCells w3.heap.size 0 (ordA p).toList = w4 at ho4 hb4 ⊢))
  have hb24 : Below w2.heap.size w2 w4 := bgo hb3 hb4
  have ho24 := HO2.out.call hb24
  have HB4 := Lib.hid (bgo HB2.out hb24)
  obtain ⟨x0, x1, x2, x3, x4, x5, x6, x7, x8, x9, x10, x11⟩ := ho4.cells
  obtain ⟨y0, y1, y2, y3, y4, y5, y6, y7, y8, y9, y10, y11⟩ := ho24.cells
  have hq : ∀ w, (binOp .eql 29 (.agg #[.int .i64 (p 0), .int .i64 (p 1), .int .i64 (p 2), .int .i64 (p 3), .int .i64 (p 4), .int .i64 (p 5), .int .i64 (p 6), .int .u64 (p 7), .int .u64 (p 8), .int .u64 (p 9), .int .u64 (p 10), .int .u64 (p 11)]) (.agg #[.int .i64 (p 0), .int .i64 (p 1), .int .i64 (p 2), .int .i64 (p 3), .int .i64 (p 4), .int .i64 (p 5), .int .i64 (p 6), .int .u64 (p 7), .int .u64 (p 8), .int .u64 (p 9), .int .u64 (p 10), .int .u64 (p 11)])).run Try.prog w = .ok (.bool true) w := fun w => by
    have := eqO p p w
    rw [(eqB_iff p p).2 (fun _ _ => rfl)] at this
    exact this
  clear ho4 hb3 hb4 ho24 hb24 hz
  go_wp2_with (first
    | (go_at_call 9; refine (num_any _ _).mono ?_; rintro e w5 ⟨rfl, rfl⟩)
    | (go_at_call 10; refine (awake28 _).mono ?_; rintro e w9 ⟨rfl, hb9⟩))
  go_ret
  exact ⟨rfl, bgo HB4.out hb9⟩
theorem walk_decodeReads (a0 : CallX) (w0 : a0.Ok) (W : World) :
    Calls Try.prog 3 #[a0.val] W fun e w' => e = .returned (.bool true) ∧ Below W.heap.size W w' := by
  obtain ⟨n, hn⟩ := Int.eq_ofNat_of_zero_le w0.1.1
  rw [a0.val_eq n hn]
  exact reads_any n a0.w w0.words W
end Go.Proofs.Ytahagcghbeeajaa
