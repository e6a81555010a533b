/- The law CapLays. -/
import Derived.Test.YtoepbcaldlgnjaaDoorCapU
namespace Go.Proofs.YtoepbcaldlgnjaaDoor
set_option linter.unusedVariables false
set_option linter.unusedSimpArgs false
open Go.ChangeShapes Go.WideShapes Go.ChangeAt Go.RowKit Go.Shelf

set_option maxRecDepth 100000 in
set_option maxHeartbeats 4000000 in
theorem lays_yes (a b c d e f g h : Int) (W : World) (hT : TabG W) (hL : LaidV_laid_seisin_cap_layout W) (hd : 0 ≤ d) (he : e ≤ 9223372036854775807) (hx : capB a b c d e f g h = true) :
    Calls Tryd.prog 3 #[capV a b c d e f g h] W fun r w' => r = .returned (.bool true) ∧ Below W.heap.size W w' := by
  have HX := Lib.hid hx
  have HT := Lib.hid hT
  have HL := Lib.hid hL
  clear hx hT hL
  go_enter Tryd.func3, Tryd.ntmps3
  go_wp2_with (first
    | (go_at_call 7; refine (encode_yes a b c d e f g h _ (HT.out.call (bal (Below.refl _ _) _)) (HL.out.call (bal (Below.refl _ _) _)) hd HX.out).mono ?_; rintro r w1 ⟨G1, rfl, hG1, hr1, hb1⟩; obtain ⟨hc1, hf1⟩ := bcell hb1; have hz1 := hb1.size; have hzz : W.heap.size < w1.heap.size := (by simp at hz1; omega))
    | (go_at_call 8; refine (refenc_yes a b c d e f g h _ hd HX.out).mono ?_; rintro r w2 ⟨G2, rfl, hG2, hr2, hb2⟩))
  have q1 := ((capAt_new W 24 a b c d e f g h).call (by simp) hb1).call (by omega) hb2
  have r1 : Row2 w2 G1 (encA a b c g h) (encB d e f) := Row2.go hr1 hb2
  have r2 : Row2 w2 G2 (encA a b c g h) (encB d e f) := hr2
  have hG1' := Row2.lt hr1
  have B2 : Below W.heap.size W w2 := bgo (bgo (bal (Below.refl _ _) _) hb1) hb2
  have hz2 := hb2.size
  simp only [World.size_alloc] at hG1
  have R1 := Lib.hid (fun w (hw : Kept w2.heap.size w2 w) => add_cells0 (cap_cells (q1.kept (by omega) hw)))
  have HTK := Lib.hid (fun w (hw : Kept w2.heap.size w2 w) => HT.out.call (hw.below (m := W.heap.size) (by omega) B2))
  have RA := Lib.hid (fun w (hw : Kept w2.heap.size w2 w) => r1.go hw.1)
  have RB := Lib.hid (fun w (hw : Kept w2.heap.size w2 w) => r2.go hw.1)
  have HQ := Lib.hid q1
  clear hr1 hr2 hb1 hc1 hf1 hz1 r1 r2 q1
  refine wp_region_kept w2.heap.size w2 (by kernel_rfl) (by kernel_rfl) (Kept.refl (Nat.le_refl _)) ?_
  repeat (first
    | go_big_quiet_skip
    | (go_big_quiet_want; first
      | (refine quiet_load_list 24 _ rfl ⟨W.heap.size, 0, none⟩ rfl _ R1.out _ Tryd.underlying24 rfl (by kernel_rfl) ?_; simp only [Act.put, List.setIfInBounds_toArray, List.set_cons_zero, List.set_cons_succ]; go_big_quiet_on)
      | (go_big_quiet_op; first
        | go_big_quiet_on
        | (refine ⟨_, fun _ _ => rfl, ?_⟩; go_big_quiet_on)
        | go_big_quiet_call ((intro hw; first
          | (go_at_call 9; refine (same2_any _ G1 G2 0 2 2 2 (fun j => if j = 0 then encA a b c g h else encB d e f) (fun j => if j = 0 then encA a b c g h else encB d e f) (by omega) (RA.out _ hw).cells (RB.out _ hw).cells0).mono ?_; rw [eqN_self]; rintro e w3 ⟨rfl, q, rfl⟩; exact ⟨rfl, hw.drewN q⟩)
          | (go_at_call 10; refine (num_c _ _ (by decide)).mono ?_; rintro e w3 ⟨rfl, rfl⟩; exact ⟨rfl, hw⟩)
          | (go_at_call 11; refine (capMay a b c d e f g h _ (HTK.out _ hw) he).mono ?_; rw [HX.out]; rintro e w3 ⟨rfl, hb3⟩; exact ⟨rfl, hw.call hb3⟩)
          | (go_at_call 12; refine (refMay13 a b c d e f g h _).mono ?_; rw [HX.out]; rintro e w3 ⟨rfl, hb3⟩; exact ⟨rfl, hw.call hb3⟩))))))
  refine wpQuiet_nil ?_
  intro w3 hw3
  have q3 := HQ.out.kept (by omega) hw3
  have ra := RA.out w3 hw3
  have rb := RB.out w3 hw3
  have B3 := hw3.below (m := W.heap.size) (by omega) B2
  have hz3 := hw3.2
  have HRA := Lib.hid ra
  have HRB := Lib.hid rb
  have HB3 := Lib.hid B3
  have HQ3 := Lib.hid q3
  clear R1 HTK RA RB HQ hw3 ra rb B3 q3 hb2 B2
  go_wp2_with (first
    | (go_at_call 13; refine (over2_any _ G1 2 2 _ HRA.out rfl (by omega) (by omega) (by omega)).mono ?_; rintro r w4 ⟨⟨u, rfl⟩, hg4⟩; have q4 := HQ3.out.grown (by omega) (by omega) hg4; obtain ⟨z0, z1, z2, z3, z4, z5, z6, z7⟩ := q4; have HR4 := Lib.hid (HRB.out.grown hg4 (by omega)); have HB4 := Lib.hid (HB3.out.trans (grown_below hg4 (by omega) (by omega))); have hz4 := hg4.size; clear hg4)
    | (have _t := HR4; go_at_call 7; refine (encode_yes a b c d e f g h _ (HT.out.call HB4.out) (HL.out.call HB4.out) hd HX.out).mono ?_; rintro r w5 ⟨G5, rfl, hG5, hr5, hb5⟩; have HR5 : Hid (Row2 w5 G5 (encA a b c g h) (encB d e f)) := Lib.hid hr5; have HR6 := Lib.hid (HR4.out.go hb5); have HB5 := Lib.hid (bgo HB4.out hb5); clear hr5 hb5)
    | (go_at_call 9; refine (same2_any _ G5 G2 0 2 2 2 (fun j => if j = 0 then encA a b c g h else encB d e f) (fun j => if j = 0 then encA a b c g h else encB d e f) (by omega) HR5.out.cells HR6.out.cells0).mono ?_; rw [eqN_self]; rintro e w6 ⟨rfl, q, rfl⟩)
    | (go_at_call 14; refine (awake13 _ (HT.out.call (below_drewN HB5.out _)) (HL.out.call (below_drewN HB5.out _))).mono ?_; rintro e w7 ⟨rfl, hb7⟩))
  go_ret
  exact ⟨rfl, bgo (below_drewN HB5.out _) hb7⟩
set_option maxRecDepth 100000 in
set_option maxHeartbeats 4000000 in
theorem lays_no (a b c d e f g h : Int) (W : World) (hT : TabG W) (hL : LaidV_laid_seisin_cap_layout W) (he : e ≤ 9223372036854775807) (hx : capB a b c d e f g h = false) :
    Calls Tryd.prog 3 #[capV a b c d e f g h] W fun r w' => r = .returned (.bool true) ∧ Below W.heap.size W w' := by
  have HX := Lib.hid hx
  have HT := Lib.hid hT
  have HL := Lib.hid hL
  clear hx hT hL
  go_enter Tryd.func3, Tryd.ntmps3
  go_wp2_with (first
    | (go_at_call 7; refine (encode_no a b c d e f g h _ (HT.out.call (bal (Below.refl _ _) _)) he HX.out).mono ?_; rintro r w1 ⟨rfl, hb1⟩; obtain ⟨hc1, hf1⟩ := bcell hb1; have hz1 := hb1.size; have hzz : W.heap.size < w1.heap.size := (by simp at hz1; omega))
    | (go_at_call 8; refine (refenc_no a b c d e f g h _ HX.out).mono ?_; rintro r w2 ⟨rfl, hb2⟩))
  have q1 := ((capAt_new W 24 a b c d e f g h).call (by simp) hb1).call (by omega) hb2
  have B2 : Below W.heap.size W w2 := bgo (bgo (bal (Below.refl _ _) _) hb1) hb2
  have hz2 := hb2.size
  have R1 := Lib.hid (fun w (hw : Kept w2.heap.size w2 w) => add_cells0 (cap_cells (q1.kept (by omega) hw)))
  have HTK := Lib.hid (fun w (hw : Kept w2.heap.size w2 w) => HT.out.call (hw.below (m := W.heap.size) (by omega) B2))
  have HQ := Lib.hid q1
  clear hb1 hc1 hf1 hz1 q1
  refine wp_region_kept w2.heap.size w2 (by kernel_rfl) (by kernel_rfl) (Kept.refl (Nat.le_refl _)) ?_
  repeat (first
    | go_big_quiet_skip
    | (go_big_quiet_want; first
      | (refine quiet_load_list 24 _ rfl ⟨W.heap.size, 0, none⟩ rfl _ R1.out _ Tryd.underlying24 rfl (by kernel_rfl) ?_; simp only [Act.put, List.setIfInBounds_toArray, List.set_cons_zero, List.set_cons_succ]; go_big_quiet_on)
      | (go_big_quiet_op; first
        | go_big_quiet_on
        | (refine ⟨_, fun _ _ => rfl, ?_⟩; go_big_quiet_on)
        | go_big_quiet_call ((intro hw; first
          | (go_at_call 9; refine (same_nil _).mono ?_; rintro e w3 ⟨rfl, rfl⟩; exact ⟨rfl, hw⟩)
          | (go_at_call 10; refine (num_c _ _ (by decide)).mono ?_; rintro e w3 ⟨rfl, rfl⟩; exact ⟨rfl, hw⟩)
          | (go_at_call 11; refine (capMay a b c d e f g h _ (HTK.out _ hw) he).mono ?_; rw [HX.out]; rintro e w3 ⟨rfl, hb3⟩; exact ⟨rfl, hw.call hb3⟩)
          | (go_at_call 12; refine (refMay13 a b c d e f g h _).mono ?_; rw [HX.out]; rintro e w3 ⟨rfl, hb3⟩; exact ⟨rfl, hw.call hb3⟩))))))
  refine wpQuiet_nil ?_
  intro w3 hw3
  have q3 := HQ.out.kept (by omega) hw3
  have B3 := hw3.below (m := W.heap.size) (by omega) B2
  have hz3 := hw3.2
  have HB3 := Lib.hid B3
  have HQ3 := Lib.hid q3
  clear R1 HTK HQ hw3 B3 q3 hb2 B2
  go_wp2_with (first
    | (go_at_call 13; refine (over_nil _).mono ?_; rintro r w4 ⟨⟨u, rfl⟩, hg4⟩; have q4 := HQ3.out.call (by omega) hg4; obtain ⟨z0, z1, z2, z3, z4, z5, z6, z7⟩ := q4; have HB4 := Lib.hid (bgo HB3.out hg4); have hz4 := hg4.size; clear hg4)
    | (have _t := HB4; go_at_call 7; refine (encode_no a b c d e f g h _ (HT.out.call HB4.out) he HX.out).mono ?_; rintro r w5 ⟨rfl, hb5⟩; have HB5 := Lib.hid (bgo HB4.out hb5); clear hb5)
    | (go_at_call 9; refine (same_nil _).mono ?_; rintro e w6 ⟨rfl, rfl⟩)
    | (go_at_call 14; refine (awake13 _ (HT.out.call HB5.out) (HL.out.call HB5.out)).mono ?_; rintro e w7 ⟨rfl, hb7⟩))
  go_ret
  exact ⟨rfl, bgo HB5.out hb7⟩
theorem walk_capLays (a0 : CapX) (w0 : a0.Ok) (W : World) (hL : LaidV_laid_math_bits_deBruijn64tab W ∧ LaidV_laid_seisin_cap_layout W) :
    Calls Tryd.prog 3 #[a0.val] W fun e w' => e = .returned (.bool true) ∧ Below W.heap.size W w' := by
  obtain ⟨hT0, hLay⟩ := hL
  have hT : TabG W := hT0
  have hec : a0.e ≤ 9223372036854775807 := w0.2.2.2.2.1.2
  have hd : 0 ≤ a0.d := w0.2.2.2.1.1
  cases hx : capB a0.a a0.b a0.c a0.d a0.e a0.f a0.g a0.h
  · exact lays_no _ _ _ _ _ _ _ _ W hT hLay hec hx
  · exact lays_yes _ _ _ _ _ _ _ _ W hT hLay hd hec hx
end Go.Proofs.YtoepbcaldlgnjaaDoor
