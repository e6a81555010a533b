/- The law CapAlike. -/
import Derived.Test.YtoepbcaldlgnjaaDoorCapJ
import Derived.Test.YtoepbcaldlgnjaaDoorKeq
import Derived.Test.YtoepbcaldlgnjaaDoorCapAt
namespace Go.Proofs.YtoepbcaldlgnjaaDoor
set_option linter.unusedVariables false
set_option linter.unusedSimpArgs false
open Go.ChangeShapes Go.WideShapes Go.ChangeAt Go.RowKit Go.Shelf

theorem cap_cells {w : World} {k : Nat} {a b c d e f g h : Int} (q : capAt w k a b c d e f g h) : ∀ j v, ([.int .i64 a, .int .i64 b, .int .i64 c, .int .u64 d, .int .i64 e, .int .i64 f, .int .i64 g, .int .i64 h] : List Value)[j]? = some v → w.cell? ⟨k, j, none⟩ = some v := by
  obtain ⟨q0, q1, q2, q3, q4, q5, q6, q7⟩ := q
  intro j v hj
  have hl : j < 8 := (List.getElem?_eq_some_iff.1 hj).1
  rcases (by omega : j = 0 ∨ j = 1 ∨ j = 2 ∨ j = 3 ∨ j = 4 ∨ j = 5 ∨ j = 6 ∨ j = 7) with rfl | rfl | rfl | rfl | rfl | rfl | rfl | rfl
  all_goals
    cases hj
    assumption
theorem alikeB_comm (m n : Bool) (a a' b b' : Int) : alikeB m n a a' b b' = alikeB n m a' a b' b := by
  unfold alikeB
  rw [Bool.eq_iff_iff]
  simp
  constructor
  · rintro ⟨⟨⟨⟨h1, h2⟩, h3⟩, h4⟩, h5⟩
    exact ⟨⟨⟨⟨h2, h1⟩, by omega⟩, h4.symm⟩, h5.symm⟩
  · rintro ⟨⟨⟨⟨h1, h2⟩, h3⟩, h4⟩, h5⟩
    exact ⟨⟨⟨⟨h2, h1⟩, by omega⟩, h4.symm⟩, h5.symm⟩
theorem alikeB_self (m : Bool) (a b : Int) : alikeB m m a a b b = (m && decide (a ≠ 0)) := by
  unfold alikeB
  cases m <;> simp
set_option maxRecDepth 100000 in
set_option maxHeartbeats 4000000 in
theorem walk_capAlike (a0 : CapX) (w0 : a0.Ok) (a1 : CapX) (w1 : a1.Ok) (W : World) (hL : LaidV_laid_math_bits_deBruijn64tab W ∧ LaidV_laid_seisin_cap_layout W) :
    Calls Tryd.prog 6 #[a0.val, a1.val] W fun e w' => e = .returned (.bool true) ∧ Below W.heap.size W w' := by
  obtain ⟨hT0, hLay⟩ := hL
  have hT : TabG W := hT0
  clear hT0
  have hec : a0.e ≤ 9223372036854775807 := w0.2.2.2.2.1.2
  have hed : a1.e ≤ 9223372036854775807 := w1.2.2.2.2.1.2
  clear w0 w1
  obtain ⟨ca, cb, cc, cd, ce, cf, cg, ch⟩ := a0
  obtain ⟨da, db, dc, dd, de, df, dg, dh⟩ := a1
  obtain ⟨m, hm⟩ : ∃ m, capB ca cb cc cd ce cf cg ch = m := ⟨_, rfl⟩
  obtain ⟨p, hp⟩ : ∃ p, alikeB (capB ca cb cc cd ce cf cg ch) (capB da db dc dd de df dg dh) ca da cb db = p := ⟨_, rfl⟩
  have A1 := Lib.hid (fun W h => alike_any ca cb cc cd ce cf cg ch da db dc dd de df dg dh W h hec hed)
  have A2 := Lib.hid (fun W => alike13_any ca cb cc cd ce cf cg ch da db dc dd de df dg dh W)
  have A3 := Lib.hid (fun W h => alike_any da db dc dd de df dg dh ca cb cc cd ce cf cg ch W h hed hec)
  have A4 := Lib.hid (fun W h => alike_any ca cb cc cd ce cf cg ch ca cb cc cd ce cf cg ch W h hec hec)
  have A5 := Lib.hid (fun W h => capMay ca cb cc cd ce cf cg ch W h hec)
  rw [alikeB_comm] at A3
  rw [alikeB_self] at A4
  rw [hp] at A1 A2 A3
  rw [hm] at A4 A5
  have z : ca = 0 ∨ ¬ ca = 0 := by omega
  clear hp hm hec hed
  obtain ⟨t, ht⟩ : ∃ t, decide (ca = 0) = t := ⟨_, rfl⟩
  have t1 : (ca != 0) = !t := by rw [← ht]; by_cases e : ca = 0 <;> simp [e]
  have t2 : (ca == 0) = t := by rw [← ht]; by_cases e : ca = 0 <;> simp [e]
  have t3 : decide (¬ ca = 0) = !t := by rw [← ht]; by_cases e : ca = 0 <;> simp [e]
  clear z
  cases m <;> cases p <;> cases t
  all_goals
      simp only [ne_eq, t3, Bool.not_true, Bool.not_false, Bool.true_and, Bool.false_and] at A4
      simp only [Bool.not_true, Bool.not_false] at t1
      go_enter Tryd.func6, Tryd.ntmps6
      go_wp2_with fail
      obtain ⟨W2, hW2⟩ : ∃ x, x = (W.alloc (.cells #[.int .i64 ca, .int .i64 cb, .int .i64 cc, .int .u64 cd, .int .i64 ce, .int .i64 cf, .int .i64 cg, .int .i64 ch] 24)).alloc (.cells #[.int .i64 da, .int .i64 db, .int .i64 dc, .int .u64 dd, .int .i64 de, .int .i64 df, .int .i64 dg, .int .i64 dh] 24) := ⟨_, rfl⟩
      rw [← hW2]
      have q1 : capAt W2 W.heap.size ca cb cc cd ce cf cg ch := by rw [hW2]; exact (capAt_new W _ _ _ _ _ _ _ _ _).alloc (by simp) _
      have q2 : capAt W2 (W.heap.size + 1) da db dc dd de df dg dh := by
        have := capAt_new (W.alloc (.cells #[.int .i64 ca, .int .i64 cb, .int .i64 cc, .int .u64 cd, .int .i64 ce, .int .i64 cf, .int .i64 cg, .int .i64 ch] 24)) 24 da db dc dd de df dg dh
        rw [World.size_alloc] at this
        rw [hW2]; exact this
      have hz2 : W.heap.size + 2 ≤ W2.heap.size := by rw [hW2]; simp
      have BW : Below W.heap.size W W2 := hW2 ▸ bal (bal (Below.refl _ _) _) _
      have R1 := Lib.hid (fun w (hw : Kept (W.heap.size + 2) W2 w) => add_cells0 (cap_cells (q1.kept (by omega) hw)))
      have R2 := Lib.hid (fun w (hw : Kept (W.heap.size + 2) W2 w) => add_cells0 (cap_cells (q2.kept (by omega) hw)))
      have R3 := Lib.hid (fun w (hw : Kept (W.heap.size + 2) W2 w) => (q1.kept (by omega) hw).1)
      have HT := Lib.hid (fun w (hw : Kept (W.heap.size + 2) W2 w) => hT.call (hw.below (m := W.heap.size) (by omega) BW))
      have HLay := Lib.hid (fun w (hw : Kept (W.heap.size + 2) W2 w) => hLay.call (hw.below (m := W.heap.size) (by omega) BW))
      clear hW2 q1 q2
      refine wp_region_kept (W.heap.size + 2) W2 (by kernel_rfl) (by kernel_rfl) (Kept.refl hz2) ?_
      repeat (first
        | go_big_quiet_skip
        | (go_big_quiet_want; first
          | (refine quiet_load_list 24 _ rfl ⟨W.heap.size, 0, none⟩ rfl _ R1.out _ Tryd.underlying24 rfl (by kernel_rfl) ?_; simp only [Act.put, List.setIfInBounds_toArray, List.set_cons_zero, List.set_cons_succ]; go_big_quiet_on)
          | (refine quiet_load_list 24 _ rfl ⟨W.heap.size + 1, 0, none⟩ rfl _ R2.out _ Tryd.underlying24 rfl (by kernel_rfl) ?_; simp only [Act.put, List.setIfInBounds_toArray, List.set_cons_zero, List.set_cons_succ]; go_big_quiet_on)
          | (refine quiet_load_cell 3 _ rfl ⟨W.heap.size, 0, none⟩ rfl _ R3.out _ Tryd.underlying3 rfl ?_; simp only [Act.put, List.setIfInBounds_toArray, List.set_cons_zero, List.set_cons_succ]; go_big_quiet_on)
          | (go_big_quiet_op; first
            | go_big_quiet_on
            | (refine ⟨_, fun _ _ => rfl, ?_⟩; go_big_quiet_on)
            | go_big_quiet_call ((intro hw; first
              | (go_at_call 20; with_reducible refine (A2.out _).mono ?_; rintro e w3 ⟨rfl, hb3⟩; exact ⟨rfl, hw.call hb3⟩)
              | (go_at_call 19; with_reducible refine (A1.out _ (HT.out _ hw)).mono ?_; rintro e w3 ⟨rfl, hb3⟩; exact ⟨rfl, hw.call hb3⟩)
              | (go_at_call 19; with_reducible refine (A3.out _ (HT.out _ hw)).mono ?_; rintro e w3 ⟨rfl, hb3⟩; exact ⟨rfl, hw.call hb3⟩)
              | (go_at_call 19; with_reducible refine (A4.out _ (HT.out _ hw)).mono ?_; rintro e w3 ⟨rfl, hb3⟩; exact ⟨rfl, hw.call hb3⟩)
              | (go_at_call 11; with_reducible refine (A5.out _ (HT.out _ hw)).mono ?_; rintro e w3 ⟨rfl, hb3⟩; exact ⟨rfl, hw.call hb3⟩)
              | (go_at_call 14; refine (awake13 _ (HT.out _ hw) (HLay.out _ hw)).mono ?_; rintro e w3 ⟨rfl, hb3⟩; exact ⟨rfl, hw.call hb3⟩))))))
      refine wpQuiet_nil ?_
      intro w9 hw9
      go_wp2
      go_ret
      exact ⟨rfl, hw9.below (by omega) BW⟩
end Go.Proofs.YtoepbcaldlgnjaaDoor
