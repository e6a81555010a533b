/- The walks of the laws DeriveMints, DeriveFalls and DeriveTwice. -/
import Derived.Test.YthgpcjfilejfpaaDoorDeriveF

namespace Go.Proofs.YthgpcjfilejfpaaDoor
set_option linter.unusedVariables false
set_option linter.unusedSimpArgs false
open Go.ChangeShapes Go.WideShapes Go.ChangeAt Go.RowKit

theorem bd_u64 {n : Int} (h : (Lit.int .u64 n).wf = true) : 0 ≤ n ∧ n ≤ 18446744073709551615 := by
  simp [Lit.wf, IntKind.min, IntKind.max, IntKind.signed, IntKind.bits] at h; omega
set_option maxRecDepth 100000 in
set_option maxHeartbeats 1000000 in
theorem walk_deriveMints (a0 : CapX) (w0 : a0.Ok) (a1 : Int) (w1 : (Lit.int .i64 a1).wf = true) (a2 : Int) (w2 : (Lit.int .u64 a2).wf = true) (W : World) (hL : LaidV_laid_math_bits_deBruijn64tab W) :
    Calls Tryd.prog 8 #[a0.val, .int .i64 a1, .int .u64 a2] W fun e w' => e = .returned (.bool true) ∧ Below W.heap.size W w' := by
  have hT : TabG W := hL
  have he : a0.e ≤ 9223372036854775807 := w0.2.2.2.2.1.2
  obtain ⟨n0, n1⟩ := bd_u64 w2
  obtain ⟨n, rfl⟩ := Int.eq_ofNat_of_zero_le n0
  obtain ⟨y, k, hk⟩ : ∃ y k, mintX a0 a1 n = (y, k) := ⟨_, _, rfl⟩
  obtain ⟨⟨k0, k1⟩, -⟩ := mint_zero hk
  have e1 := mintW a0 a1 n (by omega) hk he
  have e2 := mintW14 a0 a1 n (by omega) hk
  clear hk
  obtain ⟨a, b, c, d, e, f, g, h⟩ := a0
  obtain ⟨a', b', c', d', e', f', g', h'⟩ := y
  have e1 : Gives 28 #[capV a b c d e f g h, .int .i64 a1, .int .u64 n] (.tuple #[capV a' b' c' d' e' f' g' h', .int .i64 k]) := e1
  have H1 := Lib.hid e1
  have e2 : ∀ W : World, Calls Tryd.prog 29 #[capV a b c d e f g h, .int .i64 a1, .int .u64 n] W fun r W' => r = .returned (.tuple #[capV a' b' c' d' e' f' g' h', .int .i64 k]) ∧ Below W.heap.size W W' := e2
  have H2 := Lib.hid e2
  clear e1 e2 w0 w1 he
  go_enter Tryd.func8, Tryd.ntmps8
  go_wp2_with (first
    | (go_at_call 28; refine (H1.out _ (by exact hT.call (by repeat (first | with_reducible exact Below.refl _ _ | with_reducible assumption | with_reducible refine below_drewN ?_ _ | with_reducible refine Below.drew ?_ | with_reducible refine bal ?_ _ | with_reducible refine bgo ?_ (by with_reducible assumption) | refine Below.setCell ?_ (by first | exact Nat.le_refl _ | (simp; done) | (simp; omega)) _)))).mono ?_; rintro e w1 ⟨rfl, hb1⟩; obtain ⟨hc1, hf1⟩ := bcell hb1; have hz1 : W.heap.size < w1.heap.size := (by have := hb1.size; simp at this; omega))
    | (go_at_call 29; refine (H2.out _).mono ?_; rintro e w2 ⟨rfl, hb2⟩; obtain ⟨hc2, hf2⟩ := bcell hb2; have hz2 : w1.heap.size < w2.heap.size := (by have := hb2.size; simp at this; omega))
    | (go_at_call 14; refine (num_any _ _ k0 k1).mono ?_; rintro e w3 ⟨rfl, rfl⟩)
    | (go_at_call 27; refine (awake14 _ (by exact hT.call (by repeat (first | with_reducible exact Below.refl _ _ | with_reducible assumption | with_reducible refine below_drewN ?_ _ | with_reducible refine Below.drew ?_ | with_reducible refine bal ?_ _ | with_reducible refine bgo ?_ (by with_reducible assumption) | refine Below.setCell ?_ (by first | exact Nat.le_refl _ | (simp; done) | (simp; omega)) _)))).mono ?_; rintro e w4 ⟨rfl, hb4⟩))
  go_ret
  exact ⟨rfl, (by repeat (first | with_reducible exact Below.refl _ _ | with_reducible assumption | with_reducible refine below_drewN ?_ _ | with_reducible refine Below.drew ?_ | with_reducible refine bal ?_ _ | with_reducible refine bgo ?_ (by with_reducible assumption) | refine Below.setCell ?_ (by first | exact Nat.le_refl _ | (simp; done) | (simp; omega)) _))⟩
theorem copy_end {x y : CapX} {m k : Int} (h : copyX x m = (y, k)) : k ≠ 0 → y = zX := by
  intro hk
  have := copy_zero (x := x) (m := m)
  rw [h] at this
  exact this hk
/-- The law where the call has failed. -/
theorem falls_bad : True := trivial
set_option maxRecDepth 100000 in
set_option maxHeartbeats 2000000 in
theorem falls_cn (a b c d e f g h a' b' c' d' e' f' g' h' m n j k : Int) (y1 y2 y3 y4 y5 y6 y7 y8 : Int) (W : World) (hT : TabG W) (he : e ≤ 9223372036854775807)
    (h1 : Gives 25 #[capV a b c d e f g h, .int .i64 m] (.tuple #[zcap, .int .i64 k]))
    (hk : k ≠ 0)
    : Calls Tryd.prog 9 #[capV a b c d e f g h, .int .i64 m, .int .u64 n, .bool false] W fun r W' => r = .returned (.bool true) ∧ Below W.heap.size W W' := by
  have hk' : (k == 0) = false := beq_eq_false_iff_ne.2 hk
  have hk'' : (k != 0) = true := bne_iff_ne.2 hk
  clear hk
  have H1 := Lib.hid h1
  clear h1
  go_enter Tryd.func9, Tryd.ntmps9
  go_wp2_with (first
    | (go_at_call 25; refine (H1.out _ (by exact hT.call (by repeat (first | with_reducible exact Below.refl _ _ | with_reducible assumption | with_reducible refine below_drewN ?_ _ | with_reducible refine Below.drew ?_ | with_reducible refine bal ?_ _ | with_reducible refine bgo ?_ (by with_reducible assumption) | refine Below.setCell ?_ (by first | exact Nat.le_refl _ | (simp; done) | (simp; omega)) _)))).mono ?_; rintro r w1 ⟨rfl, hb1⟩; obtain ⟨hc1, hf1⟩ := bcell hb1; have hz1 : W.heap.size < w1.heap.size := (by have := hb1.size; simp at this; omega))
    | (go_at_call 27; refine (awake14 _ (by exact hT.call (by repeat (first | with_reducible exact Below.refl _ _ | with_reducible assumption | with_reducible refine below_drewN ?_ _ | with_reducible refine Below.drew ?_ | with_reducible refine bal ?_ _ | with_reducible refine bgo ?_ (by with_reducible assumption) | refine Below.setCell ?_ (by first | exact Nat.le_refl _ | (simp; done) | (simp; omega)) _)))).mono ?_; rintro r w6 ⟨rfl, hb6⟩))
  go_ret
  exact ⟨rfl, (by repeat (first | with_reducible exact Below.refl _ _ | with_reducible assumption | with_reducible refine below_drewN ?_ _ | with_reducible refine Below.drew ?_ | with_reducible refine bal ?_ _ | with_reducible refine bgo ?_ (by with_reducible assumption) | refine Below.setCell ?_ (by first | exact Nat.le_refl _ | (simp; done) | (simp; omega)) _))⟩
set_option maxRecDepth 100000 in
set_option maxHeartbeats 2000000 in
theorem falls_cy (a b c d e f g h a' b' c' d' e' f' g' h' m n j k : Int) (y1 y2 y3 y4 y5 y6 y7 y8 : Int) (W : World) (hT : TabG W) (he : e ≤ 9223372036854775807)
    (h1 : Gives 25 #[capV a b c d e f g h, .int .i64 m] (.tuple #[capV a' b' c' d' e' f' g' h', .int .i64 0]))
    (hg : Good ⟨a, b, c, d, e, f, g, h⟩ ⟨a', b', c', d', e', f', g', h'⟩)
    : Calls Tryd.prog 9 #[capV a b c d e f g h, .int .i64 m, .int .u64 n, .bool false] W fun r W' => r = .returned (.bool true) ∧ Below W.heap.size W W' := by
  obtain ⟨g1, g2, g3, g4, g5, g6, g7, g8, g9, g10, g11, g12⟩ := hg
  simp only [CapX.B] at *
  subst g4 g5 g9 g10
  have hal : alikeB (capB a b c d e f g h) (capB a b c' d' e' f' 0 0) a a b b = true := by simp [alikeB, g1, g2, g3]
  have HAL := Lib.hid hal
  have HMY := Lib.hid g2
  have HHA := Lib.hid g8
  have hd : (d == 0) = true ∨ (d == 0) = false ∧ d' = d := by
    rcases g11 with g11 | g11
    · exact .inl (beq_iff_eq.2 g11)
    · by_cases hd : d = 0
      · exact .inl (beq_iff_eq.2 hd)
      · exact .inr ⟨beq_eq_false_iff_ne.2 hd, g11⟩
  clear g1 g2 g3 g8 g11 hal
  obtain ⟨g60, g61⟩ := g6
  obtain ⟨g70, g71⟩ := g7
  have H1 := Lib.hid h1
  clear h1
  rcases hd with hd | ⟨hd, rfl⟩
  all_goals
    go_enter Tryd.func9, Tryd.ntmps9
    go_wp2_with (first
      | (go_at_call 25; refine (H1.out _ (by exact hT.call (by repeat (first | with_reducible exact Below.refl _ _ | with_reducible assumption | with_reducible refine below_drewN ?_ _ | with_reducible refine Below.drew ?_ | with_reducible refine bal ?_ _ | with_reducible refine bgo ?_ (by with_reducible assumption) | refine Below.setCell ?_ (by first | exact Nat.le_refl _ | (simp; done) | (simp; omega)) _)))).mono ?_; rintro r w1 ⟨rfl, hb1⟩; obtain ⟨hc1, hf1⟩ := bcell hb1; have hz1 : W.heap.size < w1.heap.size := (by have := hb1.size; simp at this; omega))
      | (go_at_call 15; refine (capMay _ _ _ _ _ _ _ _ _ (by exact hT.call (by repeat (first | with_reducible exact Below.refl _ _ | with_reducible assumption | with_reducible refine below_drewN ?_ _ | with_reducible refine Below.drew ?_ | with_reducible refine bal ?_ _ | with_reducible refine bgo ?_ (by with_reducible assumption) | refine Below.setCell ?_ (by first | exact Nat.le_refl _ | (simp; done) | (simp; omega)) _))) g12).mono ?_; rw [HMY.out]; rintro r w3 ⟨rfl, hb3⟩; obtain ⟨hc3, hf3⟩ := bcell hb3; have hy := hb3.size; (try simp at hy); have hz31 : w1.heap.size < w3.heap.size := (by omega); have hz30 : W.heap.size < w3.heap.size := (by omega); clear hy)
      | (go_at_call 23; refine (alike_any _ _ _ _ _ _ _ _ _ _ _ _ _ _ _ _ _ (by exact hT.call (by repeat (first | with_reducible exact Below.refl _ _ | with_reducible assumption | with_reducible refine below_drewN ?_ _ | with_reducible refine Below.drew ?_ | with_reducible refine bal ?_ _ | with_reducible refine bgo ?_ (by with_reducible assumption) | refine Below.setCell ?_ (by first | exact Nat.le_refl _ | (simp; done) | (simp; omega)) _))) he g12).mono ?_; rw [HAL.out]; rintro r w4 ⟨rfl, hb4⟩; obtain ⟨hc4, hf4⟩ := bcell hb4; have hy := hb4.size; (try simp at hy); have hz41 : w1.heap.size < w4.heap.size := (by omega); have hz40 : W.heap.size < w4.heap.size := (by omega); clear hy)
      | (go_at_call 30; refine (has_any _ _ _ g60 g61 g70 g71).mono ?_; rw [HHA.out]; rintro r w5 ⟨rfl, rfl⟩)
      | (go_at_call 27; refine (awake14 _ (by exact hT.call (by repeat (first | with_reducible exact Below.refl _ _ | with_reducible assumption | with_reducible refine below_drewN ?_ _ | with_reducible refine Below.drew ?_ | with_reducible refine bal ?_ _ | with_reducible refine bgo ?_ (by with_reducible assumption) | refine Below.setCell ?_ (by first | exact Nat.le_refl _ | (simp; done) | (simp; omega)) _)))).mono ?_; rintro r w6 ⟨rfl, hb6⟩))
    go_ret
    exact ⟨rfl, (by repeat (first | with_reducible exact Below.refl _ _ | with_reducible assumption | with_reducible refine below_drewN ?_ _ | with_reducible refine Below.drew ?_ | with_reducible refine bal ?_ _ | with_reducible refine bgo ?_ (by with_reducible assumption) | refine Below.setCell ?_ (by first | exact Nat.le_refl _ | (simp; done) | (simp; omega)) _))⟩
set_option maxRecDepth 100000 in
set_option maxHeartbeats 2000000 in
theorem falls_mn (a b c d e f g h a' b' c' d' e' f' g' h' m n j k : Int) (y1 y2 y3 y4 y5 y6 y7 y8 : Int) (W : World) (hT : TabG W) (he : e ≤ 9223372036854775807)
    (h1 : Gives 25 #[capV a b c d e f g h, .int .i64 m] (.tuple #[capV y1 y2 y3 y4 y5 y6 y7 y8, .int .i64 j]))
    (h2 : Gives 28 #[capV a b c d e f g h, .int .i64 m, .int .u64 n] (.tuple #[zcap, .int .i64 k]))
    (hk : k ≠ 0)
    : Calls Tryd.prog 9 #[capV a b c d e f g h, .int .i64 m, .int .u64 n, .bool true] W fun r W' => r = .returned (.bool true) ∧ Below W.heap.size W W' := by
  have hk' : (k == 0) = false := beq_eq_false_iff_ne.2 hk
  have hk'' : (k != 0) = true := bne_iff_ne.2 hk
  clear hk
  have H1 := Lib.hid h1
  clear h1
  have H2 := Lib.hid h2
  clear h2
  go_enter Tryd.func9, Tryd.ntmps9
  go_wp2_with (first
    | (go_at_call 25; refine (H1.out _ (by exact hT.call (by repeat (first | with_reducible exact Below.refl _ _ | with_reducible assumption | with_reducible refine below_drewN ?_ _ | with_reducible refine Below.drew ?_ | with_reducible refine bal ?_ _ | with_reducible refine bgo ?_ (by with_reducible assumption) | refine Below.setCell ?_ (by first | exact Nat.le_refl _ | (simp; done) | (simp; omega)) _)))).mono ?_; rintro r w1 ⟨rfl, hb1⟩; obtain ⟨hc1, hf1⟩ := bcell hb1; have hz1 : W.heap.size < w1.heap.size := (by have := hb1.size; simp at this; omega))
    | (go_at_call 28; refine (H2.out _ (by exact hT.call (by repeat (first | with_reducible exact Below.refl _ _ | with_reducible assumption | with_reducible refine below_drewN ?_ _ | with_reducible refine Below.drew ?_ | with_reducible refine bal ?_ _ | with_reducible refine bgo ?_ (by with_reducible assumption) | refine Below.setCell ?_ (by first | exact Nat.le_refl _ | (simp; done) | (simp; omega)) _)))).mono ?_; rintro r w2 ⟨rfl, hb2⟩; obtain ⟨hc2, hf2⟩ := bcell hb2; have hy := hb2.size; (try simp at hy); have hz2 : w1.heap.size < w2.heap.size := (by omega); have hz20 : W.heap.size < w2.heap.size := (by omega); clear hy)
    | (go_at_call 27; refine (awake14 _ (by exact hT.call (by repeat (first | with_reducible exact Below.refl _ _ | with_reducible assumption | with_reducible refine below_drewN ?_ _ | with_reducible refine Below.drew ?_ | with_reducible refine bal ?_ _ | with_reducible refine bgo ?_ (by with_reducible assumption) | refine Below.setCell ?_ (by first | exact Nat.le_refl _ | (simp; done) | (simp; omega)) _)))).mono ?_; rintro r w6 ⟨rfl, hb6⟩))
  go_ret
  exact ⟨rfl, (by repeat (first | with_reducible exact Below.refl _ _ | with_reducible assumption | with_reducible refine below_drewN ?_ _ | with_reducible refine Below.drew ?_ | with_reducible refine bal ?_ _ | with_reducible refine bgo ?_ (by with_reducible assumption) | refine Below.setCell ?_ (by first | exact Nat.le_refl _ | (simp; done) | (simp; omega)) _))⟩
set_option maxRecDepth 100000 in
set_option maxHeartbeats 2000000 in
theorem falls_my (a b c d e f g h a' b' c' d' e' f' g' h' m n j k : Int) (y1 y2 y3 y4 y5 y6 y7 y8 : Int) (W : World) (hT : TabG W) (he : e ≤ 9223372036854775807)
    (h1 : Gives 25 #[capV a b c d e f g h, .int .i64 m] (.tuple #[capV y1 y2 y3 y4 y5 y6 y7 y8, .int .i64 j]))
    (h2 : Gives 28 #[capV a b c d e f g h, .int .i64 m, .int .u64 n] (.tuple #[capV a' b' c' d' e' f' g' h', .int .i64 0]))
    (hg : Good ⟨a, b, c, d, e, f, g, h⟩ ⟨a', b', c', d', e', f', g', h'⟩)
    : Calls Tryd.prog 9 #[capV a b c d e f g h, .int .i64 m, .int .u64 n, .bool true] W fun r W' => r = .returned (.bool true) ∧ Below W.heap.size W W' := by
  obtain ⟨g1, g2, g3, g4, g5, g6, g7, g8, g9, g10, g11, g12⟩ := hg
  simp only [CapX.B] at *
  subst g4 g5 g9 g10
  have hal : alikeB (capB a b c d e f g h) (capB a b c' d' e' f' 0 0) a a b b = true := by simp [alikeB, g1, g2, g3]
  have HAL := Lib.hid hal
  have HMY := Lib.hid g2
  have HHA := Lib.hid g8
  have hd : (d == 0) = true ∨ (d == 0) = false ∧ d' = d := by
    rcases g11 with g11 | g11
    · exact .inl (beq_iff_eq.2 g11)
    · by_cases hd : d = 0
      · exact .inl (beq_iff_eq.2 hd)
      · exact .inr ⟨beq_eq_false_iff_ne.2 hd, g11⟩
  clear g1 g2 g3 g8 g11 hal
  obtain ⟨g60, g61⟩ := g6
  obtain ⟨g70, g71⟩ := g7
  have H1 := Lib.hid h1
  clear h1
  have H2 := Lib.hid h2
  clear h2
  rcases hd with hd | ⟨hd, rfl⟩
  all_goals
    go_enter Tryd.func9, Tryd.ntmps9
    go_wp2_with (first
      | (go_at_call 25; refine (H1.out _ (by exact hT.call (by repeat (first | with_reducible exact Below.refl _ _ | with_reducible assumption | with_reducible refine below_drewN ?_ _ | with_reducible refine Below.drew ?_ | with_reducible refine bal ?_ _ | with_reducible refine bgo ?_ (by with_reducible assumption) | refine Below.setCell ?_ (by first | exact Nat.le_refl _ | (simp; done) | (simp; omega)) _)))).mono ?_; rintro r w1 ⟨rfl, hb1⟩; obtain ⟨hc1, hf1⟩ := bcell hb1; have hz1 : W.heap.size < w1.heap.size := (by have := hb1.size; simp at this; omega))
      | (go_at_call 28; refine (H2.out _ (by exact hT.call (by repeat (first | with_reducible exact Below.refl _ _ | with_reducible assumption | with_reducible refine below_drewN ?_ _ | with_reducible refine Below.drew ?_ | with_reducible refine bal ?_ _ | with_reducible refine bgo ?_ (by with_reducible assumption) | refine Below.setCell ?_ (by first | exact Nat.le_refl _ | (simp; done) | (simp; omega)) _)))).mono ?_; rintro r w2 ⟨rfl, hb2⟩; obtain ⟨hc2, hf2⟩ := bcell hb2; have hy := hb2.size; (try simp at hy); have hz2 : w1.heap.size < w2.heap.size := (by omega); have hz20 : W.heap.size < w2.heap.size := (by omega); clear hy)
      | (go_at_call 15; refine (capMay _ _ _ _ _ _ _ _ _ (by exact hT.call (by repeat (first | with_reducible exact Below.refl _ _ | with_reducible assumption | with_reducible refine below_drewN ?_ _ | with_reducible refine Below.drew ?_ | with_reducible refine bal ?_ _ | with_reducible refine bgo ?_ (by with_reducible assumption) | refine Below.setCell ?_ (by first | exact Nat.le_refl _ | (simp; done) | (simp; omega)) _))) g12).mono ?_; rw [HMY.out]; rintro r w3 ⟨rfl, hb3⟩; obtain ⟨hc3, hf3⟩ := bcell hb3; have hy := hb3.size; (try simp at hy); have hz31 : w1.heap.size < w3.heap.size := (by omega); have hz30 : W.heap.size < w3.heap.size := (by omega); clear hy)
      | (go_at_call 23; refine (alike_any _ _ _ _ _ _ _ _ _ _ _ _ _ _ _ _ _ (by exact hT.call (by repeat (first | with_reducible exact Below.refl _ _ | with_reducible assumption | with_reducible refine below_drewN ?_ _ | with_reducible refine Below.drew ?_ | with_reducible refine bal ?_ _ | with_reducible refine bgo ?_ (by with_reducible assumption) | refine Below.setCell ?_ (by first | exact Nat.le_refl _ | (simp; done) | (simp; omega)) _))) he g12).mono ?_; rw [HAL.out]; rintro r w4 ⟨rfl, hb4⟩; obtain ⟨hc4, hf4⟩ := bcell hb4; have hy := hb4.size; (try simp at hy); have hz41 : w1.heap.size < w4.heap.size := (by omega); have hz40 : W.heap.size < w4.heap.size := (by omega); clear hy)
      | (go_at_call 30; refine (has_any _ _ _ g60 g61 g70 g71).mono ?_; rw [HHA.out]; rintro r w5 ⟨rfl, rfl⟩)
      | (go_at_call 27; refine (awake14 _ (by exact hT.call (by repeat (first | with_reducible exact Below.refl _ _ | with_reducible assumption | with_reducible refine below_drewN ?_ _ | with_reducible refine Below.drew ?_ | with_reducible refine bal ?_ _ | with_reducible refine bgo ?_ (by with_reducible assumption) | refine Below.setCell ?_ (by first | exact Nat.le_refl _ | (simp; done) | (simp; omega)) _)))).mono ?_; rintro r w6 ⟨rfl, hb6⟩))
    go_ret
    exact ⟨rfl, (by repeat (first | with_reducible exact Below.refl _ _ | with_reducible assumption | with_reducible refine below_drewN ?_ _ | with_reducible refine Below.drew ?_ | with_reducible refine bal ?_ _ | with_reducible refine bgo ?_ (by with_reducible assumption) | refine Below.setCell ?_ (by first | exact Nat.le_refl _ | (simp; done) | (simp; omega)) _))⟩
end Go.Proofs.YthgpcjfilejfpaaDoor
