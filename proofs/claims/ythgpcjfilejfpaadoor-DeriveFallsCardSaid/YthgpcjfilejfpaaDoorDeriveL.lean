/- The walks of the laws DeriveCopies and DeriveMints. -/
import Derived.Test.YthgpcjfilejfpaaDoorDerive
import Derived.Test.YthgpcjfilejfpaaDoorVars
namespace Go.Proofs.YthgpcjfilejfpaaDoor
set_option linter.unusedVariables false
set_option linter.unusedSimpArgs false
open Go.ChangeShapes Go.WideShapes Go.ChangeAt Go.RowKit

theorem num_any (a : Int) (w : World) (h0 : 0 ≤ a) (h1 : a ≤ 100) : Calls Tryd.prog 14 #[.int .i64 a] w fun e w' => e = .returned (.int .i64 a) ∧ w = w' := by
  go_enter Tryd.func14, Tryd.ntmps14
  go_wp2
  go_ret
  exact ⟨rfl, rfl⟩
theorem copyW (x : CapX) (m : Int) {y : CapX} {k : Int} (h : copyX x m = (y, k)) (he : x.e ≤ 9223372036854775807) : Gives 25 #[x.val, .int .i64 m] (.tuple #[y.val, .int .i64 k]) := by
  have := copyD x m he
  rw [h] at this
  exact this
theorem copyW14 (x : CapX) (m : Int) {y : CapX} {k : Int} (h : copyX x m = (y, k)) (W : World) : Calls Tryd.prog 26 #[x.val, .int .i64 m] W fun r W' => r = .returned (.tuple #[y.val, .int .i64 k]) ∧ Below W.heap.size W W' := by
  have := copyR14 x m W
  rw [h] at this
  exact this
theorem copy_bd {x : CapX} {m : Int} {y : CapX} {k : Int} (h : copyX x m = (y, k)) : 0 ≤ k ∧ k ≤ 100 := by
  have := copyX_ways x m
  rw [h] at this
  rcases this with ⟨_, h1, h2⟩ | ⟨h1, _⟩
  · exact ⟨Int.le_of_lt h1, by omega⟩
  · simp only at h1; omega
instance : DecidableEq CapX := fun x y => decidable_of_iff (x.a = y.a ∧ x.b = y.b ∧ x.c = y.c ∧ x.d = y.d ∧ x.e = y.e ∧ x.f = y.f ∧ x.g = y.g ∧ x.h = y.h) (by cases x; cases y; simp)
set_option maxRecDepth 100000 in
set_option maxHeartbeats 1000000 in
theorem awake14 (W : World) (hT : TabG W) : Calls Tryd.prog 27 #[] W fun e w' => e = .returned (.bool true) ∧ Below W.heap.size W w' := by
  have h1 : Gives 25 #[capV 3 2 3 0 0 0 3 5, .int .i64 1] (.tuple #[capV 3 2 1 0 0 0 0 0, .int .i64 0]) := copyW ⟨3, 2, 3, 0, 0, 0, 3, 5⟩ 1 (y := ⟨3, 2, 1, 0, 0, 0, 0, 0⟩) (by decide +kernel) (by decide)
  have h2 : Gives 25 #[capV 1 1 0 0 0 0 0 0, .int .i64 7] (.tuple #[zcap, .int .i64 8]) := copyW ⟨1, 1, 0, 0, 0, 0, 0, 0⟩ 7 (y := zX) (by decide +kernel) (by decide)
  have H1 := Lib.hid h1
  have H2 := Lib.hid h2
  clear h1 h2
  go_enter Tryd.func27, Tryd.ntmps27
  go_wp2_with (first
    | (have _t := hb1; go_at_call 25; refine (H2.out _ (by exact hT.call (by repeat (first | with_reducible exact Below.refl _ _ | with_reducible assumption | with_reducible refine below_drewN ?_ _ | with_reducible refine Below.drew ?_ | with_reducible refine bal ?_ _ | with_reducible refine bgo ?_ (by with_reducible assumption) | refine Below.setCell ?_ (by first | exact Nat.le_refl _ | (simp; done) | (simp; omega)) _)))).mono ?_; rintro e w2 ⟨rfl, hb2⟩; obtain ⟨hc2, hf2⟩ := bcell hb2; have hz2 : w1.heap.size < w2.heap.size := (by have := hb2.size; simp at this; omega))
    | (go_at_call 25; refine (H1.out _ (by exact hT.call (by repeat (first | with_reducible exact Below.refl _ _ | with_reducible assumption | with_reducible refine below_drewN ?_ _ | with_reducible refine Below.drew ?_ | with_reducible refine bal ?_ _ | with_reducible refine bgo ?_ (by with_reducible assumption) | refine Below.setCell ?_ (by first | exact Nat.le_refl _ | (simp; done) | (simp; omega)) _)))).mono ?_; rintro e w1 ⟨rfl, hb1⟩; obtain ⟨hc1, hf1⟩ := bcell hb1))
  go_ret
  exact ⟨rfl, (by repeat (first | with_reducible exact Below.refl _ _ | with_reducible assumption | with_reducible refine below_drewN ?_ _ | with_reducible refine Below.drew ?_ | with_reducible refine bal ?_ _ | with_reducible refine bgo ?_ (by with_reducible assumption) | refine Below.setCell ?_ (by first | exact Nat.le_refl _ | (simp; done) | (simp; omega)) _))⟩

set_option maxRecDepth 100000 in
set_option maxHeartbeats 1000000 in
theorem walk_deriveCopies (a0 : CapX) (w0 : a0.Ok) (a1 : Int) (w1 : (Lit.int .i64 a1).wf = true) (W : World) (hL : LaidV_laid_math_bits_deBruijn64tab W) :
    Calls Tryd.prog 7 #[a0.val, .int .i64 a1] W fun e w' => e = .returned (.bool true) ∧ Below W.heap.size W w' := by
  have hT : TabG W := hL
  have he : a0.e ≤ 9223372036854775807 := w0.2.2.2.2.1.2
  obtain ⟨y, k, hk⟩ : ∃ y k, copyX a0 a1 = (y, k) := ⟨_, _, rfl⟩
  obtain ⟨k0, k1⟩ := copy_bd hk
  have e1 := copyW a0 a1 hk he
  have e2 := copyW14 a0 a1 hk
  clear hk
  obtain ⟨a, b, c, d, e, f, g, h⟩ := a0
  obtain ⟨a', b', c', d', e', f', g', h'⟩ := y
  have e1 : Gives 25 #[capV a b c d e f g h, .int .i64 a1] (.tuple #[capV a' b' c' d' e' f' g' h', .int .i64 k]) := e1
  have H1 := Lib.hid e1
  have e2 : ∀ W : World, Calls Tryd.prog 26 #[capV a b c d e f g h, .int .i64 a1] W fun r W' => r = .returned (.tuple #[capV a' b' c' d' e' f' g' h', .int .i64 k]) ∧ Below W.heap.size W W' := e2
  have H2 := Lib.hid e2
  clear e1 e2 w0 w1 he
  go_enter Tryd.func7, Tryd.ntmps7
  go_wp2_with (first
    | (go_at_call 25; refine (H1.out _ (by exact hT.call (by repeat (first | with_reducible exact Below.refl _ _ | with_reducible assumption | with_reducible refine below_drewN ?_ _ | with_reducible refine Below.drew ?_ | with_reducible refine bal ?_ _ | with_reducible refine bgo ?_ (by with_reducible assumption) | refine Below.setCell ?_ (by first | exact Nat.le_refl _ | (simp; done) | (simp; omega)) _)))).mono ?_; rintro e w1 ⟨rfl, hb1⟩; obtain ⟨hc1, hf1⟩ := bcell hb1; have hz1 : W.heap.size < w1.heap.size := (by have := hb1.size; simp at this; omega))
    | (go_at_call 26; refine (H2.out _).mono ?_; rintro e w2 ⟨rfl, hb2⟩; obtain ⟨hc2, hf2⟩ := bcell hb2; have hz2 : w1.heap.size < w2.heap.size := (by have := hb2.size; simp at this; omega))
    | (go_at_call 14; refine (num_any _ _ k0 k1).mono ?_; rintro e w3 ⟨rfl, rfl⟩)
    | (go_at_call 27; refine (awake14 _ (by exact hT.call (by repeat (first | with_reducible exact Below.refl _ _ | with_reducible assumption | with_reducible refine below_drewN ?_ _ | with_reducible refine Below.drew ?_ | with_reducible refine bal ?_ _ | with_reducible refine bgo ?_ (by with_reducible assumption) | refine Below.setCell ?_ (by first | exact Nat.le_refl _ | (simp; done) | (simp; omega)) _)))).mono ?_; rintro e w4 ⟨rfl, hb4⟩))
  go_ret
  exact ⟨rfl, (by repeat (first | with_reducible exact Below.refl _ _ | with_reducible assumption | with_reducible refine below_drewN ?_ _ | with_reducible refine Below.drew ?_ | with_reducible refine bal ?_ _ | with_reducible refine bgo ?_ (by with_reducible assumption) | refine Below.setCell ?_ (by first | exact Nat.le_refl _ | (simp; done) | (simp; omega)) _))⟩
end Go.Proofs.YthgpcjfilejfpaaDoor
