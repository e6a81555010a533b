import Derived.Test.YtchjfeafkmpmbaaGreatDoorPkaz
namespace Go.Proofs.YtchjfeafkmpmbaaGreatDoor
set_option linter.unusedVariables false
set_option linter.unusedSimpArgs false
set_option maxRecDepth 100000
set_option maxHeartbeats 8000000
open Lib (hid)
section
namespace CX
open Go.ChangeShapes Go.WideShapes Go.ChangeAt Go.RowKit
theorem mint_fail (a b c d e f g h a' b' c' d' e' f' g' h' m k n : Int) (W : World) (hT : TabG W) (h1 : Gives 63 #[capV a b c d e f g h, .int .i64 m] (.tuple #[zcap, .int .i64 k])) (hk : k ≠ 0) :
  Calls Tryz.prog 65 #[capV a b c d e f g h, .int .i64 m, .int .u64 n] W fun r W' => r = .returned (.tuple #[zcap, .int .i64 k]) ∧ Below W.heap.size W W' := by
 have H1 := hid h1
 clear h1
 have hk' : (k == 0) = false := beq_eq_false_iff_ne.2 hk
 have hk'' : (k != 0) = true := bne_iff_ne.2 hk
 clear hk
 go_enter Tryz.func65, Tryz.ntmps65
 go_wp2_with (first
  | (go_at_call 63; refine (H1.out _ (by exact hT.call (by repeat (first | with_reducible exact Below.refl _ _ | with_reducible assumption | with_reducible refine below_drewN ?_ _ | with_reducible refine Below.drew ?_ | with_reducible refine bal ?_ _ | with_reducible refine bgo ?_ (by with_reducible assumption) | refine Below.setCell ?_ (by first | exact Nat.le_refl _ | (simp; done) | (simp; omega)) _)))).mono ?_; rintro r w1 ⟨rfl, hb1⟩; obtain ⟨hc1, hf1⟩ := bcell hb1; have hz1 : W.heap.size + 1 < w1.heap.size := (by have := hb1.size; simp at this; omega); have hz0 : W.heap.size < w1.heap.size := (by omega)))
 all_goals exact bodyPost_ret (v := .tuple #[zcap, .int .i64 k]) (by simp [results, Tryz.results65, go_sem, hc1, hz0, hz1]) rfl ⟨rfl, (by repeat (first | with_reducible exact Below.refl _ _ | with_reducible assumption | with_reducible refine below_drewN ?_ _ | with_reducible refine Below.drew ?_ | with_reducible refine bal ?_ _ | with_reducible refine bgo ?_ (by with_reducible assumption) | refine Below.setCell ?_ (by first | exact Nat.le_refl _ | (simp; done) | (simp; omega)) _))⟩
theorem rmint_fail (a b c d e f g h a' b' c' d' e' f' g' h' m k n : Int) (W : World) (h1 : ∀ W : World, Calls Tryz.prog 88 #[capV a b c d e f g h, .int .i64 m] W fun r W' => r = .returned (.tuple #[zcap, .int .i64 k]) ∧ Below W.heap.size W W') (hk : k ≠ 0) :
  Calls Tryz.prog 89 #[capV a b c d e f g h, .int .i64 m, .int .u64 n] W fun r W' => r = .returned (.tuple #[zcap, .int .i64 k]) ∧ Below W.heap.size W W' := by
 have H1 := hid h1
 clear h1
 have hk' : (k == 0) = false := beq_eq_false_iff_ne.2 hk
 have hk'' : (k != 0) = true := bne_iff_ne.2 hk
 clear hk
 go_enter Tryz.func89, Tryz.ntmps89
 go_wp2_with (first
  | (go_at_call 88; refine (H1.out _).mono ?_; rintro r w1 ⟨rfl, hb1⟩; obtain ⟨hc1, hf1⟩ := bcell hb1; have hz1 : W.heap.size + 1 < w1.heap.size := (by have := hb1.size; simp at this; omega); have hz0 : W.heap.size < w1.heap.size := (by omega)))
 all_goals exact bodyPost_ret (v := .tuple #[zcap, .int .i64 k]) (by simp [results, Tryz.results89, go_sem, hc1, hz0, hz1]) rfl ⟨rfl, (by repeat (first | with_reducible exact Below.refl _ _ | with_reducible assumption | with_reducible refine below_drewN ?_ _ | with_reducible refine Below.drew ?_ | with_reducible refine bal ?_ _ | with_reducible refine bgo ?_ (by with_reducible assumption) | refine Below.setCell ?_ (by first | exact Nat.le_refl _ | (simp; done) | (simp; omega)) _))⟩
theorem mint_no (a b c d e f g h a' b' c' d' e' f' g' h' m k n : Int) (W : World) (hT : TabG W) (h1 : Gives 63 #[capV a b c d e f g h, .int .i64 m] (.tuple #[capV a' b' c' d' e' f' g' h', .int .i64 0])) (ha : a ≠ 8 ∧ a ≠ 2) (hn : n ≠ 0) :
  Calls Tryz.prog 65 #[capV a b c d e f g h, .int .i64 m, .int .u64 n] W fun r W' => r = .returned (.tuple #[zcap, .int .i64 2]) ∧ Below W.heap.size W W' := by
 have H1 := hid h1
 clear h1
 have a8 : (a == 8) = false := beq_eq_false_iff_ne.2 (by omega)
 have a2 : (a == 2) = false := beq_eq_false_iff_ne.2 (by omega)
 have n0 : (n == 0) = false := beq_eq_false_iff_ne.2 hn
 have n1 : (n != 0) = true := bne_iff_ne.2 hn
 clear hn
 go_enter Tryz.func65, Tryz.ntmps65
 go_wp2_with (first
  | (go_at_call 63; refine (H1.out _ (by exact hT.call (by repeat (first | with_reducible exact Below.refl _ _ | with_reducible assumption | with_reducible refine below_drewN ?_ _ | with_reducible refine Below.drew ?_ | with_reducible refine bal ?_ _ | with_reducible refine bgo ?_ (by with_reducible assumption) | refine Below.setCell ?_ (by first | exact Nat.le_refl _ | (simp; done) | (simp; omega)) _)))).mono ?_; rintro r w1 ⟨rfl, hb1⟩; obtain ⟨hc1, hf1⟩ := bcell hb1; have hz1 : W.heap.size + 1 < w1.heap.size := (by have := hb1.size; simp at this; omega); have hz0 : W.heap.size < w1.heap.size := (by omega)))
 all_goals exact bodyPost_ret (v := .tuple #[zcap, .int .i64 2]) (by simp [results, Tryz.results65, go_sem, hc1, hz0, hz1]) rfl ⟨rfl, (by repeat (first | with_reducible exact Below.refl _ _ | with_reducible assumption | with_reducible refine below_drewN ?_ _ | with_reducible refine Below.drew ?_ | with_reducible refine bal ?_ _ | with_reducible refine bgo ?_ (by with_reducible assumption) | refine Below.setCell ?_ (by first | exact Nat.le_refl _ | (simp; done) | (simp; omega)) _))⟩
theorem mint_same (a b c d e f g h a' b' c' d' e' f' g' h' m k n : Int) (W : World) (hT : TabG W) (h1 : Gives 63 #[capV a b c d e f g h, .int .i64 m] (.tuple #[capV a' b' c' d' e' f' g' h', .int .i64 0])) (ha : a ≠ 8 ∧ a ≠ 2) (hn : n = 0) :
  Calls Tryz.prog 65 #[capV a b c d e f g h, .int .i64 m, .int .u64 n] W fun r W' => r = .returned (.tuple #[capV a' b' c' d' e' f' g' h', .int .i64 0]) ∧ Below W.heap.size W W' := by
 have H1 := hid h1
 clear h1
 have a8 : (a == 8) = false := beq_eq_false_iff_ne.2 (by omega)
 have a2 : (a == 2) = false := beq_eq_false_iff_ne.2 (by omega)
 subst hn
 go_enter Tryz.func65, Tryz.ntmps65
 go_wp2_with (first
  | (go_at_call 63; refine (H1.out _ (by exact hT.call (by repeat (first | with_reducible exact Below.refl _ _ | with_reducible assumption | with_reducible refine below_drewN ?_ _ | with_reducible refine Below.drew ?_ | with_reducible refine bal ?_ _ | with_reducible refine bgo ?_ (by with_reducible assumption) | refine Below.setCell ?_ (by first | exact Nat.le_refl _ | (simp; done) | (simp; omega)) _)))).mono ?_; rintro r w1 ⟨rfl, hb1⟩; obtain ⟨hc1, hf1⟩ := bcell hb1; have hz1 : W.heap.size + 1 < w1.heap.size := (by have := hb1.size; simp at this; omega); have hz0 : W.heap.size < w1.heap.size := (by omega)))
 all_goals exact bodyPost_ret (v := .tuple #[capV a' b' c' d' e' f' g' h', .int .i64 0]) (by simp [results, Tryz.results65, go_sem, hc1, hz0, hz1]) rfl ⟨rfl, (by repeat (first | with_reducible exact Below.refl _ _ | with_reducible assumption | with_reducible refine below_drewN ?_ _ | with_reducible refine Below.drew ?_ | with_reducible refine bal ?_ _ | with_reducible refine bgo ?_ (by with_reducible assumption) | refine Below.setCell ?_ (by first | exact Nat.le_refl _ | (simp; done) | (simp; omega)) _))⟩
theorem rmint_no (a b c d e f g h a' b' c' d' e' f' g' h' m k n : Int) (W : World) (h1 : ∀ W : World, Calls Tryz.prog 88 #[capV a b c d e f g h, .int .i64 m] W fun r W' => r = .returned (.tuple #[capV a' b' c' d' e' f' g' h', .int .i64 0]) ∧ Below W.heap.size W W') (ha : a' ≠ 8 ∧ a' ≠ 2) (hn : n ≠ 0) :
  Calls Tryz.prog 89 #[capV a b c d e f g h, .int .i64 m, .int .u64 n] W fun r W' => r = .returned (.tuple #[zcap, .int .i64 2]) ∧ Below W.heap.size W W' := by
 have H1 := hid h1
 clear h1
 have a8 : (a' == 8) = false := beq_eq_false_iff_ne.2 (by omega)
 have a2 : (a' == 2) = false := beq_eq_false_iff_ne.2 (by omega)
 have n0 : (n == 0) = false := beq_eq_false_iff_ne.2 hn
 have n1 : (n != 0) = true := bne_iff_ne.2 hn
 clear hn
 go_enter Tryz.func89, Tryz.ntmps89
 go_wp2_with (first
  | (go_at_call 88; refine (H1.out _).mono ?_; rintro r w1 ⟨rfl, hb1⟩; obtain ⟨hc1, hf1⟩ := bcell hb1; have hz1 : W.heap.size + 1 < w1.heap.size := (by have := hb1.size; simp at this; omega); have hz0 : W.heap.size < w1.heap.size := (by omega)))
 all_goals exact bodyPost_ret (v := .tuple #[zcap, .int .i64 2]) (by simp [results, Tryz.results89, go_sem, hc1, hz0, hz1]) rfl ⟨rfl, (by repeat (first | with_reducible exact Below.refl _ _ | with_reducible assumption | with_reducible refine below_drewN ?_ _ | with_reducible refine Below.drew ?_ | with_reducible refine bal ?_ _ | with_reducible refine bgo ?_ (by with_reducible assumption) | refine Below.setCell ?_ (by first | exact Nat.le_refl _ | (simp; done) | (simp; omega)) _))⟩
theorem rmint_same (a b c d e f g h a' b' c' d' e' f' g' h' m k n : Int) (W : World) (h1 : ∀ W : World, Calls Tryz.prog 88 #[capV a b c d e f g h, .int .i64 m] W fun r W' => r = .returned (.tuple #[capV a' b' c' d' e' f' g' h', .int .i64 0]) ∧ Below W.heap.size W W') (ha : a' ≠ 8 ∧ a' ≠ 2) (hn : n = 0) :
  Calls Tryz.prog 89 #[capV a b c d e f g h, .int .i64 m, .int .u64 n] W fun r W' => r = .returned (.tuple #[capV a' b' c' d' e' f' g' h', .int .i64 0]) ∧ Below W.heap.size W W' := by
 have H1 := hid h1
 clear h1
 have a8 : (a' == 8) = false := beq_eq_false_iff_ne.2 (by omega)
 have a2 : (a' == 2) = false := beq_eq_false_iff_ne.2 (by omega)
 subst hn
 go_enter Tryz.func89, Tryz.ntmps89
 go_wp2_with (first
  | (go_at_call 88; refine (H1.out _).mono ?_; rintro r w1 ⟨rfl, hb1⟩; obtain ⟨hc1, hf1⟩ := bcell hb1; have hz1 : W.heap.size + 1 < w1.heap.size := (by have := hb1.size; simp at this; omega); have hz0 : W.heap.size < w1.heap.size := (by omega)))
 all_goals exact bodyPost_ret (v := .tuple #[capV a' b' c' d' e' f' g' h', .int .i64 0]) (by simp [results, Tryz.results89, go_sem, hc1, hz0, hz1]) rfl ⟨rfl, (by repeat (first | with_reducible exact Below.refl _ _ | with_reducible assumption | with_reducible refine below_drewN ?_ _ | with_reducible refine Below.drew ?_ | with_reducible refine bal ?_ _ | with_reducible refine bgo ?_ (by with_reducible assumption) | refine Below.setCell ?_ (by first | exact Nat.le_refl _ | (simp; done) | (simp; omega)) _))⟩
theorem mint_end (a b c d e f g h a' b' c' d' e' f' g' h' m k n : Int) (W : World) (hT : TabG W) (h1 : Gives 63 #[capV a b c d e f g h, .int .i64 m] (.tuple #[capV a' b' c' d' e' f' g' h', .int .i64 0])) (ha : a = 8) (z : CapX) (h2 : Gives 100 #[capV a' b' c' d' e' f' g' h', .int .u64 n] (.tuple #[capV z.a z.b z.c z.d z.e z.f z.g z.h, .int .i64 k])) :
  Calls Tryz.prog 65 #[capV a b c d e f g h, .int .i64 m, .int .u64 n] W fun r W' => r = .returned (.tuple #[capV z.a z.b z.c z.d z.e z.f z.g z.h, .int .i64 k]) ∧ Below W.heap.size W W' := by
 obtain ⟨z1, z2, z3, z4, z5, z6, z7, z8⟩ := z
 have H1 := hid h1
 clear h1
 subst ha
 have H2 := hid h2
 clear h2
 go_enter Tryz.func65, Tryz.ntmps65
 go_wp2_with (first
  | (go_at_call 63; refine (H1.out _ (by exact hT.call (by repeat (first | with_reducible exact Below.refl _ _ | with_reducible assumption | with_reducible refine below_drewN ?_ _ | with_reducible refine Below.drew ?_ | with_reducible refine bal ?_ _ | with_reducible refine bgo ?_ (by with_reducible assumption) | refine Below.setCell ?_ (by first | exact Nat.le_refl _ | (simp; done) | (simp; omega)) _)))).mono ?_; rintro r w1 ⟨rfl, hb1⟩; obtain ⟨hc1, hf1⟩ := bcell hb1; have hz1 : W.heap.size + 1 < w1.heap.size := (by have := hb1.size; simp at this; omega); have hz0 : W.heap.size < w1.heap.size := (by omega))
  | (go_at_call 100; refine (H2.out _ (by exact hT.call (by repeat (first | with_reducible exact Below.refl _ _ | with_reducible assumption | with_reducible refine below_drewN ?_ _ | with_reducible refine Below.drew ?_ | with_reducible refine bal ?_ _ | with_reducible refine bgo ?_ (by with_reducible assumption) | refine Below.setCell ?_ (by first | exact Nat.le_refl _ | (simp; done) | (simp; omega)) _)))).mono ?_; rintro r w2 ⟨rfl, hb2⟩; obtain ⟨hc2, hf2⟩ := bcell hb2; have hy := hb2.size; simp at hy; have hz20 : W.heap.size < w2.heap.size := (by omega); have hz21 : W.heap.size + 1 < w2.heap.size := (by omega); clear hy))
 all_goals exact bodyPost_ret (v := .tuple #[capV z1 z2 z3 z4 z5 z6 z7 z8, .int .i64 k]) (by simp [results, Tryz.results65, go_sem, hc1, hz0, hz1, hc2, hz20, hz21]) rfl ⟨rfl, (by repeat (first | with_reducible exact Below.refl _ _ | with_reducible assumption | with_reducible refine below_drewN ?_ _ | with_reducible refine Below.drew ?_ | with_reducible refine bal ?_ _ | with_reducible refine bgo ?_ (by with_reducible assumption) | refine Below.setCell ?_ (by first | exact Nat.le_refl _ | (simp; done) | (simp; omega)) _))⟩
theorem mint_node (a b c d e f g h a' b' c' d' e' f' g' h' m k n : Int) (W : World) (hT : TabG W) (h1 : Gives 63 #[capV a b c d e f g h, .int .i64 m] (.tuple #[capV a' b' c' d' e' f' g' h', .int .i64 0])) (ha : a = 2) (z : CapX) (h2 : Gives 101 #[capV a' b' c' d' e' f' g' h', .int .u64 n] (.tuple #[capV z.a z.b z.c z.d z.e z.f z.g z.h, .int .i64 k])) :
  Calls Tryz.prog 65 #[capV a b c d e f g h, .int .i64 m, .int .u64 n] W fun r W' => r = .returned (.tuple #[capV z.a z.b z.c z.d z.e z.f z.g z.h, .int .i64 k]) ∧ Below W.heap.size W W' := by
 obtain ⟨z1, z2, z3, z4, z5, z6, z7, z8⟩ := z
 have H1 := hid h1
 clear h1
 subst ha
 have H2 := hid h2
 clear h2
 go_enter Tryz.func65, Tryz.ntmps65
 go_wp2_with (first
  | (go_at_call 63; refine (H1.out _ (by exact hT.call (by repeat (first | with_reducible exact Below.refl _ _ | with_reducible assumption | with_reducible refine below_drewN ?_ _ | with_reducible refine Below.drew ?_ | with_reducible refine bal ?_ _ | with_reducible refine bgo ?_ (by with_reducible assumption) | refine Below.setCell ?_ (by first | exact Nat.le_refl _ | (simp; done) | (simp; omega)) _)))).mono ?_; rintro r w1 ⟨rfl, hb1⟩; obtain ⟨hc1, hf1⟩ := bcell hb1; have hz1 : W.heap.size + 1 < w1.heap.size := (by have := hb1.size; simp at this; omega); have hz0 : W.heap.size < w1.heap.size := (by omega))
  | (go_at_call 101; refine (H2.out _ (by exact hT.call (by repeat (first | with_reducible exact Below.refl _ _ | with_reducible assumption | with_reducible refine below_drewN ?_ _ | with_reducible refine Below.drew ?_ | with_reducible refine bal ?_ _ | with_reducible refine bgo ?_ (by with_reducible assumption) | refine Below.setCell ?_ (by first | exact Nat.le_refl _ | (simp; done) | (simp; omega)) _)))).mono ?_; rintro r w2 ⟨rfl, hb2⟩; obtain ⟨hc2, hf2⟩ := bcell hb2; have hy := hb2.size; simp at hy; have hz20 : W.heap.size < w2.heap.size := (by omega); have hz21 : W.heap.size + 1 < w2.heap.size := (by omega); clear hy))
 all_goals exact bodyPost_ret (v := .tuple #[capV z1 z2 z3 z4 z5 z6 z7 z8, .int .i64 k]) (by simp [results, Tryz.results65, go_sem, hc1, hz0, hz1, hc2, hz20, hz21]) rfl ⟨rfl, (by repeat (first | with_reducible exact Below.refl _ _ | with_reducible assumption | with_reducible refine below_drewN ?_ _ | with_reducible refine Below.drew ?_ | with_reducible refine bal ?_ _ | with_reducible refine bgo ?_ (by with_reducible assumption) | refine Below.setCell ?_ (by first | exact Nat.le_refl _ | (simp; done) | (simp; omega)) _))⟩
theorem rmint_hi (a b c d e f g h a' b' c' d' e' f' g' h' m k n : Int) (W : World) (h1 : ∀ W : World, Calls Tryz.prog 88 #[capV a b c d e f g h, .int .i64 m] W fun r W' => r = .returned (.tuple #[capV a' b' c' d' e' f' g' h', .int .i64 0]) ∧ Below W.heap.size W W') (ha : a' = 8) (hn : 16777215 < n) :
  Calls Tryz.prog 89 #[capV a b c d e f g h, .int .i64 m, .int .u64 n] W fun r W' => r = .returned (.tuple #[zcap, .int .i64 3]) ∧ Below W.heap.size W W' := by
 have H1 := hid h1
 clear h1
 subst ha
 go_enter Tryz.func89, Tryz.ntmps89
 go_wp2_with (first
  | (go_at_call 88; refine (H1.out _).mono ?_; rintro r w1 ⟨rfl, hb1⟩; obtain ⟨hc1, hf1⟩ := bcell hb1; have hz1 : W.heap.size + 1 < w1.heap.size := (by have := hb1.size; simp at this; omega); have hz0 : W.heap.size < w1.heap.size := (by omega)))
 all_goals exact bodyPost_ret (v := .tuple #[zcap, .int .i64 3]) (by simp [results, Tryz.results89, go_sem, hc1, hz0, hz1]) rfl ⟨rfl, (by repeat (first | with_reducible exact Below.refl _ _ | with_reducible assumption | with_reducible refine below_drewN ?_ _ | with_reducible refine Below.drew ?_ | with_reducible refine bal ?_ _ | with_reducible refine bgo ?_ (by with_reducible assumption) | refine Below.setCell ?_ (by first | exact Nat.le_refl _ | (simp; done) | (simp; omega)) _))⟩
theorem rmint_had (a b c d e f g h a' b' c' d' e' f' g' h' m k n : Int) (W : World) (h1 : ∀ W : World, Calls Tryz.prog 88 #[capV a b c d e f g h, .int .i64 m] W fun r W' => r = .returned (.tuple #[capV a' b' c' d' e' f' g' h', .int .i64 0]) ∧ Below W.heap.size W W') (ha : a' = 8) (hn : n ≤ 16777215) (hd : d' ≠ 0) :
  Calls Tryz.prog 89 #[capV a b c d e f g h, .int .i64 m, .int .u64 n] W fun r W' => r = .returned (.tuple #[zcap, .int .i64 9]) ∧ Below W.heap.size W W' := by
 have H1 := hid h1
 clear h1
 subst ha
 have d0 : (d' == 0) = false := beq_eq_false_iff_ne.2 hd
 have d1 : (d' != 0) = true := bne_iff_ne.2 hd
 clear hd
 go_enter Tryz.func89, Tryz.ntmps89
 go_wp2_with (first
  | (go_at_call 88; refine (H1.out _).mono ?_; rintro r w1 ⟨rfl, hb1⟩; obtain ⟨hc1, hf1⟩ := bcell hb1; have hz1 : W.heap.size + 1 < w1.heap.size := (by have := hb1.size; simp at this; omega); have hz0 : W.heap.size < w1.heap.size := (by omega)))
 all_goals exact bodyPost_ret (v := .tuple #[zcap, .int .i64 9]) (by simp [results, Tryz.results89, go_sem, hc1, hz0, hz1]) rfl ⟨rfl, (by repeat (first | with_reducible exact Below.refl _ _ | with_reducible assumption | with_reducible refine below_drewN ?_ _ | with_reducible refine Below.drew ?_ | with_reducible refine bal ?_ _ | with_reducible refine bgo ?_ (by with_reducible assumption) | refine Below.setCell ?_ (by first | exact Nat.le_refl _ | (simp; done) | (simp; omega)) _))⟩
theorem rmint_badge (a b c d e f g h a' b' c' d' e' f' g' h' m k n : Int) (W : World) (h1 : ∀ W : World, Calls Tryz.prog 88 #[capV a b c d e f g h, .int .i64 m] W fun r W' => r = .returned (.tuple #[capV a' b' c' d' e' f' g' h', .int .i64 0]) ∧ Below W.heap.size W W') (ha : a' = 8) (hn : n ≤ 16777215) (hd : d' = 0) :
  Calls Tryz.prog 89 #[capV a b c d e f g h, .int .i64 m, .int .u64 n] W fun r W' => r = .returned (.tuple #[capV a' b' c' n e' f' g' h', .int .i64 0]) ∧ Below W.heap.size W W' := by
 have H1 := hid h1
 clear h1
 subst ha
 subst hd
 go_enter Tryz.func89, Tryz.ntmps89
 go_wp2_with (first
  | (go_at_call 88; refine (H1.out _).mono ?_; rintro r w1 ⟨rfl, hb1⟩; obtain ⟨hc1, hf1⟩ := bcell hb1; have hz1 : W.heap.size + 1 < w1.heap.size := (by have := hb1.size; simp at this; omega); have hz0 : W.heap.size < w1.heap.size := (by omega)))
 all_goals exact bodyPost_ret (v := .tuple #[capV 8 b' c' n e' f' g' h', .int .i64 0]) (by simp [results, Tryz.results89, go_sem, hc1, hz0, hz1]) rfl ⟨rfl, (by repeat (first | with_reducible exact Below.refl _ _ | with_reducible assumption | with_reducible refine below_drewN ?_ _ | with_reducible refine Below.drew ?_ | with_reducible refine bal ?_ _ | with_reducible refine bgo ?_ (by with_reducible assumption) | refine Below.setCell ?_ (by first | exact Nat.le_refl _ | (simp; done) | (simp; omega)) _))⟩
theorem rmint_wide (a b c d e f g h a' b' c' d' e' f' g' h' m k n : Int) (W : World) (h1 : ∀ W : World, Calls Tryz.prog 88 #[capV a b c d e f g h, .int .i64 m] W fun r W' => r = .returned (.tuple #[capV a' b' c' d' e' f' g' h', .int .i64 0]) ∧ Below W.heap.size W W') (ha : a' = 2) (hn : 65536 ≤ n) :
  Calls Tryz.prog 89 #[capV a b c d e f g h, .int .i64 m, .int .u64 n] W fun r W' => r = .returned (.tuple #[zcap, .int .i64 3]) ∧ Below W.heap.size W W' := by
 have H1 := hid h1
 clear h1
 subst ha
 go_enter Tryz.func89, Tryz.ntmps89
 go_wp2_with (first
  | (go_at_call 88; refine (H1.out _).mono ?_; rintro r w1 ⟨rfl, hb1⟩; obtain ⟨hc1, hf1⟩ := bcell hb1; have hz1 : W.heap.size + 1 < w1.heap.size := (by have := hb1.size; simp at this; omega); have hz0 : W.heap.size < w1.heap.size := (by omega)))
 all_goals exact bodyPost_ret (v := .tuple #[zcap, .int .i64 3]) (by simp [results, Tryz.results89, go_sem, hc1, hz0, hz1]) rfl ⟨rfl, (by repeat (first | with_reducible exact Below.refl _ _ | with_reducible assumption | with_reducible refine below_drewN ?_ _ | with_reducible refine Below.drew ?_ | with_reducible refine bal ?_ _ | with_reducible refine bgo ?_ (by with_reducible assumption) | refine Below.setCell ?_ (by first | exact Nat.le_refl _ | (simp; done) | (simp; omega)) _))⟩
theorem rmint_node_no (a b c d e f g h a' b' c' d' e' f' g' h' m k n : Int) (W : World) (h1 : ∀ W : World, Calls Tryz.prog 88 #[capV a b c d e f g h, .int .i64 m] W fun r W' => r = .returned (.tuple #[capV a' b' c' d' e' f' g' h', .int .i64 0]) ∧ Below W.heap.size W W') (ha : a' = 2) (n0 : 0 ≤ n) (hn : n < 65536) (hk : capB a' b' c' d' (n % 4096) (n / 4096) g' h' = false) :
  Calls Tryz.prog 89 #[capV a b c d e f g h, .int .i64 m, .int .u64 n] W fun r W' => r = .returned (.tuple #[zcap, .int .i64 3]) ∧ Below W.heap.size W W' := by
 have H1 := hid h1
 clear h1
 subst ha
 have HK := hid hk
 clear hk
 go_enter Tryz.func89, Tryz.ntmps89
 go_wp2_with (first
  | (go_at_call 88; refine (H1.out _).mono ?_; rintro r w1 ⟨rfl, hb1⟩; obtain ⟨hc1, hf1⟩ := bcell hb1; have hz1 : W.heap.size + 1 < w1.heap.size := (by have := hb1.size; simp at this; omega); have hz0 : W.heap.size < w1.heap.size := (by omega))
  | (go_at_call 110; refine (refMay13 _ _ _ _ _ _ _ _ _).mono ?_; rw [HK.out]; rintro r w2 ⟨rfl, hb2⟩; obtain ⟨hc2, hf2⟩ := bcell hb2; have hy := hb2.size; simp at hy; have hz20 : W.heap.size < w2.heap.size := (by omega); have hz21 : W.heap.size + 1 < w2.heap.size := (by omega); have hz22 : w1.heap.size < w2.heap.size := (by omega); clear hy))
 all_goals exact bodyPost_ret (v := .tuple #[zcap, .int .i64 3]) (by simp [results, Tryz.results89, go_sem, hc1, hz0, hz1, hc2, hz20, hz21, hz22]) rfl ⟨rfl, (by repeat (first | with_reducible exact Below.refl _ _ | with_reducible assumption | with_reducible refine below_drewN ?_ _ | with_reducible refine Below.drew ?_ | with_reducible refine bal ?_ _ | with_reducible refine bgo ?_ (by with_reducible assumption) | refine Below.setCell ?_ (by first | exact Nat.le_refl _ | (simp; done) | (simp; omega)) _))⟩
theorem rmint_node_yes (a b c d e f g h a' b' c' d' e' f' g' h' m k n : Int) (W : World) (h1 : ∀ W : World, Calls Tryz.prog 88 #[capV a b c d e f g h, .int .i64 m] W fun r W' => r = .returned (.tuple #[capV a' b' c' d' e' f' g' h', .int .i64 0]) ∧ Below W.heap.size W W') (ha : a' = 2) (n0 : 0 ≤ n) (hn : n < 65536) (hk : capB a' b' c' d' (n % 4096) (n / 4096) g' h' = true) :
  Calls Tryz.prog 89 #[capV a b c d e f g h, .int .i64 m, .int .u64 n] W fun r W' => r = .returned (.tuple #[capV a' b' c' d' (n % 4096) (n / 4096) g' h', .int .i64 0]) ∧ Below W.heap.size W W' := by
 have H1 := hid h1
 clear h1
 subst ha
 have HK := hid hk
 clear hk
 go_enter Tryz.func89, Tryz.ntmps89
 go_wp2_with (first
  | (go_at_call 88; refine (H1.out _).mono ?_; rintro r w1 ⟨rfl, hb1⟩; obtain ⟨hc1, hf1⟩ := bcell hb1; have hz1 : W.heap.size + 1 < w1.heap.size := (by have := hb1.size; simp at this; omega); have hz0 : W.heap.size < w1.heap.size := (by omega))
  | (go_at_call 110; refine (refMay13 _ _ _ _ _ _ _ _ _).mono ?_; rw [HK.out]; rintro r w2 ⟨rfl, hb2⟩; obtain ⟨hc2, hf2⟩ := bcell hb2; have hy := hb2.size; simp at hy; have hz20 : W.heap.size < w2.heap.size := (by omega); have hz21 : W.heap.size + 1 < w2.heap.size := (by omega); have hz22 : w1.heap.size < w2.heap.size := (by omega); clear hy))
 all_goals exact bodyPost_ret (v := .tuple #[capV 2 b' c' d' (n % 4096) (n / 4096) g' h', .int .i64 0]) (by simp [results, Tryz.results89, go_sem, hc1, hz0, hz1, hc2, hz20, hz21, hz22]) rfl ⟨rfl, (by repeat (first | with_reducible exact Below.refl _ _ | with_reducible assumption | with_reducible refine below_drewN ?_ _ | with_reducible refine Below.drew ?_ | with_reducible refine bal ?_ _ | with_reducible refine bgo ?_ (by with_reducible assumption) | refine Below.setCell ?_ (by first | exact Nat.le_refl _ | (simp; done) | (simp; omega)) _))⟩
def mintX (x : CapX) (m n : Int) : CapX × Int :=
 if (copyX x m).2 ≠ 0 then (zX, (copyX x m).2)
 else if x.a = 8 then (if 16777215 < n then (zX, 3) else if (copyX x m).1.d ≠ 0 then (zX, 9) else (⟨(copyX x m).1.a, (copyX x m).1.b, (copyX x m).1.c, n, (copyX x m).1.e, (copyX x m).1.f, (copyX x m).1.g, (copyX x m).1.h⟩, 0))
 else if x.a = 2 then (if 65536 ≤ n then (zX, 3) else if capB (copyX x m).1.a (copyX x m).1.b (copyX x m).1.c (copyX x m).1.d (n % 4096) (n / 4096) (copyX x m).1.g (copyX x m).1.h = true then (⟨(copyX x m).1.a, (copyX x m).1.b, (copyX x m).1.c, (copyX x m).1.d, n % 4096, n / 4096, (copyX x m).1.g, (copyX x m).1.h⟩, 0) else (zX, 3))
 else if n ≠ 0 then (zX, 2) else ((copyX x m).1, 0)
theorem copy_kind {x : CapX} {m : Int} (h : (copyX x m).2 = 0) : (copyX x m).1.a = x.a := by
 rcases copyX_ways x m with ⟨_, h1⟩ | ⟨_, _, _, ⟨_, _, h1⟩ | ⟨_, h1⟩ | ⟨_, h1⟩⟩
 ·omega
 all_goals rw [h1]
theorem copy_zero {x : CapX} {m : Int} (h : (copyX x m).2 ≠ 0) : (copyX x m).1 = zX := by
 rcases copyX_ways x m with ⟨h0, h1⟩ | ⟨h0, _⟩
 ·exact h0
 ·exact absurd h0 h
theorem fits16 (n : Nat) : fitsB n 16 = decide (n < 65536) := by
 unfold fitsB
 rfl
theorem mintD (x : CapX) (m : Int) (n : Nat) (hn : n < 2 ^ 64) (he : x.e ≤ 9223372036854775807) : Gives 65 #[x.val, .int .i64 m, .int .u64 n] (.tuple #[(mintX x m n).1.val, .int .i64 (mintX x m n).2]) := by
 intro W hT
 have h1 := copyD x m he
 unfold mintX
 have hz : (copyX x m).2 ≠ 0 → (copyX x m).1 = zX := copy_zero
 generalize copyX x m = r at *
 obtain ⟨⟨a', b', c', d', e', f', g', h'⟩, k⟩ := r
 obtain ⟨a, b, c, d, e, f, g, h⟩ := x
 simp only at *
 by_cases hk : k = 0
 ·subst hk
  rw [if_neg (by simp)]
  by_cases h8 : a = 8
  ·rw [if_pos h8]
   by_cases hhi : (16777215 : Int) < n
   ·rw [if_pos hhi]
    exact mint_end a b c d e f g h a' b' c' d' e' f' g' h' m 3 n W hT h1 h8 zX (fun w _ => badged_hi _ _ _ _ _ _ _ _ _ w hhi)
   ·rw [if_neg hhi]
    by_cases hd : d' = 0
    ·subst hd
     rw [if_neg (by simp)]
     exact mint_end a b c d e f g h a' b' c' 0 e' f' g' h' m 0 n W hT h1 h8 ⟨a', b', c', n, e', f', g', h'⟩ (fun w _ => badged_yes _ _ _ _ _ _ _ _ w (by omega))
    ·rw [if_pos hd]
     exact mint_end a b c d e f g h a' b' c' d' e' f' g' h' m 9 n W hT h1 h8 zX (fun w _ => badged_had _ _ _ _ _ _ _ _ _ w (by omega) hd)
  ·rw [if_neg h8]
   by_cases h2 : a = 2
   ·rw [if_pos h2]
    by_cases hhi : (65536 : Int) ≤ n
    ·rw [if_pos hhi]
     exact mint_node a b c d e f g h a' b' c' d' e' f' g' h' m 3 n W hT h1 h2 zX (fun w hT => guarded_hi _ _ _ _ _ _ _ _ _ w hT hn (by rw [fits16]; exact decide_eq_false (by omega)))
    ·rw [if_neg hhi]
     cases hk : capB a' b' c' d' ((n : Int) % 4096) ((n : Int) / 4096) g' h'
     ·rw [if_neg (by simp)]
      exact mint_node a b c d e f g h a' b' c' d' e' f' g' h' m 3 n W hT h1 h2 zX (fun w hT => guarded_no _ _ _ _ _ _ _ _ n w hT (by omega) (by rw [fits16]; exact decide_eq_true (by omega)) hk)
     ·rw [if_pos rfl]
      exact mint_node a b c d e f g h a' b' c' d' e' f' g' h' m 0 n W hT h1 h2 ⟨a', b', c', d', (n : Int) % 4096, (n : Int) / 4096, g', h'⟩ (fun w hT => guarded_yes _ _ _ _ _ _ _ _ n w hT (by omega) (by rw [fits16]; exact decide_eq_true (by omega)) hk)
   ·rw [if_neg h2]
    by_cases h0 : (n : Int) = 0
    ·rw [if_neg (by simp [h0])]
     exact mint_same a b c d e f g h a' b' c' d' e' f' g' h' m 0 n W hT h1 ⟨h8, h2⟩ h0
    ·rw [if_pos h0]
     exact mint_no a b c d e f g h a' b' c' d' e' f' g' h' m 0 n W hT h1 ⟨h8, h2⟩ h0
 ·rw [if_pos hk]
  rw [hz hk] at h1
  exact mint_fail a b c d e f g h 0 0 0 0 0 0 0 0 m k n W hT h1 hk
theorem mintR14 (x : CapX) (m : Int) (n : Nat) (hn : n < 2 ^ 64) (W : World) : Calls Tryz.prog 89 #[x.val, .int .i64 m, .int .u64 n] W fun r W' => r = .returned (.tuple #[(mintX x m n).1.val, .int .i64 (mintX x m n).2]) ∧ Below W.heap.size W W' := by
 have h1 := copyR14 x m
 unfold mintX
 have hz : (copyX x m).2 ≠ 0 → (copyX x m).1 = zX := copy_zero
 have hw : (copyX x m).2 = 0 → (copyX x m).1.a = x.a := copy_kind
 generalize copyX x m = r at *
 obtain ⟨⟨a', b', c', d', e', f', g', h'⟩, k⟩ := r
 obtain ⟨a, b, c, d, e, f, g, h⟩ := x
 simp only at *
 by_cases hk : k = 0
 ·obtain rfl := hw hk
  subst hk
  rw [if_neg (by simp)]
  by_cases h8 : a' = 8
  ·rw [if_pos h8]
   by_cases hhi : (16777215 : Int) < n
   ·rw [if_pos hhi]
    exact rmint_hi a' b c d e f g h a' b' c' d' e' f' g' h' m 3 n W h1 h8 hhi
   ·rw [if_neg hhi]
    by_cases hd : d' = 0
    ·rw [if_neg (by simp [hd])]
     exact rmint_badge a' b c d e f g h a' b' c' d' e' f' g' h' m 0 n W h1 h8 (by omega) hd
    ·rw [if_pos hd]
     exact rmint_had a' b c d e f g h a' b' c' d' e' f' g' h' m 9 n W h1 h8 (by omega) hd
  ·rw [if_neg h8]
   by_cases h2 : a' = 2
   ·rw [if_pos h2]
    by_cases hhi : (65536 : Int) ≤ n
    ·rw [if_pos hhi]
     exact rmint_wide a' b c d e f g h a' b' c' d' e' f' g' h' m 3 n W h1 h2 hhi
    ·rw [if_neg hhi]
     cases hk : capB a' b' c' d' ((n : Int) % 4096) ((n : Int) / 4096) g' h'
     ·rw [if_neg (by simp)]
      exact rmint_node_no a' b c d e f g h a' b' c' d' e' f' g' h' m 0 n W h1 h2 (by omega) (by omega) hk
     ·rw [if_pos rfl]
      exact rmint_node_yes a' b c d e f g h a' b' c' d' e' f' g' h' m 0 n W h1 h2 (by omega) (by omega) hk
   ·rw [if_neg h2]
    by_cases h0 : (n : Int) = 0
    ·rw [if_neg (by simp [h0])]
     exact rmint_same a' b c d e f g h a' b' c' d' e' f' g' h' m 0 n W h1 ⟨h8, h2⟩ h0
    ·rw [if_pos h0]
     exact rmint_no a' b c d e f g h a' b' c' d' e' f' g' h' m 0 n W h1 ⟨h8, h2⟩ h0
 ·rw [if_pos hk]
  rw [hz hk] at h1
  exact rmint_fail a b c d e f g h 0 0 0 0 0 0 0 0 m k n W h1 hk
theorem mintW (x : CapX) (m : Int) (n : Nat) (hn : n < 2 ^ 64) {y : CapX} {k : Int} (h : mintX x m n = (y, k)) (he : x.e ≤ 9223372036854775807) : Gives 65 #[x.val, .int .i64 m, .int .u64 n] (.tuple #[y.val, .int .i64 k]) := by
 have := mintD x m n hn he
 rw [h] at this
 exact this
theorem mintW14 (x : CapX) (m : Int) (n : Nat) (hn : n < 2 ^ 64) {y : CapX} {k : Int} (h : mintX x m n = (y, k)) (W : World) : Calls Tryz.prog 89 #[x.val, .int .i64 m, .int .u64 n] W fun r W' => r = .returned (.tuple #[y.val, .int .i64 k]) ∧ Below W.heap.size W W' := by
 have := mintR14 x m n hn W
 rw [h] at this
 exact this
def Good (x y : CapX) : Prop := x.B = true ∧ y.B = true ∧ x.a ≠ 0 ∧ x.a = y.a ∧ x.b = y.b ∧ (0 ≤ x.c ∧ x.c ≤ 7) ∧ (0 ≤ y.c ∧ y.c ≤ 7) ∧ hasB x.c y.c = true ∧ y.g = 0 ∧ y.h = 0 ∧ (x.d = 0 ∨ y.d = x.d) ∧ y.e ≤ 9223372036854775807
theorem has_key : ∀ r : Nat, r < 8 → ∀ m : Nat, m < 8 → hasB r (maskN r m) = true ∧ 0 ≤ maskN r m ∧ maskN r m ≤ r := by decide +kernel
theorem mask_has {r m : Int} (h0 : 0 ≤ r) (h1 : r ≤ 7) (h2 : 0 ≤ m) (h3 : m ≤ 7) : hasB r (maskN r m) = true ∧ 0 ≤ maskN r m ∧ maskN r m ≤ r := by
 obtain ⟨a, rfl⟩ := Int.eq_ofNat_of_zero_le h0
 obtain ⟨b, rfl⟩ := Int.eq_ofNat_of_zero_le h2
 exact has_key a (by omega) b (by omega)
theorem has00 : hasB 0 0 = true := by decide +kernel
theorem good_copy {x y : CapX} {m : Int} (h : copyX x m = (y, 0)) (he : x.e ≤ 9223372036854775807) : Good x y := by
 have hw := copyX_ways x m
 rw [h] at hw
 obtain ⟨a, b, c, d, e, f, g, i⟩ := x
 rcases hw with ⟨_, h1⟩ | ⟨_, hB, hm, hk⟩
 ·simp only at h1; omega
 ·obtain ⟨m0, m1⟩ := mayB_of hm
  rcases hk with ⟨ha, hn, hy⟩ | ⟨ha, hy⟩ | ⟨ha, hy⟩
  ·simp only at ha hn hy
   subst hy
   subst ha
   have hB' := hB
   simp [CapX.B, capB, placeB] at hB
   obtain ⟨k1, k2, k3⟩ := mask_has (r := c) (m := m) (by omega) (by omega) m0 m1
   refine ⟨hB', ?_, by simp, rfl, rfl, by simp only; omega, by simp only; omega, k1, rfl, rfl, by simp only; omega, he⟩
   simp only [CapX.B, capB, placeB, hB.1.1.1]
   simp
   omega
  ·simp only at ha hy
   subst hy
   subst ha
   have hB' := hB
   simp [CapX.B, capB] at hB
   obtain ⟨c0, c1⟩ := mayB_of hB.1.1.2
   obtain ⟨k1, k2, k3⟩ := mask_has (r := c) (m := m) (by omega) (by omega) m0 m1
   refine ⟨hB', ?_, by simp, rfl, rfl, by simp only; omega, by simp only; omega, k1, by simp only; omega, by simp only; omega, by simp, he⟩
   simp only [CapX.B, capB, hB.1.1.1, mayB_mk k2 (show maskN c m ≤ 7 by omega)]
   simp
   omega
  ·simp only at ha hy
   subst hy
   have hB' := hB
   have hz : c = 0 ∧ g = 0 ∧ i = 0 := by
    simp only [CapX.B, capB] at hB
    rcases ha with rfl | rfl | rfl | rfl | rfl <;> simp at hB <;> omega
   obtain ⟨rfl, rfl, rfl⟩ := hz
   exact ⟨hB', hB', by simp only; omega, rfl, rfl, by simp, by simp, has00, rfl, rfl, by simp, he⟩
theorem good_mint {x y : CapX} {m : Int} {n : Nat} (h : mintX x m n = (y, 0)) (he : x.e ≤ 9223372036854775807) : Good x y := by
 unfold mintX at h
 obtain ⟨z, k, hz⟩ : ∃ z k, copyX x m = (z, k) := ⟨_, _, rfl⟩
 rw [hz] at h
 simp only at h
 by_cases hk : k = 0
 ·subst hk
  rw [if_neg (by simp)] at h
  have G := good_copy hz he
  obtain ⟨g1, g2, g3, g4, g5, g6, g7, g8, g9, g10, g11, g12⟩ := G
  obtain ⟨a, b, c, d, e, f, g, i⟩ := x
  obtain ⟨a', b', c', d', e', f', g', i'⟩ := z
  simp only at *
  subst g4
  split at h
  ·split at h
   ·simp at h
   ·split at h
    ·simp at h
    ·rename_i h8 hn hd
     simp only [Decidable.not_not] at hd
     subst hd
     subst h8
     obtain rfl := (Prod.mk.inj h).1.symm
     refine ⟨g1, ?_, g3, rfl, g5, g6, g7, g8, g9, g10, .inl (by simp only; omega), g12⟩
     simp [CapX.B, capB] at g2 ⊢
     exact ⟨⟨g2.1, by omega⟩, g2.2⟩
  ·split at h
   ·split at h
    ·simp at h
    ·split at h
     ·rename_i hc
      obtain rfl := (Prod.mk.inj h).1.symm
      exact ⟨g1, hc, g3, rfl, g5, g6, g7, g8, g9, g10, g11, by simp only; omega⟩
     ·simp at h
   ·split at h
    ·simp at h
    ·obtain rfl := (Prod.mk.inj h).1.symm
     exact ⟨g1, g2, g3, rfl, g5, g6, g7, g8, g9, g10, g11, g12⟩
 ·rw [if_pos hk] at h
  exact absurd (Prod.mk.inj h).2 hk
theorem mint_zero {x y : CapX} {m : Int} {n : Nat} {k : Int} (h : mintX x m n = (y, k)) : (0 ≤ k ∧ k ≤ 100) ∧ (k ≠ 0 → y = zX) := by
 unfold mintX at h
 obtain ⟨z, j, hz⟩ : ∃ z k, copyX x m = (z, k) := ⟨_, _, rfl⟩
 have hb := copy_bd hz
 rw [hz] at h
 simp only at h
 split at h
 ·obtain ⟨rfl, rfl⟩ := Prod.mk.inj h; exact ⟨hb, fun _ => rfl⟩
 ·repeat' (split at h)
  all_goals
   obtain ⟨rfl, rfl⟩ := Prod.mk.inj h
   first | exact ⟨by decide, fun _ => rfl⟩ | exact ⟨by decide, fun hh => absurd rfl hh⟩
end CX
end
end Go.Proofs.YtchjfeafkmpmbaaGreatDoor
