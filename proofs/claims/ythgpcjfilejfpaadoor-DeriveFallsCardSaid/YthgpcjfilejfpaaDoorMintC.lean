/- derive.Mint and chapter 14's own Mint, case by case. -/
import Derived.Test.YthgpcjfilejfpaaDoorDeriveL
namespace Go.Proofs.YthgpcjfilejfpaaDoor
set_option linter.unusedVariables false
set_option linter.unusedSimpArgs false
open Go.ChangeShapes Go.WideShapes Go.ChangeAt Go.RowKit

set_option maxRecDepth 100000 in
set_option maxHeartbeats 1000000 in
theorem mint_fail (a b c d e f g h a' b' c' d' e' f' g' h' m k n : Int) (W : World) (hT : TabG W) (h1 : Gives 25 #[capV a b c d e f g h, .int .i64 m] (.tuple #[zcap, .int .i64 k])) (hk : k ≠ 0) :
    Calls Tryd.prog 28 #[capV a b c d e f g h, .int .i64 m, .int .u64 n] W fun r W' => r = .returned (.tuple #[zcap, .int .i64 k]) ∧ Below W.heap.size W W' := by
  have H1 := Lib.hid h1
  clear h1
  have hk' : (k == 0) = false := beq_eq_false_iff_ne.2 hk
  have hk'' : (k != 0) = true := bne_iff_ne.2 hk
  clear hk
  go_enter Tryd.func28, Tryd.ntmps28
  go_wp2_with (first
    | (go_at_call 25; refine (H1.out _ (by exact hT.call (by repeat (first | with_reducible exact Below.refl _ _ | with_reducible assumption | with_reducible refine below_drewN ?_ _ | with_reducible refine Below.drew ?_ | with_reducible refine bal ?_ _ | with_reducible refine bgo ?_ (by with_reducible assumption) | refine Below.setCell ?_ (by first | exact Nat.le_refl _ | (simp; done) | (simp; omega)) _)))).mono ?_; rintro r w1 ⟨rfl, hb1⟩; obtain ⟨hc1, hf1⟩ := bcell hb1; have hz1 : W.heap.size + 1 < w1.heap.size := (by have := hb1.size; simp at this; omega); have hz0 : W.heap.size < w1.heap.size := (by omega)))
  all_goals exact bodyPost_ret (v := .tuple #[zcap, .int .i64 k]) (by simp [results, Tryd.results28, go_sem, hc1, hz0, hz1]) rfl ⟨rfl, (by repeat (first | with_reducible exact Below.refl _ _ | with_reducible assumption | with_reducible refine below_drewN ?_ _ | with_reducible refine Below.drew ?_ | with_reducible refine bal ?_ _ | with_reducible refine bgo ?_ (by with_reducible assumption) | refine Below.setCell ?_ (by first | exact Nat.le_refl _ | (simp; done) | (simp; omega)) _))⟩
set_option maxRecDepth 100000 in
set_option maxHeartbeats 1000000 in
theorem rmint_fail (a b c d e f g h a' b' c' d' e' f' g' h' m k n : Int) (W : World) (h1 : ∀ W : World, Calls Tryd.prog 26 #[capV a b c d e f g h, .int .i64 m] W fun r W' => r = .returned (.tuple #[zcap, .int .i64 k]) ∧ Below W.heap.size W W') (hk : k ≠ 0) :
    Calls Tryd.prog 29 #[capV a b c d e f g h, .int .i64 m, .int .u64 n] W fun r W' => r = .returned (.tuple #[zcap, .int .i64 k]) ∧ Below W.heap.size W W' := by
  have H1 := Lib.hid h1
  clear h1
  have hk' : (k == 0) = false := beq_eq_false_iff_ne.2 hk
  have hk'' : (k != 0) = true := bne_iff_ne.2 hk
  clear hk
  go_enter Tryd.func29, Tryd.ntmps29
  go_wp2_with (first
    | (go_at_call 26; refine (H1.out _).mono ?_; rintro r w1 ⟨rfl, hb1⟩; obtain ⟨hc1, hf1⟩ := bcell hb1; have hz1 : W.heap.size + 1 < w1.heap.size := (by have := hb1.size; simp at this; omega); have hz0 : W.heap.size < w1.heap.size := (by omega)))
  all_goals exact bodyPost_ret (v := .tuple #[zcap, .int .i64 k]) (by simp [results, Tryd.results29, go_sem, hc1, hz0, hz1]) rfl ⟨rfl, (by repeat (first | with_reducible exact Below.refl _ _ | with_reducible assumption | with_reducible refine below_drewN ?_ _ | with_reducible refine Below.drew ?_ | with_reducible refine bal ?_ _ | with_reducible refine bgo ?_ (by with_reducible assumption) | refine Below.setCell ?_ (by first | exact Nat.le_refl _ | (simp; done) | (simp; omega)) _))⟩
set_option maxRecDepth 100000 in
set_option maxHeartbeats 1000000 in
theorem mint_no (a b c d e f g h a' b' c' d' e' f' g' h' m k n : Int) (W : World) (hT : TabG W) (h1 : Gives 25 #[capV a b c d e f g h, .int .i64 m] (.tuple #[capV a' b' c' d' e' f' g' h', .int .i64 0])) (ha : a ≠ 8 ∧ a ≠ 2) (hn : n ≠ 0) :
    Calls Tryd.prog 28 #[capV a b c d e f g h, .int .i64 m, .int .u64 n] W fun r W' => r = .returned (.tuple #[zcap, .int .i64 2]) ∧ Below W.heap.size W W' := by
  have H1 := Lib.hid h1
  clear h1
  have a8 : (a == 8) = false := beq_eq_false_iff_ne.2 (by omega)
  have a2 : (a == 2) = false := beq_eq_false_iff_ne.2 (by omega)
  have n0 : (n == 0) = false := beq_eq_false_iff_ne.2 hn
  have n1 : (n != 0) = true := bne_iff_ne.2 hn
  clear hn
  go_enter Tryd.func28, Tryd.ntmps28
  go_wp2_with (first
    | (go_at_call 25; refine (H1.out _ (by exact hT.call (by repeat (first | with_reducible exact Below.refl _ _ | with_reducible assumption | with_reducible refine below_drewN ?_ _ | with_reducible refine Below.drew ?_ | with_reducible refine bal ?_ _ | with_reducible refine bgo ?_ (by with_reducible assumption) | refine Below.setCell ?_ (by first | exact Nat.le_refl _ | (simp; done) | (simp; omega)) _)))).mono ?_; rintro r w1 ⟨rfl, hb1⟩; obtain ⟨hc1, hf1⟩ := bcell hb1; have hz1 : W.heap.size + 1 < w1.heap.size := (by have := hb1.size; simp at this; omega); have hz0 : W.heap.size < w1.heap.size := (by omega)))
  all_goals exact bodyPost_ret (v := .tuple #[zcap, .int .i64 2]) (by simp [results, Tryd.results28, go_sem, hc1, hz0, hz1]) rfl ⟨rfl, (by repeat (first | with_reducible exact Below.refl _ _ | with_reducible assumption | with_reducible refine below_drewN ?_ _ | with_reducible refine Below.drew ?_ | with_reducible refine bal ?_ _ | with_reducible refine bgo ?_ (by with_reducible assumption) | refine Below.setCell ?_ (by first | exact Nat.le_refl _ | (simp; done) | (simp; omega)) _))⟩
set_option maxRecDepth 100000 in
set_option maxHeartbeats 1000000 in
theorem mint_same (a b c d e f g h a' b' c' d' e' f' g' h' m k n : Int) (W : World) (hT : TabG W) (h1 : Gives 25 #[capV a b c d e f g h, .int .i64 m] (.tuple #[capV a' b' c' d' e' f' g' h', .int .i64 0])) (ha : a ≠ 8 ∧ a ≠ 2) (hn : n = 0) :
    Calls Tryd.prog 28 #[capV a b c d e f g h, .int .i64 m, .int .u64 n] W fun r W' => r = .returned (.tuple #[capV a' b' c' d' e' f' g' h', .int .i64 0]) ∧ Below W.heap.size W W' := by
  have H1 := Lib.hid h1
  clear h1
  have a8 : (a == 8) = false := beq_eq_false_iff_ne.2 (by omega)
  have a2 : (a == 2) = false := beq_eq_false_iff_ne.2 (by omega)
  subst hn
  go_enter Tryd.func28, Tryd.ntmps28
  go_wp2_with (first
    | (go_at_call 25; refine (H1.out _ (by exact hT.call (by repeat (first | with_reducible exact Below.refl _ _ | with_reducible assumption | with_reducible refine below_drewN ?_ _ | with_reducible refine Below.drew ?_ | with_reducible refine bal ?_ _ | with_reducible refine bgo ?_ (by with_reducible assumption) | refine Below.setCell ?_ (by first | exact Nat.le_refl _ | (simp; done) | (simp; omega)) _)))).mono ?_; rintro r w1 ⟨rfl, hb1⟩; obtain ⟨hc1, hf1⟩ := bcell hb1; have hz1 : W.heap.size + 1 < w1.heap.size := (by have := hb1.size; simp at this; omega); have hz0 : W.heap.size < w1.heap.size := (by omega)))
  all_goals exact bodyPost_ret (v := .tuple #[capV a' b' c' d' e' f' g' h', .int .i64 0]) (by simp [results, Tryd.results28, go_sem, hc1, hz0, hz1]) rfl ⟨rfl, (by repeat (first | with_reducible exact Below.refl _ _ | with_reducible assumption | with_reducible refine below_drewN ?_ _ | with_reducible refine Below.drew ?_ | with_reducible refine bal ?_ _ | with_reducible refine bgo ?_ (by with_reducible assumption) | refine Below.setCell ?_ (by first | exact Nat.le_refl _ | (simp; done) | (simp; omega)) _))⟩
set_option maxRecDepth 100000 in
set_option maxHeartbeats 1000000 in
theorem rmint_no (a b c d e f g h a' b' c' d' e' f' g' h' m k n : Int) (W : World) (h1 : ∀ W : World, Calls Tryd.prog 26 #[capV a b c d e f g h, .int .i64 m] W fun r W' => r = .returned (.tuple #[capV a' b' c' d' e' f' g' h', .int .i64 0]) ∧ Below W.heap.size W W') (ha : a' ≠ 8 ∧ a' ≠ 2) (hn : n ≠ 0) :
    Calls Tryd.prog 29 #[capV a b c d e f g h, .int .i64 m, .int .u64 n] W fun r W' => r = .returned (.tuple #[zcap, .int .i64 2]) ∧ Below W.heap.size W W' := by
  have H1 := Lib.hid h1
  clear h1
  have a8 : (a' == 8) = false := beq_eq_false_iff_ne.2 (by omega)
  have a2 : (a' == 2) = false := beq_eq_false_iff_ne.2 (by omega)
  have n0 : (n == 0) = false := beq_eq_false_iff_ne.2 hn
  have n1 : (n != 0) = true := bne_iff_ne.2 hn
  clear hn
  go_enter Tryd.func29, Tryd.ntmps29
  go_wp2_with (first
    | (go_at_call 26; refine (H1.out _).mono ?_; rintro r w1 ⟨rfl, hb1⟩; obtain ⟨hc1, hf1⟩ := bcell hb1; have hz1 : W.heap.size + 1 < w1.heap.size := (by have := hb1.size; simp at this; omega); have hz0 : W.heap.size < w1.heap.size := (by omega)))
  all_goals exact bodyPost_ret (v := .tuple #[zcap, .int .i64 2]) (by simp [results, Tryd.results29, go_sem, hc1, hz0, hz1]) rfl ⟨rfl, (by repeat (first | with_reducible exact Below.refl _ _ | with_reducible assumption | with_reducible refine below_drewN ?_ _ | with_reducible refine Below.drew ?_ | with_reducible refine bal ?_ _ | with_reducible refine bgo ?_ (by with_reducible assumption) | refine Below.setCell ?_ (by first | exact Nat.le_refl _ | (simp; done) | (simp; omega)) _))⟩
set_option maxRecDepth 100000 in
set_option maxHeartbeats 1000000 in
theorem rmint_same (a b c d e f g h a' b' c' d' e' f' g' h' m k n : Int) (W : World) (h1 : ∀ W : World, Calls Tryd.prog 26 #[capV a b c d e f g h, .int .i64 m] W fun r W' => r = .returned (.tuple #[capV a' b' c' d' e' f' g' h', .int .i64 0]) ∧ Below W.heap.size W W') (ha : a' ≠ 8 ∧ a' ≠ 2) (hn : n = 0) :
    Calls Tryd.prog 29 #[capV a b c d e f g h, .int .i64 m, .int .u64 n] W fun r W' => r = .returned (.tuple #[capV a' b' c' d' e' f' g' h', .int .i64 0]) ∧ Below W.heap.size W W' := by
  have H1 := Lib.hid h1
  clear h1
  have a8 : (a' == 8) = false := beq_eq_false_iff_ne.2 (by omega)
  have a2 : (a' == 2) = false := beq_eq_false_iff_ne.2 (by omega)
  subst hn
  go_enter Tryd.func29, Tryd.ntmps29
  go_wp2_with (first
    | (go_at_call 26; refine (H1.out _).mono ?_; rintro r w1 ⟨rfl, hb1⟩; obtain ⟨hc1, hf1⟩ := bcell hb1; have hz1 : W.heap.size + 1 < w1.heap.size := (by have := hb1.size; simp at this; omega); have hz0 : W.heap.size < w1.heap.size := (by omega)))
  all_goals exact bodyPost_ret (v := .tuple #[capV a' b' c' d' e' f' g' h', .int .i64 0]) (by simp [results, Tryd.results29, go_sem, hc1, hz0, hz1]) rfl ⟨rfl, (by repeat (first | with_reducible exact Below.refl _ _ | with_reducible assumption | with_reducible refine below_drewN ?_ _ | with_reducible refine Below.drew ?_ | with_reducible refine bal ?_ _ | with_reducible refine bgo ?_ (by with_reducible assumption) | refine Below.setCell ?_ (by first | exact Nat.le_refl _ | (simp; done) | (simp; omega)) _))⟩
set_option maxRecDepth 100000 in
set_option maxHeartbeats 1000000 in
theorem mint_end (a b c d e f g h a' b' c' d' e' f' g' h' m k n : Int) (W : World) (hT : TabG W) (h1 : Gives 25 #[capV a b c d e f g h, .int .i64 m] (.tuple #[capV a' b' c' d' e' f' g' h', .int .i64 0])) (ha : a = 8) (z : CapX) (h2 : Gives 45 #[capV a' b' c' d' e' f' g' h', .int .u64 n] (.tuple #[capV z.a z.b z.c z.d z.e z.f z.g z.h, .int .i64 k])) :
    Calls Tryd.prog 28 #[capV a b c d e f g h, .int .i64 m, .int .u64 n] W fun r W' => r = .returned (.tuple #[capV z.a z.b z.c z.d z.e z.f z.g z.h, .int .i64 k]) ∧ Below W.heap.size W W' := by
  obtain ⟨z1, z2, z3, z4, z5, z6, z7, z8⟩ := z
  have H1 := Lib.hid h1
  clear h1
  subst ha
  have H2 := Lib.hid h2
  clear h2
  go_enter Tryd.func28, Tryd.ntmps28
  go_wp2_with (first
    | (go_at_call 25; refine (H1.out _ (by exact hT.call (by repeat (first | with_reducible exact Below.refl _ _ | with_reducible assumption | with_reducible refine below_drewN ?_ _ | with_reducible refine Below.drew ?_ | with_reducible refine bal ?_ _ | with_reducible refine bgo ?_ (by with_reducible assumption) | refine Below.setCell ?_ (by first | exact Nat.le_refl _ | (simp; done) | (simp; omega)) _)))).mono ?_; rintro r w1 ⟨rfl, hb1⟩; obtain ⟨hc1, hf1⟩ := bcell hb1; have hz1 : W.heap.size + 1 < w1.heap.size := (by have := hb1.size; simp at this; omega); have hz0 : W.heap.size < w1.heap.size := (by omega))
    | (go_at_call 45; refine (H2.out _ (by exact hT.call (by repeat (first | with_reducible exact Below.refl _ _ | with_reducible assumption | with_reducible refine below_drewN ?_ _ | with_reducible refine Below.drew ?_ | with_reducible refine bal ?_ _ | with_reducible refine bgo ?_ (by with_reducible assumption) | refine Below.setCell ?_ (by first | exact Nat.le_refl _ | (simp; done) | (simp; omega)) _)))).mono ?_; rintro r w2 ⟨rfl, hb2⟩; obtain ⟨hc2, hf2⟩ := bcell hb2; have hy := hb2.size; simp at hy; have hz20 : W.heap.size < w2.heap.size := (by omega); have hz21 : W.heap.size + 1 < w2.heap.size := (by omega); clear hy))
  all_goals exact bodyPost_ret (v := .tuple #[capV z1 z2 z3 z4 z5 z6 z7 z8, .int .i64 k]) (by simp [results, Tryd.results28, go_sem, hc1, hz0, hz1, hc2, hz20, hz21]) rfl ⟨rfl, (by repeat (first | with_reducible exact Below.refl _ _ | with_reducible assumption | with_reducible refine below_drewN ?_ _ | with_reducible refine Below.drew ?_ | with_reducible refine bal ?_ _ | with_reducible refine bgo ?_ (by with_reducible assumption) | refine Below.setCell ?_ (by first | exact Nat.le_refl _ | (simp; done) | (simp; omega)) _))⟩
set_option maxRecDepth 100000 in
set_option maxHeartbeats 1000000 in
theorem mint_node (a b c d e f g h a' b' c' d' e' f' g' h' m k n : Int) (W : World) (hT : TabG W) (h1 : Gives 25 #[capV a b c d e f g h, .int .i64 m] (.tuple #[capV a' b' c' d' e' f' g' h', .int .i64 0])) (ha : a = 2) (z : CapX) (h2 : Gives 46 #[capV a' b' c' d' e' f' g' h', .int .u64 n] (.tuple #[capV z.a z.b z.c z.d z.e z.f z.g z.h, .int .i64 k])) :
    Calls Tryd.prog 28 #[capV a b c d e f g h, .int .i64 m, .int .u64 n] W fun r W' => r = .returned (.tuple #[capV z.a z.b z.c z.d z.e z.f z.g z.h, .int .i64 k]) ∧ Below W.heap.size W W' := by
  obtain ⟨z1, z2, z3, z4, z5, z6, z7, z8⟩ := z
  have H1 := Lib.hid h1
  clear h1
  subst ha
  have H2 := Lib.hid h2
  clear h2
  go_enter Tryd.func28, Tryd.ntmps28
  go_wp2_with (first
    | (go_at_call 25; refine (H1.out _ (by exact hT.call (by repeat (first | with_reducible exact Below.refl _ _ | with_reducible assumption | with_reducible refine below_drewN ?_ _ | with_reducible refine Below.drew ?_ | with_reducible refine bal ?_ _ | with_reducible refine bgo ?_ (by with_reducible assumption) | refine Below.setCell ?_ (by first | exact Nat.le_refl _ | (simp; done) | (simp; omega)) _)))).mono ?_; rintro r w1 ⟨rfl, hb1⟩; obtain ⟨hc1, hf1⟩ := bcell hb1; have hz1 : W.heap.size + 1 < w1.heap.size := (by have := hb1.size; simp at this; omega); have hz0 : W.heap.size < w1.heap.size := (by omega))
    | (go_at_call 46; refine (H2.out _ (by exact hT.call (by repeat (first | with_reducible exact Below.refl _ _ | with_reducible assumption | with_reducible refine below_drewN ?_ _ | with_reducible refine Below.drew ?_ | with_reducible refine bal ?_ _ | with_reducible refine bgo ?_ (by with_reducible assumption) | refine Below.setCell ?_ (by first | exact Nat.le_refl _ | (simp; done) | (simp; omega)) _)))).mono ?_; rintro r w2 ⟨rfl, hb2⟩; obtain ⟨hc2, hf2⟩ := bcell hb2; have hy := hb2.size; simp at hy; have hz20 : W.heap.size < w2.heap.size := (by omega); have hz21 : W.heap.size + 1 < w2.heap.size := (by omega); clear hy))
  all_goals exact bodyPost_ret (v := .tuple #[capV z1 z2 z3 z4 z5 z6 z7 z8, .int .i64 k]) (by simp [results, Tryd.results28, go_sem, hc1, hz0, hz1, hc2, hz20, hz21]) rfl ⟨rfl, (by repeat (first | with_reducible exact Below.refl _ _ | with_reducible assumption | with_reducible refine below_drewN ?_ _ | with_reducible refine Below.drew ?_ | with_reducible refine bal ?_ _ | with_reducible refine bgo ?_ (by with_reducible assumption) | refine Below.setCell ?_ (by first | exact Nat.le_refl _ | (simp; done) | (simp; omega)) _))⟩
set_option maxRecDepth 100000 in
set_option maxHeartbeats 1000000 in
theorem rmint_hi (a b c d e f g h a' b' c' d' e' f' g' h' m k n : Int) (W : World) (h1 : ∀ W : World, Calls Tryd.prog 26 #[capV a b c d e f g h, .int .i64 m] W fun r W' => r = .returned (.tuple #[capV a' b' c' d' e' f' g' h', .int .i64 0]) ∧ Below W.heap.size W W') (ha : a' = 8) (hn : 16777215 < n) :
    Calls Tryd.prog 29 #[capV a b c d e f g h, .int .i64 m, .int .u64 n] W fun r W' => r = .returned (.tuple #[zcap, .int .i64 3]) ∧ Below W.heap.size W W' := by
  have H1 := Lib.hid h1
  clear h1
  subst ha
  go_enter Tryd.func29, Tryd.ntmps29
  go_wp2_with (first
    | (go_at_call 26; refine (H1.out _).mono ?_; rintro r w1 ⟨rfl, hb1⟩; obtain ⟨hc1, hf1⟩ := bcell hb1; have hz1 : W.heap.size + 1 < w1.heap.size := (by have := hb1.size; simp at this; omega); have hz0 : W.heap.size < w1.heap.size := (by omega)))
  all_goals exact bodyPost_ret (v := .tuple #[zcap, .int .i64 3]) (by simp [results, Tryd.results29, go_sem, hc1, hz0, hz1]) rfl ⟨rfl, (by repeat (first | with_reducible exact Below.refl _ _ | with_reducible assumption | with_reducible refine below_drewN ?_ _ | with_reducible refine Below.drew ?_ | with_reducible refine bal ?_ _ | with_reducible refine bgo ?_ (by with_reducible assumption) | refine Below.setCell ?_ (by first | exact Nat.le_refl _ | (simp; done) | (simp; omega)) _))⟩
set_option maxRecDepth 100000 in
set_option maxHeartbeats 1000000 in
theorem rmint_had (a b c d e f g h a' b' c' d' e' f' g' h' m k n : Int) (W : World) (h1 : ∀ W : World, Calls Tryd.prog 26 #[capV a b c d e f g h, .int .i64 m] W fun r W' => r = .returned (.tuple #[capV a' b' c' d' e' f' g' h', .int .i64 0]) ∧ Below W.heap.size W W') (ha : a' = 8) (hn : n ≤ 16777215) (hd : d' ≠ 0) :
    Calls Tryd.prog 29 #[capV a b c d e f g h, .int .i64 m, .int .u64 n] W fun r W' => r = .returned (.tuple #[zcap, .int .i64 9]) ∧ Below W.heap.size W W' := by
  have H1 := Lib.hid h1
  clear h1
  subst ha
  have d0 : (d' == 0) = false := beq_eq_false_iff_ne.2 hd
  have d1 : (d' != 0) = true := bne_iff_ne.2 hd
  clear hd
  go_enter Tryd.func29, Tryd.ntmps29
  go_wp2_with (first
    | (go_at_call 26; refine (H1.out _).mono ?_; rintro r w1 ⟨rfl, hb1⟩; obtain ⟨hc1, hf1⟩ := bcell hb1; have hz1 : W.heap.size + 1 < w1.heap.size := (by have := hb1.size; simp at this; omega); have hz0 : W.heap.size < w1.heap.size := (by omega)))
  all_goals exact bodyPost_ret (v := .tuple #[zcap, .int .i64 9]) (by simp [results, Tryd.results29, go_sem, hc1, hz0, hz1]) rfl ⟨rfl, (by repeat (first | with_reducible exact Below.refl _ _ | with_reducible assumption | with_reducible refine below_drewN ?_ _ | with_reducible refine Below.drew ?_ | with_reducible refine bal ?_ _ | with_reducible refine bgo ?_ (by with_reducible assumption) | refine Below.setCell ?_ (by first | exact Nat.le_refl _ | (simp; done) | (simp; omega)) _))⟩
set_option maxRecDepth 100000 in
set_option maxHeartbeats 1000000 in
theorem rmint_badge (a b c d e f g h a' b' c' d' e' f' g' h' m k n : Int) (W : World) (h1 : ∀ W : World, Calls Tryd.prog 26 #[capV a b c d e f g h, .int .i64 m] W fun r W' => r = .returned (.tuple #[capV a' b' c' d' e' f' g' h', .int .i64 0]) ∧ Below W.heap.size W W') (ha : a' = 8) (hn : n ≤ 16777215) (hd : d' = 0) :
    Calls Tryd.prog 29 #[capV a b c d e f g h, .int .i64 m, .int .u64 n] W fun r W' => r = .returned (.tuple #[capV a' b' c' n e' f' g' h', .int .i64 0]) ∧ Below W.heap.size W W' := by
  have H1 := Lib.hid h1
  clear h1
  subst ha
  subst hd
  go_enter Tryd.func29, Tryd.ntmps29
  go_wp2_with (first
    | (go_at_call 26; refine (H1.out _).mono ?_; rintro r w1 ⟨rfl, hb1⟩; obtain ⟨hc1, hf1⟩ := bcell hb1; have hz1 : W.heap.size + 1 < w1.heap.size := (by have := hb1.size; simp at this; omega); have hz0 : W.heap.size < w1.heap.size := (by omega)))
  all_goals exact bodyPost_ret (v := .tuple #[capV 8 b' c' n e' f' g' h', .int .i64 0]) (by simp [results, Tryd.results29, go_sem, hc1, hz0, hz1]) rfl ⟨rfl, (by repeat (first | with_reducible exact Below.refl _ _ | with_reducible assumption | with_reducible refine below_drewN ?_ _ | with_reducible refine Below.drew ?_ | with_reducible refine bal ?_ _ | with_reducible refine bgo ?_ (by with_reducible assumption) | refine Below.setCell ?_ (by first | exact Nat.le_refl _ | (simp; done) | (simp; omega)) _))⟩
set_option maxRecDepth 100000 in
set_option maxHeartbeats 1000000 in
theorem rmint_wide (a b c d e f g h a' b' c' d' e' f' g' h' m k n : Int) (W : World) (h1 : ∀ W : World, Calls Tryd.prog 26 #[capV a b c d e f g h, .int .i64 m] W fun r W' => r = .returned (.tuple #[capV a' b' c' d' e' f' g' h', .int .i64 0]) ∧ Below W.heap.size W W') (ha : a' = 2) (hn : 65536 ≤ n) :
    Calls Tryd.prog 29 #[capV a b c d e f g h, .int .i64 m, .int .u64 n] W fun r W' => r = .returned (.tuple #[zcap, .int .i64 3]) ∧ Below W.heap.size W W' := by
  have H1 := Lib.hid h1
  clear h1
  subst ha
  go_enter Tryd.func29, Tryd.ntmps29
  go_wp2_with (first
    | (go_at_call 26; refine (H1.out _).mono ?_; rintro r w1 ⟨rfl, hb1⟩; obtain ⟨hc1, hf1⟩ := bcell hb1; have hz1 : W.heap.size + 1 < w1.heap.size := (by have := hb1.size; simp at this; omega); have hz0 : W.heap.size < w1.heap.size := (by omega)))
  all_goals exact bodyPost_ret (v := .tuple #[zcap, .int .i64 3]) (by simp [results, Tryd.results29, go_sem, hc1, hz0, hz1]) rfl ⟨rfl, (by repeat (first | with_reducible exact Below.refl _ _ | with_reducible assumption | with_reducible refine below_drewN ?_ _ | with_reducible refine Below.drew ?_ | with_reducible refine bal ?_ _ | with_reducible refine bgo ?_ (by with_reducible assumption) | refine Below.setCell ?_ (by first | exact Nat.le_refl _ | (simp; done) | (simp; omega)) _))⟩
end Go.Proofs.YthgpcjfilejfpaaDoor
