/- Chapter 14's own Mint at nodes; Mint as a function. -/
import Derived.Test.YthgpcjfilejfpaaDoorMintC
namespace Go.Proofs.YthgpcjfilejfpaaDoor
set_option linter.unusedVariables false
set_option linter.unusedSimpArgs false
open Go.ChangeShapes Go.WideShapes Go.ChangeAt Go.RowKit

set_option maxRecDepth 100000 in
set_option maxHeartbeats 1000000 in
theorem rmint_node_no (a b c d e f g h a' b' c' d' e' f' g' h' m k n : Int) (W : World) (h1 : ∀ W : World, Calls Tryd.prog 26 #[capV a b c d e f g h, .int .i64 m] W fun r W' => r = .returned (.tuple #[capV a' b' c' d' e' f' g' h', .int .i64 0]) ∧ Below W.heap.size W W') (ha : a' = 2) (n0 : 0 ≤ n) (hn : n < 65536) (hk : capB a' b' c' d' (n % 4096) (n / 4096) g' h' = false) :
    Calls Tryd.prog 29 #[capV a b c d e f g h, .int .i64 m, .int .u64 n] W fun r W' => r = .returned (.tuple #[zcap, .int .i64 3]) ∧ Below W.heap.size W W' := by
  have H1 := Lib.hid h1
  clear h1
  subst ha
  have HK := Lib.hid hk
  clear hk
  go_enter Tryd.func29, Tryd.ntmps29
  go_wp2_with (first
    | (go_at_call 26; refine (H1.out _).mono ?_; rintro r w1 ⟨rfl, hb1⟩; obtain ⟨hc1, hf1⟩ := bcell hb1; have hz1 : W.heap.size + 1 < w1.heap.size := (by have := hb1.size; simp at this; omega); have hz0 : W.heap.size < w1.heap.size := (by omega))
    | (go_at_call 16; refine (refMay13 _ _ _ _ _ _ _ _ _).mono ?_; rw [HK.out]; rintro r w2 ⟨rfl, hb2⟩; obtain ⟨hc2, hf2⟩ := bcell hb2; have hy := hb2.size; simp at hy; have hz20 : W.heap.size < w2.heap.size := (by omega); have hz21 : W.heap.size + 1 < w2.heap.size := (by omega); have hz22 : w1.heap.size < w2.heap.size := (by omega); clear hy))
  all_goals exact bodyPost_ret (v := .tuple #[zcap, .int .i64 3]) (by simp [results, Tryd.results29, go_sem, hc1, hz0, hz1, hc2, hz20, hz21, hz22]) rfl ⟨rfl, (by repeat (first | with_reducible exact Below.refl _ _ | with_reducible assumption | with_reducible refine below_drewN ?_ _ | with_reducible refine Below.drew ?_ | with_reducible refine bal ?_ _ | with_reducible refine bgo ?_ (by with_reducible assumption) | refine Below.setCell ?_ (by first | exact Nat.le_refl _ | (simp; done) | (simp; omega)) _))⟩
set_option maxRecDepth 100000 in
set_option maxHeartbeats 1000000 in
theorem rmint_node_yes (a b c d e f g h a' b' c' d' e' f' g' h' m k n : Int) (W : World) (h1 : ∀ W : World, Calls Tryd.prog 26 #[capV a b c d e f g h, .int .i64 m] W fun r W' => r = .returned (.tuple #[capV a' b' c' d' e' f' g' h', .int .i64 0]) ∧ Below W.heap.size W W') (ha : a' = 2) (n0 : 0 ≤ n) (hn : n < 65536) (hk : capB a' b' c' d' (n % 4096) (n / 4096) g' h' = true) :
    Calls Tryd.prog 29 #[capV a b c d e f g h, .int .i64 m, .int .u64 n] W fun r W' => r = .returned (.tuple #[capV a' b' c' d' (n % 4096) (n / 4096) g' h', .int .i64 0]) ∧ Below W.heap.size W W' := by
  have H1 := Lib.hid h1
  clear h1
  subst ha
  have HK := Lib.hid hk
  clear hk
  go_enter Tryd.func29, Tryd.ntmps29
  go_wp2_with (first
    | (go_at_call 26; refine (H1.out _).mono ?_; rintro r w1 ⟨rfl, hb1⟩; obtain ⟨hc1, hf1⟩ := bcell hb1; have hz1 : W.heap.size + 1 < w1.heap.size := (by have := hb1.size; simp at this; omega); have hz0 : W.heap.size < w1.heap.size := (by omega))
    | (go_at_call 16; refine (refMay13 _ _ _ _ _ _ _ _ _).mono ?_; rw [HK.out]; rintro r w2 ⟨rfl, hb2⟩; obtain ⟨hc2, hf2⟩ := bcell hb2; have hy := hb2.size; simp at hy; have hz20 : W.heap.size < w2.heap.size := (by omega); have hz21 : W.heap.size + 1 < w2.heap.size := (by omega); have hz22 : w1.heap.size < w2.heap.size := (by omega); clear hy))
  all_goals exact bodyPost_ret (v := .tuple #[capV 2 b' c' d' (n % 4096) (n / 4096) g' h', .int .i64 0]) (by simp [results, Tryd.results29, go_sem, hc1, hz0, hz1, hc2, hz20, hz21, hz22]) rfl ⟨rfl, (by repeat (first | with_reducible exact Below.refl _ _ | with_reducible assumption | with_reducible refine below_drewN ?_ _ | with_reducible refine Below.drew ?_ | with_reducible refine bal ?_ _ | with_reducible refine bgo ?_ (by with_reducible assumption) | refine Below.setCell ?_ (by first | exact Nat.le_refl _ | (simp; done) | (simp; omega)) _))⟩

def mintX (x : CapX) (m n : Int) : CapX × Int :=
  if (copyX x m).2 ≠ 0 then (zX, (copyX x m).2)
  else if x.a = 8 then (if 16777215 < n then (zX, 3) else if (copyX x m).1.d ≠ 0 then (zX, 9) else (⟨(copyX x m).1.a, (copyX x m).1.b, (copyX x m).1.c, n, (copyX x m).1.e, (copyX x m).1.f, (copyX x m).1.g, (copyX x m).1.h⟩, 0))
  else if x.a = 2 then (if 65536 ≤ n then (zX, 3) else if capB (copyX x m).1.a (copyX x m).1.b (copyX x m).1.c (copyX x m).1.d (n % 4096) (n / 4096) (copyX x m).1.g (copyX x m).1.h = true then (⟨(copyX x m).1.a, (copyX x m).1.b, (copyX x m).1.c, (copyX x m).1.d, n % 4096, n / 4096, (copyX x m).1.g, (copyX x m).1.h⟩, 0) else (zX, 3))
  else if n ≠ 0 then (zX, 2) else ((copyX x m).1, 0)
theorem copy_kind {x : CapX} {m : Int} (h : (copyX x m).2 = 0) : (copyX x m).1.a = x.a := by
  rcases copyX_ways x m with ⟨_, h1⟩ | ⟨_, _, _, ⟨_, _, h1⟩ | ⟨_, h1⟩ | ⟨_, h1⟩⟩
  · omega
  all_goals rw [h1]
theorem copy_zero {x : CapX} {m : Int} (h : (copyX x m).2 ≠ 0) : (copyX x m).1 = zX := by
  rcases copyX_ways x m with ⟨h0, h1⟩ | ⟨h0, _⟩
  · exact h0
  · exact absurd h0 h
theorem fits16 (n : Nat) : fitsB n 16 = decide (n < 65536) := by
  unfold fitsB
  rfl
theorem mintD (x : CapX) (m : Int) (n : Nat) (hn : n < 2 ^ 64) (he : x.e ≤ 9223372036854775807) : Gives 28 #[x.val, .int .i64 m, .int .u64 n] (.tuple #[(mintX x m n).1.val, .int .i64 (mintX x m n).2]) := by
  intro W hT
  have h1 := copyD x m he
  unfold mintX
  have hz : (copyX x m).2 ≠ 0 → (copyX x m).1 = zX := copy_zero
  generalize copyX x m = r at *
  obtain ⟨⟨a', b', c', d', e', f', g', h'⟩, k⟩ := r
  obtain ⟨a, b, c, d, e, f, g, h⟩ := x
  simp only at *
  by_cases hk : k = 0
  · subst hk
    rw [if_neg (by simp)]
    by_cases h8 : a = 8
    · rw [if_pos h8]
      by_cases hhi : (16777215 : Int) < n
      · rw [if_pos hhi]
        exact mint_end a b c d e f g h a' b' c' d' e' f' g' h' m 3 n W hT h1 h8 zX (fun w _ => badged_hi _ _ _ _ _ _ _ _ _ w hhi)
      · rw [if_neg hhi]
        by_cases hd : d' = 0
        · subst hd
          rw [if_neg (by simp)]
          exact mint_end a b c d e f g h a' b' c' 0 e' f' g' h' m 0 n W hT h1 h8 ⟨a', b', c', n, e', f', g', h'⟩ (fun w _ => badged_yes _ _ _ _ _ _ _ _ w (by omega))
        · rw [if_pos hd]
          exact mint_end a b c d e f g h a' b' c' d' e' f' g' h' m 9 n W hT h1 h8 zX (fun w _ => badged_had _ _ _ _ _ _ _ _ _ w (by omega) hd)
    · rw [if_neg h8]
      by_cases h2 : a = 2
      · rw [if_pos h2]
        by_cases hhi : (65536 : Int) ≤ n
        · rw [if_pos hhi]
          exact mint_node a b c d e f g h a' b' c' d' e' f' g' h' m 3 n W hT h1 h2 zX (fun w hT => guarded_hi _ _ _ _ _ _ _ _ _ w hT hn (by rw [fits16]; exact decide_eq_false (by omega)))
        · rw [if_neg hhi]
          cases hk : capB a' b' c' d' ((n : Int) % 4096) ((n : Int) / 4096) g' h'
          · rw [if_neg (by simp)]
            exact mint_node a b c d e f g h a' b' c' d' e' f' g' h' m 3 n W hT h1 h2 zX (fun w hT => guarded_no _ _ _ _ _ _ _ _ n w hT (by omega) (by rw [fits16]; exact decide_eq_true (by omega)) hk)
          · rw [if_pos rfl]
            exact mint_node a b c d e f g h a' b' c' d' e' f' g' h' m 0 n W hT h1 h2 ⟨a', b', c', d', (n : Int) % 4096, (n : Int) / 4096, g', h'⟩ (fun w hT => guarded_yes _ _ _ _ _ _ _ _ n w hT (by omega) (by rw [fits16]; exact decide_eq_true (by omega)) hk)
      · rw [if_neg h2]
        by_cases h0 : (n : Int) = 0
        · rw [if_neg (by simp [h0])]
          exact mint_same a b c d e f g h a' b' c' d' e' f' g' h' m 0 n W hT h1 ⟨h8, h2⟩ h0
        · rw [if_pos h0]
          exact mint_no a b c d e f g h a' b' c' d' e' f' g' h' m 0 n W hT h1 ⟨h8, h2⟩ h0
  · rw [if_pos hk]
    rw [hz hk] at h1
    exact mint_fail a b c d e f g h 0 0 0 0 0 0 0 0 m k n W hT h1 hk
theorem mintR14 (x : CapX) (m : Int) (n : Nat) (hn : n < 2 ^ 64) (W : World) : Calls Tryd.prog 29 #[x.val, .int .i64 m, .int .u64 n] W fun r W' => r = .returned (.tuple #[(mintX x m n).1.val, .int .i64 (mintX x m n).2]) ∧ Below W.heap.size W W' := by
  have h1 := copyR14 x m
  unfold mintX
  have hz : (copyX x m).2 ≠ 0 → (copyX x m).1 = zX := copy_zero
  have hw : (copyX x m).2 = 0 → (copyX x m).1.a = x.a := copy_kind
  generalize copyX x m = r at *
  obtain ⟨⟨a', b', c', d', e', f', g', h'⟩, k⟩ := r
  obtain ⟨a, b, c, d, e, f, g, h⟩ := x
  simp only at *
  by_cases hk : k = 0
  · obtain rfl := hw hk
    subst hk
    rw [if_neg (by simp)]
    by_cases h8 : a' = 8
    · rw [if_pos h8]
      by_cases hhi : (16777215 : Int) < n
      · rw [if_pos hhi]
        exact rmint_hi a' b c d e f g h a' b' c' d' e' f' g' h' m 3 n W h1 h8 hhi
      · rw [if_neg hhi]
        by_cases hd : d' = 0
        · rw [if_neg (by simp [hd])]
          exact rmint_badge a' b c d e f g h a' b' c' d' e' f' g' h' m 0 n W h1 h8 (by omega) hd
        · rw [if_pos hd]
          exact rmint_had a' b c d e f g h a' b' c' d' e' f' g' h' m 9 n W h1 h8 (by omega) hd
    · rw [if_neg h8]
      by_cases h2 : a' = 2
      · rw [if_pos h2]
        by_cases hhi : (65536 : Int) ≤ n
        · rw [if_pos hhi]
          exact rmint_wide a' b c d e f g h a' b' c' d' e' f' g' h' m 3 n W h1 h2 hhi
        · rw [if_neg hhi]
          cases hk : capB a' b' c' d' ((n : Int) % 4096) ((n : Int) / 4096) g' h'
          · rw [if_neg (by simp)]
            exact rmint_node_no a' b c d e f g h a' b' c' d' e' f' g' h' m 0 n W h1 h2 (by omega) (by omega) hk
          · rw [if_pos rfl]
            exact rmint_node_yes a' b c d e f g h a' b' c' d' e' f' g' h' m 0 n W h1 h2 (by omega) (by omega) hk
      · rw [if_neg h2]
        by_cases h0 : (n : Int) = 0
        · rw [if_neg (by simp [h0])]
          exact rmint_same a' b c d e f g h a' b' c' d' e' f' g' h' m 0 n W h1 ⟨h8, h2⟩ h0
        · rw [if_pos h0]
          exact rmint_no a' b c d e f g h a' b' c' d' e' f' g' h' m 0 n W h1 ⟨h8, h2⟩ h0
  · rw [if_pos hk]
    rw [hz hk] at h1
    exact rmint_fail a b c d e f g h 0 0 0 0 0 0 0 0 m k n W h1 hk
end Go.Proofs.YthgpcjfilejfpaaDoor
