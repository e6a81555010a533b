import Derived.Test.YtchjfeafkmpmbaaGreatDoorQkl
namespace Go.Proofs.YtchjfeafkmpmbaaGreatDoor
set_option linter.unusedVariables false
set_option linter.unusedSimpArgs false
set_option maxRecDepth 100000
set_option maxHeartbeats 8000000
open Lib (hid)
open Go.ChangeShapes Go.WideShapes Go.ChangeAt Go.RowKit Go.Shelf
section
namespace CX
theorem rmint_node_no (a b c d e f g h a' b' c' d' e' f' g' h' m k n : Int) (W : World) (h1 : ∀ W : World, Calls Tryz.prog 88 #[capV a b c d e f g h, .int .i64 m] W fun r W' => r = .returned (.tuple #[capV a' b' c' d' e' f' g' h', .int .i64 0]) ∧ Below W.heap.size W W') (ha : a' = 2) (n0 : 0 ≤ n) (hn : n < 65536) (hk : capB a' b' c' d' (n % 4096) (n / 4096) g' h' = false) :
  Calls Tryz.prog 89 #[capV a b c d e f g h, .int .i64 m, .int .u64 n] W fun r W' => r = .returned (.tuple #[zcap, .int .i64 3]) ∧ Below W.heap.size W W' := by
 have H1 := hid h1
 clear h1
 subst ha
 have HK := hid hk
 clear hk
 go_enter Tryz.func89, Tryz.ntmps89
 go_wp2_with (first
  | (go_at_call 88; refine (H1.out _).mono ?_; rintro r w1 ⟨rfl, hb1⟩; obtain ⟨hc1, hf1⟩ := bcell hb1; have hz1 : W.heap.size + 1 < w1.heap.size := (by have := hb1.size; simp at this; omega); have hz0 : W.heap.size < w1.heap.size := (by omega))
  | (go_at_call 110; refine (refMay13 _ _ _ _ _ _ _ _ _).mono ?_; rw [HK.out]; rintro r w2 ⟨rfl, hb2⟩; obtain ⟨hc2, hf2⟩ := bcell hb2; have hy := hb2.size; simp at hy; have hz20 : W.heap.size < w2.heap.size := (by omega); have hz21 : W.heap.size + 1 < w2.heap.size := (by omega); have hz22 : w1.heap.size < w2.heap.size := (by omega); clear hy))
 all_goals exact bodyPost_ret (v := .tuple #[zcap, .int .i64 3]) (by simp [results, Tryz.results89, go_sem, hc1, hz0, hz1, hc2, hz20, hz21, hz22]) rfl ⟨rfl, (by repeat (first | with_reducible exact Below.refl _ _ | with_reducible assumption | with_reducible refine below_drewN ?_ _ | with_reducible refine Below.drew ?_ | with_reducible refine bal ?_ _ | with_reducible refine bgo ?_ (by with_reducible assumption) | refine Below.setCell ?_ (by first | exact Nat.le_refl _ | (simp; done) | (simp; omega)) _))⟩
theorem rmint_node_yes (a b c d e f g h a' b' c' d' e' f' g' h' m k n : Int) (W : World) (h1 : ∀ W : World, Calls Tryz.prog 88 #[capV a b c d e f g h, .int .i64 m] W fun r W' => r = .returned (.tuple #[capV a' b' c' d' e' f' g' h', .int .i64 0]) ∧ Below W.heap.size W W') (ha : a' = 2) (n0 : 0 ≤ n) (hn : n < 65536) (hk : capB a' b' c' d' (n % 4096) (n / 4096) g' h' = true) :
  Calls Tryz.prog 89 #[capV a b c d e f g h, .int .i64 m, .int .u64 n] W fun r W' => r = .returned (.tuple #[capV a' b' c' d' (n % 4096) (n / 4096) g' h', .int .i64 0]) ∧ Below W.heap.size W W' := by
 have H1 := hid h1
 clear h1
 subst ha
 have HK := hid hk
 clear hk
 go_enter Tryz.func89, Tryz.ntmps89
 go_wp2_with (first
  | (go_at_call 88; refine (H1.out _).mono ?_; rintro r w1 ⟨rfl, hb1⟩; obtain ⟨hc1, hf1⟩ := bcell hb1; have hz1 : W.heap.size + 1 < w1.heap.size := (by have := hb1.size; simp at this; omega); have hz0 : W.heap.size < w1.heap.size := (by omega))
  | (go_at_call 110; refine (refMay13 _ _ _ _ _ _ _ _ _).mono ?_; rw [HK.out]; rintro r w2 ⟨rfl, hb2⟩; obtain ⟨hc2, hf2⟩ := bcell hb2; have hy := hb2.size; simp at hy; have hz20 : W.heap.size < w2.heap.size := (by omega); have hz21 : W.heap.size + 1 < w2.heap.size := (by omega); have hz22 : w1.heap.size < w2.heap.size := (by omega); clear hy))
 all_goals exact bodyPost_ret (v := .tuple #[capV 2 b' c' d' (n % 4096) (n / 4096) g' h', .int .i64 0]) (by simp [results, Tryz.results89, go_sem, hc1, hz0, hz1, hc2, hz20, hz21, hz22]) rfl ⟨rfl, (by repeat (first | with_reducible exact Below.refl _ _ | with_reducible assumption | with_reducible refine below_drewN ?_ _ | with_reducible refine Below.drew ?_ | with_reducible refine bal ?_ _ | with_reducible refine bgo ?_ (by with_reducible assumption) | refine Below.setCell ?_ (by first | exact Nat.le_refl _ | (simp; done) | (simp; omega)) _))⟩
def mintX (x : CapX) (m n : Int) : CapX × Int :=
 if (copyX x m).2 ≠ 0 then (zX, (copyX x m).2)
 else if x.a = 8 then (if 16777215 < n then (zX, 3) else if (copyX x m).1.d ≠ 0 then (zX, 9) else (⟨(copyX x m).1.a, (copyX x m).1.b, (copyX x m).1.c, n, (copyX x m).1.e, (copyX x m).1.f, (copyX x m).1.g, (copyX x m).1.h⟩, 0))
 else if x.a = 2 then (if 65536 ≤ n then (zX, 3) else if capB (copyX x m).1.a (copyX x m).1.b (copyX x m).1.c (copyX x m).1.d (n % 4096) (n / 4096) (copyX x m).1.g (copyX x m).1.h = true then (⟨(copyX x m).1.a, (copyX x m).1.b, (copyX x m).1.c, (copyX x m).1.d, n % 4096, n / 4096, (copyX x m).1.g, (copyX x m).1.h⟩, 0) else (zX, 3))
 else if n ≠ 0 then (zX, 2) else ((copyX x m).1, 0)
theorem copy_kind {x : CapX} {m : Int} (h : (copyX x m).2 = 0) : (copyX x m).1.a = x.a := by
 rcases copyX_ways x m with ⟨_, h1⟩ | ⟨_, _, _, ⟨_, _, h1⟩ | ⟨_, h1⟩ | ⟨_, h1⟩⟩
 ·omega
 all_goals rw [h1]
theorem copy_zero {x : CapX} {m : Int} (h : (copyX x m).2 ≠ 0) : (copyX x m).1 = zX := by
 rcases copyX_ways x m with ⟨h0, h1⟩ | ⟨h0, _⟩
 ·exact h0
 ·exact absurd h0 h
theorem fits16 (n : Nat) : fitsB n 16 = decide (n < 65536) := by
 unfold fitsB
 rfl
theorem mintD (x : CapX) (m : Int) (n : Nat) (hn : n < 2 ^ 64) (he : x.e ≤ 9223372036854775807) : Gives 65 #[x.val, .int .i64 m, .int .u64 n] (.tuple #[(mintX x m n).1.val, .int .i64 (mintX x m n).2]) := by
 intro W hT
 have h1 := copyD x m he
 unfold mintX
 have hz : (copyX x m).2 ≠ 0 → (copyX x m).1 = zX := copy_zero
 generalize copyX x m = r at *
 obtain ⟨⟨a', b', c', d', e', f', g', h'⟩, k⟩ := r
 obtain ⟨a, b, c, d, e, f, g, h⟩ := x
 simp only at *
 by_cases hk : k = 0
 ·subst hk
  rw [if_neg (by simp)]
  by_cases h8 : a = 8
  ·rw [if_pos h8]
   by_cases hhi : (16777215 : Int) < n
   ·rw [if_pos hhi]
    exact mint_end a b c d e f g h a' b' c' d' e' f' g' h' m 3 n W hT h1 h8 zX (fun w _ => badged_hi _ _ _ _ _ _ _ _ _ w hhi)
   ·rw [if_neg hhi]
    by_cases hd : d' = 0
    ·subst hd
     rw [if_neg (by simp)]
     exact mint_end a b c d e f g h a' b' c' 0 e' f' g' h' m 0 n W hT h1 h8 ⟨a', b', c', n, e', f', g', h'⟩ (fun w _ => badged_yes _ _ _ _ _ _ _ _ w (by omega))
    ·rw [if_pos hd]
     exact mint_end a b c d e f g h a' b' c' d' e' f' g' h' m 9 n W hT h1 h8 zX (fun w _ => badged_had _ _ _ _ _ _ _ _ _ w (by omega) hd)
  ·rw [if_neg h8]
   by_cases h2 : a = 2
   ·rw [if_pos h2]
    by_cases hhi : (65536 : Int) ≤ n
    ·rw [if_pos hhi]
     exact mint_node a b c d e f g h a' b' c' d' e' f' g' h' m 3 n W hT h1 h2 zX (fun w hT => guarded_hi _ _ _ _ _ _ _ _ _ w hT hn (by rw [fits16]; exact decide_eq_false (by omega)))
    ·rw [if_neg hhi]
     cases hk : capB a' b' c' d' ((n : Int) % 4096) ((n : Int) / 4096) g' h'
     ·rw [if_neg (by simp)]
      exact mint_node a b c d e f g h a' b' c' d' e' f' g' h' m 3 n W hT h1 h2 zX (fun w hT => guarded_no _ _ _ _ _ _ _ _ n w hT (by omega) (by rw [fits16]; exact decide_eq_true (by omega)) hk)
     ·rw [if_pos rfl]
      exact mint_node a b c d e f g h a' b' c' d' e' f' g' h' m 0 n W hT h1 h2 ⟨a', b', c', d', (n : Int) % 4096, (n : Int) / 4096, g', h'⟩ (fun w hT => guarded_yes _ _ _ _ _ _ _ _ n w hT (by omega) (by rw [fits16]; exact decide_eq_true (by omega)) hk)
   ·rw [if_neg h2]
    by_cases h0 : (n : Int) = 0
    ·rw [if_neg (by simp [h0])]
     exact mint_same a b c d e f g h a' b' c' d' e' f' g' h' m 0 n W hT h1 ⟨h8, h2⟩ h0
    ·rw [if_pos h0]
     exact mint_no a b c d e f g h a' b' c' d' e' f' g' h' m 0 n W hT h1 ⟨h8, h2⟩ h0
 ·rw [if_pos hk]
  rw [hz hk] at h1
  exact mint_fail a b c d e f g h 0 0 0 0 0 0 0 0 m k n W hT h1 hk
theorem mintR14 (x : CapX) (m : Int) (n : Nat) (hn : n < 2 ^ 64) (W : World) : Calls Tryz.prog 89 #[x.val, .int .i64 m, .int .u64 n] W fun r W' => r = .returned (.tuple #[(mintX x m n).1.val, .int .i64 (mintX x m n).2]) ∧ Below W.heap.size W W' := by
 have h1 := copyR14 x m
 unfold mintX
 have hz : (copyX x m).2 ≠ 0 → (copyX x m).1 = zX := copy_zero
 have hw : (copyX x m).2 = 0 → (copyX x m).1.a = x.a := copy_kind
 generalize copyX x m = r at *
 obtain ⟨⟨a', b', c', d', e', f', g', h'⟩, k⟩ := r
 obtain ⟨a, b, c, d, e, f, g, h⟩ := x
 simp only at *
 by_cases hk : k = 0
 ·obtain rfl := hw hk
  subst hk
  rw [if_neg (by simp)]
  by_cases h8 : a' = 8
  ·rw [if_pos h8]
   by_cases hhi : (16777215 : Int) < n
   ·rw [if_pos hhi]
    exact rmint_hi a' b c d e f g h a' b' c' d' e' f' g' h' m 3 n W h1 h8 hhi
   ·rw [if_neg hhi]
    by_cases hd : d' = 0
    ·rw [if_neg (by simp [hd])]
     exact rmint_badge a' b c d e f g h a' b' c' d' e' f' g' h' m 0 n W h1 h8 (by omega) hd
    ·rw [if_pos hd]
     exact rmint_had a' b c d e f g h a' b' c' d' e' f' g' h' m 9 n W h1 h8 (by omega) hd
  ·rw [if_neg h8]
   by_cases h2 : a' = 2
   ·rw [if_pos h2]
    by_cases hhi : (65536 : Int) ≤ n
    ·rw [if_pos hhi]
     exact rmint_wide a' b c d e f g h a' b' c' d' e' f' g' h' m 3 n W h1 h2 hhi
    ·rw [if_neg hhi]
     cases hk : capB a' b' c' d' ((n : Int) % 4096) ((n : Int) / 4096) g' h'
     ·rw [if_neg (by simp)]
      exact rmint_node_no a' b c d e f g h a' b' c' d' e' f' g' h' m 0 n W h1 h2 (by omega) (by omega) hk
     ·rw [if_pos rfl]
      exact rmint_node_yes a' b c d e f g h a' b' c' d' e' f' g' h' m 0 n W h1 h2 (by omega) (by omega) hk
   ·rw [if_neg h2]
    by_cases h0 : (n : Int) = 0
    ·rw [if_neg (by simp [h0])]
     exact rmint_same a' b c d e f g h a' b' c' d' e' f' g' h' m 0 n W h1 ⟨h8, h2⟩ h0
    ·rw [if_pos h0]
     exact rmint_no a' b c d e f g h a' b' c' d' e' f' g' h' m 0 n W h1 ⟨h8, h2⟩ h0
 ·rw [if_pos hk]
  rw [hz hk] at h1
  exact rmint_fail a b c d e f g h 0 0 0 0 0 0 0 0 m k n W h1 hk
theorem mintW (x : CapX) (m : Int) (n : Nat) (hn : n < 2 ^ 64) {y : CapX} {k : Int} (h : mintX x m n = (y, k)) (he : x.e ≤ 9223372036854775807) : Gives 65 #[x.val, .int .i64 m, .int .u64 n] (.tuple #[y.val, .int .i64 k]) := by
 have := mintD x m n hn he
 rw [h] at this
 exact this
theorem mintW14 (x : CapX) (m : Int) (n : Nat) (hn : n < 2 ^ 64) {y : CapX} {k : Int} (h : mintX x m n = (y, k)) (W : World) : Calls Tryz.prog 89 #[x.val, .int .i64 m, .int .u64 n] W fun r W' => r = .returned (.tuple #[y.val, .int .i64 k]) ∧ Below W.heap.size W W' := by
 have := mintR14 x m n hn W
 rw [h] at this
 exact this
def Good (x y : CapX) : Prop := x.B = true ∧ y.B = true ∧ x.a ≠ 0 ∧ x.a = y.a ∧ x.b = y.b ∧ (0 ≤ x.c ∧ x.c ≤ 7) ∧ (0 ≤ y.c ∧ y.c ≤ 7) ∧ hasB x.c y.c = true ∧ y.g = 0 ∧ y.h = 0 ∧ (x.d = 0 ∨ y.d = x.d) ∧ y.e ≤ 9223372036854775807
theorem has_key : ∀ r : Nat, r < 8 → ∀ m : Nat, m < 8 → hasB r (maskN r m) = true ∧ 0 ≤ maskN r m ∧ maskN r m ≤ r := by decide +kernel
theorem mask_has {r m : Int} (h0 : 0 ≤ r) (h1 : r ≤ 7) (h2 : 0 ≤ m) (h3 : m ≤ 7) : hasB r (maskN r m) = true ∧ 0 ≤ maskN r m ∧ maskN r m ≤ r := by
 obtain ⟨a, rfl⟩ := Int.eq_ofNat_of_zero_le h0
 obtain ⟨b, rfl⟩ := Int.eq_ofNat_of_zero_le h2
 exact has_key a (by omega) b (by omega)
theorem has00 : hasB 0 0 = true := by decide +kernel
theorem good_copy {x y : CapX} {m : Int} (h : copyX x m = (y, 0)) (he : x.e ≤ 9223372036854775807) : Good x y := by
 have hw := copyX_ways x m
 rw [h] at hw
 obtain ⟨a, b, c, d, e, f, g, i⟩ := x
 rcases hw with ⟨_, h1⟩ | ⟨_, hB, hm, hk⟩
 ·simp only at h1; omega
 ·obtain ⟨m0, m1⟩ := mayB_of hm
  rcases hk with ⟨ha, hn, hy⟩ | ⟨ha, hy⟩ | ⟨ha, hy⟩
  ·simp only at ha hn hy
   subst hy
   subst ha
   have hB' := hB
   simp [CapX.B, capB, placeB] at hB
   obtain ⟨k1, k2, k3⟩ := mask_has (r := c) (m := m) (by omega) (by omega) m0 m1
   refine ⟨hB', ?_, by simp, rfl, rfl, by simp only; omega, by simp only; omega, k1, rfl, rfl, by simp only; omega, he⟩
   simp only [CapX.B, capB, placeB, hB.1.1.1]
   simp
   omega
  ·simp only at ha hy
   subst hy
   subst ha
   have hB' := hB
   simp [CapX.B, capB] at hB
   obtain ⟨c0, c1⟩ := mayB_of hB.1.1.2
   obtain ⟨k1, k2, k3⟩ := mask_has (r := c) (m := m) (by omega) (by omega) m0 m1
   refine ⟨hB', ?_, by simp, rfl, rfl, by simp only; omega, by simp only; omega, k1, by simp only; omega, by simp only; omega, by simp, he⟩
   simp only [CapX.B, capB, hB.1.1.1, mayB_mk k2 (show maskN c m ≤ 7 by omega)]
   simp
   omega
  ·simp only at ha hy
   subst hy
   have hB' := hB
   have hz : c = 0 ∧ g = 0 ∧ i = 0 := by
    simp only [CapX.B, capB] at hB
    rcases ha with rfl | rfl | rfl | rfl | rfl <;> simp at hB <;> omega
   obtain ⟨rfl, rfl, rfl⟩ := hz
   exact ⟨hB', hB', by simp only; omega, rfl, rfl, by simp, by simp, has00, rfl, rfl, by simp, he⟩
theorem good_mint {x y : CapX} {m : Int} {n : Nat} (h : mintX x m n = (y, 0)) (he : x.e ≤ 9223372036854775807) : Good x y := by
 unfold mintX at h
 obtain ⟨z, k, hz⟩ : ∃ z k, copyX x m = (z, k) := ⟨_, _, rfl⟩
 rw [hz] at h
 simp only at h
 by_cases hk : k = 0
 ·subst hk
  rw [if_neg (by simp)] at h
  have G := good_copy hz he
  obtain ⟨g1, g2, g3, g4, g5, g6, g7, g8, g9, g10, g11, g12⟩ := G
  obtain ⟨a, b, c, d, e, f, g, i⟩ := x
  obtain ⟨a', b', c', d', e', f', g', i'⟩ := z
  simp only at *
  subst g4
  split at h
  ·split at h
   ·simp at h
   ·split at h
    ·simp at h
    ·rename_i h8 hn hd
     simp only [Decidable.not_not] at hd
     subst hd
     subst h8
     obtain rfl := (Prod.mk.inj h).1.symm
     refine ⟨g1, ?_, g3, rfl, g5, g6, g7, g8, g9, g10, .inl (by simp only; omega), g12⟩
     simp [CapX.B, capB] at g2 ⊢
     exact ⟨⟨g2.1, by omega⟩, g2.2⟩
  ·split at h
   ·split at h
    ·simp at h
    ·split at h
     ·rename_i hc
      obtain rfl := (Prod.mk.inj h).1.symm
      exact ⟨g1, hc, g3, rfl, g5, g6, g7, g8, g9, g10, g11, by simp only; omega⟩
     ·simp at h
   ·split at h
    ·simp at h
    ·obtain rfl := (Prod.mk.inj h).1.symm
     exact ⟨g1, g2, g3, rfl, g5, g6, g7, g8, g9, g10, g11, g12⟩
 ·rw [if_pos hk] at h
  exact absurd (Prod.mk.inj h).2 hk
theorem mint_zero {x y : CapX} {m : Int} {n : Nat} {k : Int} (h : mintX x m n = (y, k)) : (0 ≤ k ∧ k ≤ 100) ∧ (k ≠ 0 → y = zX) := by
 unfold mintX at h
 obtain ⟨z, j, hz⟩ : ∃ z k, copyX x m = (z, k) := ⟨_, _, rfl⟩
 have hb := copy_bd hz
 rw [hz] at h
 simp only at h
 split at h
 ·obtain ⟨rfl, rfl⟩ := Prod.mk.inj h; exact ⟨hb, fun _ => rfl⟩
 ·repeat' (split at h)
  all_goals
   obtain ⟨rfl, rfl⟩ := Prod.mk.inj h
   first | exact ⟨by decide, fun _ => rfl⟩ | exact ⟨by decide, fun hh => absurd rfl hh⟩
end CX
end
section
namespace HdS
open TabS (Cp Sn zC mayC sizS getR getN Two Pr FootP foot_ltP foot_ltR SameS AddRel addSR setN setM rowsS hasS dropSR dropSL heldA hdsC)
def toX (c : Cp) : CX.CapX := ⟨c.a, c.b, c.c, c.d, c.e, c.f, c.g, c.h⟩
def ofX (x : CX.CapX) : Cp := ⟨x.a, x.b, x.c, x.d, x.e, x.f, x.g, x.h⟩
def cpy (c : Cp) (m : Int) : Cp × Int := (ofX (CX.copyX (toX c) m).1, (CX.copyX (toX c) m).2)
theorem dcopy (w : World) (hT : CX.TabG w) (c : Cp) (m : Int) (he : c.e ≤ 9223372036854775807) :
  Calls Tryz.prog 63 #[c.V, .int .i64 m] w fun e w' => e = .returned (.tuple #[(cpy c m).1.V, .int .i64 (cpy c m).2]) ∧ Below w.heap.size w w' := CX.copyD (toX c) m he w hT
theorem rcopy14 (w : World) (c : Cp) (m : Int) :
  Calls Tryz.prog 88 #[c.V, .int .i64 m] w fun e w' => e = .returned (.tuple #[(cpy c m).1.V, .int .i64 (cpy c m).2]) ∧ Below w.heap.size w w' := CX.copyR14 (toX c) m w
theorem cap_boxes (w : World) (c : Cp) : Below w.heap.size w ((w.alloc (.cells c.L.toArray 33)).alloc (.cells zC.L.toArray 33)) ∧ ((w.alloc (.cells c.L.toArray 33)).alloc (.cells zC.L.toArray 33)).heap[w.heap.size]? = some (.cells c.L.toArray 33 (0, 0)) ∧ ((w.alloc (.cells c.L.toArray 33)).alloc (.cells zC.L.toArray 33)).heap[w.heap.size + 1]? = some (.cells zC.L.toArray 33 (0, 0)) := by
 refine ⟨bal (bal (Below.refl _ _) _) _, (Below.heap_alloc _ _ _ (by simp)).trans (heap_alloc_new w _), ?_⟩
 have := heap_alloc_new (w.alloc (.cells c.L.toArray 33)) (.cells zC.L.toArray 33)
 rwa [World.size_alloc] at this
theorem hcopy1 (w : World) (hT : CX.TabG w) (c : Cp) (m : Int) (mB : Nat) (he : c.e ≤ 9223372036854775807) (hm : w.cell? ⟨mB, 0, none⟩ = some (.int .i64 m)) (hz : mB < w.heap.size) :
  Calls Tryz.prog 62 #[c.V, .pointer (some ⟨mB, 0, none⟩)] w fun e w' => e = .returned (.tuple #[(cpy c m).1.V, .int .i64 (cpy c m).2]) ∧ Below w.heap.size w w' := by
 obtain ⟨hb1, hx1, hc1⟩ := cap_boxes w c
 obtain ⟨w1, hw1⟩ : ∃ y, y = (w.alloc (.cells c.L.toArray 33)).alloc (.cells zC.L.toArray 33) := ⟨_, rfl⟩
 rw [← hw1] at hb1 hx1 hc1
 have HB1 := hid hb1
 have HC1 := hid hc1
 have HD := hid (dcopy w1 (hT.call hb1) c m he)
 have hm1 := (hb1.cell (p := ⟨mB, 0, none⟩) hz).trans hm
 generalize cpy c m = r at *
 obtain ⟨⟨ca, cb, cx, cd, ce, cf, cg, ch⟩, k⟩ := r
 obtain ⟨ta, tb, tx, td, te, tf, tg, th⟩ := c
 obtain ⟨x0, x1, x2, x3, x4, x5, x6, x7⟩ := cap_cells hx1
 simp only [] at x0 x1 x2 x3 x4 x5 x6 x7
 have HZ1 := hid (ags hc1).1
 have HW := hid hw1
 clear hb1 hx1 hc1 hw1 hT he hm hz
 go_enter Tryz.func62, Tryz.ntmps62
 go_upto_region 1 with fail
 rw [show ((w.alloc (.cells #[.int .i64 ta, .int .i64 tb, .int .i64 tx, .int .u64 td, .int .i64 te, .int .i64 tf, .int .i64 tg, .int .i64 th] 33)).alloc (.cells #[.int .i64 0, .int .i64 0, .int .i64 0, .int .u64 0, .int .i64 0, .int .i64 0, .int .i64 0, .int .i64 0] 33)) = w1 from HW.out.symm]
 go_wp2_with (go_at_call 63; (with_reducible refine HD.out.mono ?_); rintro e w3 ⟨rfl, hb3⟩; have HB3 := hid hb3; have hc3 := (hb3.block _ HZ1.out).trans HC1.out; have HC3 := hid hc3; obtain ⟨y0, y1, y2, y3, y4, y5, y6, y7⟩ := cap_cells hc3; have g0 := cap_froz hc3 0; have g1 := cap_froz hc3 1; have g2 := cap_froz hc3 2; have g3 := cap_froz hc3 3; have g4 := cap_froz hc3 4; have g5 := cap_froz hc3 5; have g6 := cap_froz hc3 6; have g7 := cap_froz hc3 7; have hz3 := (ags hc3).1; clear hb3 hc3)
 have HF := hid (lay8_same ⟨ca, cb, cx, cd, ce, cf, cg, ch⟩ HC3.out)
 have HFB := hid (lay8_below (k := w.heap.size + 1) ⟨ca, cb, cx, cd, ce, cf, cg, ch⟩ (HB1.out.trans (HB3.out.mono HB1.out.size)) (by omega))
 obtain ⟨w4, hw4⟩ : ∃ y, y = lay8 w3 (w.heap.size + 1) ⟨ca, cb, cx, cd, ce, cf, cg, ch⟩ := ⟨_, rfl⟩
 rw [← hw4] at HF HFB
 simp only [lay8] at hw4
 rw [← hw4]
 clear hw4
 obtain ⟨q0, q1, q2, q3, q4, q5, q6, q7⟩ := cap_cells HF.out
 simp only [] at q0 q1 q2 q3 q4 q5 q6 q7
 exact bodyPost_ret (v := .tuple #[.agg #[.int .i64 ca, .int .i64 cb, .int .i64 cx, .int .u64 cd, .int .i64 ce, .int .i64 cf, .int .i64 cg, .int .i64 ch], .int .i64 k]) (by simp [results, Tryz.results62, go_sem, q0, q1, q2, q3, q4, q5, q6, q7]) rfl ⟨rfl, HFB.out⟩
def mnt (c : Cp) (m : Int) (d : Nat) : Cp × Int := (ofX (CX.mintX (toX c) m d).1, (CX.mintX (toX c) m d).2)
theorem dmint (w : World) (hT : CX.TabG w) (c : Cp) (m : Int) (d : Nat) (hd : d < 2 ^ 64) (he : c.e ≤ 9223372036854775807) :
  Calls Tryz.prog 65 #[c.V, .int .i64 m, .int .u64 d] w fun e w' => e = .returned (.tuple #[(mnt c m d).1.V, .int .i64 (mnt c m d).2]) ∧ Below w.heap.size w w' := CX.mintW (toX c) m d hd (y := (CX.mintX (toX c) m d).1) (k := (CX.mintX (toX c) m d).2) rfl he w hT
theorem rmint14 (w : World) (c : Cp) (m : Int) (d : Nat) (hd : d < 2 ^ 64) :
  Calls Tryz.prog 89 #[c.V, .int .i64 m, .int .u64 d] w fun e w' => e = .returned (.tuple #[(mnt c m d).1.V, .int .i64 (mnt c m d).2]) ∧ Below w.heap.size w w' := CX.mintW14 (toX c) m d hd (y := (CX.mintX (toX c) m d).1) (k := (CX.mintX (toX c) m d).2) rfl w
theorem hmint1 (w : World) (hT : CX.TabG w) (c : Cp) (m : Int) (d mB dB : Nat) (he : c.e ≤ 9223372036854775807) (hd : d < 2 ^ 64) (hm : w.cell? ⟨mB, 0, none⟩ = some (.int .i64 m)) (hz : mB < w.heap.size) (hn : w.cell? ⟨dB, 0, none⟩ = some (.int .u64 d)) (hy : dB < w.heap.size) :
  Calls Tryz.prog 64 #[c.V, .pointer (some ⟨mB, 0, none⟩), .pointer (some ⟨dB, 0, none⟩)] w fun e w' => e = .returned (.tuple #[(mnt c m d).1.V, .int .i64 (mnt c m d).2]) ∧ Below w.heap.size w w' := by
 obtain ⟨hb1, hx1, hc1⟩ := cap_boxes w c
 obtain ⟨w1, hw1⟩ : ∃ y, y = (w.alloc (.cells c.L.toArray 33)).alloc (.cells zC.L.toArray 33) := ⟨_, rfl⟩
 rw [← hw1] at hb1 hx1 hc1
 have HB1 := hid hb1
 have HC1 := hid hc1
 have HD := hid (dmint w1 (hT.call hb1) c m d hd he)
 have hm1 := (hb1.cell (p := ⟨mB, 0, none⟩) hz).trans hm
 have hn1 := (hb1.cell (p := ⟨dB, 0, none⟩) hy).trans hn
 generalize mnt c m d = r at *
 obtain ⟨⟨ca, cb, cx, cd, ce, cf, cg, ch⟩, k⟩ := r
 obtain ⟨ta, tb, tx, td, te, tf, tg, th⟩ := c
 obtain ⟨x0, x1, x2, x3, x4, x5, x6, x7⟩ := cap_cells hx1
 simp only [] at x0 x1 x2 x3 x4 x5 x6 x7
 have HZ1 := hid (ags hc1).1
 have HW := hid hw1
 clear hb1 hx1 hc1 hw1 hT he hm hz hn hy hd
 go_enter Tryz.func64, Tryz.ntmps64
 go_upto_region 1 with fail
 rw [show ((w.alloc (.cells #[.int .i64 ta, .int .i64 tb, .int .i64 tx, .int .u64 td, .int .i64 te, .int .i64 tf, .int .i64 tg, .int .i64 th] 33)).alloc (.cells #[.int .i64 0, .int .i64 0, .int .i64 0, .int .u64 0, .int .i64 0, .int .i64 0, .int .i64 0, .int .i64 0] 33)) = w1 from HW.out.symm]
 go_wp2_with (go_at_call 65; (with_reducible refine HD.out.mono ?_); rintro e w3 ⟨rfl, hb3⟩; have HB3 := hid hb3; have hc3 := (hb3.block _ HZ1.out).trans HC1.out; have HC3 := hid hc3; obtain ⟨y0, y1, y2, y3, y4, y5, y6, y7⟩ := cap_cells hc3; have g0 := cap_froz hc3 0; have g1 := cap_froz hc3 1; have g2 := cap_froz hc3 2; have g3 := cap_froz hc3 3; have g4 := cap_froz hc3 4; have g5 := cap_froz hc3 5; have g6 := cap_froz hc3 6; have g7 := cap_froz hc3 7; have hz3 := (ags hc3).1; clear hb3 hc3)
 have HF := hid (lay8_same ⟨ca, cb, cx, cd, ce, cf, cg, ch⟩ HC3.out)
 have HFB := hid (lay8_below (k := w.heap.size + 1) ⟨ca, cb, cx, cd, ce, cf, cg, ch⟩ (HB1.out.trans (HB3.out.mono HB1.out.size)) (by omega))
 obtain ⟨w4, hw4⟩ : ∃ y, y = lay8 w3 (w.heap.size + 1) ⟨ca, cb, cx, cd, ce, cf, cg, ch⟩ := ⟨_, rfl⟩
 rw [← hw4] at HF HFB
 simp only [lay8] at hw4
 rw [← hw4]
 clear hw4
 obtain ⟨q0, q1, q2, q3, q4, q5, q6, q7⟩ := cap_cells HF.out
 simp only [] at q0 q1 q2 q3 q4 q5 q6 q7
 exact bodyPost_ret (v := .tuple #[.agg #[.int .i64 ca, .int .i64 cb, .int .i64 cx, .int .u64 cd, .int .i64 ce, .int .i64 cf, .int .i64 cg, .int .i64 ch], .int .i64 k]) (by simp [results, Tryz.results64, go_sem, q0, q1, q2, q3, q4, q5, q6, q7]) rfl ⟨rfl, HFB.out⟩
end HdS
end
section
namespace HdS
open TabS (Cp Sn zC mayC sizS getR getN Two Pr FootP foot_ltP foot_ltR SameS AddRel addSR setN setM rowsS hasS dropSR dropSL heldA hdsC)
variable {W w w' : World} {s : Sh} {hb rhb n n' : Nat} {L M L' M' : List Sn} {l l2 l' l2' : List Nod} {S : Nat → Prop}
theorem pairC_zero {L : List Sn} {o i p j : Int} (h : pairN L o i p j = 0) : pairC L o i p j = gt L o i := by unfold pairC; rw [if_pos h]
theorem hderived_no (h : Hd W s hb rhb n L M l l2 S w) (o i p j : Int) (F : FuncId) (B : Array Value) (r : Cp × Int) (hF : ∀ v, Below w.heap.size w v → Calls Tryz.prog F (#[(gt L o i).V] ++ B) v fun e w' => e = .returned (.tuple #[r.1.V, .int .i64 r.2]) ∧ Below v.heap.size v w') (hno : pairN L o i p j ≠ 0) :
  Calls Tryz.prog 61 #[.pointer (some ⟨hb, 0, none⟩), slV o i, slV p j, .func (.func F) #[] B] w fun e w' => e = .returned (.int .i64 (pairN L o i p j)) ∧ Below w.heap.size w w' := by
 obtain ⟨hb1, hs1, ht1⟩ := duo_boxes w o i p j
 obtain ⟨w1, hw1⟩ : ∃ y, y = (w.alloc (slO o i)).alloc (slO p j) := ⟨_, rfl⟩
 rw [← hw1] at hb1 hs1 ht1
 have HB1 := hid hb1
 have HG := hid (hpair (h.call hb1) o i p j)
 generalize pairC L o i p j = t at *
 generalize pairN L o i p j = cn at *
 obtain ⟨ta, tb, tx, td, te, tf, tg, th⟩ := t
 obtain ⟨k0, k1⟩ := slot_cells hs1
 obtain ⟨r0, r1⟩ := slot_cells ht1
 have HW := hid hw1
 clear h hb1 hs1 ht1 hw1 hF
 go_enter Tryz.func61, Tryz.ntmps61
 go_upto_region 1 with fail
 rw [show ((w.alloc (slO o i)).alloc (slO p j)) = w1 from HW.out.symm]
 go_wp2_with (go_at_call 68; (with_reducible refine HG.out.mono ?_); rintro e w2 ⟨rfl, hb2⟩; have HB2 := hid hb2; clear hb2)
 go_ret
 exact ⟨rfl, bal (HB1.out.trans (HB2.out.mono HB1.out.size)) _⟩
end HdS
end
section
namespace HdS
open TabS (Cp Sn zC mayC sizS getR getN Two Pr FootP foot_ltP foot_ltR SameS AddRel addSR setN setM rowsS hasS dropSR dropSL heldA hdsC posS putS insS rowS)
theorem asc_lt {L : List Sn} (hA : Asc (rowsS L)) {i j : Nat} {x y : Sn} (hij : i < j) (hx : L[i]? = some x) (hy : L[j]? = some y) : x.id < y.id :=
 hA.at hij (x := rowS x) (y := rowS y) (by rw [TabS.rowsS_get, hx]; rfl) (by rw [TabS.rowsS_get, hy]; rfl)
theorem asc_eq {L : List Sn} (hA : Asc (rowsS L)) {x y : Sn} (hx : x ∈ L) (hy : y ∈ L) (h : x.id = y.id) : x = y := by
 obtain ⟨i, hi⟩ := List.mem_iff_getElem?.1 hx
 obtain ⟨j, hj⟩ := List.mem_iff_getElem?.1 hy
 rcases Nat.lt_trichotomy i j with q | q | q
 ·have := asc_lt hA q hi hj; omega
 ·subst q; rw [hi] at hj; exact Option.some.inj hj
 ·have := asc_lt hA q hj hi; omega
theorem has_mem {L : List Sn} {id : Int} : hasS L id = true ↔ ∃ x ∈ L, x.id = id := by
 unfold hasS hasR
 rw [List.any_eq_true]
 constructor
 ·rintro ⟨r, hr, h⟩
  obtain ⟨x, hx, rfl⟩ := List.mem_map.1 hr
  exact ⟨x, hx, of_decide_eq_true h⟩
 ·rintro ⟨x, hx, h⟩
  exact ⟨rowS x, List.mem_map.2 ⟨x, hx, rfl⟩, decide_eq_true h⟩
theorem getR_mem {L : List Sn} (hA : Asc (rowsS L)) {id ix : Int} {c : Cp} : getR L id ix = some c ↔ ∃ x ∈ L, x.id = id ∧ 0 ≤ ix ∧ x.l[ix.toNat]? = some c := by
 unfold getR
 constructor
 ·intro h
  split at h
  ·rename_i h0
   obtain ⟨x, hx, hF⟩ := TabS.first_self hA h0.1
   rw [hx] at h
   exact ⟨x, List.mem_of_getElem? hx, hF.2.1, h0.2, h⟩
  ·cases h
 ·rintro ⟨x, hx, hid, h0, hc⟩
  have hh : hasS L id = true := has_mem.2 ⟨x, hx, hid⟩
  obtain ⟨y, hy, hF⟩ := TabS.first_self hA hh
  have : y = x := asc_eq hA (List.mem_of_getElem? hy) hx (hF.2.1.trans hid.symm)
  subst this
  rw [if_pos ⟨hh, h0⟩, hy]
  exact hc
theorem rows_put {L : List Sn} {k : Nat} {x : Sn} (hx : L[k]? = some x) (i : Nat) (c : Cp) : rowsS (putS L k x i c) = rowsS L := by
 refine List.ext_getElem? fun t => ?_
 rw [TabS.rowsS_get, TabS.rowsS_get]
 unfold putS
 by_cases h : k = t
 ·subst h
  rw [List.getElem?_set_self (lgs hx).1, hx]
  simp [rowS, TabS.Sn.v]
 ·rw [List.getElem?_set_ne h]
theorem set_shape {L : List Sn} (hA : Asc (rowsS L)) {o i : Int} {c : Cp} (hs : setN L o i c = 0) : rowsS (setM L o i c) = rowsS L ∧ ∀ p j, getR (setM L o i c) p j = if p = o ∧ j = i then some c else getR L p j := by
 have hg : ∃ c0, getR L o i = some c0 := by
  unfold setN at hs
  split at hs
  ·cases hs
  ·rename_i c0 h0; exact ⟨c0, h0⟩
 obtain ⟨c0, hg⟩ := hg
 have h0 : hasS L o = true ∧ 0 ≤ i := by
  unfold getR at hg
  split at hg
  ·assumption
  ·cases hg
 obtain ⟨x, hx, hF⟩ := TabS.first_self hA h0.1
 have hM : setM L o i c = putS L (posS L o) x i.toNat c := by unfold setM; rw [if_pos hs, hx]
 have hc0 : x.l[i.toNat]? = some c0 := by
  unfold getR at hg
  rw [if_pos h0, hx] at hg
  exact hg
 have hR := rows_put hx i.toNat c
 refine ⟨by rw [hM]; exact hR, fun p j => ?_⟩
 rw [hM]
 have hA' : Asc (rowsS (putS L (posS L o) x i.toNat c)) := by rw [hR]; exact hA
 have hmem : ∀ y : Sn, y ∈ putS L (posS L o) x i.toNat c ↔ y = ⟨x.id, x.g, x.l.set i.toNat c⟩ ∨ (y ∈ L ∧ y.id ≠ o) := by
  intro y
  rw [List.mem_iff_getElem?]
  unfold putS
  constructor
  ·rintro ⟨t, ht⟩
   by_cases q : posS L o = t
   ·subst q
    rw [List.getElem?_set_self (lgs hx).1] at ht
    exact .inl (Option.some.inj ht).symm
   ·rw [List.getElem?_set_ne q] at ht
    refine .inr ⟨List.mem_of_getElem? ht, fun e => q ?_⟩
    have := asc_eq hA (List.mem_of_getElem? ht) (List.mem_of_getElem? hx) (e.trans hF.2.1.symm)
    subst this
    rcases Nat.lt_trichotomy t (posS L o) with z | z | z
    ·have := asc_lt hA z ht hx; omega
    ·exact z.symm
    ·have := asc_lt hA z hx ht; omega
  ·rintro (rfl | ⟨hy, hn⟩)
   ·exact ⟨posS L o, List.getElem?_set_self (lgs hx).1⟩
   ·obtain ⟨t, ht⟩ := List.mem_iff_getElem?.1 hy
    refine ⟨t, ?_⟩
    rw [List.getElem?_set_ne (fun e => hn ?_)]
    ·exact ht
    ·subst e
     rw [hx] at ht
     cases ht
     exact hF.2.1
 refine Option.ext fun d => ?_
 rw [getR_mem hA']
 by_cases hp : p = o ∧ j = i
 ·rw [if_pos hp]
  obtain ⟨rfl, rfl⟩ := hp
  constructor
  ·rintro ⟨y, hy, hid, hj, hd⟩
   rcases (hmem y).1 hy with rfl | ⟨_, hn⟩
   ·rw [List.getElem?_set_self (lgs hc0).1] at hd
    exact hd
   ·exact absurd hid hn
  ·intro hd
   refine ⟨_, (hmem _).2 (.inl rfl), hF.2.1, h0.2, ?_⟩
   rw [List.getElem?_set_self (lgs hc0).1]
   exact hd
 ·rw [if_neg hp, getR_mem hA]
  constructor
  ·rintro ⟨y, hy, hid, hj, hd⟩
   rcases (hmem y).1 hy with rfl | ⟨hy, hn⟩
   ·have hpo : p = o := hid.symm.trans hF.2.1
    refine ⟨x, List.mem_of_getElem? hx, hid, hj, ?_⟩
    rw [List.getElem?_set_ne (fun e => hp ⟨hpo, by omega⟩)] at hd
    exact hd
   ·exact ⟨y, hy, hid, hj, hd⟩
  ·rintro ⟨y, hy, hid, hj, hd⟩
   by_cases hyo : y.id = o
   ·have : y = x := asc_eq hA hy (List.mem_of_getElem? hx) (hyo.trans hF.2.1.symm)
    subst this
    refine ⟨_, (hmem _).2 (.inl rfl), hid, hj, ?_⟩
    rw [List.getElem?_set_ne (fun e => hp ⟨hid.symm.trans hyo, by omega⟩)]
    exact hd
   ·exact ⟨y, (hmem y).2 (.inr ⟨hy, hyo⟩), hid, hj, hd⟩
theorem setN_zero {L : List Sn} {o i : Int} {c : Cp} : setN L o i c = 0 ↔ gn L o i = 0 ∧ mayC c = true := by
 unfold setN gn getN
 cases getR L o i with
 | none => simp
 | some d =>
  cases mayC c <;> simp
theorem gn_or (L : List Sn) (o i : Int) : gn L o i = 0 ∨ (gn L o i = 3 ∧ gt L o i = zC) := by
 unfold gn gt getN
 cases getR L o i with
 | none => exact .inr ⟨rfl, rfl⟩
 | some d => exact .inl rfl
theorem gn_of {L : List Sn} {o i : Int} (h : (gt L o i).a ≠ 0) : gn L o i = 0 := by
 rcases gn_or L o i with q | ⟨_, q⟩
 ·exact q
 ·rw [q] at h; exact (h rfl).elim
theorem gt_set {L : List Sn} (hA : Asc (rowsS L)) {o i : Int} {c : Cp} (h0 : gn L o i = 0) (hm : mayC c = true) (p j : Int) : gt (setM L o i c) p j = if p = o ∧ j = i then c else gt L p j := by
 unfold gt
 rw [(set_shape hA (setN_zero.2 ⟨h0, hm⟩)).2]
 split <;> rfl
theorem gn_set {L : List Sn} (hA : Asc (rowsS L)) {o i : Int} {c : Cp} (h0 : gn L o i = 0) (hm : mayC c = true) (p j : Int) : gn (setM L o i c) p j = gn L p j := by
 have h0' := h0
 unfold gn at h0' ⊢
 rw [(set_shape hA (setN_zero.2 ⟨h0, hm⟩)).2]
 split
 ·rename_i h; obtain ⟨rfl, rfl⟩ := h; rw [h0']; rfl
 ·rfl
theorem asc_set {L : List Sn} (hA : Asc (rowsS L)) (o i : Int) (c : Cp) : Asc (rowsS (setM L o i c)) := by
 by_cases h : setN L o i c = 0
 ·rw [(set_shape hA h).1]; exact hA
 ·unfold setM; rw [if_neg h]; exact hA
theorem in_mem {l : List Nod} {o i : Int} : (idx l o i).isSome = true ↔ ∃ x ∈ l, x.o = o ∧ x.i = i := by
 constructor
 ·intro h
  obtain ⟨k, hk⟩ := Option.isSome_iff_exists.1 h
  obtain ⟨x, hx, h1⟩ := idx_some hk
  exact ⟨x, List.mem_of_getElem? hx, h1⟩
 ·rintro ⟨x, hx, h1⟩
  obtain ⟨k, hk⟩ := List.mem_iff_getElem?.1 hx
  cases e : idx l o i with
  | none => exact absurd h1 (idx_none e hk)
  | some t => rfl
theorem in_ins {l : List Nod} {q : Nat} (hq : q ≤ l.length) (x : Nod) (o i : Int) : (idx (l.insertIdx q x) o i).isSome = true ↔ (x.o = o ∧ x.i = i) ∨ (idx l o i).isSome = true := by
 rw [in_mem, in_mem]
 constructor
 ·rintro ⟨y, hy, h⟩
  rcases (List.mem_insertIdx hq).1 hy with rfl | hy
  ·exact .inl h
  ·exact .inr ⟨y, hy, h⟩
 ·rintro (h | ⟨y, hy, h⟩)
  ·exact ⟨x, (List.mem_insertIdx hq).2 (.inl rfl), h⟩
  ·exact ⟨y, (List.mem_insertIdx hq).2 (.inr hy), h⟩
structure Inv (L : List Sn) (l : List Nod) : Prop where
 asc : Asc (rowsS L)
 tr : ∀ o i, (idx l o i).isSome = true ↔ (gt L o i).a ≠ 0
 may : ∀ o i, mayC (gt L o i) = true
 e : ∀ o i, (gt L o i).e ≤ 9223372036854775807
 dep : Dep l
 once : Once l
theorem inv_nil : Inv [] [] := by
 have hz : ∀ o i, gt [] o i = zC := fun o i => rfl
 refine ⟨List.Pairwise.nil, fun o i => ?_, fun o i => ?_, fun o i => ?_, dep_nil, fun k j x y h => by simp at h⟩
 ·rw [hz]
  constructor
  ·intro h; cases h
  ·intro h; exact (h rfl).elim
 ·rw [hz]; decide +kernel
 ·rw [hz]; decide
theorem may_zero : mayC zC = true := by decide +kernel
theorem zero_of {c : Cp} (h : mayC c = true) (h0 : c.a = 0) : c = zC := by
 obtain ⟨a, b, x, d, e, f, g, i⟩ := c
 unfold mayC CX.capB at h
 simp only at h h0
 rw [if_pos (.inl h0)] at h
 have := of_decide_eq_true h
 obtain ⟨rfl, rfl, rfl, rfl, rfl, rfl, rfl⟩ := this
 subst h0
 rfl
theorem Inv.full {L : List Sn} {l : List Nod} (h : Inv L l) {o i : Int} : (idx l o i).isSome = true ↔ fullN L o i = 0 := by
 rw [h.tr]
 constructor
 ·intro q
  unfold fullN
  rw [if_neg (fun e => q e.2)]
  exact gn_of q
 ·intro q
  exact (fullN_zero q).2
theorem Inv.put {L : List Sn} {l l' : List Nod} (h : Inv L l) {o i : Int} {c : Cp} (h0 : gn L o i = 0) (hm : someB c = true) (he : c.e ≤ 9223372036854775807) (hd : Dep l') (hO : Once l') (hl : ∀ p j, (idx l' p j).isSome = true ↔ (o = p ∧ i = j) ∨ (idx l p j).isSome = true) : Inv (setM L o i c) l' := by
 obtain ⟨hm, ha⟩ : mayC c = true ∧ c.a ≠ 0 := by
  unfold someB at hm
  simpa using hm
 have hg := gt_set h.asc h0 hm
 refine ⟨asc_set h.asc o i c, fun p j => ?_, fun p j => ?_, fun p j => ?_, hd, hO⟩
 ·rw [hl, hg]
  by_cases q : p = o ∧ j = i
  ·rw [if_pos q]
   exact ⟨fun _ => ha, fun _ => .inl ⟨q.1.symm, q.2.symm⟩⟩
  ·rw [if_neg q, ← h.tr]
   exact ⟨fun z => z.elim (fun z => (q ⟨z.1.symm, z.2.symm⟩).elim) id, .inr⟩
 ·rw [hg]; split
  ·exact hm
  ·exact h.may _ _
 ·rw [hg]; split
  ·exact he
  ·exact h.e _ _
theorem Inv.root {L : List Sn} {l : List Nod} (h : Inv L l) {o i : Int} {c : Cp} (hon : rootOn L o i c) (he : c.e ≤ 9223372036854775807) (hO : Once (rootA l o i).1) : Inv (setM L o i c) (rootA l o i).1 ∧ (rootA l o i).2 = 0 := by
 obtain ⟨h0, hm, ha⟩ := hon
 have hn : ¬ (idx l o i).isSome = true := fun e => (h.tr o i).1 e ha
 have hD := dep_root h.dep o i
 unfold rootA at hO hD ⊢
 rw [if_neg hn] at hO hD ⊢
 exact ⟨h.put h0 hm he hD hO (fun p j => in_ins (Nat.le_refl _) _ p j), rfl⟩
theorem Inv.child {L : List Sn} {l : List Nod} (h : Inv L l) {o i p j : Int} {c : Cp} (hon : childOn L o i p j c) (he : c.e ≤ 9223372036854775807) (hO : Once (childA l o i p j).1) : Inv (setM L p j c) (childA l o i p j).1 ∧ (childA l o i p j).2 = 0 := by
 obtain ⟨hp, hm⟩ := hon
 obtain ⟨h0, hf, ha⟩ := pairN_zero hp
 obtain ⟨k, hk⟩ := Option.isSome_iff_exists.1 (h.full.2 hf)
 have hn : ¬ (idx l p j).isSome = true := fun e => (h.tr p j).1 e ha
 have hD := dep_child h.dep o i p j
 unfold childA at hO hD ⊢
 rw [hk] at hO hD ⊢
 simp only [] at hO hD ⊢
 rw [if_neg hn] at hO hD ⊢
 obtain ⟨x, hx, _⟩ := idx_some hk
 exact ⟨h.put h0 hm he hD hO (fun p j => in_ins (lgs hx).1 _ p j), rfl⟩
theorem in_swap {l : List Nod} (o i p j a c : Int) : (idx (swapA l o i p j) a c).isSome = true ↔ (idx l (sw o i p j ⟨a, c, 0⟩).o (sw o i p j ⟨a, c, 0⟩).i).isSome = true := by
 rw [in_mem, in_mem]
 unfold swapA
 constructor
 ·rintro ⟨y, hy, h⟩
  obtain ⟨x, hx, rfl⟩ := List.mem_map.1 hy
  exact ⟨x, hx, (sw_slot o i p j x a c).1 h⟩
 ·rintro ⟨x, hx, h⟩
  exact ⟨_, List.mem_map.2 ⟨x, hx, rfl⟩, (sw_slot o i p j x a c).2 h⟩
theorem gt_swap {L : List Sn} {l : List Nod} (h : Inv L l) {o i p j : Int} (h0 : gn L o i = 0) (h1 : gn L p j = 0) (a c : Int) : gt (swapL L o i p j) a c = gt L (sw o i p j ⟨a, c, 0⟩).o (sw o i p j ⟨a, c, 0⟩).i := by
 unfold swapL
 rw [gt_set (asc_set h.asc _ _ _) ((gn_set h.asc h0 (h.may _ _) p j).trans h1) (h.may _ _), gt_set h.asc h0 (h.may _ _)]
 unfold sw
 simp only []
 by_cases q1 : a = p ∧ c = j
 ·rw [if_pos q1]
  obtain ⟨rfl, rfl⟩ := q1
  by_cases q2 : a = o ∧ c = i
  ·rw [if_pos q2]; obtain ⟨rfl, rfl⟩ := q2; rfl
  ·rw [if_neg q2, if_pos ⟨rfl, rfl⟩]
 ·rw [if_neg q1]
  by_cases q2 : a = o ∧ c = i
  ·rw [if_pos q2, if_pos q2]
  ·rw [if_neg q2, if_neg q2, if_neg q1]
theorem Inv.swap {L : List Sn} {l : List Nod} (h : Inv L l) {o i p j : Int} (h0 : gn L o i = 0) (h1 : gn L p j = 0) (hO : Once (swapA l o i p j)) : Inv (swapL L o i p j) (swapA l o i p j) := by
 have hg := gt_swap h h0 h1
 refine ⟨asc_set (asc_set h.asc _ _ _) _ _ _, fun a c => ?_, fun a c => ?_, fun a c => ?_, dep_swap h.dep o i p j, hO⟩
 ·rw [in_swap, hg, h.tr]
 ·rw [hg]; exact h.may _ _
 ·rw [hg]; exact h.e _ _
theorem Inv.clear {L : List Sn} {l : List Nod} (h : Inv L l) {o i : Int} (hf : fullN L o i = 0) (hO : Once (removeA l o i).1) : Inv (setM L o i zC) (removeA l o i).1 ∧ (removeA l o i).2 = 0 := by
 obtain ⟨k, hk⟩ := Option.isSome_iff_exists.1 (h.full.2 hf)
 obtain ⟨x, hx, rfl, rfl⟩ := idx_some hk
 have hD := dep_remove h.dep x.o x.i
 rw [remove_eq h.once hx] at hO hD ⊢
 have hg := gt_set h.asc (fullN_zero hf).1 may_zero
 refine ⟨⟨asc_set h.asc _ _ _, fun p j => ?_, fun p j => ?_, fun p j => ?_, hD, hO⟩, rfl⟩
 ·rw [hg]
  by_cases q : p = x.o ∧ j = x.i
  ·rw [if_pos q]
   obtain ⟨rfl, rfl⟩ := q
   rw [rem_gone h.once hx]
   exact ⟨fun z => (by cases z), fun z => (z rfl).elim⟩
  ·rw [if_neg q, ← h.tr, in_mem, in_mem]
   constructor
   ·rintro ⟨y, hy, h1, h2⟩
    obtain ⟨t, ht⟩ := List.mem_iff_getElem?.1 hy
    obtain ⟨z, hz, e1, e2⟩ := rem_slot ht
    exact ⟨z, List.mem_of_getElem? hz, e1.symm.trans h1, e2.symm.trans h2⟩
   ·rintro ⟨y, hy, h1, h2⟩
    obtain ⟨t, ht⟩ := List.mem_iff_getElem?.1 hy
    obtain ⟨z, hz, e1, e2⟩ := rem_at (k := k) (fun e => q (by subst e; rw [hx] at ht; cases ht; exact ⟨h1.symm, h2.symm⟩)) ht
    exact ⟨z, List.mem_of_getElem? hz, e1.trans h1, e2.trans h2⟩
 ·rw [hg]; split
  ·exact may_zero
  ·exact h.may _ _
 ·rw [hg]; split
  ·decide
  ·exact h.e _ _
theorem Inv.set {L : List Sn} {l : List Nod} (h : Inv L l) {o i : Int} {c : Cp} (hf : (gt L o i).a ≠ 0) (hm : mayC c = true) (ha : c.a ≠ 0) (he : c.e ≤ 9223372036854775807) : Inv (setM L o i c) l := by
 have hg := gt_set h.asc (gn_of hf) hm
 refine ⟨asc_set h.asc _ _ _, fun p j => ?_, fun p j => ?_, fun p j => ?_, h.dep, h.once⟩
 ·rw [hg, h.tr]
  by_cases q : p = o ∧ j = i
  ·rw [if_pos q]; obtain ⟨rfl, rfl⟩ := q; exact ⟨fun _ => ha, fun _ => hf⟩
  ·rw [if_neg q]
 ·rw [hg]; split
  ·exact hm
  ·exact h.may _ _
 ·rw [hg]; split
  ·exact he
  ·exact h.e _ _
theorem Inv.same {L L' : List Sn} {l : List Nod} (h : Inv L l) (hA : Asc (rowsS L')) (hg : ∀ o i, gt L' o i = gt L o i) : Inv L' l :=
 ⟨hA, fun o i => by rw [hg]; exact h.tr o i, fun o i => by rw [hg]; exact h.may o i, fun o i => by rw [hg]; exact h.e o i, h.dep, h.once⟩
theorem gt_mem {L L' : List Sn} (hA : Asc (rowsS L)) (hA' : Asc (rowsS L')) (h1 : ∀ (x : Sn) (k : Nat) (c : Cp), x ∈ L → x.l[k]? = some c → c.a ≠ 0 → x ∈ L') (h2 : ∀ (x : Sn) (k : Nat) (c : Cp), x ∈ L' → x.l[k]? = some c → c ≠ zC → x ∈ L) (hz : ∀ (x : Sn) (k : Nat) (c : Cp), x ∈ L → x.l[k]? = some c → c.a = 0 → c = zC) (o i : Int) : gt L' o i = gt L o i := by
 unfold gt
 cases e : getR L o i with
 | some c =>
  obtain ⟨x, hx, hid, h0, hc⟩ := (getR_mem hA).1 e
  by_cases ha : c.a = 0
  ·have hcz := hz x _ c hx hc ha
   subst hcz
   cases e' : getR L' o i with
   | none => rfl
   | some d =>
    obtain ⟨y, hy, hid', _, hd⟩ := (getR_mem hA').1 e'
    by_cases q : d = zC
    ·rw [q]
    ·have := h2 y _ d hy hd q
     have := asc_eq hA this hx (hid'.trans hid.symm)
     subst this
     rw [hc] at hd
     exact (q (Option.some.inj hd).symm).elim
  ·rw [(getR_mem hA').2 ⟨x, h1 x _ c hx hc ha, hid, h0, hc⟩]
 | none =>
  cases e' : getR L' o i with
  | none => rfl
  | some d =>
   obtain ⟨y, hy, hid', h0, hd⟩ := (getR_mem hA').1 e'
   by_cases q : d = zC
   ·rw [q]; rfl
   ·rw [(getR_mem hA).2 ⟨y, h2 y _ d hy hd q, hid', h0, hd⟩] at e
    cases e
theorem Inv.zer {L : List Sn} {l : List Nod} (h : Inv L l) {x : Sn} {k : Nat} {c : Cp} (hx : x ∈ L) (hc : x.l[k]? = some c) (ha : c.a = 0) : c = zC := by
 have : gt L x.id k = c := by
  unfold gt
  rw [(getR_mem h.asc).2 ⟨x, hx, rfl, by omega, by simpa using hc⟩]
  rfl
 exact zero_of (this ▸ h.may x.id k) ha
theorem Inv.add {L L' : List Sn} {l : List Nod} (h : Inv L l) {id n : Int} (hr : AddRel L id n L') (hA : Asc (rowsS L')) : Inv L' l := by
 rcases hr with ⟨h0, g, rfl⟩ | ⟨_, rfl⟩
 ·refine h.same hA (gt_mem h.asc hA (fun x k c hx _ _ => ?_) (fun x k c hx hc hn => ?_) (fun x k c hx hc ha => h.zer hx hc ha))
  ·unfold insS
   rw [← List.take_append_drop (posS L (⟨id, g, List.replicate n.toNat zC⟩ : Sn).id) L] at hx
   rcases List.mem_append.1 hx with q | q
   ·exact List.mem_append.2 (.inl q)
   ·exact List.mem_append.2 (.inr (List.mem_cons_of_mem _ q))
  ·rcases TabS.mem_insS hx with rfl | q
   ·have := List.mem_of_getElem? hc
    exact (hn (List.eq_of_mem_replicate this)).elim
   ·exact q
 ·exact h
theorem held_none {id : Int} : ∀ {l : List Cp} {o : Nat}, (TabS.heldL id o l).length = 0 → ∀ c ∈ l, c.a = 0
 | [], _, _, c, hc => by cases hc
 | d :: l, o, h, c, hc => by
  unfold TabS.heldL at h
  by_cases hd : d.a = 0
  ·rw [if_pos hd] at h
   rcases List.mem_cons.1 hc with rfl | q
   ·exact hd
   ·exact held_none h c q
  ·rw [if_neg hd] at h
   simp at h
theorem Inv.drop {L : List Sn} {l : List Nod} (h : Inv L l) (id : Int) (hA : Asc (rowsS (dropSL L id))) : Inv (dropSL L id) l := by
 unfold dropSL at hA ⊢
 by_cases h0 : dropSR L id = 0
 ·rw [if_pos h0] at hA ⊢
  have hx : ∃ x, L[posS L id]? = some x ∧ (TabS.heldL id 0 x.l).length = 0 := by
   unfold dropSR at h0
   split at h0
   ·cases hx : L[posS L id]? with
    | none => rw [hx] at h0; cases h0
    | some x =>
     rw [hx] at h0
     simp only [] at h0
     split at h0
     ·rename_i q; exact ⟨x, rfl, q⟩
     ·cases h0
   ·cases h0
  obtain ⟨x, hx, hn⟩ := hx
  have hL : L = L.take (posS L id) ++ x :: L.drop (posS L id + 1) := by
   obtain ⟨q1, q2⟩ := lgs hx
   have q3 := List.drop_eq_getElem_cons q1
   rw [q2] at q3
   rw [← q3, List.take_append_drop]
  refine h.same hA (gt_mem h.asc hA (fun y k c hy hc ha => ?_) (fun y k c hy _ _ => ?_) (fun y k c hy hc ha => h.zer hy hc ha))
  ·rw [hL] at hy
   rcases List.mem_append.1 hy with q | q
   ·exact List.mem_append.2 (.inl q)
   ·rcases List.mem_cons.1 q with rfl | q
    ·exact (ha (held_none hn c (List.mem_of_getElem? hc))).elim
    ·exact List.mem_append.2 (.inr q)
  ·rw [hL]
   rcases List.mem_append.1 hy with q | q
   ·exact List.mem_append.2 (.inl q)
   ·exact List.mem_append.2 (.inr (List.mem_cons_of_mem _ q))
 ·rw [if_neg h0]; exact h
theorem same_of_get {L M : List Sn} (hA : Asc (rowsS L)) (hM : Asc (rowsS M)) (hk : L.map (fun x => (x.id, x.l.length)) = M.map (fun x => (x.id, x.l.length))) (hg : ∀ o i, getR L o i = getR M o i) : SameS L M := by
 unfold SameS
 refine List.ext_getElem? fun t => ?_
 rw [List.getElem?_map, List.getElem?_map]
 have hk' := congrArg (fun z => z[t]?) hk
 simp only [List.getElem?_map] at hk'
 cases hx : L[t]? with
 | none =>
  rw [hx] at hk'
  cases hy : M[t]? with
  | none => rfl
  | some y => rw [hy] at hk'; cases hk'
 | some x =>
  rw [hx] at hk'
  cases hy : M[t]? with
  | none => rw [hy] at hk'; cases hk'
  | some y =>
   rw [hy] at hk'
   simp at hk'
   obtain ⟨e1, e2⟩ := hk'
   simp only [Option.map_some, TabS.abS, e1]
   congr 2
   refine List.ext_getElem? fun k => ?_
   by_cases hl : k < x.l.length
   ·have h1 := (getR_mem hA (id := x.id) (ix := k)).2 ⟨x, List.mem_of_getElem? hx, rfl, by omega, by rw [Int.toNat_natCast]; exact List.getElem?_eq_getElem hl⟩
    rw [hg] at h1
    obtain ⟨z, hz, hid, _, hc⟩ := (getR_mem hM).1 h1
    have := asc_eq hM hz (List.mem_of_getElem? hy) (hid.trans e1)
    subst this
    rw [List.getElem?_eq_getElem hl]
    simpa using hc.symm
   ·rw [List.getElem?_eq_none (by omega), List.getElem?_eq_none (by omega)]
theorem set_keys {L : List Sn} (hA : Asc (rowsS L)) (o i : Int) (c : Cp) : (setM L o i c).map (fun x => (x.id, x.l.length)) = L.map (fun x => (x.id, x.l.length)) := by
 unfold setM
 split
 ·cases hx : L[posS L o]? with
  | none => rfl
  | some x =>
   simp only []
   unfold putS
   rw [List.map_set]
   refine List.ext_getElem? fun t => ?_
   by_cases h : posS L o = t
   ·subst h
    rw [List.getElem?_set_self (by simpa using (lgs hx).1), List.getElem?_map, hx]
    simp
   ·rw [List.getElem?_set_ne h]
 ·rfl
def moveM (M : List Sn) (o i p j : Int) : List Sn := setM (setM M p j (gt M o i)) o i zC
theorem move_same {L M : List Sn} {l : List Nod} (h : Inv L l) (hs : SameS L M) {o i p j : Int} (hp : pairN L o i p j = 0) : SameS (swapL L o i p j) (moveM M o i p j) := by
 obtain ⟨h1, hf, ha⟩ := pairN_zero hp
 obtain ⟨h0, ha'⟩ := fullN_zero hf
 have hne : ¬ (p = o ∧ j = i) := by rintro ⟨rfl, rfl⟩; exact ha' ha
 have hz : gt L p j = zC := zero_of (h.may p j) ha
 have hMA := hs.asc h.asc
 have hgM : ∀ a c, gt M a c = gt L a c := fun a c => by unfold gt; rw [TabS.getR_same hs]
 have hnM : ∀ a c, gn M a c = gn L a c := fun a c => by unfold gn; rw [TabS.getR_same hs]
 have e1 : SameS (swapL L o i p j) (swapL M o i p j) := by
  unfold swapL
  rw [hgM, hgM]
  exact (TabS.set_same (TabS.set_same hs _ _ _).2 _ _ _).2
 have hm : mayC (gt M o i) = true := by rw [hgM]; exact h.may o i
 have hmz : mayC (gt M p j) = true := by rw [hgM]; exact h.may p j
 refine Eq.trans e1 (same_of_get (asc_set (asc_set hMA _ _ _) _ _ _) (asc_set (asc_set hMA _ _ _) _ _ _) ?_ (fun a c => ?_))
 ·unfold swapL moveM
  rw [set_keys (asc_set hMA _ _ _), set_keys hMA, set_keys (asc_set hMA _ _ _), set_keys hMA]
 ·unfold swapL moveM
  have n1 : gn (setM M o i (gt M p j)) p j = 0 := (gn_set hMA ((hnM o i).trans h0) hmz p j).trans ((hnM p j).trans h1)
  have n2 : gn (setM M p j (gt M o i)) o i = 0 := (gn_set hMA ((hnM p j).trans h1) hm o i).trans ((hnM o i).trans h0)
  rw [(set_shape (asc_set hMA _ _ _) (setN_zero.2 ⟨n1, hm⟩)).2, (set_shape hMA (setN_zero.2 ⟨(hnM o i).trans h0, hmz⟩)).2, (set_shape (asc_set hMA _ _ _) (setN_zero.2 ⟨n2, may_zero⟩)).2, (set_shape hMA (setN_zero.2 ⟨(hnM p j).trans h1, hm⟩)).2]
  by_cases q1 : a = p ∧ c = j
  ·rw [if_pos q1, if_neg (fun q2 => hne ⟨q1.1.symm.trans q2.1, q1.2.symm.trans q2.2⟩), if_pos q1]
  ·rw [if_neg q1, if_neg q1, hgM, hz]
theorem moveA_eq {L : List Sn} {l : List Nod} (h : Inv L l) {o i p j : Int} (hp : pairN L o i p j = 0) : moveA l o i p j = (swapA l o i p j, 0) := by
 obtain ⟨h1, hf, ha⟩ := pairN_zero hp
 unfold moveA
 rw [if_pos (h.full.2 hf), if_neg (fun e => (h.tr p j).1 e ha)]
end HdS
end
section
namespace HdS
open TabS (Cp Sn zC mayC sizS getR getN Two Pr FootP foot_ltP foot_ltR SameS AddRel addSR setN setM rowsS hasS dropSR dropSL heldA hdsC)
variable {W w w' : World} {s : Sh} {hb rhb n n' : Nat} {L M L' M' : List Sn} {l l2 l' l2' : List Nod} {S : Nat → Prop}
theorem Hd.mono (h : Hd W s hb rhb n L M l l2 S w) (hn : n ≤ n') : Hd W s hb rhb n' L M l l2 S w := ⟨h.bo.mono hn, h.hd, h.rh⟩
theorem Hd.same (h : Hd W s hb rhb n L M l l2 S w) (hB : Below w.heap.size w w') : SameK S w w' := fun k q => hB.block k (h.lt q)
def chB (L : List Sn) (o i p j : Int) (c : Cp) : Bool := decide (pairN L o i p j = 0) && someB c
theorem chB_on {L : List Sn} {o i p j : Int} {c : Cp} : chB L o i p j c = true ↔ childOn L o i p j c := by unfold chB childOn; simp
def chL (L : List Sn) (o i p j : Int) (c : Cp) : List Sn := if chB L o i p j c = true then setM L p j c else L
def chT (L : List Sn) (l : List Nod) (o i p j : Int) (c : Cp) : List Nod := if chB L o i p j c = true then (childA l o i p j).1 else l
theorem hchild (h : Hd W s hb rhb n L M l l2 S w) (hT0 : CX.TabG W) (o i p j : Int) (ho : InS o) (hi : InS i) (hp : InS p) (hj : InS j) (c : Cp) (he : c.e ≤ 9223372036854775807) (hnn : n < 1000000) :
  Calls Tryz.prog 35 #[.pointer (some ⟨hb, 0, none⟩), slV o i, slV p j, c.V] w fun e w' => e = .returned (.int .i64 (childN L l o i p j c)) ∧ Hd W s hb rhb (n + 1) (chL L o i p j c) M (chT L l o i p j c) l2 S w' ∧ SameK S w w' := by
 unfold chL chT
 cases hc : chB L o i p j c with
 | true =>
  have hon := chB_on.1 hc
  refine (hchild_yes h hT0 o i p j ho hi hp hj c he hnn hon).mono ?_
  rintro e w' ⟨he, h1, h2⟩
  refine ⟨?_, h1, h2⟩
  rw [he]
  unfold childN childF
  rw [hon.1, hon.2]
  rfl
 | false =>
  refine (hchild_no h hT0 o i p j c he (fun z => by rw [chB_on.2 z] at hc; cases hc)).mono ?_
  rintro e w' ⟨he, hB⟩
  exact ⟨he, (h.call hB).mono (Nat.le_succ n), h.same hB⟩
def derN (L : List Sn) (l : List Nod) (o i p j : Int) (r : Cp × Int) : Int := if pairN L o i p j ≠ 0 then pairN L o i p j else if r.2 ≠ 0 then r.2 else childN L l o i p j r.1
def derL (L : List Sn) (o i p j : Int) (r : Cp × Int) : List Sn := if pairN L o i p j = 0 ∧ r.2 = 0 then chL L o i p j r.1 else L
def derT (L : List Sn) (l : List Nod) (o i p j : Int) (r : Cp × Int) : List Nod := if pairN L o i p j = 0 ∧ r.2 = 0 then chT L l o i p j r.1 else l
theorem hcopyD (h : Hd W s hb rhb n L M l l2 S w) (hT0 : CX.TabG W) (o i p j : Int) (ho : InS o) (hi : InS i) (hp : InS p) (hj : InS j) (m : Int) (mB : Nat) (hx : (gt L o i).e ≤ 9223372036854775807) (hr : (cpy (gt L o i) m).1.e ≤ 9223372036854775807) (hm : w.cell? ⟨mB, 0, none⟩ = some (.int .i64 m)) (hz : mB < w.heap.size) (hnn : n < 1000000) :
  Calls Tryz.prog 61 #[.pointer (some ⟨hb, 0, none⟩), slV o i, slV p j, .func (.func 62) #[] #[.pointer (some ⟨mB, 0, none⟩)]] w fun e w' => e = .returned (.int .i64 (derN L l o i p j (cpy (gt L o i) m))) ∧ Hd W s hb rhb (n + 1) (derL L o i p j (cpy (gt L o i) m)) M (derT L l o i p j (cpy (gt L o i) m)) l2 S w' ∧ SameK S w w' := by
 have HCL : Hid (∀ v, Below w.heap.size w v → Calls Tryz.prog 62 (#[(gt L o i).V] ++ #[.pointer (some ⟨mB, 0, none⟩)]) v fun e w' => e = .returned (.tuple #[(cpy (gt L o i) m).1.V, .int .i64 (cpy (gt L o i) m).2]) ∧ Below v.heap.size v w') := hid (fun v hv => hcopy1 v (hT0.call (h.call hv).below) (gt L o i) m mB hx ((hv.cell (p := ⟨mB, 0, none⟩) hz).trans hm) (Nat.lt_of_lt_of_le hz hv.size))
 generalize (cpy (gt L o i) m) = r at *
 unfold derN derL derT
 by_cases hon : pairN L o i p j = 0
 ·obtain ⟨hb1, hs1, ht1⟩ := duo_boxes w o i p j
  obtain ⟨w1, hw1⟩ : ∃ y, y = (w.alloc (slO o i)).alloc (slO p j) := ⟨_, rfl⟩
  rw [← hw1] at hb1 hs1 ht1
  have HB1 := hid hb1
  have H1 := hid (h.call hb1)
  have HH := hid h
  have HS1 := hid hs1
  have HR1 := hid ht1
  have HG := hid (hpair H1.out o i p j)
  rw [pairC_zero hon, hon] at HG
  rw [if_neg (fun e => e hon)]
  have HCH := hid (fun (v : World) (hv : Hd W s hb rhb n L M l l2 S v) => hchild hv hT0 o i p j ho hi hp hj r.1 hr hnn)
  have HP := hid hon
  clear hon hr hT0 hnn hm hz ho hi hp hj hx
  obtain ⟨⟨ca, cb, cx, cd, ce, cf, cg, ch⟩, k⟩ := r
  obtain ⟨N, hN⟩ : ∃ y, y = childN L l o i p j ⟨ca, cb, cx, cd, ce, cf, cg, ch⟩ := ⟨_, rfl⟩
  obtain ⟨L2, hL2⟩ : ∃ y, y = chL L o i p j ⟨ca, cb, cx, cd, ce, cf, cg, ch⟩ := ⟨_, rfl⟩
  obtain ⟨l3, hl3⟩ : ∃ y, y = chT L l o i p j ⟨ca, cb, cx, cd, ce, cf, cg, ch⟩ := ⟨_, rfl⟩
  rw [← hN, ← hL2, ← hl3] at HCH
  simp only []
  rw [← hN, ← hL2, ← hl3]
  clear hN hL2 hl3
  obtain ⟨RN, hRN⟩ : ∃ y : Int, y = (if k ≠ 0 then k else N) := ⟨_, rfl⟩
  obtain ⟨RL, hRL⟩ : ∃ y : List Sn, y = (if pairN L o i p j = 0 ∧ k = 0 then L2 else L) := ⟨_, rfl⟩
  obtain ⟨RT, hRT⟩ : ∃ y : List Nod, y = (if pairN L o i p j = 0 ∧ k = 0 then l3 else l) := ⟨_, rfl⟩
  rw [← hRN, ← hRL, ← hRT]
  have HRN := hid hRN
  have HRL := hid hRL
  have HRT := hid hRT
  clear hRN hRL hRT
  generalize gt L o i = t at *
  obtain ⟨ta, tb, tx, td, te, tf, tg, th⟩ := t
  obtain ⟨k0, k1⟩ := slot_cells hs1
  obtain ⟨r0, r1⟩ := slot_cells ht1
  have HZ1 := hid (ags ht1).1
  have HZ0 := hid (ags hs1).1
  have HW := hid hw1
  clear h hb1 hs1 ht1 hw1
  go_enter Tryz.func61, Tryz.ntmps61
  go_upto_region 1 with fail
  rw [show ((w.alloc (slO o i)).alloc (slO p j)) = w1 from HW.out.symm]
  go_upto_region 4 with (go_at_call 68; (with_reducible refine HG.out.mono ?_); rintro e w2 ⟨rfl, hb2⟩; have HB2 := hid hb2; clear hb2)
  obtain ⟨w3, hw3⟩ : ∃ y, y = w2.alloc (.cells #[.int .i64 ta, .int .i64 tb, .int .i64 tx, .int .u64 td, .int .i64 te, .int .i64 tf, .int .i64 tg, .int .i64 th] 33) := ⟨_, rfl⟩
  have hb3 : Below w1.heap.size w1 w3 := hw3 ▸ bal HB2.out _
  have hx3 : w3.heap[w2.heap.size]? = some (.cells (⟨ta, tb, tx, td, te, tf, tg, th⟩ : Cp).L.toArray 33 (0, 0)) := by rw [hw3]; exact heap_alloc_new w2 _
  have HB13 := hid hb3
  have HB3 := hid (HB1.out.trans (hb3.mono HB1.out.size))
  have HC3 : Hid (Calls Tryz.prog 62 #[.agg #[.int .i64 ta, .int .i64 tb, .int .i64 tx, .int .u64 td, .int .i64 te, .int .i64 tf, .int .i64 tg, .int .i64 th], .pointer (some ⟨mB, 0, none⟩)] w3 fun e w' => e = .returned (.tuple #[.agg #[.int .i64 ca, .int .i64 cb, .int .i64 cx, .int .u64 cd, .int .i64 ce, .int .i64 cf, .int .i64 cg, .int .i64 ch], .int .i64 k]) ∧ Below w3.heap.size w3 w') := hid (HCL.out w3 HB3.out)
  have HS3 := hid ((hb3.block _ HZ0.out).trans HS1.out)
  have HR3 := hid ((hb3.block _ HZ1.out).trans HR1.out)
  rw [← hw3]
  generalize w2.heap.size = xB at *
  obtain ⟨x0, x1, x2, x3, x4, x5, x6, x7⟩ := cap_cells hx3
  simp only [] at x0 x1 x2 x3 x4 x5 x6 x7
  clear k0 k1 r0 r1 hw3 hb3 hx3 HG HS1 HR1 HB2
  go_upto_region 5 with (go_at_call 62; (with_reducible refine HC3.out.mono ?_); rintro e w4 ⟨rfl, hb4⟩; have HB4 := hid hb4; clear hb4)
  obtain ⟨w5, hw5⟩ : ∃ y, y = w4.alloc (.cells #[.int .i64 ca, .int .i64 cb, .int .i64 cx, .int .u64 cd, .int .i64 ce, .int .i64 cf, .int .i64 cg, .int .i64 ch] 33) := ⟨_, rfl⟩
  have hb5 : Below w3.heap.size w3 w5 := hw5 ▸ bal HB4.out _
  have hx5 : w5.heap[w4.heap.size]? = some (.cells (⟨ca, cb, cx, cd, ce, cf, cg, ch⟩ : Cp).L.toArray 33 (0, 0)) := by rw [hw5]; exact heap_alloc_new w4 _
  have HB5 := hid (HB3.out.trans (hb5.mono HB3.out.size))
  have hs5 := (hb5.block _ (ags HS3.out).1).trans HS3.out
  have ht5 := (hb5.block _ (ags HR3.out).1).trans HR3.out
  have HC5 := hid (HCH.out w5 (HH.out.call HB5.out))
  rw [← hw5]
  generalize w4.heap.size = yB at *
  clear x0 x1 x2 x3 x4 x5 x6 x7
  obtain ⟨x0, x1, x2, x3, x4, x5, x6, x7⟩ := cap_cells hx5
  simp only [] at x0 x1 x2 x3 x4 x5 x6 x7
  obtain ⟨k0, k1⟩ := slot_cells hs5
  obtain ⟨r0, r1⟩ := slot_cells ht5
  clear hw5 hb5 hx5 hs5 ht5 HS3 HR3 HCH HCL HC3 H1
  by_cases hk : k = 0
  ·subst hk
   obtain rfl : N = RN := Eq.symm (by rw [HRN.out, if_neg (fun e => e rfl)])
   obtain rfl : L2 = RL := Eq.symm (by rw [HRL.out, if_pos ⟨HP.out, rfl⟩])
   obtain rfl : l3 = RT := Eq.symm (by rw [HRT.out, if_pos ⟨HP.out, rfl⟩])
   go_wp2_with (go_at_call 35; (with_reducible refine HC5.out.mono ?_); rintro e w6 ⟨rfl, h6, hk6⟩; have H6 := hid h6; have HK6 := hid hk6; clear h6 hk6)
   go_ret
   exact ⟨rfl, H6.out, fun k q => (HK6.out k q).trans (HB5.out.block k (HH.out.lt q))⟩
  ·have HK := hid hk
   have hRN := HRN.out
   have hRL := HRL.out
   have hRT := HRT.out
   rw [if_pos hk] at hRN
   rw [if_neg (fun e => HK.out e.2)] at hRL hRT
   have hk' : (k == 0) = false := beq_eq_false_iff_ne.2 hk
   subst hRN hRL hRT
   go_wp2
   go_ret
   exact ⟨rfl, (HH.out.call HB5.out).mono (Nat.le_succ n), HH.out.same HB5.out⟩
 ·rw [if_pos hon, if_neg (fun e => hon e.1), if_neg (fun e => hon e.1)]
  refine (hderived_no h o i p j 62 #[.pointer (some ⟨mB, 0, none⟩)] r HCL.out hon).mono ?_
  rintro e w' ⟨he, hB⟩
  exact ⟨he, (h.call hB).mono (Nat.le_succ n), h.same hB⟩
theorem hmintD (h : Hd W s hb rhb n L M l l2 S w) (hT0 : CX.TabG W) (o i p j : Int) (ho : InS o) (hi : InS i) (hp : InS p) (hj : InS j) (m : Int) (d mB dB : Nat) (hx : (gt L o i).e ≤ 9223372036854775807) (hr : (mnt (gt L o i) m d).1.e ≤ 9223372036854775807) (hd : d < 2 ^ 64) (hm : w.cell? ⟨mB, 0, none⟩ = some (.int .i64 m)) (hz : mB < w.heap.size) (hn : w.cell? ⟨dB, 0, none⟩ = some (.int .u64 d)) (hy : dB < w.heap.size) (hnn : n < 1000000) :
  Calls Tryz.prog 61 #[.pointer (some ⟨hb, 0, none⟩), slV o i, slV p j, .func (.func 64) #[] #[.pointer (some ⟨mB, 0, none⟩), .pointer (some ⟨dB, 0, none⟩)]] w fun e w' => e = .returned (.int .i64 (derN L l o i p j (mnt (gt L o i) m d))) ∧ Hd W s hb rhb (n + 1) (derL L o i p j (mnt (gt L o i) m d)) M (derT L l o i p j (mnt (gt L o i) m d)) l2 S w' ∧ SameK S w w' := by
 have HCL : Hid (∀ v, Below w.heap.size w v → Calls Tryz.prog 64 (#[(gt L o i).V] ++ #[.pointer (some ⟨mB, 0, none⟩), .pointer (some ⟨dB, 0, none⟩)]) v fun e w' => e = .returned (.tuple #[(mnt (gt L o i) m d).1.V, .int .i64 (mnt (gt L o i) m d).2]) ∧ Below v.heap.size v w') := hid (fun v hv => hmint1 v (hT0.call (h.call hv).below) (gt L o i) m d mB dB hx hd ((hv.cell (p := ⟨mB, 0, none⟩) hz).trans hm) (Nat.lt_of_lt_of_le hz hv.size) ((hv.cell (p := ⟨dB, 0, none⟩) hy).trans hn) (Nat.lt_of_lt_of_le hy hv.size))
 generalize (mnt (gt L o i) m d) = r at *
 unfold derN derL derT
 by_cases hon : pairN L o i p j = 0
 ·obtain ⟨hb1, hs1, ht1⟩ := duo_boxes w o i p j
  obtain ⟨w1, hw1⟩ : ∃ y, y = (w.alloc (slO o i)).alloc (slO p j) := ⟨_, rfl⟩
  rw [← hw1] at hb1 hs1 ht1
  have HB1 := hid hb1
  have H1 := hid (h.call hb1)
  have HH := hid h
  have HS1 := hid hs1
  have HR1 := hid ht1
  have HG := hid (hpair H1.out o i p j)
  rw [pairC_zero hon, hon] at HG
  rw [if_neg (fun e => e hon)]
  have HCH := hid (fun (v : World) (hv : Hd W s hb rhb n L M l l2 S v) => hchild hv hT0 o i p j ho hi hp hj r.1 hr hnn)
  have HP := hid hon
  clear hon hr hT0 hnn hm hz hn hy hd ho hi hp hj hx
  obtain ⟨⟨ca, cb, cx, cd, ce, cf, cg, ch⟩, k⟩ := r
  obtain ⟨N, hN⟩ : ∃ y, y = childN L l o i p j ⟨ca, cb, cx, cd, ce, cf, cg, ch⟩ := ⟨_, rfl⟩
  obtain ⟨L2, hL2⟩ : ∃ y, y = chL L o i p j ⟨ca, cb, cx, cd, ce, cf, cg, ch⟩ := ⟨_, rfl⟩
  obtain ⟨l3, hl3⟩ : ∃ y, y = chT L l o i p j ⟨ca, cb, cx, cd, ce, cf, cg, ch⟩ := ⟨_, rfl⟩
  rw [← hN, ← hL2, ← hl3] at HCH
  simp only []
  rw [← hN, ← hL2, ← hl3]
  clear hN hL2 hl3
  obtain ⟨RN, hRN⟩ : ∃ y : Int, y = (if k ≠ 0 then k else N) := ⟨_, rfl⟩
  obtain ⟨RL, hRL⟩ : ∃ y : List Sn, y = (if pairN L o i p j = 0 ∧ k = 0 then L2 else L) := ⟨_, rfl⟩
  obtain ⟨RT, hRT⟩ : ∃ y : List Nod, y = (if pairN L o i p j = 0 ∧ k = 0 then l3 else l) := ⟨_, rfl⟩
  rw [← hRN, ← hRL, ← hRT]
  have HRN := hid hRN
  have HRL := hid hRL
  have HRT := hid hRT
  clear hRN hRL hRT
  generalize gt L o i = t at *
  obtain ⟨ta, tb, tx, td, te, tf, tg, th⟩ := t
  obtain ⟨k0, k1⟩ := slot_cells hs1
  obtain ⟨r0, r1⟩ := slot_cells ht1
  have HZ1 := hid (ags ht1).1
  have HZ0 := hid (ags hs1).1
  have HW := hid hw1
  clear h hb1 hs1 ht1 hw1
  go_enter Tryz.func61, Tryz.ntmps61
  go_upto_region 1 with fail
  rw [show ((w.alloc (slO o i)).alloc (slO p j)) = w1 from HW.out.symm]
  go_upto_region 4 with (go_at_call 68; (with_reducible refine HG.out.mono ?_); rintro e w2 ⟨rfl, hb2⟩; have HB2 := hid hb2; clear hb2)
  obtain ⟨w3, hw3⟩ : ∃ y, y = w2.alloc (.cells #[.int .i64 ta, .int .i64 tb, .int .i64 tx, .int .u64 td, .int .i64 te, .int .i64 tf, .int .i64 tg, .int .i64 th] 33) := ⟨_, rfl⟩
  have hb3 : Below w1.heap.size w1 w3 := hw3 ▸ bal HB2.out _
  have hx3 : w3.heap[w2.heap.size]? = some (.cells (⟨ta, tb, tx, td, te, tf, tg, th⟩ : Cp).L.toArray 33 (0, 0)) := by rw [hw3]; exact heap_alloc_new w2 _
  have HB13 := hid hb3
  have HB3 := hid (HB1.out.trans (hb3.mono HB1.out.size))
  have HC3 : Hid (Calls Tryz.prog 64 #[.agg #[.int .i64 ta, .int .i64 tb, .int .i64 tx, .int .u64 td, .int .i64 te, .int .i64 tf, .int .i64 tg, .int .i64 th], .pointer (some ⟨mB, 0, none⟩), .pointer (some ⟨dB, 0, none⟩)] w3 fun e w' => e = .returned (.tuple #[.agg #[.int .i64 ca, .int .i64 cb, .int .i64 cx, .int .u64 cd, .int .i64 ce, .int .i64 cf, .int .i64 cg, .int .i64 ch], .int .i64 k]) ∧ Below w3.heap.size w3 w') := hid (HCL.out w3 HB3.out)
  have HS3 := hid ((hb3.block _ HZ0.out).trans HS1.out)
  have HR3 := hid ((hb3.block _ HZ1.out).trans HR1.out)
  rw [← hw3]
  generalize w2.heap.size = xB at *
  obtain ⟨x0, x1, x2, x3, x4, x5, x6, x7⟩ := cap_cells hx3
  simp only [] at x0 x1 x2 x3 x4 x5 x6 x7
  clear k0 k1 r0 r1 hw3 hb3 hx3 HG HS1 HR1 HB2
  go_upto_region 5 with (go_at_call 64; (with_reducible refine HC3.out.mono ?_); rintro e w4 ⟨rfl, hb4⟩; have HB4 := hid hb4; clear hb4)
  obtain ⟨w5, hw5⟩ : ∃ y, y = w4.alloc (.cells #[.int .i64 ca, .int .i64 cb, .int .i64 cx, .int .u64 cd, .int .i64 ce, .int .i64 cf, .int .i64 cg, .int .i64 ch] 33) := ⟨_, rfl⟩
  have hb5 : Below w3.heap.size w3 w5 := hw5 ▸ bal HB4.out _
  have hx5 : w5.heap[w4.heap.size]? = some (.cells (⟨ca, cb, cx, cd, ce, cf, cg, ch⟩ : Cp).L.toArray 33 (0, 0)) := by rw [hw5]; exact heap_alloc_new w4 _
  have HB5 := hid (HB3.out.trans (hb5.mono HB3.out.size))
  have hs5 := (hb5.block _ (ags HS3.out).1).trans HS3.out
  have ht5 := (hb5.block _ (ags HR3.out).1).trans HR3.out
  have HC5 := hid (HCH.out w5 (HH.out.call HB5.out))
  rw [← hw5]
  generalize w4.heap.size = yB at *
  clear x0 x1 x2 x3 x4 x5 x6 x7
  obtain ⟨x0, x1, x2, x3, x4, x5, x6, x7⟩ := cap_cells hx5
  simp only [] at x0 x1 x2 x3 x4 x5 x6 x7
  obtain ⟨k0, k1⟩ := slot_cells hs5
  obtain ⟨r0, r1⟩ := slot_cells ht5
  clear hw5 hb5 hx5 hs5 ht5 HS3 HR3 HCH HCL HC3 H1
  by_cases hk : k = 0
  ·subst hk
   obtain rfl : N = RN := Eq.symm (by rw [HRN.out, if_neg (fun e => e rfl)])
   obtain rfl : L2 = RL := Eq.symm (by rw [HRL.out, if_pos ⟨HP.out, rfl⟩])
   obtain rfl : l3 = RT := Eq.symm (by rw [HRT.out, if_pos ⟨HP.out, rfl⟩])
   go_wp2_with (go_at_call 35; (with_reducible refine HC5.out.mono ?_); rintro e w6 ⟨rfl, h6, hk6⟩; have H6 := hid h6; have HK6 := hid hk6; clear h6 hk6)
   go_ret
   exact ⟨rfl, H6.out, fun k q => (HK6.out k q).trans (HB5.out.block k (HH.out.lt q))⟩
  ·have HK := hid hk
   have hRN := HRN.out
   have hRL := HRL.out
   have hRT := HRT.out
   rw [if_pos hk] at hRN
   rw [if_neg (fun e => HK.out e.2)] at hRL hRT
   have hk' : (k == 0) = false := beq_eq_false_iff_ne.2 hk
   subst hRN hRL hRT
   go_wp2
   go_ret
   exact ⟨rfl, (HH.out.call HB5.out).mono (Nat.le_succ n), HH.out.same HB5.out⟩
 ·rw [if_pos hon, if_neg (fun e => hon e.1), if_neg (fun e => hon e.1)]
  refine (hderived_no h o i p j 64 #[.pointer (some ⟨mB, 0, none⟩), .pointer (some ⟨dB, 0, none⟩)] r HCL.out hon).mono ?_
  rintro e w' ⟨he, hB⟩
  exact ⟨he, (h.call hB).mono (Nat.le_succ n), h.same hB⟩
theorem hcopy (h : Hd W s hb rhb n L M l l2 S w) (hT0 : CX.TabG W) (o i p j : Int) (ho : InS o) (hi : InS i) (hp : InS p) (hj : InS j) (m : Int) (hx : (gt L o i).e ≤ 9223372036854775807) (hr : (cpy (gt L o i) m).1.e ≤ 9223372036854775807)  (hnn : n < 1000000) :
  Calls Tryz.prog 16 #[.pointer (some ⟨hb, 0, none⟩), slV o i, slV p j, .int .i64 m] w fun e w' => e = .returned (.int .i64 (derN L l o i p j (cpy (gt L o i) m))) ∧ Hd W s hb rhb (n + 1) (derL L o i p j (cpy (gt L o i) m)) M (derT L l o i p j (cpy (gt L o i) m)) l2 S w' ∧ SameK S w w' := by
 obtain ⟨hb0, hs0, ht0⟩ := duo_boxes w o i p j
 obtain ⟨w1, hw1⟩ : ∃ y, y = ((w.alloc (slO o i)).alloc (slO p j)).alloc (.cells #[.int .i64 m] 3) := ⟨_, rfl⟩
 have hb1 : Below w.heap.size w w1 := hw1 ▸ bal (bal (bal (Below.refl _ _) _) _) _
 have hsz : w1.heap.size = w.heap.size + 3 := by rw [hw1]; simp
 have hs1 : w1.heap[w.heap.size]? = some (.cells #[.int .i64 o, .int .i64 i] 30 (0, 0)) := by
  rw [hw1]
  rw [Below.heap_alloc _ _ _ (by simp; try omega)]
  exact hs0
 have ht1 : w1.heap[w.heap.size + 1]? = some (.cells #[.int .i64 p, .int .i64 j] 30 (0, 0)) := by
  rw [hw1]
  rw [Below.heap_alloc _ _ _ (by simp; try omega)]
  exact ht0
 have hm0 : w1.cell? ⟨w.heap.size + 2, 0, none⟩ = some (.int .i64 m) := by
  rw [hw1]
  have := heap_alloc_new ((w.alloc (slO o i)).alloc (slO p j)) (.cells #[.int .i64 m] 3)
  simp only [World.size_alloc] at this
  exact cell_cur (cur := [.int .i64 m]) this 0
 have H1 := hid (h.call hb1)
 have HB1 := hid hb1
 have HH := hid h
 have HD := hid (hcopyD H1.out hT0 o i p j ho hi hp hj m (w.heap.size + 2) hx hr hm0 (by omega) hnn)
 generalize derN L l o i p j (cpy (gt L o i) m) = N at *
 generalize derL L o i p j (cpy (gt L o i) m) = L2 at *
 generalize derT L l o i p j (cpy (gt L o i) m) = l3 at *
 obtain ⟨k0, k1⟩ := slot_cells hs1
 obtain ⟨r0, r1⟩ := slot_cells ht1
 have HW := hid hw1
 clear h hb0 hs0 ht0 hb1 hs1 ht1 hw1 hT0 hx hr hnn ho hi hp hj hsz hm0
 go_enter Tryz.func16, Tryz.ntmps16
 go_upto_region 1 with fail
 rw [show (((w.alloc (slO o i)).alloc (slO p j)).alloc (.cells #[.int .i64 m] 3)) = w1 from HW.out.symm]
 go_wp2_with (go_at_call 61; (with_reducible refine HD.out.mono ?_); rintro e w6 ⟨rfl, h6, hk6⟩; have H6 := hid h6; have HK6 := hid hk6; clear h6 hk6)
 go_ret
 exact ⟨rfl, H6.out, fun k q => (HK6.out k q).trans (HB1.out.block k (HH.out.lt q))⟩
theorem hmint (h : Hd W s hb rhb n L M l l2 S w) (hT0 : CX.TabG W) (o i p j : Int) (ho : InS o) (hi : InS i) (hp : InS p) (hj : InS j) (m : Int) (d : Nat) (hx : (gt L o i).e ≤ 9223372036854775807) (hr : (mnt (gt L o i) m d).1.e ≤ 9223372036854775807) (hd : d < 2 ^ 64) (hnn : n < 1000000) :
  Calls Tryz.prog 17 #[.pointer (some ⟨hb, 0, none⟩), slV o i, slV p j, .int .i64 m, .int .u64 d] w fun e w' => e = .returned (.int .i64 (derN L l o i p j (mnt (gt L o i) m d))) ∧ Hd W s hb rhb (n + 1) (derL L o i p j (mnt (gt L o i) m d)) M (derT L l o i p j (mnt (gt L o i) m d)) l2 S w' ∧ SameK S w w' := by
 obtain ⟨hb0, hs0, ht0⟩ := duo_boxes w o i p j
 obtain ⟨w1, hw1⟩ : ∃ y, y = (((w.alloc (slO o i)).alloc (slO p j)).alloc (.cells #[.int .i64 m] 3)).alloc (.cells #[.int .u64 d] 31) := ⟨_, rfl⟩
 have hb1 : Below w.heap.size w w1 := hw1 ▸ bal (bal (bal (bal (Below.refl _ _) _) _) _) _
 have hsz : w1.heap.size = w.heap.size + 4 := by rw [hw1]; simp
 have hs1 : w1.heap[w.heap.size]? = some (.cells #[.int .i64 o, .int .i64 i] 30 (0, 0)) := by
  rw [hw1]
  rw [Below.heap_alloc _ _ _ (by simp; try omega)]
  rw [Below.heap_alloc _ _ _ (by simp; try omega)]
  exact hs0
 have ht1 : w1.heap[w.heap.size + 1]? = some (.cells #[.int .i64 p, .int .i64 j] 30 (0, 0)) := by
  rw [hw1]
  rw [Below.heap_alloc _ _ _ (by simp; try omega)]
  rw [Below.heap_alloc _ _ _ (by simp; try omega)]
  exact ht0
 have hm0 : w1.cell? ⟨w.heap.size + 2, 0, none⟩ = some (.int .i64 m) := by
  rw [hw1]
  have := heap_alloc_new ((w.alloc (slO o i)).alloc (slO p j)) (.cells #[.int .i64 m] 3)
  simp only [World.size_alloc] at this
  exact cell_cur (cur := [.int .i64 m]) ((Below.heap_alloc _ _ _ (by simp)).trans this) 0
 have hm1 : w1.cell? ⟨w.heap.size + 3, 0, none⟩ = some (.int .u64 d) := by
  rw [hw1]
  have := heap_alloc_new (((w.alloc (slO o i)).alloc (slO p j)).alloc (.cells #[.int .i64 m] 3)) (.cells #[.int .u64 d] 31)
  simp only [World.size_alloc] at this
  exact cell_cur (cur := [.int .u64 d]) this 0
 have H1 := hid (h.call hb1)
 have HB1 := hid hb1
 have HH := hid h
 have HD := hid (hmintD H1.out hT0 o i p j ho hi hp hj m d (w.heap.size + 2) (w.heap.size + 3) hx hr hd hm0 (by omega) hm1 (by omega) hnn)
 generalize derN L l o i p j (mnt (gt L o i) m d) = N at *
 generalize derL L o i p j (mnt (gt L o i) m d) = L2 at *
 generalize derT L l o i p j (mnt (gt L o i) m d) = l3 at *
 obtain ⟨k0, k1⟩ := slot_cells hs1
 obtain ⟨r0, r1⟩ := slot_cells ht1
 have HW := hid hw1
 clear h hb0 hs0 ht0 hb1 hs1 ht1 hw1 hT0 hx hr hnn ho hi hp hj hsz hm0 hm1 hd
 go_enter Tryz.func17, Tryz.ntmps17
 go_upto_region 1 with fail
 rw [show ((((w.alloc (slO o i)).alloc (slO p j)).alloc (.cells #[.int .i64 m] 3)).alloc (.cells #[.int .u64 d] 31)) = w1 from HW.out.symm]
 go_wp2_with (go_at_call 61; (with_reducible refine HD.out.mono ?_); rintro e w6 ⟨rfl, h6, hk6⟩; have H6 := hid h6; have HK6 := hid hk6; clear h6 hk6)
 go_ret
 exact ⟨rfl, H6.out, fun k q => (HK6.out k q).trans (HB1.out.block k (HH.out.lt q))⟩
end HdS
end
end Go.Proofs.YtchjfeafkmpmbaaGreatDoor
