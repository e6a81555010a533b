/- The walks of the laws DeriveMints and DeriveFalls. -/
import Derived.Test.YthgpcjfilejfpaaDoorMintX
namespace Go.Proofs.YthgpcjfilejfpaaDoor
set_option linter.unusedVariables false
set_option linter.unusedSimpArgs false
open Go.ChangeShapes Go.WideShapes Go.ChangeAt Go.RowKit

theorem mintW (x : CapX) (m : Int) (n : Nat) (hn : n < 2 ^ 64) {y : CapX} {k : Int} (h : mintX x m n = (y, k)) (he : x.e ≤ 9223372036854775807) : Gives 28 #[x.val, .int .i64 m, .int .u64 n] (.tuple #[y.val, .int .i64 k]) := by
  have := mintD x m n hn he
  rw [h] at this
  exact this
theorem mintW14 (x : CapX) (m : Int) (n : Nat) (hn : n < 2 ^ 64) {y : CapX} {k : Int} (h : mintX x m n = (y, k)) (W : World) : Calls Tryd.prog 29 #[x.val, .int .i64 m, .int .u64 n] W fun r W' => r = .returned (.tuple #[y.val, .int .i64 k]) ∧ Below W.heap.size W W' := by
  have := mintR14 x m n hn W
  rw [h] at this
  exact this
/-- What what is derived keeps. -/
def Good (x y : CapX) : Prop := x.B = true ∧ y.B = true ∧ x.a ≠ 0 ∧ x.a = y.a ∧ x.b = y.b ∧ (0 ≤ x.c ∧ x.c ≤ 7) ∧ (0 ≤ y.c ∧ y.c ≤ 7) ∧ hasB x.c y.c = true ∧ y.g = 0 ∧ y.h = 0 ∧ (x.d = 0 ∨ y.d = x.d) ∧ y.e ≤ 9223372036854775807
theorem has_key : ∀ r : Nat, r < 8 → ∀ m : Nat, m < 8 → hasB r (maskN r m) = true ∧ 0 ≤ maskN r m ∧ maskN r m ≤ r := by decide +kernel
theorem mask_has {r m : Int} (h0 : 0 ≤ r) (h1 : r ≤ 7) (h2 : 0 ≤ m) (h3 : m ≤ 7) : hasB r (maskN r m) = true ∧ 0 ≤ maskN r m ∧ maskN r m ≤ r := by
  obtain ⟨a, rfl⟩ := Int.eq_ofNat_of_zero_le h0
  obtain ⟨b, rfl⟩ := Int.eq_ofNat_of_zero_le h2
  exact has_key a (by omega) b (by omega)
theorem has00 : hasB 0 0 = true := by decide +kernel
theorem good_copy {x y : CapX} {m : Int} (h : copyX x m = (y, 0)) (he : x.e ≤ 9223372036854775807) : Good x y := by
  have hw := copyX_ways x m
  rw [h] at hw
  obtain ⟨a, b, c, d, e, f, g, i⟩ := x
  rcases hw with ⟨_, h1⟩ | ⟨_, hB, hm, hk⟩
  · simp only at h1; omega
  · obtain ⟨m0, m1⟩ := mayB_of hm
    rcases hk with ⟨ha, hn, hy⟩ | ⟨ha, hy⟩ | ⟨ha, hy⟩
    · simp only at ha hn hy
      subst hy
      subst ha
      have hB' := hB
      simp [CapX.B, capB, placeB] at hB
      obtain ⟨k1, k2, k3⟩ := mask_has (r := c) (m := m) (by omega) (by omega) m0 m1
      refine ⟨hB', ?_, by simp, rfl, rfl, by simp only; omega, by simp only; omega, k1, rfl, rfl, by simp only; omega, he⟩
      simp only [CapX.B, capB, placeB, hB.1.1.1]
      simp
      omega
    · simp only at ha hy
      subst hy
      subst ha
      have hB' := hB
      simp [CapX.B, capB] at hB
      obtain ⟨c0, c1⟩ := mayB_of hB.1.1.2
      obtain ⟨k1, k2, k3⟩ := mask_has (r := c) (m := m) (by omega) (by omega) m0 m1
      refine ⟨hB', ?_, by simp, rfl, rfl, by simp only; omega, by simp only; omega, k1, by simp only; omega, by simp only; omega, by simp, he⟩
      simp only [CapX.B, capB, hB.1.1.1, mayB_mk k2 (show maskN c m ≤ 7 by omega)]
      simp
      omega
    · simp only at ha hy
      subst hy
      have hB' := hB
      have hz : c = 0 ∧ g = 0 ∧ i = 0 := by
        simp only [CapX.B, capB] at hB
        rcases ha with rfl | rfl | rfl | rfl | rfl <;> simp at hB <;> omega
      obtain ⟨rfl, rfl, rfl⟩ := hz
      exact ⟨hB', hB', by simp only; omega, rfl, rfl, by simp, by simp, has00, rfl, rfl, by simp, he⟩
theorem good_mint {x y : CapX} {m : Int} {n : Nat} (h : mintX x m n = (y, 0)) (he : x.e ≤ 9223372036854775807) : Good x y := by
  unfold mintX at h
  obtain ⟨z, k, hz⟩ : ∃ z k, copyX x m = (z, k) := ⟨_, _, rfl⟩
  rw [hz] at h
  simp only at h
  by_cases hk : k = 0
  · subst hk
    rw [if_neg (by simp)] at h
    have G := good_copy hz he
    obtain ⟨g1, g2, g3, g4, g5, g6, g7, g8, g9, g10, g11, g12⟩ := G
    obtain ⟨a, b, c, d, e, f, g, i⟩ := x
    obtain ⟨a', b', c', d', e', f', g', i'⟩ := z
    simp only at *
    subst g4
    split at h
    · split at h
      · simp at h
      · split at h
        · simp at h
        · rename_i h8 hn hd
          simp only [Decidable.not_not] at hd
          subst hd
          subst h8
          obtain rfl := (Prod.mk.inj h).1.symm
          refine ⟨g1, ?_, g3, rfl, g5, g6, g7, g8, g9, g10, .inl (by simp only; omega), g12⟩
          simp [CapX.B, capB] at g2 ⊢
          exact ⟨⟨g2.1, by omega⟩, g2.2⟩
    · split at h
      · split at h
        · simp at h
        · split at h
          · rename_i hc
            obtain rfl := (Prod.mk.inj h).1.symm
            exact ⟨g1, hc, g3, rfl, g5, g6, g7, g8, g9, g10, g11, by simp only; omega⟩
          · simp at h
      · split at h
        · simp at h
        · obtain rfl := (Prod.mk.inj h).1.symm
          exact ⟨g1, g2, g3, rfl, g5, g6, g7, g8, g9, g10, g11, g12⟩
  · rw [if_pos hk] at h
    exact absurd (Prod.mk.inj h).2 hk
theorem mint_zero {x y : CapX} {m : Int} {n : Nat} {k : Int} (h : mintX x m n = (y, k)) : (0 ≤ k ∧ k ≤ 100) ∧ (k ≠ 0 → y = zX) := by
  unfold mintX at h
  obtain ⟨z, j, hz⟩ : ∃ z k, copyX x m = (z, k) := ⟨_, _, rfl⟩
  have hb := copy_bd hz
  rw [hz] at h
  simp only at h
  split at h
  · obtain ⟨rfl, rfl⟩ := Prod.mk.inj h; exact ⟨hb, fun _ => rfl⟩
  · repeat' (split at h)
    all_goals
      obtain ⟨rfl, rfl⟩ := Prod.mk.inj h
      first | exact ⟨by decide, fun _ => rfl⟩ | exact ⟨by decide, fun hh => absurd rfl hh⟩
end Go.Proofs.YthgpcjfilejfpaaDoor
