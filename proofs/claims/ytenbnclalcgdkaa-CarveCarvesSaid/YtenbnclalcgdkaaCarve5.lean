/- The walk of CarveSame. -/
import Derived.Test.YtenbnclalcgdkaaCarve4
namespace Go.Proofs.Ytenbnclalcgdkaa
set_option linter.unusedVariables false
open Go.ChangeShapes Go.WideShapes Go.ChangeAt Go.RowKit Go.Shelf

def lowC (x n : Int) : Int := x % 18446744073709551616 % n
theorem lowC_bd (x n : Int) (h : 1 ≤ n) : 0 ≤ lowC x n ∧ lowC x n < n := by
  unfold lowC
  exact ⟨Int.emod_nonneg _ (by omega), Int.emod_lt_of_pos _ (by omega)⟩
theorem lowC_any (x n : Int) (w : World) (h : 1 ≤ n) (h' : n ≤ 1000000) :
    Calls Try.prog 27 #[.int .i64 x, .int .i64 n] w fun e w' => e = .returned (.int .i64 (lowC x n)) ∧ w = w' := by
  have hz : (n == 0) = false := by simp; omega
  go_enter Try.func27, Try.ntmps27
  go_wp2
  go_ret
  refine ⟨ret_int ?_, rfl⟩
  have e0 : 0 ≤ IntKind.u64.wrap x := by rw [IntKind.wrap_u64]; omega
  rw [Int.tmod_eq_emod_of_nonneg e0, IntKind.wrap_u64]
  have := lowC_bd x n h
  unfold lowC at *
  exact IntWalk.wrap64_in _ (by omega)

/-- Has one of the first j numbers from a on a place in the other range? -/
def someB (a b k j : Int) : Bool := decide (0 < j ∧ 0 < k ∧ a < b + k ∧ b < a + j)
theorem meet_small {a n b k : Int} (ha : 0 ≤ a ∧ a < 70) (hn : 0 ≤ n ∧ n < 70) (hb : 0 ≤ b ∧ b < 70) (hk : 0 ≤ k ∧ k < 70) : meetB a n b k = someB a b k n ∧ meetB b k a n = someB a b k n ∧
    withinB a n a n = true ∧ (withinB a n b k = false ∨ n = 0 ∨ someB a b k n = true) := by
  refine ⟨?_, ?_, ?_, ?_⟩
  · rw [Bool.eq_iff_iff]; simp [meetB, nearB, someB]; omega
  · rw [Bool.eq_iff_iff]; simp [meetB, nearB, someB]; omega
  · simp [withinB, nearB]; omega
  · by_cases h : n = 0 ∨ (b ≤ a ∧ a + n ≤ b + k)
    · by_cases h0 : n = 0
      · exact .inr (.inl h0)
      · refine .inr (.inr ?_); simp [someB]; omega
    · left; simp [withinB]; intro _; omega

set_option maxHeartbeats 4000000 in
theorem walk_carveSame (a0 : Int) (w0 : (Lit.int .i64 a0).wf = true) (a1 : Int) (w1 : (Lit.int .i64 a1).wf = true) (a2 : Int) (w2 : (Lit.int .i64 a2).wf = true) (a3 : Int) (w3 : (Lit.int .i64 a3).wf = true) (W : World) :
    Calls Try.prog 9 #[.int .i64 a0, .int .i64 a1, .int .i64 a2, .int .i64 a3] W fun e w' => e = .returned (.bool true) ∧ Below W.heap.size W w' := by
  clear w0 w1 w2 w3
  have l0 := lowC_bd a0 70 (by decide); have l1 := lowC_bd a1 70 (by decide); have l2 := lowC_bd a2 70 (by decide); have l3 := lowC_bd a3 70 (by decide)
  have e0 : ∀ x w, Calls Try.prog 27 #[.int .i64 x, .int .i64 70] w fun e w' => e = .returned (.int .i64 (lowC x 70)) ∧ w = w' := fun x w => lowC_any x 70 w (by decide) (by decide)
  have k0 : ∀ w, Calls Try.prog 27 #[.int .i64 a0, .int .i64 70] w fun e w' => e = .returned (.int .i64 (lowC a0 70)) ∧ w = w' := e0 a0
  have k1 : ∀ w, Calls Try.prog 27 #[.int .i64 a1, .int .i64 70] w fun e w' => e = .returned (.int .i64 (lowC a1 70)) ∧ w = w' := e0 a1
  have k2 : ∀ w, Calls Try.prog 27 #[.int .i64 a2, .int .i64 70] w fun e w' => e = .returned (.int .i64 (lowC a2 70)) ∧ w = w' := e0 a2
  have k3 : ∀ w, Calls Try.prog 27 #[.int .i64 a3, .int .i64 70] w fun e w' => e = .returned (.int .i64 (lowC a3 70)) ∧ w = w' := e0 a3
  clear e0
  generalize lowC a0 70 = a at l0 k0
  generalize lowC a1 70 = n at l1 k1
  generalize lowC a2 70 = b at l2 k2
  generalize lowC a3 70 = k at l3 k3
  obtain ⟨s1, s2, s3, s4⟩ := meet_small l0 l1 l2 l3
  obtain ⟨a00, a01⟩ := l0; obtain ⟨n00, n01⟩ := l1; obtain ⟨b00, b01⟩ := l2; obtain ⟨k00, k01⟩ := l3
  have K0 := Lib.hid k0; have K1 := Lib.hid k1; have K2 := Lib.hid k2; have K3 := Lib.hid k3
  have S1 := Lib.hid s1; have S2 := Lib.hid s2; have S3 := Lib.hid s3; have S4 := Lib.hid s4
  clear k0 k1 k2 k3 s1 s2 s3 s4
  go_enter Try.func9, Try.ntmps9
  go_wp2_with (first
    | (go_at_call 27; (with_reducible refine (K0.out _).mono ?_); rintro e w4 ⟨rfl, rfl⟩)
    | (go_at_call 27; (with_reducible refine (K1.out _).mono ?_); rintro e w4 ⟨rfl, rfl⟩)
    | (go_at_call 27; (with_reducible refine (K2.out _).mono ?_); rintro e w4 ⟨rfl, rfl⟩)
    | (go_at_call 27; (with_reducible refine (K3.out _).mono ?_); rintro e w4 ⟨rfl, rfl⟩))
  go_loop [9, 10] (fun x i => ∃ j : Nat, (j : Int) ≤ n ∧ i = .int .i64 j ∧ x = .bool (someB a b k j)) (fun _ i => n.toNat - (intOf i).toNat)
  case atStart => exact ⟨0, by omega, rfl, by rw [show someB a b k ((0 : Nat) : Int) = false by simp [someB]]⟩
  case round =>
    obtain ⟨j, hj, rfl, rfl⟩ := hrel
    by_cases hlt : (j : Int) < n
    · cases hx : someB a b k j
      · go_wp2
        all_goals go_round
        all_goals first
          | (case measure => simp [intOf]; omega)
          | skip
        all_goals exact ⟨j + 1, by omega, by go_num, congrArg Value.bool (by rw [Bool.eq_iff_iff]; simp [someB] at hx ⊢; omega)⟩
      · go_wp2
        go_round
        case rel => exact ⟨j + 1, by omega, by go_num, by rw [show someB a b k ((j + 1 : Nat) : Int) = true by simp [someB] at hx ⊢; omega]⟩
        case measure => simp [intOf]; omega
    · obtain rfl : n = j := by omega
      obtain ⟨X, hX⟩ : ∃ X, someB a b k j = X := ⟨_, rfl⟩
      obtain ⟨R, hR⟩ : ∃ R, withinB a j b k = R := ⟨_, rfl⟩
      have T1 := S1.out; have T2 := S2.out; have T3 := S3.out; have T4 := S4.out
      clear S1 S2 S3 S4 K0 K1 K2 K3
      rw [hX] at T1 T2 T4 ⊢
      rw [hR] at T4
      have T3z : withinB a 0 a 0 = true := by simp [withinB, nearB]; omega
      rcases T4 with rfl | h0 | rfl
      case' inr.inl => rw [h0] at T1 T2 T3 hR hX
      all_goals
        go_wp2_with (first
          | (go_at_call 23; refine (meet_any _ _ _ _ _).mono ?_; (first | rw [T1] | rw [T2]); rintro e w4 ⟨rfl, hb4⟩)
          | (go_at_call 25; refine (within_any _ _ _ _ _).mono ?_; (first | rw [hR] | rw [T3] | rw [T3z]); rintro e w6 ⟨rfl, hb6⟩)
          | (go_at_call 22; refine (awake11 _).mono ?_; rintro e w8 ⟨rfl, hb8⟩))
      all_goals go_ret
      all_goals exact ⟨rfl, (by repeat (first | exact Below.refl _ _ | assumption | refine below_drewN ?_ _ | refine Below.setCell ?_ (by first | exact Nat.le_refl _ | (simp; done) | (simp; omega)) _ | refine bal ?_ _ | refine bgo ?_ (by assumption)))⟩
end Go.Proofs.Ytenbnclalcgdkaa
