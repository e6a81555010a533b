/- The walks of the laws on word that ask nothing of the document's own answer. -/
import Derived.Test.YtbhaagofckgbhaaDoorWith
import Derived.Test.YtbhaagofckgbhaaDoorLow
import Derived.Test.YtbhaagofckgbhaaDoorVars
namespace Go.Proofs.YtbhaagofckgbhaaDoor
set_option linter.unusedVariables false
open Go.ChangeShapes Go.WideShapes Go.ChangeAt Go.RowKit

theorem awake_any (w : World) (hT : TabAt w) (hg : 0 < w.heap.size) :
    Calls Tryd.prog 11 #[] w fun e w' => e = .returned (.bool true) ∧ Below w.heap.size w w' := by
  have t1 : (fieldN 43981 4 8 == 188) = true := by decide
  have t2 : (((withN 0 (60 : Int).toNat (4 : Int).toNat 15 : Nat) : Int) == 17293822569102704640) = true := by decide
  have t3 : (onesN 3 == 7) = true := by decide
  go_enter Tryd.func11, Tryd.ntmps11
  go_wp2_with (first
    | (go_at_call 8; refine (field_yes 43981 4 8 _ (by decide) (by decide) (by decide) (by decide) (by decide)).mono ?_; rintro e w' ⟨rfl, k, rfl⟩)
    | (go_at_call 12; refine (with_yes 0 60 4 15 _ (by decide) (by decide) (by decide) (by decide) (hT.below hg (below_drewN (Below.refl _ _) _)) (by exact hg)).mono ?_; rintro e w' ⟨rfl, hb⟩)
    | (go_at_call 14; refine (ones_any 3 _).mono ?_; rintro e w' ⟨rfl, rfl⟩))
  go_ret
  exact ⟨rfl, (below_drewN (Below.refl _ w) _).trans hb⟩

theorem bd_u64 {a : Int} (h : (Lit.int .u64 a).wf = true) : 0 ≤ a ∧ a ≤ 18446744073709551615 := by
  simp [Lit.wf, IntKind.min, IntKind.max, IntKind.signed, IntKind.bits] at h; omega
theorem bd_i64 {a : Int} (h : (Lit.int .i64 a).wf = true) : -9223372036854775808 ≤ a ∧ a ≤ 9223372036854775807 := by
  simp [Lit.wf, IntKind.min, IntKind.max, IntKind.signed, IntKind.bits] at h; omega

theorem field_withN (w A N v : Nat) (hw : w < 18446744073709551616) (h : A + N ≤ 64) (hv : v < 2 ^ N) : withN w A N v / 2 ^ A % 2 ^ N = v := by
  apply Nat.eq_of_testBit_eq
  intro i
  rw [Nat.testBit_mod_two_pow, Nat.testBit_div_two_pow, test_withN w A N v _ hw h hv]
  by_cases hi : i < N
  · have e1 : A ≤ i + A ∧ i + A < A + N := by omega
    rw [if_pos e1]; simp [hi]
  · have e2 : v.testBit i = false := by
      cases hb : v.testBit i with
      | false => rfl
      | true => exact absurd (bits_of_lt_pow hv hb) hi
    simp [hi, e2]

theorem other_withN (w A N v : Nat) (hw : w < 18446744073709551616) (h : A + N ≤ 64) (hv : v < 2 ^ N) :
    withN w A N v &&& (18446744073709551615 - (2 ^ N - 1) * 2 ^ A % 18446744073709551616) = w &&& (18446744073709551615 - (2 ^ N - 1) * 2 ^ A % 18446744073709551616) := by
  apply Nat.eq_of_testBit_eq
  intro i
  rw [Nat.testBit_and, Nat.testBit_and, test_withN w A N v _ hw h hv, test_compl _ _ (Nat.mod_lt _ (by decide)), test_shl, Nat.testBit_two_pow_sub_one]
  by_cases hi : A ≤ i ∧ i < A + N
  · have e1 : i < 64 := by omega
    have e2 : i - A < N := by omega
    simp [hi, e1, e2]
  · rw [if_neg hi]

set_option maxHeartbeats 1000000 in
theorem walk_wordBack (a0 : Int) (w0 : (Lit.int .u64 a0).wf = true) (a1 : Int) (w1 : (Lit.int .i64 a1).wf = true) (a2 : Int) (w2 : (Lit.int .i64 a2).wf = true) (a3 : Int) (w3 : (Lit.int .u64 a3).wf = true) (W : World) (hL : LaidV_laid_math_bits_deBruijn64tab W) :
    Calls Tryd.prog 6 #[.int .u64 a0, .int .i64 a1, .int .i64 a2, .int .u64 a3] W fun e w' => e = .returned (.bool true) ∧ Below W.heap.size W w' := by
  obtain ⟨hT, hg⟩ := hL
  have b0 := bd_u64 w0
  have b3 := bd_u64 w3
  clear w0 w1 w2 w3
  obtain ⟨w, rfl⟩ := Int.eq_ofNat_of_zero_le b0.1
  obtain ⟨v, rfl⟩ := Int.eq_ofNat_of_zero_le b3.1
  obtain ⟨p1, p2⟩ := lowN_bd a1 64 (by decide)
  obtain ⟨q1, q2⟩ := lowN_bd a2 64 (by decide)
  by_cases hn : 64 - lowN a1 64 < 1 + lowN a2 64
  · go_enter Tryd.func6, Tryd.ntmps6
    go_wp2_with (first
      | (go_at_call 18; refine (low_any _ 64 _ (by decide) (by decide)).mono ?_; rintro e w' ⟨rfl, rfl⟩)
      | (go_at_call 11; refine (awake_any _ hT hg).mono ?_; rintro e w' ⟨rfl, hb⟩))
    go_ret
    exact ⟨rfl, hb⟩
  · obtain ⟨A, hA⟩ := Int.eq_ofNat_of_zero_le p1
    obtain ⟨N, hN⟩ : ∃ N : Nat, 1 + lowN a2 64 = N := ⟨(1 + lowN a2 64).toNat, by omega⟩
    have hAN : A + N ≤ 64 := by omega
    obtain ⟨u, hu⟩ : ∃ u, v % 2 ^ N = u := ⟨_, rfl⟩
    have hvN : u < 2 ^ N := hu ▸ Nat.mod_lt _ (Nat.two_pow_pos N)
    have hv64 : u < 2 ^ 64 := Nat.lt_of_lt_of_le hvN (Nat.pow_le_pow_right (by decide) (by omega))
    have hw : w < 18446744073709551616 := by omega
    have e3 : bits BinOp.and IntKind.u64 (v : Int) (onesN (1 + lowN a2 64)) = (u : Int) := by
      rw [and_ones v _ (by omega) (by omega) (by omega), hN, ← hu]; simp
    have hin : insideB (lowN a1 64) (1 + lowN a2 64) = true := insideB_mk (by omega)
    have hfit : fitsB u (1 + lowN a2 64) = true := by
      unfold fitsB; rw [hN]; exact decide_eq_true (by simpa using hvN)
    have hA' : (lowN a1 64).toNat = A := by omega
    have hN' : (1 + lowN a2 64).toNat = N := by omega
    have f1 : (fieldN (withN w (lowN a1 64).toNat (1 + lowN a2 64).toNat u : Nat) (lowN a1 64) (1 + lowN a2 64) == (u : Int)) = true := by
      rw [hA', hN']
      unfold fieldN
      rw [hA', hN']
      have := field_withN w A N u hw hAN hvN
      rw [beq_iff_eq]
      exact_mod_cast this
    have f2 : (bits BinOp.andNot IntKind.u64 ((withN w (lowN a1 64).toNat (1 + lowN a2 64).toNat u : Nat) : Int) (IntKind.u64.wrap (onesN (1 + lowN a2 64) * 2 ^ (lowN a1 64).toNat)) ==
        bits BinOp.andNot IntKind.u64 (w : Int) (IntKind.u64.wrap (onesN (1 + lowN a2 64) * 2 ^ (lowN a1 64).toNat))) = true := by
      have e1 : IntKind.u64.wrap (onesN (1 + lowN a2 64) * 2 ^ (lowN a1 64).toNat) = (((2 ^ N - 1) * 2 ^ A % 18446744073709551616 : Nat) : Int) := by
        rw [ones_toNat _ (by omega) (by omega), IntKind.wrap_u64, hA', hN']; simp
      rw [beq_iff_eq, e1, hA', hN', u64_andNot_nat _ _ (withN_lt _ _ _ _ hw) (Nat.mod_lt _ (by decide)), u64_andNot_nat _ _ hw (Nat.mod_lt _ (by decide)), other_withN w A N _ hw hAN hvN]
    have hwl := withN_lt w (lowN a1 64).toNat (1 + lowN a2 64).toNat u hw
    clear hA hN hA' hN' hAN hu
    go_enter Tryd.func6, Tryd.ntmps6
    go_wp2_with (first
      | (go_at_call 18; refine (low_any _ 64 _ (by decide) (by decide)).mono ?_; rintro e w' ⟨rfl, rfl⟩)
      | (go_at_call 14; refine (ones_any _ _).mono ?_; rintro e w' ⟨rfl, rfl⟩)
      | (go_at_call 12; refine (with_yes w _ _ u _ hin hfit hw hv64 hT hg).mono ?_; rintro e w' ⟨rfl, hb⟩; have hT1 := hT.below hg hb; have hg1 := Nat.lt_of_lt_of_le hg hb.size)
      | (go_at_call 8; refine (field_yes _ _ _ _ (by omega) (by omega) hin (by omega) (by omega)).mono ?_; rintro e w' ⟨rfl, k, rfl⟩)
      | (go_at_call 11; refine (awake_any _ (hT1.below hg1 (below_drewN (Below.refl _ _) _)) hg1).mono ?_; rintro e w' ⟨rfl, hb2⟩))
    go_ret
    exact ⟨rfl, (below_drewN hb _).trans (hb2.mono hb.size)⟩

theorem parts_field (w A N K : Nat) : w / 2 ^ A % 2 ^ (N + K) = w / 2 ^ A % 2 ^ N + w / 2 ^ (A + N) % 2 ^ K * 2 ^ N := by
  rw [Nat.pow_add, Nat.mod_mul, Nat.div_div_eq_div_mul, ← Nat.pow_add, Nat.mul_comm]

set_option maxHeartbeats 1000000 in
theorem walk_wordParts (a0 : Int) (w0 : (Lit.int .u64 a0).wf = true) (a1 : Int) (w1 : (Lit.int .i64 a1).wf = true) (a2 : Int) (w2 : (Lit.int .i64 a2).wf = true) (a3 : Int) (w3 : (Lit.int .i64 a3).wf = true) (W : World) (hL : LaidV_laid_math_bits_deBruijn64tab W) :
    Calls Tryd.prog 7 #[.int .u64 a0, .int .i64 a1, .int .i64 a2, .int .i64 a3] W fun e w' => e = .returned (.bool true) ∧ Below W.heap.size W w' := by
  obtain ⟨hT, hg⟩ := hL
  have b0 := bd_u64 w0
  clear w0 w1 w2 w3
  obtain ⟨w, rfl⟩ := Int.eq_ofNat_of_zero_le b0.1
  obtain ⟨p1, p2⟩ := lowN_bd a1 32 (by decide)
  obtain ⟨q1, q2⟩ := lowN_bd a2 16 (by decide)
  obtain ⟨r1, r2⟩ := lowN_bd a3 16 (by decide)
  have i1 : insideB (lowN a1 32) (1 + lowN a2 16) = true := insideB_mk (by omega)
  have i2 : insideB (lowN a1 32 + (1 + lowN a2 16)) (1 + lowN a3 16) = true := insideB_mk (by omega)
  have i3 : insideB (lowN a1 32) (1 + lowN a2 16 + (1 + lowN a3 16)) = true := insideB_mk (by omega)
  have f1 : (fieldN (w : Int) (lowN a1 32) (1 + lowN a2 16 + (1 + lowN a3 16)) == IntKind.u64.wrap (fieldN (w : Int) (lowN a1 32) (1 + lowN a2 16) + IntKind.u64.wrap (fieldN (w : Int) (lowN a1 32 + (1 + lowN a2 16)) (1 + lowN a3 16) * 2 ^ (1 + lowN a2 16).toNat))) = true := by
    obtain ⟨A, hA⟩ := Int.eq_ofNat_of_zero_le p1
    obtain ⟨N, hN⟩ : ∃ N : Nat, 1 + lowN a2 16 = N := ⟨(1 + lowN a2 16).toNat, by omega⟩
    obtain ⟨K, hK⟩ : ∃ K : Nat, 1 + lowN a3 16 = K := ⟨(1 + lowN a3 16).toNat, by omega⟩
    have key := parts_field w A N K
    rw [hA, hN, hK]
    unfold fieldN
    have e1 : ((A : Int) + N).toNat = A + N := by omega
    have e2 : ((N : Int) + K).toNat = N + K := by omega
    rw [e1, e2, Int.toNat_natCast, Int.toNat_natCast, Int.toNat_natCast]
    have hlt : w / 2 ^ A % 2 ^ (N + K) < 18446744073709551616 := Nat.lt_of_le_of_lt (Nat.mod_le _ _) (Nat.lt_of_le_of_lt (Nat.div_le_self _ _) (by omega))
    have c1 : (w : Int) / 2 ^ A % 2 ^ (N + K) = ((w / 2 ^ A % 2 ^ (N + K) : Nat) : Int) := by simp
    have c2 : (w : Int) / 2 ^ A % 2 ^ N = ((w / 2 ^ A % 2 ^ N : Nat) : Int) := by simp
    have c3 : (w : Int) / 2 ^ (A + N) % 2 ^ K * 2 ^ N = ((w / 2 ^ (A + N) % 2 ^ K * 2 ^ N : Nat) : Int) := by simp
    rw [c1, c2, c3, beq_iff_eq]
    generalize w / 2 ^ A % 2 ^ (N + K) = x at *
    generalize w / 2 ^ A % 2 ^ N = y at *
    generalize w / 2 ^ (A + N) % 2 ^ K * 2 ^ N = z at *
    rw [IntWalk.u64_in (z : Int) (by omega), IntWalk.u64_in _ (by omega)]
    omega
  go_enter Tryd.func7, Tryd.ntmps7
  go_wp2_with (first
    | (go_at_call 18; refine (low_any _ _ _ (by decide) (by decide)).mono ?_; rintro e w' ⟨rfl, rfl⟩)
    | (go_at_call 8; refine (field_yes _ _ _ _ (by omega) (by omega) (by assumption) (by omega) (by omega)).mono ?_; rintro e w' ⟨rfl, k, rfl⟩)
    | (go_at_call 11; refine (awake_any _ (hT.below hg (below_drewN (Below.refl _ _) _)) hg).mono ?_; rintro e w' ⟨rfl, hb2⟩))
  go_ret
  exact ⟨rfl, (below_drewN (Below.refl _ W) _).trans hb2⟩
end Go.Proofs.YtbhaagofckgbhaaDoor
