/- Two lists of words compared; the fields of a capability's words. -/
import Derived.Test.YtoepbcaldlgnjaaDoorCapG
import Derived.BigQuiet
import Derived.BigRegion
namespace Go.Proofs.YtoepbcaldlgnjaaDoor
set_option linter.unusedVariables false
set_option linter.unusedSimpArgs false
open Go.ChangeShapes Go.WideShapes Go.ChangeAt Go.RowKit Go.Shelf

def eqN (n : Nat) (X Y : Nat → Int) : Bool := decide (∀ j, j < n → X j = Y j)
theorem eqN_yes {n : Nat} {X Y : Nat → Int} (h : ∀ j, j < n → X j = Y j) : eqN n X Y = true := decide_eq_true h
theorem eqN_no {n k : Nat} {X Y : Nat → Int} (hk : k < n) (h : ¬ X k = Y k) : eqN n X Y = false := decide_eq_false fun e => h (e k hk)
theorem ret_b {a b : Bool} (h : a = b) : Ending.returned (.bool a) = .returned (.bool b) := by rw [h]
theorem two_draws (w : World) (a b : Nat) : ∃ q, (w.drewN a).drewN b = w.drewN q := ⟨a + b, by simp⟩
theorem eq_succ {k : Nat} {X Y : Nat → Int} (h : ∀ j, j < k → X j = Y j) (he : X k = Y k) : ∀ j, j < k + 1 → X j = Y j := by
  intro j hj
  by_cases e : j = k
  · rw [e]; exact he
  · exact h j (by omega)
theorem same2_any (w : World) (g1 g2 o2 n c1 c2 : Nat) (X Y : Nat → Int) (hn : n ≤ 512) (h1 : ∀ j, j < n → w.cell? ⟨g1, j, none⟩ = some (.int .u64 (X j))) (h2 : ∀ j, j < n → w.cell? ⟨g2, o2 + j, none⟩ = some (.int .u64 (Y j))) :
    Calls Tryd.prog 9 #[.slice (some ⟨g1, 0, none⟩) n c1, .slice (some ⟨g2, o2, none⟩) n c2] w fun e w' => e = .returned (.bool (eqN n X Y)) ∧ ∃ q, w' = w.drewN q := by
  have H1 := Lib.hid h1
  have H2 := Lib.hid h2
  clear h1 h2
  go_enter Tryd.func9, Tryd.ntmps9
  go_wp2
  go_loopw [5] (fun i wr => ∃ k q : Nat, k ≤ n ∧ i = .int .i64 k ∧ wr = w.drewN q ∧ Hid (∀ j, j < k → X j = Y j)) (fun i _ => n - (intOf i).toNat)
  case atStart => exact ⟨0, 0, by omega, rfl, rfl, Lib.hid (fun j hj => absurd hj (by omega))⟩
  case round =>
    obtain ⟨k, q, hk, rfl, rfl, HE⟩ := hrel
    by_cases hlt : k < n
    · have hlt' : (k : Int) < n := by omega
      have d1 := H1.out k hlt
      have d2 := H2.out k hlt
      by_cases he : X k = Y k
      · rw [← he] at d2
        go_wp2
        go_quiet (fail)
        all_goals go_wp2
        all_goals go_roundw
        case rel => exact ⟨k + 1, _, by omega, by go_num, by first | rfl | simp, Lib.hid (eq_succ HE.out he)⟩
        case measure => simp [intOf]; omega
      · generalize hx : X k = x at d1 he
        generalize hy : Y k = y at d2 he
        go_wp2
        go_quiet (fail)
        all_goals go_wp2
        all_goals go_ret
        all_goals exact ⟨ret_b (eqN_no hlt (by rw [hx, hy]; exact he)).symm, two_draws _ _ _⟩
    · obtain rfl : k = n := by omega
      go_wp2
      go_ret
      exact ⟨ret_b (eqN_yes HE.out).symm, q, rfl⟩
theorem equal2_any (w : World) (g1 g2 o2 n c1 c2 : Nat) (X Y : Nat → Int) (hn : n ≤ 512) (h1 : ∀ j, j < n → w.cell? ⟨g1, j, none⟩ = some (.int .u64 (X j))) (h2 : ∀ j, j < n → w.cell? ⟨g2, o2 + j, none⟩ = some (.int .u64 (Y j))) :
    Calls Tryd.prog 31 #[.slice (some ⟨g1, 0, none⟩) n c1, .slice (some ⟨g2, o2, none⟩) n c2] w fun e w' => e = .returned (.bool (eqN n X Y)) ∧ ∃ q, w' = w.drewN q := by
  have H1 := Lib.hid h1
  have H2 := Lib.hid h2
  clear h1 h2
  go_enter Tryd.func31, Tryd.ntmps31
  go_wp2
  go_loopw [13] (fun i wr => ∃ k q : Nat, k ≤ n ∧ i = .int .i64 k ∧ wr = w.drewN q ∧ Hid (∀ j, j < k → X j = Y j)) (fun i _ => n - (intOf i).toNat)
  case atStart => exact ⟨0, 0, by omega, rfl, rfl, Lib.hid (fun j hj => absurd hj (by omega))⟩
  case round =>
    obtain ⟨k, q, hk, rfl, rfl, HE⟩ := hrel
    by_cases hlt : k < n
    · have hlt' : (k : Int) < n := by omega
      have d1 := H1.out k hlt
      have d2 := H2.out k hlt
      by_cases he : X k = Y k
      · rw [← he] at d2
        go_wp2
        go_quiet (fail)
        all_goals go_wp2
        all_goals go_roundw
        case rel => exact ⟨k + 1, _, by omega, by go_num, by first | rfl | simp, Lib.hid (eq_succ HE.out he)⟩
        case measure => simp [intOf]; omega
      · generalize hx : X k = x at d1 he
        generalize hy : Y k = y at d2 he
        go_wp2
        go_quiet (fail)
        all_goals go_wp2
        all_goals go_ret
        all_goals exact ⟨ret_b (eqN_no hlt (by rw [hx, hy]; exact he)).symm, two_draws _ _ _⟩
    · obtain rfl : k = n := by omega
      go_wp2
      go_ret
      exact ⟨ret_b (eqN_yes HE.out).symm, q, rfl⟩
theorem decoded_any (w : World) (a b c d e f g h : Int) (ha : 0 ≤ a ∧ a < 16777216) (hc : 0 ≤ c ∧ c < 16777216) (hb : 0 ≤ b ∧ b < 16777216) (hh : 0 ≤ h ∧ h < 16777216) (hg : 0 ≤ g ∧ g < 16777216) (hd : 0 ≤ d ∧ d < 16777216) (he : 0 ≤ e ∧ e < 16777216) (hf : 0 ≤ f ∧ f < 16777216) :
    Calls Tryd.prog 30 #[.agg #[.int .u64 a, .int .u64 c, .int .u64 b, .int .u64 h, .int .u64 g, .int .u64 d, .int .u64 e, .int .u64 f]] w fun r w' => r = .returned (capV a b c d e f g h) ∧ Below w.heap.size w w' := by
  obtain ⟨a0, a1⟩ := ha
  obtain ⟨b0, b1⟩ := hb
  obtain ⟨c0, c1⟩ := hc
  obtain ⟨d0, d1⟩ := hd
  obtain ⟨e0, e1⟩ := he
  obtain ⟨f0, f1⟩ := hf
  obtain ⟨g0, g1⟩ := hg
  obtain ⟨h0, h1⟩ := hh
  go_enter Tryd.func30, Tryd.ntmps30
  go_wp2
  refine bodyPost_ret (v := capV a b c d e f g h) (by simp [results, Tryd.results30, go_sem]) rfl ⟨rfl, bal (bal (Below.refl _ _) _) _⟩
end Go.Proofs.YtoepbcaldlgnjaaDoor
