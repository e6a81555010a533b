/- cap.Alike, chapter 13's own Alike, and the law CapAlike. -/
import Derived.Test.YtoepbcaldlgnjaaDoorCapS
import Derived.Test.YtoepbcaldlgnjaaDoorCapKept
namespace Go.Proofs.YtoepbcaldlgnjaaDoor
set_option linter.unusedVariables false
open Go.ChangeShapes Go.WideShapes Go.ChangeAt Go.RowKit

def alikeB (m n : Bool) (a a' b b' : Int) : Bool := m && n && decide (a ≠ 0) && decide (a = a') && decide (b = b')
set_option maxRecDepth 100000 in
set_option maxHeartbeats 1000000 in
theorem alike_any (a b c d e f g h a' b' c' d' e' f' g' h' : Int) (W : World) (hT : TabG W) (e1 : e ≤ 9223372036854775807) (e2 : e' ≤ 9223372036854775807) :
    Calls Tryd.prog 19 #[capV a b c d e f g h, capV a' b' c' d' e' f' g' h'] W fun r W' => r = .returned (.bool (alikeB (capB a b c d e f g h) (capB a' b' c' d' e' f' g' h') a a' b b')) ∧ Below W.heap.size W W' := by
  cases hx : capB a b c d e f g h <;> cases hy : capB a' b' c' d' e' f' g' h'
  all_goals
    have HX := Lib.hid hx
    have HY := Lib.hid hy
    clear hx hy
    go_enter Tryd.func19, Tryd.ntmps19
    go_wp2_with (first
      | (have _t := hb1; go_at_call 11; refine (capMay a' b' c' d' e' f' g' h' _ (by exact hT.call (by repeat (first | exact Below.refl _ _ | assumption | refine below_drewN ?_ _ | refine Below.drew ?_ | refine Below.setCell ?_ (by first | exact Nat.le_refl _ | (simp; done) | (simp; omega)) _ | refine bal ?_ _ | refine bgo ?_ (by assumption)))) e2).mono ?_; rw [HY.out]; rintro r w2 ⟨rfl, hb2⟩; obtain ⟨hc2, hf2⟩ := bcell hb2)
      | (go_at_call 11; refine (capMay a b c d e f g h _ (by exact hT.call (by repeat (first | exact Below.refl _ _ | assumption | refine below_drewN ?_ _ | refine Below.drew ?_ | refine Below.setCell ?_ (by first | exact Nat.le_refl _ | (simp; done) | (simp; omega)) _ | refine bal ?_ _ | refine bgo ?_ (by assumption)))) e1).mono ?_; rw [HX.out]; rintro r w1 ⟨rfl, hb1⟩; obtain ⟨hc1, hf1⟩ := bcell hb1; have hz1 : W.heap.size + 1 < w1.heap.size := (by have := hb1.size; simp at this; omega); have hz0 : W.heap.size < w1.heap.size := (by omega)))
    all_goals
      go_ret
      exact ⟨ret_bool (by first | (simp [alikeB, *]; done) | (refine Bool.eq_iff_iff.2 ?_; simp [alikeB, *] <;> omega)), (by repeat (first | exact Below.refl _ _ | assumption | refine below_drewN ?_ _ | refine Below.drew ?_ | refine Below.setCell ?_ (by first | exact Nat.le_refl _ | (simp; done) | (simp; omega)) _ | refine bal ?_ _ | refine bgo ?_ (by assumption)))⟩
set_option maxRecDepth 100000 in
set_option maxHeartbeats 1000000 in
theorem alike13_any (a b c d e f g h a' b' c' d' e' f' g' h' : Int) (W : World) :
    Calls Tryd.prog 20 #[capV a b c d e f g h, capV a' b' c' d' e' f' g' h'] W fun r W' => r = .returned (.bool (alikeB (capB a b c d e f g h) (capB a' b' c' d' e' f' g' h') a a' b b')) ∧ Below W.heap.size W W' := by
  cases hx : capB a b c d e f g h <;> cases hy : capB a' b' c' d' e' f' g' h'
  all_goals
    have HX := Lib.hid hx
    have HY := Lib.hid hy
    clear hx hy
    go_enter Tryd.func20, Tryd.ntmps20
    go_wp2_with (first
      | (have _t := hb1; go_at_call 12; refine (refMay13 a' b' c' d' e' f' g' h' _).mono ?_; rw [HY.out]; rintro r w2 ⟨rfl, hb2⟩; obtain ⟨hc2, hf2⟩ := bcell hb2)
      | (go_at_call 12; refine (refMay13 a b c d e f g h _).mono ?_; rw [HX.out]; rintro r w1 ⟨rfl, hb1⟩; obtain ⟨hc1, hf1⟩ := bcell hb1; have hz1 : W.heap.size + 1 < w1.heap.size := (by have := hb1.size; simp at this; omega); have hz0 : W.heap.size < w1.heap.size := (by omega)))
    all_goals
      go_ret
      exact ⟨ret_bool (by first | (simp [alikeB, *]; done) | (refine Bool.eq_iff_iff.2 ?_; simp [alikeB, *] <;> omega)), (by repeat (first | exact Below.refl _ _ | assumption | refine below_drewN ?_ _ | refine Below.drew ?_ | refine Below.setCell ?_ (by first | exact Nat.le_refl _ | (simp; done) | (simp; omega)) _ | refine bal ?_ _ | refine bgo ?_ (by assumption)))⟩
end Go.Proofs.YtoepbcaldlgnjaaDoor
