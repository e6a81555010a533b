/- cap.May and chapter 13's own May: both are capB of the fields. -/
import Derived.Test.YtplanbihejodoaaDoorZCap
namespace Go.Proofs.YtplanbihejodoaaDoor
namespace CX
set_option linter.unusedVariables false
open Go.ChangeShapes Go.WideShapes Go.ChangeAt Go.RowKit

def TabG (w : World) : Prop := TabAt w ∧ 0 < w.heap.size
theorem TabG.below {B : Nat} {w w' : World} (h : TabG w) (hB : 0 < B) (hb : Below B w w') : TabG w' := ⟨h.1.below hB hb, Nat.lt_of_lt_of_le h.2 hb.size⟩
theorem TabG.call {w w' : World} (h : TabG w) (hb : Below w.heap.size w w') : TabG w' := h.below h.2 hb
theorem TabG.alloc {w : World} (h : TabG w) (o : Obj) : TabG (w.alloc o) := h.call ((Below.refl _ _).alloc (Nat.le_refl _) _)
theorem guard_yes (a b c d g h f : Int) (e : Nat) (W : World) (hT : TabG W) (f0 : 0 ≤ f) (f1 : f ≤ 12) (e1 : (e : Int) ≤ 9223372036854775807) : Calls Tryd.prog 35 #[capV a b c d e f g h] W fun x W' => x = .returned (.bool (guardB e f)) ∧ Below W.heap.size W W' := by
  have hk : fitsB e f = guardB e f := by
    unfold fitsB guardB
    rw [Bool.eq_iff_iff]
    simp only [decide_eq_true_eq]
    constructor
    · intro h; exact ⟨f0, f1, by omega, by exact_mod_cast h⟩
    · intro h; exact_mod_cast h.2.2.2
  have he : (e : Nat) < 2 ^ 64 := by omega
  have e0 : (0 : Int) ≤ e := by omega
  have HK := Lib.hid hk
  clear hk
  go_enter Tryd.func35, Tryd.ntmps35
  go_wp2_with (first | (go_at_call 46; refine (fits_any e f _ he (hT.alloc _).1 (hT.alloc _).2).mono ?_; rintro x w1 ⟨rfl, hb1⟩))
  go_ret
  exact ⟨ret_bool HK.out, bgo (bal (Below.refl _ _) _) hb1⟩
theorem guard_no (a b c d g h f : Int) (e : Int) (W : World) (hn : f < 0 ∨ 12 < f ∨ e < 0) : Calls Tryd.prog 35 #[capV a b c d e f g h] W fun x W' => x = .returned (.bool (guardB e f)) ∧ Below W.heap.size W W' := by
  have hk : guardB e f = false := by unfold guardB; exact decide_eq_false (by omega)
  rw [hk]
  clear hk
  have hn' : f < 0 ∨ (0 ≤ f ∧ 12 < f) ∨ (0 ≤ f ∧ f ≤ 12 ∧ e < 0) := by omega
  clear hn
  rcases hn' with hn | ⟨h0, hn⟩ | ⟨h0, h1, hn⟩
  all_goals
    go_enter Tryd.func35, Tryd.ntmps35
    go_wp2
    go_ret
    exact ⟨rfl, bal (Below.refl _ _) _⟩
theorem guard_any (a b c d e f g h : Int) (W : World) (hT : TabG W) (e1 : e ≤ 9223372036854775807) : Calls Tryd.prog 35 #[capV a b c d e f g h] W fun x W' => x = .returned (.bool (guardB e f)) ∧ Below W.heap.size W W' := by
  by_cases hn : f < 0 ∨ 12 < f ∨ e < 0
  · exact guard_no a b c d g h f e W hn
  · obtain ⟨n, rfl⟩ := Int.eq_ofNat_of_zero_le (show 0 ≤ e by omega)
    exact guard_yes a b c d g h f n W hT (by omega) (by omega) e1
end CX
end Go.Proofs.YtplanbihejodoaaDoor
