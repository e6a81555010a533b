/- cap.May and chapter 13's own May: both are capB of the fields. -/
import Derived.Test.YtplanbihejodoaaDoorZDeriveR
import Derived.Test.YtplanbihejodoaaDoorZFits
import Derived.Test.YtplanbihejodoaaDoorFrame
namespace Go.Proofs.YtplanbihejodoaaDoor
namespace CX
set_option linter.unusedVariables false
open Go.ChangeShapes Go.WideShapes Go.ChangeAt Go.RowKit

theorem bcell {W w1 : World} (hb : Below W.heap.size W w1) : (∀ b o, b < W.heap.size → w1.cell? ⟨b, o, none⟩ = W.cell? ⟨b, o, none⟩) ∧ (∀ b o, b < W.heap.size → w1.frozen? ⟨b, o, none⟩ = W.frozen? ⟨b, o, none⟩) :=
  ⟨fun b o h => hb.cell (p := ⟨b, o, none⟩) h, fun b o h => hb.frozen (p := ⟨b, o, none⟩) h⟩
theorem below_drewN {B : Nat} {a b : World} (h : Below B a b) (k : Nat) : Below B a (b.drewN k) := by
  induction k with
  | zero => exact h
  | succ k ih => exact ih.drew
def objB (b : Int) : Bool := decide (1 ≤ b ∧ b ≤ 65535)
def guardB (e f : Int) : Bool := decide (0 ≤ f ∧ f ≤ 12 ∧ 0 ≤ e ∧ e < (2 ^ f.toNat : Nat))
def placeB (g h : Int) : Bool := decide (g = 0 ∧ h = 0 ∨ 1 ≤ g ∧ g ≤ 16777215 ∧ 0 ≤ h ∧ h < 512)
/-- Which fields a capability may have. -/
def capB (a b c d e f g h : Int) : Bool :=
  if a = 0 ∨ a = 7 then decide (b = 0 ∧ c = 0 ∧ d = 0 ∧ e = 0 ∧ f = 0 ∧ g = 0 ∧ h = 0)
  else if a = 1 ∨ a = 4 ∨ a = 5 ∨ a = 6 ∨ a = 9 then objB b && decide (c = 0 ∧ d = 0 ∧ e = 0 ∧ f = 0 ∧ g = 0 ∧ h = 0)
  else if a = 2 then objB b && guardB e f && decide (c = 0 ∧ d = 0 ∧ g = 0 ∧ h = 0)
  else if a = 3 then objB b && decide (1 ≤ c ∧ c ≤ 3) && placeB g h && decide (d = 0 ∧ e = 0 ∧ f = 0)
  else if a = 8 then objB b && mayB c && decide (d ≤ 16777215) && decide (e = 0 ∧ f = 0 ∧ g = 0 ∧ h = 0)
  else false
abbrev capV (a b c d e f g h : Int) : Value := .agg #[.int .i64 a, .int .i64 b, .int .i64 c, .int .u64 d, .int .i64 e, .int .i64 f, .int .i64 g, .int .i64 h]

theorem obj_any (a b c d e f g h : Int) (W : World) : Calls Tryd.prog 34 #[capV a b c d e f g h] W fun x W' => x = .returned (.bool (objB b)) ∧ Below W.heap.size W W' := by
  go_enter Tryd.func34, Tryd.ntmps34
  go_wp2
  all_goals go_ret
  all_goals refine ⟨ret_bool ?_, (Below.refl _ _).alloc (Nat.le_refl _) _⟩
  all_goals (rw [Bool.eq_iff_iff]; simp [objB]; omega)
theorem obj13_any (b : Int) (W : World) : Calls Tryd.prog 42 #[.int .i64 b] W fun x W' => x = .returned (.bool (objB b)) ∧ W = W' := by
  go_enter Tryd.func42, Tryd.ntmps42
  go_wp2
  all_goals go_ret
  all_goals refine ⟨ret_bool ?_, rfl⟩
  all_goals (rw [Bool.eq_iff_iff]; simp [objB]; omega)
theorem frame_any (a b c d e f g h : Int) (W : World) : Calls Tryd.prog 36 #[capV a b c d e f g h] W fun x W' => x = .returned (.bool (decide (1 ≤ c ∧ c ≤ 3) && placeB g h)) ∧ Below W.heap.size W W' := by
  by_cases hc : 1 ≤ c ∧ c ≤ 3
  · obtain ⟨h1, h2⟩ := hc
    by_cases hg : g = 0
    · subst hg
      by_cases hh : h = 0
      · subst hh
        go_enter Tryd.func36, Tryd.ntmps36
        go_wp2
        all_goals go_ret
        all_goals refine ⟨ret_bool ?_, (Below.refl _ _).alloc (Nat.le_refl _) _⟩
        all_goals (rw [Bool.eq_iff_iff]; simp [placeB]; omega)
      · go_enter Tryd.func36, Tryd.ntmps36
        go_wp2
        all_goals go_ret
        all_goals refine ⟨ret_bool ?_, (Below.refl _ _).alloc (Nat.le_refl _) _⟩
        all_goals (rw [Bool.eq_iff_iff]; simp [placeB]; omega)
    · go_enter Tryd.func36, Tryd.ntmps36
      go_wp2
      all_goals go_ret
      all_goals refine ⟨ret_bool ?_, (Below.refl _ _).alloc (Nat.le_refl _) _⟩
      all_goals (rw [Bool.eq_iff_iff]; simp [placeB]; omega)
  · go_enter Tryd.func36, Tryd.ntmps36
    go_wp2
    all_goals first
      | (exfalso; omega)
      | (go_ret
         refine ⟨ret_bool ?_, (Below.refl _ _).alloc (Nat.le_refl _) _⟩
         first | (rw [Bool.eq_iff_iff]; done) | (rw [Bool.eq_iff_iff]; simp [placeB] <;> omega))
end CX
end Go.Proofs.YtplanbihejodoaaDoor
