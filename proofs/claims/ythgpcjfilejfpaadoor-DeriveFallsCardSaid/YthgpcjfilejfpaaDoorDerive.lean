/- derive.Copy and derive.Mint, and chapter 14's own: what they come to, as functions. -/
import Derived.Test.YthgpcjfilejfpaaDoorMint
import Derived.Test.YthgpcjfilejfpaaDoorCopyR
namespace Go.Proofs.YthgpcjfilejfpaaDoor
set_option linter.unusedVariables false
set_option linter.unusedSimpArgs false
open Go.ChangeShapes Go.WideShapes Go.ChangeAt Go.RowKit

def CapX.B (x : CapX) : Bool := capB x.a x.b x.c x.d x.e x.f x.g x.h
abbrev zX : CapX := ⟨0, 0, 0, 0, 0, 0, 0, 0⟩
def copyX (x : CapX) (m : Int) : CapX × Int :=
  if x.B = false ∨ mayB m = false then (zX, 2)
  else if x.a = 0 then (zX, 10)
  else if x.a = 1 ∨ x.a = 7 then (zX, 8)
  else if x.a = 3 then (if maskN x.c m = 0 then (zX, 9) else (⟨x.a, x.b, maskN x.c m, x.d, x.e, x.f, 0, 0⟩, 0))
  else if x.a = 8 then (⟨x.a, x.b, maskN x.c m, x.d, x.e, x.f, x.g, x.h⟩, 0)
  else (x, 0)
/-- What a call comes to, from every world that holds the table. -/
abbrev Gives (F : Nat) (args : Array Value) (r : Value) : Prop := ∀ w : World, TabG w → Calls Tryd.prog F args w fun e w' => e = .returned r ∧ Below w.heap.size w w'
theorem capB_kind {a b c d e f g h : Int} (hx : capB a b c d e f g h = true) : a = 0 ∨ a = 7 ∨ a = 1 ∨ a = 3 ∨ a = 8 ∨ a = 2 ∨ a = 4 ∨ a = 5 ∨ a = 6 ∨ a = 9 := by
  unfold capB at hx
  split at hx
  · omega
  · split at hx
    · omega
    · split at hx
      · omega
      · split at hx
        · omega
        · split at hx
          · omega
          · simp at hx
theorem copyD (x : CapX) (m : Int) (he : x.e ≤ 9223372036854775807) : Gives 25 #[x.val, .int .i64 m] (.tuple #[(copyX x m).1.val, .int .i64 (copyX x m).2]) := by
  intro W hT
  obtain ⟨a, b, c, d, e, f, g, h⟩ := x
  cases hx : capB a b c d e f g h with
  | false =>
    rw [show copyX ⟨a, b, c, d, e, f, g, h⟩ m = (zX, 2) by simp [copyX, CapX.B, hx]]
    exact copy_bad1 a b c d e f g h m W hT he hx
  | true =>
    cases hm : mayB m with
    | false =>
      rw [show copyX ⟨a, b, c, d, e, f, g, h⟩ m = (zX, 2) by simp [copyX, CapX.B, hm]]
      exact copy_bad2 a b c d e f g h m W hT he hx hm
    | true =>
      rcases capB_kind hx with ha | ha | ha | ha | ha | ha
      · rw [show copyX ⟨a, b, c, d, e, f, g, h⟩ m = (zX, 10) by subst ha; simp [copyX, CapX.B, hx, hm]]
        exact copy_k0 a b c d e f g h m W hT he hx hm ha
      · rw [show copyX ⟨a, b, c, d, e, f, g, h⟩ m = (zX, 8) by subst ha; simp [copyX, CapX.B, hx, hm]]
        exact copy_k1 a b c d e f g h m W hT he hx hm (.inr ha)
      · rw [show copyX ⟨a, b, c, d, e, f, g, h⟩ m = (zX, 8) by subst ha; simp [copyX, CapX.B, hx, hm]]
        exact copy_k1 a b c d e f g h m W hT he hx hm (.inl ha)
      · by_cases hn : maskN c m = 0
        · rw [show copyX ⟨a, b, c, d, e, f, g, h⟩ m = (zX, 9) by subst ha; simp [copyX, CapX.B, hx, hm, hn]]
          exact copy_k3n a b c d e f g h m W hT he hx hm ha hn
        · rw [show copyX ⟨a, b, c, d, e, f, g, h⟩ m = (⟨a, b, maskN c m, d, e, f, 0, 0⟩, 0) by subst ha; simp [copyX, CapX.B, hx, hm, hn]]
          exact copy_k3y a b c d e f g h m W hT he hx hm ha hn
      · rw [show copyX ⟨a, b, c, d, e, f, g, h⟩ m = (⟨a, b, maskN c m, d, e, f, g, h⟩, 0) by subst ha; simp [copyX, CapX.B, hx, hm]]
        exact copy_k8 a b c d e f g h m W hT he hx hm ha
      · rw [show copyX ⟨a, b, c, d, e, f, g, h⟩ m = (⟨a, b, c, d, e, f, g, h⟩, 0) by
          have h0 : ¬ a = 0 := by omega
          have h1 : ¬ (a = 1 ∨ a = 7) := by omega
          have h3 : ¬ a = 3 := by omega
          have h8 : ¬ a = 8 := by omega
          simp only [copyX, CapX.B, hx, hm, Bool.true_eq_false, or_self, if_neg h0, if_neg h1, if_neg h3, if_neg h8, if_false]]
        exact copy_rest a b c d e f g h m W hT he hx hm ha
theorem copyR14 (x : CapX) (m : Int) (W : World) : Calls Tryd.prog 26 #[x.val, .int .i64 m] W fun r W' => r = .returned (.tuple #[(copyX x m).1.val, .int .i64 (copyX x m).2]) ∧ Below W.heap.size W W' := by
  obtain ⟨a, b, c, d, e, f, g, h⟩ := x
  cases hx : capB a b c d e f g h with
  | false =>
    rw [show copyX ⟨a, b, c, d, e, f, g, h⟩ m = (zX, 2) by simp [copyX, CapX.B, hx]]
    exact rcopy_bad1 a b c d e f g h m W hx
  | true =>
    cases hm : mayB m with
    | false =>
      rw [show copyX ⟨a, b, c, d, e, f, g, h⟩ m = (zX, 2) by simp [copyX, CapX.B, hm]]
      exact rcopy_bad2 a b c d e f g h m W hx hm
    | true =>
      rcases capB_kind hx with ha | ha | ha | ha | ha | ha
      · rw [show copyX ⟨a, b, c, d, e, f, g, h⟩ m = (zX, 10) by subst ha; simp [copyX, CapX.B, hx, hm]]
        exact rcopy_k0 a b c d e f g h m W hx hm ha
      · rw [show copyX ⟨a, b, c, d, e, f, g, h⟩ m = (zX, 8) by subst ha; simp [copyX, CapX.B, hx, hm]]
        exact rcopy_k1 a b c d e f g h m W hx hm (.inr ha)
      · rw [show copyX ⟨a, b, c, d, e, f, g, h⟩ m = (zX, 8) by subst ha; simp [copyX, CapX.B, hx, hm]]
        exact rcopy_k1 a b c d e f g h m W hx hm (.inl ha)
      · by_cases hn : maskN c m = 0
        · rw [show copyX ⟨a, b, c, d, e, f, g, h⟩ m = (zX, 9) by subst ha; simp [copyX, CapX.B, hx, hm, hn]]
          exact rcopy_k3n a b c d e f g h m W hx hm ha hn
        · rw [show copyX ⟨a, b, c, d, e, f, g, h⟩ m = (⟨a, b, maskN c m, d, e, f, 0, 0⟩, 0) by subst ha; simp [copyX, CapX.B, hx, hm, hn]]
          exact rcopy_k3y a b c d e f g h m W hx hm ha hn
      · rw [show copyX ⟨a, b, c, d, e, f, g, h⟩ m = (⟨a, b, maskN c m, d, e, f, g, h⟩, 0) by subst ha; simp [copyX, CapX.B, hx, hm]]
        exact rcopy_k8 a b c d e f g h m W hx hm ha
      · rw [show copyX ⟨a, b, c, d, e, f, g, h⟩ m = (⟨a, b, c, d, e, f, g, h⟩, 0) by
          have h0 : ¬ a = 0 := by omega
          have h1 : ¬ (a = 1 ∨ a = 7) := by omega
          have h3 : ¬ a = 3 := by omega
          have h8 : ¬ a = 8 := by omega
          simp only [copyX, CapX.B, hx, hm, Bool.true_eq_false, or_self, if_neg h0, if_neg h1, if_neg h3, if_neg h8, if_false]]
        exact rcopy_rest a b c d e f g h m W hx hm ha
/-- The ways of a copy. -/
theorem copyX_ways (x : CapX) (m : Int) : (copyX x m).1 = zX ∧ (0 < (copyX x m).2 ∧ (copyX x m).2 ≤ 10) ∨ ((copyX x m).2 = 0 ∧ x.B = true ∧ mayB m = true ∧
    (x.a = 3 ∧ maskN x.c m ≠ 0 ∧ (copyX x m).1 = ⟨x.a, x.b, maskN x.c m, x.d, x.e, x.f, 0, 0⟩ ∨ x.a = 8 ∧ (copyX x m).1 = ⟨x.a, x.b, maskN x.c m, x.d, x.e, x.f, x.g, x.h⟩ ∨
      (x.a = 2 ∨ x.a = 4 ∨ x.a = 5 ∨ x.a = 6 ∨ x.a = 9) ∧ (copyX x m).1 = x)) := by
  obtain ⟨a, b, c, d, e, f, g, h⟩ := x
  unfold copyX
  split
  · exact .inl ⟨rfl, by decide⟩
  · rename_i hh
    simp only [not_or, Bool.not_eq_false] at hh
    split
    · exact .inl ⟨rfl, by decide⟩
    · split
      · exact .inl ⟨rfl, by decide⟩
      · split
        · split
          · exact .inl ⟨rfl, by decide⟩
          · exact .inr ⟨rfl, hh.1, hh.2, .inl ⟨by assumption, by assumption, rfl⟩⟩
        · split
          · exact .inr ⟨rfl, hh.1, hh.2, .inr (.inl ⟨by assumption, rfl⟩)⟩
          · exact .inr ⟨rfl, hh.1, hh.2, .inr (.inr ⟨by have := capB_kind hh.1; simp only at *; omega, rfl⟩)⟩
end Go.Proofs.YthgpcjfilejfpaaDoor
