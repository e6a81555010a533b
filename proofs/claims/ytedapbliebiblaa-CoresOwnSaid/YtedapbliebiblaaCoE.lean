/- Facts for CoresDown: two pages of one space in a cache, and what a drop leaves. -/
import Derived.Test.YtedapbliebiblaaCoA
import Derived.Test.YtedapbliebiblaaCoD
namespace Go.Proofs.Ytedapbliebiblaa
set_option linter.unusedVariables false
set_option linter.unusedSimpArgs false
open Go.ChangeShapes Go.WideShapes Go.ChangeAt Go.RowKit Go.Shelf

def lf (s p : Int) : TransX := ⟨s, p, 3, true, false⟩
/-- The first k words of frame 2 are leaves. -/
def mF (k : Nat) : Nat → Int := fun j => if 16 ≤ j ∧ j < 16 + k then 775 else if j = 0 then 257 else if j = 8 then 513 else 0
theorem mF_0 : updM (updM (fun _ => 0) 0 257) 8 513 = mF 0 := by
  funext j
  unfold updM mF
  rw [if_neg (show ¬ (16 ≤ j ∧ j < 16 + 0) by omega)]
  by_cases h : j = 8
  · subst h; rfl
  · rw [if_neg h]
    by_cases h0 : j = 0
    · subst h0; rfl
    · rw [if_neg h0, if_neg h0, if_neg h]
theorem mF_succ (k : Nat) : updM (mF k) (16 + k) 775 = mF (k + 1) := by
  funext j
  unfold updM mF
  by_cases h : j = 16 + k
  · rw [if_pos h, if_pos (by omega)]
  · rw [if_neg h]
    by_cases h2 : 16 ≤ j ∧ j < 16 + k
    · rw [if_pos h2, if_pos (by omega)]
    · rw [if_neg h2, if_neg (show ¬ (16 ≤ j ∧ j < 16 + (k + 1)) by omega)]
theorem walk4 : ∀ P < 8, walkC 4 (mF 8) 0 ((P : Nat) : Int) = 0 ∧ leafW (mF 8) (atF 4 (mF 8) 0 ((P : Nat) : Int) 3).1 = 775 := by decide +kernel
theorem leaf4 (s : Int) (P : Nat) (h : P < 8) : leafT 4 (mF 8) 0 s (P : Int) = lf s P := by
  unfold leafT
  rw [(walk4 P h).2]
  rfl
theorem trans4 {S : TS} {s : Int} {P : Nat} (h : P < 8) (hf : (findS S s (P : Int)).2 = false) : transF 4 (mF 8) 0 s (P : Int) S = ((lf s P, false, 0), fillS S (lf s P)) := by
  unfold transF
  rw [if_neg (by rw [hf]; simp), if_pos (walk4 P h).1, leaf4 s P h]
def stD (s : Int) (P Q : Nat) : TS := if P = Q then fillS S0 (lf s P) else fillS (fillS S0 (lf s P)) (lf s Q)
theorem find4_0 : ∀ P < 8, ∀ s < 2, (findS S0 (((s : Nat) : Int) + 1) ((P : Nat) : Int)).2 = false := by decide +kernel
theorem find4_1 : ∀ P < 8, ∀ Q < 8, ∀ s < 2, P ≠ Q → (findS (fillS S0 (lf (((s : Nat) : Int) + 1) ((P : Nat) : Int))) (((s : Nat) : Int) + 1) ((Q : Nat) : Int)).2 = false := by decide +kernel
def drD (s : Int) (P Q : Nat) : TS × Nat := dropF (stD s P Q) (pageOut 1 (P : Int)) (fullP (stD s P Q) 8)
theorem drop4_n : ∀ P < 8, ∀ Q < 8, ∀ s < 2, (drD (((s : Nat) : Int) + 1) P Q).2 = if s = 0 then 1 else 0 := by decide +kernel
theorem drop4_2 : ∀ P < 8, ∀ Q < 8, ∀ s < 2, (dropF (drD (((s : Nat) : Int) + 1) P Q).1 (pageOut 1 ((P : Nat) : Int)) (fullP (drD (((s : Nat) : Int) + 1) P Q).1 8)).2 = 0 := by decide +kernel
def d2D (s : Int) (P Q : Nat) : TS := (dropF (drD s P Q).1 (pageOut 1 (P : Int)) (fullP (drD s P Q).1 8)).1
theorem all4_n : ∀ P < 8, ∀ Q < 8, ∀ s < 2, allN (d2D (((s : Nat) : Int) + 1) P Q) = (if s = 0 then 0 else 1) + (if P = Q then 0 else 1) := by decide +kernel
def rowB (s P : Nat) (x : TransX) : Bool := x.s == (s : Int) + 1 && x.f == 3 && x.r && !x.w && (s != 0 || x.p != (P : Int))
theorem all4_t : ∀ P < 8, ∀ Q < 8, ∀ s < 2, ∀ j < 2, (decide (j < allN (d2D (((s : Nat) : Int) + 1) P Q)) → rowB s P (allT (d2D (((s : Nat) : Int) + 1) P Q) j) = true) := by decide +kernel
theorem rowB_of {s P : Nat} {x : TransX} (h : rowB s P x = true) : x = ⟨(s : Int) + 1, x.p, 3, true, false⟩ ∧ (s = 0 → x.p ≠ (P : Int)) := by
  unfold rowB at h
  simp only [Bool.and_eq_true, beq_iff_eq, Bool.not_eq_true', Bool.or_eq_true, bne_iff_ne] at h
  obtain ⟨⟨⟨⟨h1, h2⟩, h3⟩, h4⟩, h5⟩ := h
  obtain ⟨xs, xp, xf, xr, xw⟩ := x
  simp only at h1 h2 h3 h4 h5
  subst h1 h2 h3 h4
  exact ⟨rfl, fun hs => h5.resolve_left (by simp [hs])⟩
end Go.Proofs.Ytedapbliebiblaa
