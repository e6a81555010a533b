/- What holds of every cache that acts have made; 'played'. -/
import Derived.Test.YtgfidbjhihignaaTkP
import Derived.LoopTactic
namespace Go.Proofs.Ytgfidbjhihignaa
set_option linter.unusedVariables false
set_option linter.unusedSimpArgs false
open Go.ChangeShapes Go.WideShapes Go.ChangeAt Go.RowKit

/-- A way of set i: it has nothing, or what may be filled in there. -/
def GoodT (i : Nat) (x : TransX) : Prop := x = zT ∨ mayX x = true ∧ setNo x.p = i
structure GoodS (i : Nat) (s : TransX × TransX × Int) : Prop where
  x : GoodT i s.1
  y : GoodT i s.2.1
  ne : 1 ≤ s.1.s → s.1.s = s.2.1.s → s.1.p = s.2.1.p → False
  d : s.2.2 = 0 ∨ s.2.2 = 1
def Good (S : Nat → TransX × TransX × Int) : Prop := ∀ i, i < 4 → GoodS i (S i)
theorem may_pos {t : TransX} (h : mayX t = true) : 1 ≤ t.s ∧ 0 ≤ t.p ∧ t.p < 512 ∧ 0 ≤ t.f ∧ t.f < 64 := by
  unfold mayX at h
  simp only [Bool.and_eq_true, decide_eq_true_eq] at h
  exact h.1
theorem GoodT.ok {i : Nat} {x : TransX} (h : GoodT i x) : OkT x := h.imp id fun h => (may_pos h.1).1
theorem Good.ok {S : Nat → TransX × TransX × Int} (h : Good S) : Oks S := fun i hi => ⟨(h i hi).x.ok, (h i hi).y.ok, (h i hi).d⟩
theorem good_S0 : Good S0 := fun i hi => ⟨.inl rfl, .inl rfl, fun h => by simp at h, .inl rfl⟩
theorem good_set {S : Nat → TransX × TransX × Int} (h : Good S) {k : Nat} {s : TransX × TransX × Int} (hs : GoodS k s) : Good (setS S k s) := by
  intro i hi
  unfold setS
  by_cases hk : i = k
  · subst hk; rw [if_pos rfl]; exact hs
  · rw [if_neg hk]; exact h i hi
theorem good_fillR {k : Nat} {x y t : TransX} {d : Int} (h : GoodS k (x, y, d)) (ht : mayX t = true) (hk : setNo t.p = k) : GoodS k (fillR x y d t) := by
  obtain ⟨gx, gy, ne, gd⟩ := h
  simp only at gx gy ne gd
  have t1 := (may_pos ht).1
  have gt : GoodT k t := .inr ⟨ht, hk⟩
  have f2 : ∀ z : TransX, z.s = t.s ∧ z.p = t.p ∨ ¬ (z.s = t.s ∧ z.p = t.p) := fun z => Classical.em _
  unfold fillR findR emptyR
  rcases f2 x with hx | hx
  · simp only [if_pos hx, if_true]
    exact ⟨gt, gy, fun a b c => ne (by omega) (by simp only at b; omega) (by simp only at c; omega), gd⟩
  · rcases f2 y with hy | hy
    · simp only [if_neg hx, if_pos hy, if_true, show ((1 : Int) = 0) = False by simp, if_false]
      exact ⟨gx, gt, fun a b c => hx ⟨b, c⟩, gd⟩
    · simp only [if_neg hx, if_neg hy, Bool.false_eq_true, if_false]
      by_cases hx0 : x = zT
      · simp only [if_pos hx0, if_true]
        exact ⟨gt, gy, fun a b c => hy ⟨b.symm, c.symm⟩, gd⟩
      · by_cases hy0 : y = zT
        · simp only [if_neg hx0, if_pos hy0, if_true, show ((1 : Int) = 0) = False by simp, if_false]
          exact ⟨gx, gt, fun a b c => hx ⟨b, c⟩, gd⟩
        · simp only [if_neg hx0, if_neg hy0, Bool.false_eq_true, if_false]
          split
          · exact ⟨gt, gy, fun a b c => hy ⟨b.symm, c.symm⟩, .inr rfl⟩
          · exact ⟨gx, gt, fun a b c => hx ⟨b, c⟩, .inl rfl⟩
theorem good_fill {S : Nat → TransX × TransX × Int} (h : Good S) (t : TransX) : Good (fillS S t) := by
  unfold fillS
  split
  · rename_i ht
    have := may_pos ht
    exact good_set h (good_fillR (by simpa using h _ (setNo_lt this.2.1)) ht rfl)
  · exact h
theorem good_wipe {S : Nat → TransX × TransX × Int} (h : Good S) (x : Nat × Nat) (hx : x.1 < 4) : Good (wipeP S x) := by
  obtain ⟨a, c⟩ := x
  have g := h a hx
  unfold wipeP
  simp only
  split
  · exact good_set h ⟨.inl rfl, g.y, fun h => by simp at h, g.d⟩
  · split
    · exact good_set h ⟨g.x, .inl rfl, fun a b c => by simp only at a b; omega, g.d⟩
    · exact h
theorem good_drop (out : TransX → Bool) : ∀ (pre : List (Nat × Nat)) (s : (Nat → TransX × TransX × Int) × Nat), (∀ x ∈ pre, x.1 < 4) → Good s.1 → Good (pre.foldl (dropStep out) s).1
  | [], s, _, h => h
  | x :: pre, s, hp, h => by
    rw [List.foldl_cons]
    refine good_drop out pre _ (fun y hy => hp y (by simp [hy])) ?_
    unfold dropStep
    split
    · exact good_wipe h x (hp x (by simp))
    · exact h
theorem fullP_set {S : Nat → TransX × TransX × Int} {p : Nat × Nat} (h : p ∈ fullP S 8) : p.1 < 4 := by
  have := fullP_mem h
  omega
theorem good_dropF {S : Nat → TransX × TransX × Int} (h : Good S) (out : TransX → Bool) : Good (dropF S out (fullP S 8)).1 :=
  good_drop out _ _ (fun _ hx => fullP_set hx) h
theorem good_evict {S : Nat → TransX × TransX × Int} (h : Good S) (i j : Int) : Good (evictS S i j).1 := by
  unfold evictS
  split
  · exact good_wipe h _ (by simp only; omega)
  · exact h
end Go.Proofs.Ytgfidbjhihignaa
