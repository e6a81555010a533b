/- package tlb: what a fill drives out, as plain mathematics; translations held against each other. -/
import Derived.Test.YtgfidbjhihignaaTkM
import Derived.LoopTactic
import Derived.Outline
import Derived.Deep.QuietTactic
import Derived.BigQuiet
namespace Go.Proofs.Ytgfidbjhihignaa
set_option linter.unusedVariables false
set_option linter.unusedSimpArgs false
open Go.ChangeShapes Go.WideShapes Go.ChangeAt Go.RowKit

theorem eqT (x y : TransX) (w : World) : (binOp .eql 104 (trX x) (trX y)).run Try.prog w = .ok (.bool (decide (x = y))) w := by
  obtain ⟨s, p, f, r, q⟩ := x
  obtain ⟨s', p', f', r', q'⟩ := y
  go_simp
  repeat (split <;> simp_all)
theorem neT (x y : TransX) (w : World) : (binOp .neq 104 (trX x) (trX y)).run Try.prog w = .ok (.bool (!decide (x = y))) w := by
  obtain ⟨s, p, f, r, q⟩ := x
  obtain ⟨s', p', f', r', q'⟩ := y
  go_simp
  repeat (split <;> simp_all)
theorem fill_one {S : Nat → TransX × TransX × Int} (x : TransX) (h : mayX x = true) : ∃ j, j < 2 ∧ (∀ q : Nat × Nat, q.2 < 2 → q ≠ (setNo x.p, j) → wayP (fillS S x) q = wayP S q) ∧ wayP (fillS S x) (setNo x.p, j) = x := by
  obtain ⟨⟨a, c, d⟩, hs⟩ : ∃ s, S (setNo x.p) = s := ⟨_, rfl⟩
  have e : fillS S x = setS S (setNo x.p) (fillR a c d x) := by unfold fillS; rw [if_pos h, hs]
  have g0 : ∀ d', fillR a c d x = (x, c, d') → ∃ j, j < 2 ∧ (∀ q : Nat × Nat, q.2 < 2 → q ≠ (setNo x.p, j) → wayP (fillS S x) q = wayP S q) ∧ wayP (fillS S x) (setNo x.p, j) = x := by
    intro d' hf
    refine ⟨0, by omega, fun q hq hn => ?_, by rw [e, hf]; simp [wayP, setS]⟩
    obtain ⟨k, l⟩ := q
    rw [e, hf]
    by_cases hk : k = setNo x.p
    · subst hk
      have hl : l = 1 := by
        simp only at hq
        have : l ≠ 0 := fun e => hn (by rw [e])
        omega
      subst hl
      simp [wayP, setS, hs]
    · simp [wayP, setS, hk]
  have g1 : ∀ d', fillR a c d x = (a, x, d') → ∃ j, j < 2 ∧ (∀ q : Nat × Nat, q.2 < 2 → q ≠ (setNo x.p, j) → wayP (fillS S x) q = wayP S q) ∧ wayP (fillS S x) (setNo x.p, j) = x := by
    intro d' hf
    refine ⟨1, by omega, fun q hq hn => ?_, by rw [e, hf]; simp [wayP, setS]⟩
    obtain ⟨k, l⟩ := q
    rw [e, hf]
    by_cases hk : k = setNo x.p
    · subst hk
      have hl : l = 0 := by
        simp only at hq
        have : l ≠ 1 := fun e => hn (by rw [e])
        omega
      subst hl
      simp [wayP, setS, hs]
    · simp [wayP, setS, hk]
  have hc : (∃ d', fillR a c d x = (x, c, d')) ∨ ∃ d', fillR a c d x = (a, x, d') := by
    unfold fillR
    split
    · split
      · exact .inl ⟨_, rfl⟩
      · exact .inr ⟨_, rfl⟩
    · split
      · split
        · exact .inl ⟨_, rfl⟩
        · exact .inr ⟨_, rfl⟩
      · split
        · exact .inl ⟨_, rfl⟩
        · exact .inr ⟨_, rfl⟩
  rcases hc with ⟨d', hf⟩ | ⟨d', hf⟩
  · exact g0 d' hf
  · exact g1 d' hf
theorem all_of_way {S : Nat → TransX × TransX × Int} {q : Nat × Nat} (h1 : q.1 < 4) (h2 : q.2 < 2) (h3 : wayP S q ≠ zT) : ∃ k, k < allN S ∧ allT S k = wayP S q := by
  obtain ⟨k, hk, e⟩ := List.mem_iff_getElem.1 (full_mem.2 ⟨h1, h2, h3⟩)
  refine ⟨k, hk, ?_⟩
  unfold allT
  rw [(allT_get hk).1, e]
/-- Translation i is not there any more, and it is of another space or page. -/
def lostB (S : Nat → TransX × TransX × Int) (x : TransX) (i : Nat) : Prop := (∀ k, k < allN (fillS S x) → allT (fillS S x) k ≠ allT S i) ∧ ¬ ((allT S i).s = x.s ∧ (allT S i).p = x.p)
theorem lost_place {S : Nat → TransX × TransX × Int} (h : Good S) (x : TransX) (hx : mayX x = true) : ∃ j, ∀ i (hi : i < allN S), lostB S x i → (fullP S 8)[i]'hi = (setNo x.p, j) ∧ setNo (allT S i).p = setNo x.p := by
  obtain ⟨j, hj, hoth, _⟩ := fill_one (S := S) x hx
  refine ⟨j, fun i hi hl => ?_⟩
  obtain ⟨l, hl2, hm, hw, he⟩ := all_place h hi
  have hq : (setNo (allT S i).p, l) = (setNo x.p, j) := by
    by_cases hc : (setNo (allT S i).p, l) = (setNo x.p, j)
    · exact hc
    · exfalso
      have e := hoth _ hl2 hc
      rw [hw] at e
      obtain ⟨k, hk, ek⟩ := all_of_way (S := fillS S x) (q := (setNo (allT S i).p, l)) (full_mem.1 hm).1 hl2 (by rw [e]; exact (allT_get hi).2.2.1)
      exact hl.1 k hk (by rw [ek, e])
  exact ⟨by rw [he, hq], congrArg Prod.fst hq⟩
theorem lost_once {S : Nat → TransX × TransX × Int} (h : Good S) (x : TransX) (hx : mayX x = true) {i m : Nat} (hi : i < allN S) (hm : m < allN S) (h1 : lostB S x i) (h2 : lostB S x m) : i = m := by
  obtain ⟨j, hj⟩ := lost_place h x hx
  have e1 := (hj i hi h1).1
  have e2 := (hj m hm h2).1
  rcases Nat.lt_trichotomy i m with g | g | g
  · have := List.pairwise_iff_getElem.1 (full_nodup S) i m hi hm g
    exact absurd (e1.trans e2.symm) this
  · exact g
  · have := List.pairwise_iff_getElem.1 (full_nodup S) m i hm hi g
    exact absurd (e2.trans e1.symm) this
theorem fill_find {S : Nat → TransX × TransX × Int} (h : Good S) (x : TransX) (hx : mayX x = true) : findS (fillS S x) x.s x.p = (x, true) := by
  obtain ⟨j, hj, _, hw⟩ := fill_one (S := S) x hx
  have g := good_fill h x
  have hp := may_pos hx
  have hk := setNo_lt hp.2.1
  unfold findS
  rw [if_pos ⟨hp.1, hp.2.1, hp.2.2.1⟩]
  obtain rfl | rfl : j = 0 ∨ j = 1 := by omega
  · simp only [wayP, if_true] at hw
    rw [hw, if_pos ⟨rfl, rfl⟩]
  · simp only [wayP, show ((1 : Nat) = 0) = False by simp, if_false] at hw
    have hne : ¬ ((fillS S x (setNo x.p)).1.s = x.s ∧ (fillS S x (setNo x.p)).1.p = x.p) := by
      rintro ⟨a, c⟩
      exact (g _ hk).ne (by omega) (by rw [a, hw]) (by rw [c, hw])
    rw [if_neg hne, hw, if_pos ⟨rfl, rfl⟩]
theorem TCells.kept {w w' : World} {g i : Nat} {x : TransX} (h : TCells w g i x) (k : Kept w.heap.size w w') (hb : g < w.heap.size) : TCells w' g i x := by
  obtain ⟨c0, c1, c2, c3, c4⟩ := h
  exact ⟨k.cell hb c0, k.cell hb c1, k.cell hb c2, k.cell hb c3, k.cell hb c4⟩
end Go.Proofs.Ytgfidbjhihignaa
