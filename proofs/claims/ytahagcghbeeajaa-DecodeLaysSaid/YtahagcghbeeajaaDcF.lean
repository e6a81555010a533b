/- What Decode answers, read back. -/
import Derived.Test.YtahagcghbeeajaaDcE
namespace Go.Proofs.Ytahagcghbeeajaa
set_option linter.unusedVariables false
set_option linter.unusedSimpArgs false
open Go.ChangeShapes Go.WideShapes Go.ChangeAt Go.RowKit Go.Shelf

theorem uw (x : Int) (h0 : 0 ≤ x) (h1 : x ≤ 18446744073709551615) : IntKind.u64.wrap (wrap64 x) = x := by
  rw [IntKind.wrap_u64]
  unfold wrap64
  omega
theorem sw (x : Int) (h0 : 0 ≤ x) (h1 : x ≤ 9223372036854775807) : wrap64 x = x := by
  unfold wrap64
  omega
abbrev okW (L : List Frm) (a : Nat → Int) (i : Nat) : Prop := ¬ (a i < (fmAt L i).2.1 ∨ (fmAt L i).2.2 < a i)
theorem run_ok (L : List Frm) (a : Nat → Int) : ∀ (pre : List (Fin 6)) (s : (Nat → Int) × Int), (pre.foldl (fun s x => stepD L a s x.1) s).2 = 0 → s.2 = 0 ∧ (∀ x ∈ pre, okW L a x.1) ∧ (pre.foldl (fun s x => stepD L a s x.1) s).1 = pre.foldl (fun o x => putF (fmAt L x.1).1 (a x.1) o) s.1
  | [], s, h => ⟨h, fun _ h => absurd h List.not_mem_nil, rfl⟩
  | x :: pre, s, h => by
    obtain ⟨h1, h2, h3⟩ := run_ok L a pre (stepD L a s x.1) h
    by_cases hc : a x.1 < (fmAt L x.1).2.1 ∨ (fmAt L x.1).2.2 < a x.1
    · have e : stepD L a s x.1 = (s.1, 3) := if_pos hc
      rw [e] at h1
      exact absurd h1 (by simp)
    · have e : stepD L a s x.1 = (putF (fmAt L x.1).1 (a x.1) s.1, s.2) := if_neg hc
      rw [e] at h1 h3
      refine ⟨h1, fun y hy => ?_, ?_⟩
      · rcases List.mem_cons.1 hy with rfl | hy
        · exact hc
        · exact h2 y hy
      · show (pre.foldl (fun s x => stepD L a s x.1) (stepD L a s x.1)).1 = _
        rw [e, h3]
        rfl
/-- The order that words make. -/
def mkO (n : Int) (L : List Frm) (a : Nat → Int) : Nat → Int := putF (fmAt L 5).1 (a 5) (putF (fmAt L 4).1 (a 4) (putF (fmAt L 3).1 (a 3) (putF (fmAt L 2).1 (a 2) (putF (fmAt L 1).1 (a 1) (putF (fmAt L 0).1 (a 0) (o0 n))))))
theorem dec_ok (n : Nat) (a o : Nat → Int) (h : decM n a = (o, 0)) : ∃ L, formsL n = some L ∧ (∀ i < 6, okW L a i) ∧ (∀ i < 6, ¬ ((fmAt L i).1 = 0 ∧ a i ≠ 0)) ∧ o = mkO n L a ∧ ¬ (n = 1 ∧ framesN (wrap64 (a 1)) (wrap64 (a 2)) = 0) := by
  cases hL : formsL n with
  | none => unfold decM at h; rw [hL] at h; cases h
  | some L =>
    unfold decM at h
    rw [hL] at h
    simp only at h
    by_cases h1 : n = 1 ∧ framesN (wrap64 (a 1)) (wrap64 (a 2)) = 0
    · rw [if_pos h1] at h; cases h
    · rw [if_neg h1] at h
      by_cases h2 : (fst6 6).any (fun x => stopD L a x.1) = true
      · rw [if_pos h2] at h; cases h
      · rw [if_neg h2] at h
        by_cases h3 : (runL n L a (fst6 6)).2 = 0
        · rw [if_pos h3] at h
          obtain ⟨-, r2, r3⟩ := run_ok L a (fst6 6) (o0 n, 0) h3
          refine ⟨L, rfl, fun i hi => r2 ⟨i, hi⟩ (List.mem_finRange _), fun i hi hc => h2 (List.any_eq_true.2 ⟨⟨i, hi⟩, List.mem_finRange _, decide_eq_true hc⟩), ?_, h1⟩
          have this : (runL n L a (fst6 6)).1 = o := congrArg Prod.fst h
          exact this.symm.trans r3
        · rw [if_neg h3] at h
          exact absurd (congrArg Prod.snd h) h3
set_option maxHeartbeats 4000000 in
theorem dec_get (n : Nat) (L : List Frm) (a : Nat → Int) (hL : formsL n = some L) (hw : ∀ i < 6, 0 ≤ a i ∧ a i ≤ 18446744073709551615) (hr : ∀ i < 6, okW L a i) : ∀ i < L.length, getF (fmAt L i).1 (mkO n L a) = a i := by
  have w0 := hw 0 (by decide)
  have w1 := hw 1 (by decide)
  have w2 := hw 2 (by decide)
  have w3 := hw 3 (by decide)
  have w4 := hw 4 (by decide)
  have w5 := hw 5 (by decide)
  have r0 := hr 0 (by decide)
  have r1 := hr 1 (by decide)
  have r2 := hr 2 (by decide)
  have r3 := hr 3 (by decide)
  have r4 := hr 4 (by decide)
  have r5 := hr 5 (by decide)
  clear hw hr
  unfold formsL at hL
  split at hL
  all_goals first
    | (cases hL; done)
    | skip
  all_goals
    cases hL
    intro i hi
    simp only [List.length_cons, List.length_nil] at hi
    simp only [okW, fmAt, List.getElem?_cons_zero, List.getElem?_cons_succ, List.getElem?_nil, Option.getD_some, Option.getD_none] at r0 r1 r2 r3 r4 r5
    obtain rfl | rfl | rfl | rfl | rfl | rfl : i = 0 ∨ i = 1 ∨ i = 2 ∨ i = 3 ∨ i = 4 ∨ i = 5 := by omega
  all_goals first
    | (exfalso; omega)
    | (simp [mkO, putF, getF, fmAt, up, o0, uw _ w0.1 w0.2, uw _ w1.1 w1.2, uw _ w2.1 w2.2, uw _ w3.1 w3.2, uw _ w4.1 w4.2, uw _ w5.1 w5.2]; done)
    | skip
  all_goals
    have e : mkO (1 : Nat) [(1, 0, 4095), (3, 0, 18446744073709551615), (4, 0, 18446744073709551615), (2, 0, 4095), (5, 0, 15), (6, 1, 4)] a 6 = a 4 + a 5 * 16 := by
      have e1 : mkO (1 : Nat) [(1, 0, 4095), (3, 0, 18446744073709551615), (4, 0, 18446744073709551615), (2, 0, 4095), (5, 0, 15), (6, 1, 4)] a 6 = wrap64 (wrap64 (wrap64 (a 4)) + wrap64 (wrap64 (a 5) * 16)) := by simp [mkO, putF, fmAt, up, o0]
      rw [e1]
      unfold wrap64
      omega
    have e2 : IntKind.u64.wrap (a 4 + a 5 * 16) = a 4 + a 5 * 16 := by rw [IntKind.wrap_u64]; omega
  · show (IntKind.u64.wrap (mkO (1 : Nat) _ a 6)).tmod 16 = a 4
    rw [e, e2, Int.tmod_eq_emod_of_nonneg (by omega)]
    omega
  · show IntKind.u64.wrap ((IntKind.u64.wrap (mkO (1 : Nat) _ a 6)).tdiv 16) = a 5
    rw [e, e2, Int.tdiv_eq_ediv_of_nonneg (by omega), IntKind.wrap_u64]
    omega
theorem getF_congr (p : Nat) (hp : p < 12) (o o' : Nat → Int) (h : ∀ i, i < 12 → o i = o' i) : getF p o = getF p o' := by
  obtain rfl | rfl | rfl | rfl | rfl | rfl | rfl | rfl | rfl | rfl | rfl | rfl : p = 0 ∨ p = 1 ∨ p = 2 ∨ p = 3 ∨ p = 4 ∨ p = 5 ∨ p = 6 ∨ p = 7 ∨ p = 8 ∨ p = 9 ∨ p = 10 ∨ p = 11 := by omega
  all_goals simp [getF, h]
theorem fm_len (n : Nat) (L : List Frm) (h : formsL n = some L) : L.length ≤ 6 := by
  unfold formsL at h
  split at h
  all_goals first
    | (cases h; done)
    | (cases h; decide)
/-- One word turned: the same order, only if it is the same word. -/
theorem dec_inj (n : Nat) (a b o p : Nat → Int) (k : Nat) (hk : k < 6) (ha : ∀ i < 6, 0 ≤ a i ∧ a i ≤ 18446744073709551615) (hb : ∀ i < 6, 0 ≤ b i ∧ b i ≤ 18446744073709551615) (h : decM n a = (o, 0)) (h2 : decM n b = (p, 0)) (e : eqB p o = true) : b k = a k := by
  obtain ⟨L, hL, r1, s1, rfl, -⟩ := dec_ok n a o h
  obtain ⟨L', hL', r2, s2, rfl, -⟩ := dec_ok n b p h2
  obtain rfl : L' = L := Option.some.inj (hL'.symm.trans hL)
  have hx := (eqB_iff _ _).1 e
  by_cases hl : k < L'.length
  · rw [← dec_get n L' a hL ha r1 k hl, ← dec_get n L' b hL hb r2 k hl]
    exact getF_congr _ (forms_lt n L' hL k hk) _ _ hx
  · have z : (fmAt L' k).1 = 0 := by
      unfold fmAt
      rw [List.getElem?_eq_none (by omega)]
      rfl
    have za : a k = 0 := Classical.byContradiction fun hc => s1 k hk ⟨z, hc⟩
    have zb : b k = 0 := Classical.byContradiction fun hc => s2 k hk ⟨z, hc⟩
    rw [za, zb]
theorem fl_z (n : Nat) (a : Nat → Int) (h : ¬ (decM n a).2 = 0) : (decM n a).1 = zO := by
  unfold decM at h ⊢
  cases hL : formsL n with
  | none => rfl
  | some L =>
    rw [hL] at h
    simp only at h ⊢
    split
    · rfl
    · split
      · rfl
      · split
        · rename_i h1 h2 h3
          rw [if_neg h1, if_neg h2, if_pos h3] at h
          exact absurd rfl h
        · rfl
end Go.Proofs.Ytahagcghbeeajaa
