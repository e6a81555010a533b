/- Chapter 28's own Encode: its words. -/
import Derived.Test.YtahagcghbeeajaaDcP
import Derived.Test.YtahagcghbeeajaaDcK
namespace Go.Proofs.Ytahagcghbeeajaa
set_option linter.unusedVariables false
set_option linter.unusedSimpArgs false
open Go.ChangeShapes Go.WideShapes Go.ChangeAt Go.RowKit Go.Shelf

def encS (sB : Nat → Nat) (m4 : Bool) (o : Nat → Int) : Nat → (Nat → Int) × Bool × Nat
  | 0 => (zW, true, 0)
  | k + 1 =>
    let s := encS sB m4 o k
    if sB k = 97 then (if s.2.1 = true then (up s.1 k (IntKind.u64.wrap (o 1)), false, s.2.2) else (up s.1 k (IntKind.u64.wrap (o 2)), s.2.1, s.2.2))
    else if sB k = 119 then (if m4 = true then (up s.1 k (o (8 + s.2.2)), s.2.1, s.2.2 + 1) else (up s.1 k (o 7), s.2.1, s.2.2))
    else (up s.1 k (IntKind.u64.wrap (o 4)), s.2.1, s.2.2)
structure OkO (o : Nat → Int) : Prop where
  i : ∀ j < 7, -9223372036854775808 ≤ o j ∧ o j ≤ 9223372036854775807
  u : ∀ j, 7 ≤ j → j < 12 → 0 ≤ o j ∧ o j ≤ 18446744073709551615
set_option maxHeartbeats 4000000 in
theorem enc_same (n : Nat) (L : List Frm) (o : Nat → Int) (h : formsL n = some L) (hn : ¬ n = 1) : (∀ i < 6, (encS (fun k => (ltr n).getD k 0) (m4L (ltr n)) o (ltr n).length).1 i = encA L o L.length i) ∧ ∀ k < (ltr n).length, (ltr n).getD k 0 = 119 → m4L (ltr n) = true → (encS (fun k => (ltr n).getD k 0) (m4L (ltr n)) o k).2.2 < 4 := by
  obtain ⟨h0, h1⟩ := formsL_n n L h
  obtain rfl | rfl | rfl | rfl | rfl | rfl | rfl | rfl | rfl | rfl | rfl | rfl | rfl | rfl | rfl | rfl | rfl | rfl | rfl | rfl | rfl | rfl | rfl : n = 1 ∨ n = 2 ∨ n = 3 ∨ n = 4 ∨ n = 5 ∨ n = 6 ∨ n = 7 ∨ n = 8 ∨ n = 9 ∨ n = 10 ∨ n = 11 ∨ n = 12 ∨ n = 13 ∨ n = 14 ∨ n = 15 ∨ n = 16 ∨ n = 17 ∨ n = 18 ∨ n = 19 ∨ n = 20 ∨ n = 21 ∨ n = 22 ∨ n = 23 := by omega
  all_goals first
    | exact absurd rfl hn
    | skip
  all_goals
    cases h
    refine ⟨fun i hi => ?_, fun k hk h1 h2 => ?_⟩
    · obtain rfl | rfl | rfl | rfl | rfl | rfl : i = 0 ∨ i = 1 ∨ i = 2 ∨ i = 3 ∨ i = 4 ∨ i = 5 := by omega
      all_goals simp [encS, ltr, encA, getF, fmAt, m4L, up, zW]
    · simp only [ltr, List.length_cons, List.length_nil] at hk
      obtain rfl | rfl | rfl | rfl | rfl | rfl : k = 0 ∨ k = 1 ∨ k = 2 ∨ k = 3 ∨ k = 4 ∨ k = 5 := by omega
      all_goals first
        | (exfalso; omega)
        | (simp [encS, ltr, m4L]; done)
        | (simp [ltr, m4L] at h1 h2; done)
theorem enc_neg (o : Nat → Int) (ho : OkO o) (h : o 0 < 0) : encM o = ((0, zW), 5) := by
  have hw := (ho.i 0 (by decide))
  have hn : formsL (opN o) = none := by
    cases hL : formsL (opN o) with
    | none => rfl
    | some L =>
      have h2 := (formsL_n _ L hL).2
      unfold opN at h2
      rw [IntKind.wrap_u64] at h2
      omega
  unfold encM
  rw [d_none _ _ hn]
  exact if_neg (fun h => absurd h.1 (by decide))
theorem enc_none (o : Nat → Int) (hn : formsL (opN o) = none) : encM o = ((0, zW), 5) := by
  unfold encM
  rw [d_none _ _ hn]
  exact if_neg (fun h => absurd h.1 (by decide))
theorem opN_pos (o : Nat → Int) (ho : OkO o) (h : 0 ≤ o 0) : ((opN o : Nat) : Int) = o 0 := by
  have hw := (ho.i 0 (by decide))
  unfold opN
  rw [IntKind.wrap_u64]
  omega
def retA (o : Nat → Int) : Nat → Int
  | 0 => IntKind.u64.wrap (o 1) | 1 => IntKind.u64.wrap (o 4) | 2 => IntKind.u64.wrap (o 5) | 3 => IntKind.u64.wrap (o 2) | 4 => IntKind.u64.wrap ((o 6).tmod 16) | _ => IntKind.u64.wrap ((o 6).tdiv 16)
theorem ret_words (L : List Frm) (o : Nat → Int) (ho : OkO o) (h : formsL 1 = some L) (h6 : 0 ≤ o 6) : ∀ i < 6, retA o i = encA L o L.length i := by
  have hw := (ho.i 6 (by decide))
  have e2 : IntKind.u64.wrap (o 6) = o 6 := by rw [IntKind.wrap_u64]; omega
  cases h
  intro i hi
  obtain rfl | rfl | rfl | rfl | rfl | rfl : i = 0 ∨ i = 1 ∨ i = 2 ∨ i = 3 ∨ i = 4 ∨ i = 5 := by omega
  · rfl
  · rfl
  · rfl
  · rfl
  · show IntKind.u64.wrap ((o 6).tmod 16) = (IntKind.u64.wrap (o 6)).tmod 16
    rw [e2, Int.tmod_eq_emod_of_nonneg h6, IntKind.wrap_u64]
    omega
  · show IntKind.u64.wrap ((o 6).tdiv 16) = IntKind.u64.wrap ((IntKind.u64.wrap (o 6)).tdiv 16)
    rw [e2]
theorem enc_ret_neg (o : Nat → Int) (ho : OkO o) (hn : opN o = 1) (h6 : o 6 < 0) : encM o = ((0, zW), 5) := by
  unfold encM
  refine if_neg (fun h => ?_)
  obtain ⟨h1, h2⟩ := h
  rw [hn] at h1 h2
  obtain ⟨⟨p, c⟩, hm⟩ : ∃ z, decM 1 (wordsO o) = z := ⟨_, rfl⟩
  rw [hm] at h1 h2
  simp only at h1 h2
  subst h1
  obtain ⟨L, hL, r, -, rfl, -⟩ := dec_ok 1 _ p hm
  have e := (eqB_iff _ _).1 h2 6 (by decide)
  cases hL
  have r4 := r 4 (by decide)
  have r5 := r 5 (by decide)
  simp only [okW, fmAt, List.getElem?_cons_zero, List.getElem?_cons_succ, Option.getD_some] at r4 r5
  have e1 : mkO ((1 : Nat) : Int) [(1, 0, 4095), (3, 0, 18446744073709551615), (4, 0, 18446744073709551615), (2, 0, 4095), (5, 0, 15), (6, 1, 4)] (wordsO o) 6 = wrap64 (wrap64 (wrap64 (wordsO o 4)) + wrap64 (wrap64 (wordsO o 5) * 16)) := by simp [mkO, putF, fmAt, up, o0]
  rw [e1] at e
  unfold wrap64 at e
  omega
theorem words_in_range (o : Nat → Int) (ho : OkO o) : ∀ i < 6, 0 ≤ wordsO o i ∧ wordsO o i ≤ 18446744073709551615 := by
  have g : ∀ p, p < 12 → 0 ≤ getF p o ∧ getF p o ≤ 18446744073709551615 := by
    intro p hp
    have w : ∀ x, 0 ≤ IntKind.u64.wrap x ∧ IntKind.u64.wrap x ≤ 18446744073709551615 := fun x => by rw [IntKind.wrap_u64]; omega
    obtain rfl | rfl | rfl | rfl | rfl | rfl | rfl | rfl | rfl | rfl | rfl | rfl : p = 0 ∨ p = 1 ∨ p = 2 ∨ p = 3 ∨ p = 4 ∨ p = 5 ∨ p = 6 ∨ p = 7 ∨ p = 8 ∨ p = 9 ∨ p = 10 ∨ p = 11 := by omega
    · exact ⟨(show (0 : Int) ≤ 0 by decide), (show (0 : Int) ≤ 18446744073709551615 by decide)⟩
    · exact w _
    · exact w _
    · exact w _
    · exact w _
    · have := w (o 6)
      show 0 ≤ (IntKind.u64.wrap (o 6)).tmod 16 ∧ _
      rw [show getF 5 o = (IntKind.u64.wrap (o 6)).tmod 16 from rfl, Int.tmod_eq_emod_of_nonneg this.1]
      omega
    · exact w _
    all_goals exact ho.u _ (by decide) (by decide)
  intro i hi
  unfold wordsO encA
  by_cases h : i < (formL (opN o)).length
  · rw [if_pos h]
    exact g _ ((formL_ok (opN o)).2 i h).2
  · rw [if_neg h]
    exact ⟨by decide, by decide⟩
theorem callA_congr (n : Int) (a b : Nat → Int) (h : ∀ i < 6, a i = b i) : callA n a = callA n b := by
  unfold callA
  rw [h 0 (by decide), h 1 (by decide), h 2 (by decide), h 3 (by decide), h 4 (by decide), h 5 (by decide)]
end Go.Proofs.Ytahagcghbeeajaa
