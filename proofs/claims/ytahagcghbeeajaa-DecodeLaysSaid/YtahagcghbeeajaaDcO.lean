/- Chapter 28's own forms and the program's: the same. -/
import Derived.Test.YtahagcghbeeajaaDcM
import Derived.Test.YtahagcghbeeajaaDcN
namespace Go.Proofs.Ytahagcghbeeajaa
set_option linter.unusedVariables false
set_option linter.unusedSimpArgs false
open Go.ChangeShapes Go.WideShapes Go.ChangeAt Go.RowKit Go.Shelf

theorem formsL_n (n : Nat) (L : List Frm) (h : formsL n = some L) : 1 ≤ n ∧ n < 24 := by
  unfold formsL at h
  split at h
  all_goals first
    | (cases h; done)
    | (constructor <;> decide)
set_option maxHeartbeats 4000000 in
theorem ltr_ok (n : Nat) (L : List Frm) (h : formsL n = some L) : (ltr n).length = L.length ∧ ltr n ≠ [63] ∧ ∀ i < L.length, ∀ x : Int, 0 ≤ x → x ≤ 18446744073709551615 → (fitB ((ltr n).getD i 0) x = true ↔ ¬ (x < (fmAt L i).2.1 ∨ (fmAt L i).2.2 < x)) := by
  obtain ⟨h0, h1⟩ := formsL_n n L h
  obtain rfl | rfl | rfl | rfl | rfl | rfl | rfl | rfl | rfl | rfl | rfl | rfl | rfl | rfl | rfl | rfl | rfl | rfl | rfl | rfl | rfl | rfl | rfl : n = 1 ∨ n = 2 ∨ n = 3 ∨ n = 4 ∨ n = 5 ∨ n = 6 ∨ n = 7 ∨ n = 8 ∨ n = 9 ∨ n = 10 ∨ n = 11 ∨ n = 12 ∨ n = 13 ∨ n = 14 ∨ n = 15 ∨ n = 16 ∨ n = 17 ∨ n = 18 ∨ n = 19 ∨ n = 20 ∨ n = 21 ∨ n = 22 ∨ n = 23 := by omega
  all_goals
    cases h
    refine ⟨rfl, by decide, fun i hi x x0 x1 => ?_⟩
    simp only [List.length_cons, List.length_nil] at hi
    obtain rfl | rfl | rfl | rfl | rfl | rfl : i = 0 ∨ i = 1 ∨ i = 2 ∨ i = 3 ∨ i = 4 ∨ i = 5 := by omega
  all_goals first
    | (exfalso; omega)
    | (simp [ltr, fmAt, fitB]; done)
    | (simp [ltr, fmAt, fitB]; omega)
def m4L (l : List Nat) : Bool := decide (4 ≤ l.length) && (l.drop (l.length - 4) == [119, 119, 119, 119])
set_option maxHeartbeats 4000000 in
theorem ord_same (n : Nat) (L : List Frm) (a : Nat → Int) (h : formsL n = some L) (hn : ¬ n = 1) : (ordR n (fun k => (ltr n).getD k 0) (m4L (ltr n)) a (ltr n).length).1 = mkO n L a ∧ ∀ k < (ltr n).length, (ltr n).getD k 0 = 119 → m4L (ltr n) = true → (ordR n (fun k => (ltr n).getD k 0) (m4L (ltr n)) a k).2.2 < 4 := by
  obtain ⟨h0, h1⟩ := formsL_n n L h
  obtain rfl | rfl | rfl | rfl | rfl | rfl | rfl | rfl | rfl | rfl | rfl | rfl | rfl | rfl | rfl | rfl | rfl | rfl | rfl | rfl | rfl | rfl | rfl : n = 1 ∨ n = 2 ∨ n = 3 ∨ n = 4 ∨ n = 5 ∨ n = 6 ∨ n = 7 ∨ n = 8 ∨ n = 9 ∨ n = 10 ∨ n = 11 ∨ n = 12 ∨ n = 13 ∨ n = 14 ∨ n = 15 ∨ n = 16 ∨ n = 17 ∨ n = 18 ∨ n = 19 ∨ n = 20 ∨ n = 21 ∨ n = 22 ∨ n = 23 := by omega
  all_goals first
    | exact absurd rfl hn
    | skip
  all_goals
    cases h
    refine ⟨?_, fun k hk h1 h2 => ?_⟩
    · simp [ordR, ltr, mkO, putF, fmAt, m4L]
    · simp only [ltr, List.length_cons, List.length_nil] at hk
      obtain rfl | rfl | rfl | rfl | rfl | rfl : k = 0 ∨ k = 1 ∨ k = 2 ∨ k = 3 ∨ k = 4 ∨ k = 5 := by omega
      all_goals first
        | (exfalso; omega)
        | (simp [ordR, ltr, m4L]; done)
        | (simp [ltr, m4L] at h1 h2; done)
theorem ret_same (L : List Frm) (a : Nat → Int) (h : formsL 1 = some L) (hr : ∀ i < 6, okW L a i) : oR a = mkO 1 L a := by
  cases h
  have r4 := hr 4 (by decide)
  have r5 := hr 5 (by decide)
  simp only [okW, fmAt, List.getElem?_cons_zero, List.getElem?_cons_succ, Option.getD_some] at r4 r5
  have e : wrap64 (wrap64 (a 4) + wrap64 (16 * wrap64 (a 5))) = wrap64 (wrap64 (wrap64 (a 4)) + wrap64 (wrap64 (a 5) * 16)) := by unfold wrap64; omega
  funext j
  unfold oR
  rw [e]
  simp [mkO, putF, fmAt, up, o0]
  by_cases h2 : j = 2
  · subst h2; simp
  · by_cases h6 : j = 6
    · subst h6; simp
    · simp [h2, h6]
theorem fr_same (a : Nat → Int) (h1 : 0 ≤ a 1 ∧ a 1 ≤ 18446744073709551615) (h2 : 0 ≤ a 2 ∧ a 2 ≤ 18446744073709551615) (h : 100 < a 1 ∨ 100 < a 2) : framesN (wrap64 (a 1)) (wrap64 (a 2)) = 0 := by
  unfold framesN wrap64
  (repeat' split) <;> omega
set_option maxHeartbeats 1000000 in
theorem rframes_any (k s : Int) (w : World) : Calls Try.prog 19 #[.int .i64 k, .int .i64 s] w fun e w' => e = .returned (.int .i64 (framesN k s)) ∧ w = w' := by
  go_enter Try.func19, Try.ntmps19
  go_wp2
  all_goals go_ret
  all_goals refine ⟨ret_int ?_, rfl⟩
  all_goals (simp only [beq_iff_eq, beq_eq_false_iff_ne, ne_eq] at *)
  all_goals unfold framesN
  all_goals (repeat' split) <;> omega
theorem str_len (n : Nat) : (strO (ltr n)).size = (ltr n).length := by
  unfold strO
  simp [ByteArray.size]
theorem ltr_no (n : Nat) (h : n = 0 ∨ 24 ≤ n) : ltr n = [63] := by
  rcases h with rfl | h
  · rfl
  · unfold ltr
    split
    all_goals first
      | rfl
      | omega
theorem str_q (n : Nat) : ((strO (ltr n)).toList == [63]) = decide (ltr n = [63]) := by
  by_cases h : n = 0 ∨ 24 ≤ n
  · rw [ltr_no n h]; kernel_rfl
  · obtain rfl | rfl | rfl | rfl | rfl | rfl | rfl | rfl | rfl | rfl | rfl | rfl | rfl | rfl | rfl | rfl | rfl | rfl | rfl | rfl | rfl | rfl | rfl : n = 1 ∨ n = 2 ∨ n = 3 ∨ n = 4 ∨ n = 5 ∨ n = 6 ∨ n = 7 ∨ n = 8 ∨ n = 9 ∨ n = 10 ∨ n = 11 ∨ n = 12 ∨ n = 13 ∨ n = 14 ∨ n = 15 ∨ n = 16 ∨ n = 17 ∨ n = 18 ∨ n = 19 ∨ n = 20 ∨ n = 21 ∨ n = 22 ∨ n = 23 := by omega
    all_goals kernel_rfl
theorem str_m4 (n : Nat) (h4 : 4 ≤ (ltr n).length) : (((strO (ltr n)).extract ((ltr n).length - 4) (ltr n).length).toList == [119, 119, 119, 119]) = m4L (ltr n) := by
  by_cases h : n = 0 ∨ 24 ≤ n
  · rw [ltr_no n h]; kernel_rfl
  · obtain rfl | rfl | rfl | rfl | rfl | rfl | rfl | rfl | rfl | rfl | rfl | rfl | rfl | rfl | rfl | rfl | rfl | rfl | rfl | rfl | rfl | rfl | rfl : n = 1 ∨ n = 2 ∨ n = 3 ∨ n = 4 ∨ n = 5 ∨ n = 6 ∨ n = 7 ∨ n = 8 ∨ n = 9 ∨ n = 10 ∨ n = 11 ∨ n = 12 ∨ n = 13 ∨ n = 14 ∨ n = 15 ∨ n = 16 ∨ n = 17 ∨ n = 18 ∨ n = 19 ∨ n = 20 ∨ n = 21 ∨ n = 22 ∨ n = 23 := by omega
    all_goals kernel_rfl
set_option maxHeartbeats 4000000 in
theorem str_ix (n : Nat) (k : Nat) (hk : k < (ltr n).length) (w : World) : (Instr.index 9 (.string (strO (ltr n))) (.int .i64 k)).run Try.prog w = .ok (.int .u8 ((ltr n).getD k 0 : Nat)) w := by
  by_cases h : n = 0 ∨ 24 ≤ n
  · rw [ltr_no n h] at hk ⊢
    obtain rfl : k = 0 := by simpa using hk
    kernel_rfl
  · obtain rfl | rfl | rfl | rfl | rfl | rfl | rfl | rfl | rfl | rfl | rfl | rfl | rfl | rfl | rfl | rfl | rfl | rfl | rfl | rfl | rfl | rfl | rfl : n = 1 ∨ n = 2 ∨ n = 3 ∨ n = 4 ∨ n = 5 ∨ n = 6 ∨ n = 7 ∨ n = 8 ∨ n = 9 ∨ n = 10 ∨ n = 11 ∨ n = 12 ∨ n = 13 ∨ n = 14 ∨ n = 15 ∨ n = 16 ∨ n = 17 ∨ n = 18 ∨ n = 19 ∨ n = 20 ∨ n = 21 ∨ n = 22 ∨ n = 23 := by omega
    all_goals
      simp only [ltr, List.length_cons, List.length_nil] at hk
      obtain rfl | rfl | rfl | rfl | rfl | rfl : k = 0 ∨ k = 1 ∨ k = 2 ∨ k = 3 ∨ k = 4 ∨ k = 5 := by omega
    all_goals first
      | (exfalso; omega)
      | kernel_rfl
theorem frm_big (L : List Frm) (i : Nat) (h : L.length ≤ i) : fmAt L i = (0, 0, 0) := by
  unfold fmAt
  rw [List.getElem?_eq_none h]
  rfl
/-- No form: refused. -/
theorem d_none (n : Nat) (a : Nat → Int) (h : formsL n = none) : decM n a = (zO, 2) := by
  unfold decM; rw [h]
theorem d_stop (n : Nat) (a : Nat → Int) (L : List Frm) (h : formsL n = some L) (k : Nat) (h6 : k < 6) (hk : L.length ≤ k) (ha : a k ≠ 0) : decM n a = (zO, 2) := by
  unfold decM
  rw [h]
  simp only
  split
  · rfl
  · rw [if_pos]
    refine List.any_eq_true.2 ⟨⟨k, h6⟩, List.mem_finRange _, decide_eq_true ⟨?_, ha⟩⟩
    rw [frm_big L k hk]
theorem d_fr (a : Nat → Int) (h : framesN (wrap64 (a 1)) (wrap64 (a 2)) = 0) : decM 1 a = (zO, 2) := by
  unfold decM
  show (if _ then _ else _) = _
  rw [if_pos ⟨rfl, h⟩]
theorem frm_nz (n : Nat) (L : List Frm) (h : formsL n = some L) (i : Nat) (hi : i < L.length) : (fmAt L i).1 ≠ 0 := by
  have e : formL n = L := by unfold formL; rw [h]; rfl
  have := (formL_ok n).2 i (by rw [e]; exact hi)
  rw [e] at this
  exact this.1
theorem no_stop (n : Nat) (a : Nat → Int) (L : List Frm) (h : formsL n = some L) (hz : ∀ i < 6, L.length ≤ i → a i = 0) : ¬ (fst6 6).any (fun x => stopD L a x.1) = true := by
  intro hc
  obtain ⟨x, -, hx⟩ := List.any_eq_true.1 hc
  obtain ⟨h1, h2⟩ := of_decide_eq_true hx
  by_cases hl : x.1 < L.length
  · exact frm_nz n L h x.1 hl h1
  · exact h2 (hz x.1 x.2 (by omega))
theorem run_3 (L : List Frm) (a : Nat → Int) : ∀ (pre : List (Fin 6)) (s : (Nat → Int) × Int), s.2 = 0 ∨ s.2 = 3 → (pre.foldl (fun s x => stepD L a s x.1) s).2 = 0 ∨ (pre.foldl (fun s x => stepD L a s x.1) s).2 = 3
  | [], s, h => h
  | x :: pre, s, h => run_3 L a pre (stepD L a s x.1) (by unfold stepD; split; exact .inr rfl; exact h)
theorem d_bad (n : Nat) (a : Nat → Int) (L : List Frm) (h : formsL n = some L) (hz : ∀ i < 6, L.length ≤ i → a i = 0) (hf : ¬ (n = 1 ∧ framesN (wrap64 (a 1)) (wrap64 (a 2)) = 0)) (k : Nat) (hk : k < 6) (hb : ¬ okW L a k) : decM n a = (zO, 3) := by
  unfold decM
  rw [h]
  simp only
  rw [if_neg hf, if_neg (no_stop n a L h hz)]
  by_cases h3 : (runL n L a (fst6 6)).2 = 0
  · obtain ⟨-, r2, -⟩ := run_ok L a (fst6 6) (o0 n, 0) h3
    exact absurd (r2 ⟨k, hk⟩ (List.mem_finRange _)) hb
  · rw [if_neg h3]
    rcases run_3 L a (fst6 6) (o0 n, 0) (.inl rfl) with e | e
    · exact absurd e h3
    · exact congrArg (Prod.mk zO) e
theorem run_good (L : List Frm) (a : Nat → Int) : ∀ (pre : List (Fin 6)) (s : (Nat → Int) × Int), (∀ x ∈ pre, okW L a x.1) → (pre.foldl (fun s x => stepD L a s x.1) s) = (pre.foldl (fun o x => putF (fmAt L x.1).1 (a x.1) o) s.1, s.2)
  | [], s, h => rfl
  | x :: pre, s, h => by
    have e : stepD L a s x.1 = (putF (fmAt L x.1).1 (a x.1) s.1, s.2) := if_neg (h x List.mem_cons_self)
    show pre.foldl (fun s x => stepD L a s x.1) (stepD L a s x.1) = _
    rw [run_good L a pre _ (fun y hy => h y (List.mem_cons_of_mem _ hy)), e]
    rfl
theorem d_good (n : Nat) (a : Nat → Int) (L : List Frm) (h : formsL n = some L) (hz : ∀ i < 6, L.length ≤ i → a i = 0) (hf : ¬ (n = 1 ∧ framesN (wrap64 (a 1)) (wrap64 (a 2)) = 0)) (hg : ∀ i < 6, okW L a i) : decM n a = (mkO n L a, 0) := by
  unfold decM
  rw [h]
  simp only
  have hr := run_good L a (fst6 6) (o0 n, 0) (fun x _ => hg x.1 x.2)
  have e : runL n L a (fst6 6) = (mkO n L a, 0) := hr
  rw [if_neg hf, if_neg (no_stop n a L h hz), e, if_pos rfl]
end Go.Proofs.Ytahagcghbeeajaa
