/- chapter 35: what is printed is read again; what is read is what is printed; lines and a text behind them. No walk in this text. -/
import Derived.Test.YthgmanncmekeeaaDoorSd1
namespace Go.Proofs.YthgmanncmekeeaaDoor
set_option linter.unusedVariables false
set_option linter.unusedSimpArgs false
open Go.ChangeShapes Go.WideShapes Go.ChangeAt Go.RowKit
namespace Sc
/-- All of a list can be printed. -/
def GoodL (L : List Ev) : Prop := ∀ c ∈ L, (lineE c).2 = 0
theorem printE_cases (L : List Ev) : ((printE L).2 = 0 ∧ GoodL L ∧ (txtE L).length ≤ 65536 ∧ (printE L).1 = txtE L) ∨ ((printE L).2 ≠ 0 ∧ (printE L).1 = []) := by
  unfold printE
  cases hf : L.find? (fun c => decide ((lineE c).2 ≠ 0)) with
  | some c =>
    right
    have := List.find?_some hf
    simp only [ne_eq, decide_not, Bool.not_eq_eq_eq_not, Bool.not_true, decide_eq_false_iff_not] at this
    exact ⟨this, rfl⟩
  | none =>
    have hg : GoodL L := fun c hc => by
      have := List.find?_eq_none.1 hf c hc
      simpa using this
    by_cases h : 65536 < (txtE L).length
    · right; simp [h]
    · left; simp only [if_neg h]; exact ⟨trivial, hg, by omega, trivial⟩
theorem lns_txt : ∀ (L : List Ev) (s : Bs), GoodL L → lns 10 (txtE L ++ s) = L.map (fun c => (lineE c).1) ++ lns 10 s
  | [], s, _ => rfl
  | c :: L, s, h => by
    have hc : lineE c = ((lineE c).1, 0) := by rw [← h c List.mem_cons_self]
    have e : txtE (c :: L) ++ s = (lineE c).1 ++ 10 :: (txtE L ++ s) := by unfold txtE; simp
    rw [e, lns_piece 10 _ _ (line_clean hc), lns_txt L s (fun d hd => h d (List.mem_cons_of_mem _ hd))]
    rfl
/-- What a line that was printed reads as. -/
def reE (c : Ev) : Ev := (evOf (lineE c).1).getD (ev0 0)
theorem reE_of {c : Ev} (hc : EvG c) (h : (lineE c).2 = 0) : evOf (lineE c).1 = some (reE c) ∧ reE c 0 = c 0 ∧ reE c 1 = c 1 ∧ lineE (reE c) = lineE c := by
  have hl : lineE c = ((lineE c).1, 0) := by rw [← h]
  obtain ⟨d, h1, h2, h3, h4, -⟩ := line_back hc.ok hl
  have e : reE c = d := by unfold reE; rw [h1]; rfl
  rw [e]
  exact ⟨h1, h2, h3, h4.trans hl.symm⟩
theorem fm_re : ∀ (L : List Ev), (∀ c ∈ L, EvG c) → GoodL L → (L.map (fun c => (lineE c).1)).filterMap evOf = L.map reE
  | [], _, _ => rfl
  | c :: L, hG, h => by
    rw [List.map_cons, List.filterMap_cons, (reE_of (hG c List.mem_cons_self) (h c List.mem_cons_self)).1, fm_re L (fun d hd => hG d (List.mem_cons_of_mem _ hd)) (fun d hd => h d (List.mem_cons_of_mem _ hd))]
    rfl
theorem none_re (L : List Ev) (hG : ∀ c ∈ L, EvG c) (h : GoodL L) : ∀ l ∈ L.map (fun c => (lineE c).1), (evOf l).isNone = false := by
  intro l hl
  obtain ⟨c, hc, rfl⟩ := List.mem_map.1 hl
  rw [(reE_of (hG c hc) (h c hc)).1]; rfl
/-- Printed and read again. -/
theorem parse_txt (L : List Ev) (hG : ∀ c ∈ L, EvG c) (h : GoodL L) (hl : (txtE L).length ≤ 65536) : parseE (txtE L) = (L.map reE, 0, 0) := by
  have e : lns 10 (txtE L) = L.map (fun c => (lineE c).1) := by
    have := lns_txt L [] h
    rw [List.append_nil] at this
    rw [this]; simp [lns]
  rw [parseE_done hl (by rw [e]; exact none_re L hG h), e, fm_re L hG h]
/-- Lines, and a text behind them. -/
theorem parse_app (L : List Ev) (s : Bs) (hG : ∀ c ∈ L, EvG c) (h : GoodL L) (hl : (txtE L ++ s).length ≤ 65536) :
    ((parseE s).2.2 = 0 ∧ parseE (txtE L ++ s) = (L.map reE ++ (parseE s).1, 0, 0)) ∨ ((parseE s).2.2 ≠ 0 ∧ parseE (txtE L ++ s) = ([], (parseE s).2.1 + L.length, (parseE s).2.2)) := by
  have hs : s.length ≤ 65536 := by rw [List.length_append] at hl; omega
  have hn := none_re L hG h
  unfold parseE
  rw [if_neg (by omega), if_neg (by omega), lns_txt L s h, List.findIdx?_append, List.findIdx?_eq_none_iff.2 hn]
  cases hf : (lns 10 s).findIdx? (fun l => (evOf l).isNone) with
  | none =>
    left
    simp only [Option.map_none, Option.none_or, true_and, List.filterMap_append]
    rw [fm_re L hG h]
  | some i =>
    right
    simp only [Option.map_some, Option.none_or, List.length_map, ne_eq]
    refine ⟨by decide, ?_⟩
    congr 2
    push_cast
    omega
theorem parseE_three (s : Bs) (hl : s.length ≤ 65536) : ((parseE s).2.2 = 0 ∧ (parseE s).2.1 = 0 ∧ (∀ l ∈ lns 10 s, (evOf l).isNone = false) ∧ (parseE s).1 = (lns 10 s).filterMap evOf) ∨ ((parseE s).2.2 = 5 ∧ 0 < (parseE s).2.1 ∧ (parseE s).1 = []) := by
  unfold parseE
  rw [if_neg (by omega)]
  cases hf : (lns 10 s).findIdx? (fun l => (evOf l).isNone) with
  | none => left; exact ⟨rfl, rfl, List.findIdx?_eq_none_iff.1 hf, rfl⟩
  | some i => right; refine ⟨rfl, ?_, rfl⟩; show (0 : Int) < (i : Int) + 1; omega
theorem lns_flat (c : UInt8) : ∀ l : Bs, ((lns c l).map (fun x => x ++ [c])).flatten = l ∨ ((lns c l).map (fun x => x ++ [c])).flatten = l ++ [c]
  | [] => .inl rfl
  | x :: xs => by
    rw [lns]
    split
    · rename_i e
      subst e
      rcases lns_flat x xs with h | h
      · left; simp [h]
      · right; simp [h]
    · cases hq : lns c xs with
      | nil =>
        have hx : xs = [] := by
          cases xs with
          | nil => rfl
          | cons y ys => unfold lns at hq; split at hq; · cases hq
                         · split at hq <;> cases hq
        subst hx
        right; simp
      | cons h t =>
        rcases lns_flat c xs with g | g
        · rw [hq] at g
          left
          simp only [List.map_cons, List.flatten_cons, List.cons_append] at g ⊢
          rw [g]
        · rw [hq] at g
          right
          simp only [List.map_cons, List.flatten_cons, List.cons_append] at g ⊢
          rw [g]
theorem txt_fm : ∀ ls : List Bs, (∀ l ∈ ls, (evOf l).isNone = false) → txtE (ls.filterMap evOf) = (ls.map (fun x => x ++ [10])).flatten ∧ GoodL (ls.filterMap evOf)
  | [], _ => ⟨rfl, fun c hc => by cases hc⟩
  | l :: ls, h => by
    obtain ⟨h1, h2⟩ := txt_fm ls (fun x hx => h x (List.mem_cons_of_mem _ hx))
    cases he : evOf l with
    | none => have := h l List.mem_cons_self; rw [he] at this; cases this
    | some d =>
      have hd := (line_strict he).1
      rw [List.filterMap_cons, he]
      refine ⟨?_, fun c hc => ?_⟩
      · unfold txtE at h1 ⊢
        simp only [List.map_cons, List.flatten_cons, h1, hd]
      · rcases List.mem_cons.1 hc with rfl | hc
        · rw [hd]
        · exact h2 c hc
theorem kd_le (l : Bs) : 0 ≤ kd l ∧ kd l ≤ 6 := by
  unfold kd
  repeat' split
  all_goals omega
theorem evOf_good {l : Bs} {e : Ev} (h : evOf l = some e) : EvG e := by
  refine ⟨(line_strict h).2, ?_⟩
  unfold evOf at h
  cases hs : spl 32 l with
  | nil => exact absurd hs (spl_ne _ _)
  | cons n ws =>
    rw [hs, evW] at h
    split at h
    · simp at h
    · obtain ⟨g1, g2, g3⟩ := evR_get _ _ _ _ (places_ok (kd n)).1 h
      intro i
      by_cases q : i ∈ (places (kd n)).map Prod.snd
      · obtain ⟨p, hp, rfl⟩ := List.mem_map.1 q
        exact (g2 p hp).2.2
      · rw [g3 i q]
        have := kd_le n
        unfold ev0
        split <;> omega
theorem parse_evg (s : Bs) : ∀ c ∈ (parseE s).1, EvG c := by
  intro c hc
  by_cases h : 65536 < s.length
  · rw [parseE_long h] at hc; cases hc
  · rcases parseE_three s (by omega) with ⟨_, _, _, e⟩ | ⟨_, _, e⟩
    · rw [e] at hc
      obtain ⟨l, _, hl⟩ := List.mem_filterMap.1 hc
      exact evOf_good hl
    · rw [e] at hc; cases hc
/-- What was read is printed as it stood, but for a line's end. -/
theorem print_parse (s : Bs) (hl : s.length ≤ 20000) (h : (parseE s).2.2 = 0) : (parseE s).2.1 = 0 ∧ (printE (parseE s).1).2 = 0 ∧ ((printE (parseE s).1).1 = s ∨ (printE (parseE s).1).1 = s ++ [10]) := by
  rcases parseE_three s (by omega) with ⟨_, h1, h2, h3⟩ | ⟨q, _, _⟩
  · obtain ⟨t1, t2⟩ := txt_fm _ h2
    have t3 := lns_flat 10 s
    rw [h3, printE_ok t2, t1]
    have hlen : ((((lns 10 s).map (fun x => x ++ [10])).flatten).length) ≤ 20001 := by
      rcases t3 with e | e
      · rw [e]; omega
      · rw [e, List.length_append]; simp; omega
    rw [if_neg (by omega)]
    exact ⟨h1, rfl, t3⟩
  · omega
theorem txt_len (L : List Ev) (hG : ∀ c ∈ L, EvG c) : (txtE L).length ≤ 201 * L.length := by
  unfold txtE
  exact flat_len _ 201 _ (fun c hc => by have := line_len c (hG c hc); simp; omega)
theorem parse_len (s : Bs) : (parseE s).1.length ≤ s.length := by
  by_cases h : 65536 < s.length
  · rw [parseE_long h]; simp
  · rcases parseE_three s (by omega) with ⟨_, _, _, e⟩ | ⟨_, _, e⟩
    · rw [e]
      exact Nat.le_trans (List.length_filterMap_le _ _) (lns_count 10 s)
    · rw [e]; simp
end Sc
end Go.Proofs.YthgmanncmekeeaaDoor
