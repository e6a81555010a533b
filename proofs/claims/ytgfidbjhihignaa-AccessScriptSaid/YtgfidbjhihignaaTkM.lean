/- package tlb: what Find tells behind a drop and behind a fill, as plain mathematics. -/
import Derived.Test.YtgfidbjhihignaaTkS
namespace Go.Proofs.Ytgfidbjhihignaa
set_option linter.unusedVariables false
set_option linter.unusedSimpArgs false
open Go.ChangeShapes Go.WideShapes Go.ChangeAt Go.RowKit

theorem wipe_yes {s : Nat → TransX × TransX × Int} {x : Nat × Nat} (hj : x.2 < 2) : wayP (wipeP s x) x = zT := by
  obtain ⟨a, c⟩ := x
  obtain rfl | rfl : c = 0 ∨ c = 1 := by simp only at hj; omega
  · simp [wipeP, wayP, setS]
  · simp [wipeP, wayP, setS]
theorem dropF_way (out : TransX → Bool) (q : Nat × Nat) (hq : q.2 < 2) : ∀ (pre : List (Nat × Nat)) (s : (Nat → TransX × TransX × Int) × Nat), pre.Nodup →
    wayP (pre.foldl (dropStep out) s).1 q = if q ∈ pre ∧ out (wayP s.1 q) = true then zT else wayP s.1 q
  | [], s, _ => by simp
  | x :: pre, s, hn => by
    rw [List.nodup_cons] at hn
    rw [List.foldl_cons]
    by_cases hx : q = x
    · subst hx
      have e := dropF_no (out := out) (k := q.1) (j := q.2) hq (s := dropStep out s q) hn.1
      rw [e]
      unfold dropStep
      by_cases ho : out (wayP s.1 q) = true
      · rw [if_pos ho, if_pos ⟨by simp, ho⟩]
        exact wipe_yes hq
      · rw [if_neg ho, if_neg (fun h => ho h.2)]
    · rw [dropF_way out q hq pre _ hn.2]
      have e : wayP (dropStep out s x).1 q = wayP s.1 q := by
        unfold dropStep
        split
        · exact wipeP_no hq hx
        · rfl
      rw [e]
      simp [hx]
theorem dropF_count (out : TransX → Bool) : ∀ (pre : List (Nat × Nat)) (s : (Nat → TransX × TransX × Int) × Nat), (∀ x ∈ pre, x.2 < 2) → pre.Nodup → (pre.foldl (dropStep out) s).2 = s.2 + pre.countP fun q => out (wayP s.1 q)
  | [], s, _, _ => by simp
  | x :: pre, s, h2, hn => by
    rw [List.nodup_cons] at hn
    rw [List.foldl_cons, dropF_count out pre _ (fun y hy => h2 y (by simp [hy])) hn.2, List.countP_cons]
    have e : ∀ q ∈ pre, (fun q => out (wayP (dropStep out s x).1 q)) q = true ↔ (fun q => out (wayP s.1 q)) q = true := by
      intro q hq
      have hne : q ≠ x := fun e => hn.1 (e ▸ hq)
      have : wayP (dropStep out s x).1 q = wayP s.1 q := by
        unfold dropStep
        split
        · exact wipeP_no (h2 q (by simp [hq])) hne
        · rfl
      simp only [this]
    rw [List.countP_congr e]
    unfold dropStep
    split <;> omega
theorem full_nodup (S : Nat → TransX × TransX × Int) : (fullP S 8).Nodup := by
  rw [fullP_8]
  exact List.Pairwise.filter _ (by decide)
theorem full_mem {S : Nat → TransX × TransX × Int} {q : Nat × Nat} : q ∈ fullP S 8 ↔ q.1 < 4 ∧ q.2 < 2 ∧ wayP S q ≠ zT := by
  rw [fullP_8, List.mem_filter]
  constructor
  · rintro ⟨h1, h2⟩
    have : ∀ q ∈ ([(0, 0), (0, 1), (1, 0), (1, 1), (2, 0), (2, 1), (3, 0), (3, 1)] : List (Nat × Nat)), q.1 < 4 ∧ q.2 < 2 := by decide
    exact ⟨(this q h1).1, (this q h1).2, by simpa using h2⟩
  · rintro ⟨h1, h2, h3⟩
    refine ⟨?_, by simpa using h3⟩
    obtain ⟨a, c⟩ := q
    simp only at h1 h2
    have ha : a = 0 ∨ a = 1 ∨ a = 2 ∨ a = 3 := by omega
    have hc : c = 0 ∨ c = 1 := by omega
    rcases ha with rfl | rfl | rfl | rfl <;> rcases hc with rfl | rfl <;> simp
theorem find_iff {S : Nat → TransX × TransX × Int} {a c : Int} (h : 1 ≤ a ∧ 0 ≤ c ∧ c < 512) : (findS S a c).2 = true ↔ ∃ j, j < 2 ∧ (wayP S (setNo c, j)).s = a ∧ (wayP S (setNo c, j)).p = c := by
  unfold findS
  rw [if_pos h]
  constructor
  · intro hf
    split at hf
    · rename_i h0
      exact ⟨0, by omega, by simpa [wayP] using h0⟩
    · split at hf
      · rename_i h1
        exact ⟨1, by omega, by simpa [wayP] using h1⟩
      · simp at hf
  · rintro ⟨j, hj, h1⟩
    obtain rfl | rfl : j = 0 ∨ j = 1 := by omega
    · simp only [wayP, if_true] at h1
      rw [if_pos h1]
    · simp only [wayP, show ((1 : Nat) = 0) = False by simp, if_false] at h1
      split
      · rfl
      · rfl
theorem good_ways {S : Nat → TransX × TransX × Int} (h : Good S) {k i j : Nat} (hk : k < 4) (hi : i < 2) (hj : j < 2) (h1 : 1 ≤ (wayP S (k, i)).s) (h2 : (wayP S (k, i)).s = (wayP S (k, j)).s) (h3 : (wayP S (k, i)).p = (wayP S (k, j)).p) : i = j := by
  have g := (h k hk).ne
  obtain rfl | rfl : i = 0 ∨ i = 1 := by omega
  · obtain rfl | rfl : j = 0 ∨ j = 1 := by omega
    · rfl
    · simp only [wayP, if_true, show ((1 : Nat) = 0) = False by simp, if_false] at h1 h2 h3
      exact absurd h3 (g h1 h2)
  · obtain rfl | rfl : j = 0 ∨ j = 1 := by omega
    · simp only [wayP, if_true, show ((1 : Nat) = 0) = False by simp, if_false] at h1 h2 h3
      exact absurd h3.symm (g (by omega) h2.symm)
    · rfl
/-- The place of translation i. -/
theorem all_place {S : Nat → TransX × TransX × Int} (h : Good S) {i : Nat} (hi : i < allN S) : ∃ j, j < 2 ∧ (setNo (allT S i).p, j) ∈ fullP S 8 ∧ wayP S (setNo (allT S i).p, j) = allT S i ∧ (fullP S 8)[i]'hi = (setNo (allT S i).p, j) := by
  obtain ⟨e, m, nz, h4, h2⟩ := allT_get hi
  obtain ⟨h5, h6⟩ := all_good h hi
  have e2 : (fullP S 8)[i]'hi = (setNo (allT S i).p, ((fullP S 8)[i]'hi).2) := Prod.ext h6.symm rfl
  refine ⟨_, h2, by rw [← e2]; exact m, by rw [← e2]; unfold allT; rw [e], e2⟩
theorem drop_find {S : Nat → TransX × TransX × Int} (h : Good S) (out : TransX → Bool) {i : Nat} (hi : i < allN S) :
    (findS (dropF S out (fullP S 8)).1 (allT S i).s (allT S i).p).2 = !out (allT S i) := by
  obtain ⟨j, hj, hm, hw, _⟩ := all_place h hi
  have hp := may_pos (all_good h hi).1
  have hk := setNo_lt hp.2.1
  have way := fun l (hl : l < 2) => dropF_way out (setNo (allT S i).p, l) hl (fullP S 8) (S, 0) (full_nodup S)
  have key := find_iff (S := (dropF S out (fullP S 8)).1) ⟨hp.1, hp.2.1, hp.2.2.1⟩
  rw [Bool.eq_iff_iff, key]
  unfold dropF
  constructor
  · rintro ⟨l, hl, h1, h2⟩
    rw [way l hl] at h1 h2
    split at h1
    · simp at h1; omega
    · rename_i hno
      rw [if_neg hno] at h2
      simp only at h1 h2 hno
      obtain rfl := good_ways h hk hj hl (by rw [hw]; exact hp.1) (by rw [hw, h1]) (by rw [hw, h2])
      rw [hw] at hno
      simpa using fun ho => hno ⟨hm, ho⟩
  · intro ho
    refine ⟨j, hj, ?_⟩
    rw [way j hj, if_neg (fun hc => by rw [hw] at hc; rw [hc.2] at ho; simp at ho)]
    simp only
    rw [hw]
    exact ⟨rfl, rfl⟩
theorem drop_count (S : Nat → TransX × TransX × Int) (out : TransX → Bool) : (dropF S out (fullP S 8)).2 = (fullP S 8).countP fun q => out (wayP S q) := by
  have := dropF_count out (fullP S 8) (S, 0) (fun x hx => (full_mem.1 hx).2.1) (full_nodup S)
  unfold dropF
  rw [this]
  simp
/-- How many of those from i on are thrown out. -/
def leftC (S : Nat → TransX × TransX × Int) (out : TransX → Bool) (i : Nat) : Nat := ((fullP S 8).drop i).countP fun q => out (wayP S q)
theorem leftC_zero (S : Nat → TransX × TransX × Int) (out : TransX → Bool) : leftC S out 0 = (dropF S out (fullP S 8)).2 := by rw [drop_count]; rfl
theorem leftC_succ {S : Nat → TransX × TransX × Int} (out : TransX → Bool) {i : Nat} (hi : i < allN S) : leftC S out i = leftC S out (i + 1) + if out (allT S i) = true then 1 else 0 := by
  unfold leftC
  rw [List.drop_eq_getElem_cons hi, List.countP_cons]
  have : wayP S ((fullP S 8)[i]'hi) = allT S i := by unfold allT; rw [(allT_get hi).1]
  rw [this]
theorem leftC_end (S : Nat → TransX × TransX × Int) (out : TransX → Bool) : leftC S out (allN S) = 0 := by
  unfold leftC allN
  rw [List.drop_length]
  rfl
theorem leftC_le (S : Nat → TransX × TransX × Int) (out : TransX → Bool) (i : Nat) : leftC S out i ≤ 8 := by
  unfold leftC
  refine Nat.le_trans List.countP_le_length ?_
  rw [List.length_drop]
  have := fullP_len S 8
  omega
end Go.Proofs.Ytgfidbjhihignaa
