/- Facts for CoresShoot and CoresOwn: what All has behind a drop; caches of the eight pages of one space. -/
import Derived.Test.YtedapbliebiblaaCoE
import Derived.Test.YtedapbliebiblaaTkK
namespace Go.Proofs.Ytedapbliebiblaa
set_option linter.unusedVariables false
set_option linter.unusedSimpArgs false
open Go.ChangeShapes Go.WideShapes Go.ChangeAt Go.RowKit Go.Shelf

theorem filter_count {α : Type} (f : α → Bool) : ∀ L : List α, (L.filter fun q => !f q).length + L.countP f = L.length
  | [] => rfl
  | x :: L => by
    have ih := filter_count f L
    rw [List.filter_cons, List.countP_cons]
    cases f x <;> simp <;> omega
theorem drop_way (S : TS) (out : TransX → Bool) (q : Nat × Nat) (hq : q.2 < 2) : wayP (dropF S out (fullP S 8)).1 q = if q ∈ fullP S 8 ∧ out (wayP S q) = true then zT else wayP S q := by
  unfold dropF
  exact dropF_way out q hq (fullP S 8) (S, 0) (full_nodup S)
theorem drop_full (S : TS) (out : TransX → Bool) : fullP (dropF S out (fullP S 8)).1 8 = (fullP S 8).filter fun q => !out (wayP S q) := by
  have way := drop_way S out
  have mem := fun q => full_mem (S := S) (q := q)
  obtain ⟨D, hD⟩ : ∃ D, (dropF S out (fullP S 8)).1 = D := ⟨_, rfl⟩
  rw [hD] at way ⊢
  rw [fullP_8 D, fullP_8 S, List.filter_filter]
  refine List.filter_congr fun q hq => ?_
  have h2 : ∀ q ∈ ([(0, 0), (0, 1), (1, 0), (1, 1), (2, 0), (2, 1), (3, 0), (3, 1)] : List (Nat × Nat)), q.1 < 4 ∧ q.2 < 2 := by decide
  obtain ⟨l1, l2⟩ := h2 q hq
  rw [way q l2]
  by_cases hz : wayP S q = zT
  · rw [hz]
    have : (if q ∈ fullP S 8 ∧ out zT = true then zT else zT) = zT := by split <;> rfl
    rw [this]
    simp
  · have hm : q ∈ fullP S 8 := (mem q).2 ⟨l1, l2, hz⟩
    cases ho : out (wayP S q)
    · rw [if_neg (by simp)]
      simp
    · rw [if_pos ⟨hm, rfl⟩]
      simp
/-- How many rows stay. -/
theorem drop_len (S : TS) (out : TransX → Bool) : allN (dropF S out (fullP S 8)).1 + leftC S out 0 = allN S := by
  unfold allN leftC
  rw [drop_full, List.drop_zero]
  exact filter_count _ _
theorem drop_row (S : TS) (out : TransX → Bool) {l : Nat} (hl : l < allN (dropF S out (fullP S 8)).1) : out (allT (dropF S out (fullP S 8)).1 l) = false := by
  obtain ⟨e, m, nz, h4, h2⟩ := allT_get hl
  unfold allT
  rw [e, drop_way S out _ h2]
  have m2 : (fullP (dropF S out (fullP S 8)).1 8)[l]'hl ∈ (fullP S 8).filter fun q => !out (wayP S q) := by rw [← drop_full]; exact m
  have m3 := (List.mem_filter.1 m2).2
  rw [if_neg (fun h => by rw [h.2] at m3; exact absurd m3 (by decide))]
  simpa using m3

/- One space, pages 0 to 7. -/
def hasB (s : TS) (q : Nat) : Bool := decide (wayP s (q % 4, 0) = lf 1 q) || decide (wayP s (q % 4, 1) = lf 1 q)
def OwnW (x : TransX) (i : Nat) : Prop := x = zT ∨ x = lf 1 (i : Int) ∨ x = lf 1 ((i + 4 : Nat) : Int)
def OwnOk (s : TS) : Prop := ∀ i, i < 4 → OwnW (s i).1 i ∧ OwnW (s i).2.1 i
theorem own_S0 : OwnOk S0 := fun i hi => ⟨.inl rfl, .inl rfl⟩
theorem lf_p {a b : Int} (h : lf 1 a = lf 1 b) : a = b := by unfold lf at h; simpa using h
theorem lf_z {a : Int} : lf 1 a ≠ zT := by unfold lf; intro h; have := congrArg TransX.s h; simp at this
theorem has_iff (s : TS) (q : Nat) : hasB s q = true ↔ (s (q % 4)).1 = lf 1 q ∨ (s (q % 4)).2.1 = lf 1 q := by
  unfold hasB wayP
  simp
theorem ownW_q {x : TransX} {q : Nat} (hq : q < 8) (h : OwnW x (q % 4)) : (x.s = 1 ∧ x.p = (q : Int)) ↔ x = lf 1 q := by
  rcases h with rfl | rfl | rfl
  · exact ⟨fun h => absurd h.1 (by decide), fun h => absurd h.symm lf_z⟩
  · constructor
    · rintro ⟨_, h⟩
      have h : ((q % 4 : Nat) : Int) = q := h
      rw [h]
    · intro h
      exact ⟨rfl, lf_p h⟩
  · constructor
    · rintro ⟨_, h⟩
      have h : ((q % 4 + 4 : Nat) : Int) = q := h
      rw [h]
    · intro h
      exact ⟨rfl, lf_p h⟩
theorem setNo_q (q : Nat) : setNo (q : Int) = q % 4 := by unfold setNo; omega
theorem own_find {s : TS} (h : OwnOk s) {q : Nat} (hq : q < 8) : (findS s 1 (q : Int)).2 = hasB s q := by
  have g := h (q % 4) (Nat.mod_lt _ (by decide))
  have a := ownW_q hq g.1
  have b := ownW_q hq g.2
  have e := has_iff s q
  unfold findS
  rw [setNo_q, if_pos (by omega)]
  cases hh : hasB s q
  · rw [hh] at e
    have e' : ¬ ((s (q % 4)).1 = lf 1 q ∨ (s (q % 4)).2.1 = lf 1 q) := fun x => by simpa using e.2 x
    rw [if_neg (fun x => e' (.inl (a.1 x))), if_neg (fun x => e' (.inr (b.1 x)))]
  · rcases e.1 hh with x | x
    · rw [if_pos (a.2 x)]
    · split
      · rfl
      · rw [if_pos (b.2 x)]
theorem may_lf {q : Nat} (hq : q < 8) : mayX (lf 1 (q : Int)) = true := by
  unfold mayX lf
  simp
  omega
theorem ownW_lf {q : Nat} (hq : q < 8) : OwnW (lf 1 (q : Int)) (q % 4) := by
  by_cases h : q < 4
  · rw [show q % 4 = q by omega]; exact .inr (.inl rfl)
  · exact .inr (.inr (by rw [show q % 4 + 4 = q by omega]))
/-- A page that is not there is filled in, and nothing goes. -/
theorem own_fill {s : TS} (hg : Good s) (h : OwnOk s) {q : Nat} (hq : q < 8) (hn : hasB s q = false) :
    ∃ x' y' d', fillS s (lf 1 q) = setS s (q % 4) (x', y', d') ∧ ((x' = lf 1 q ∧ y' = (s (q % 4)).2.1 ∧ (s (q % 4)).1 = zT) ∨ (x' = (s (q % 4)).1 ∧ y' = lf 1 q ∧ (s (q % 4)).2.1 = zT)) := by
  have hm : q % 4 < 4 := Nat.mod_lt _ (by decide)
  have g := h (q % 4) hm
  have a := ownW_q hq g.1
  have b := ownW_q hq g.2
  have e := has_iff s q
  have e' : ¬ ((s (q % 4)).1 = lf 1 q ∨ (s (q % 4)).2.1 = lf 1 q) := fun x => by rw [hn] at e; simpa using e.2 x
  have ng := (hg (q % 4) hm).ne
  unfold fillS
  rw [if_pos (may_lf hq)]
  simp only [show (lf 1 (q : Int)).p = (q : Int) from rfl, setNo_q]
  obtain ⟨⟨x, y, d⟩, hs⟩ : ∃ t, s (q % 4) = t := ⟨_, rfl⟩
  rw [hs] at g a b e' ng ⊢
  simp only at g a b e' ng ⊢
  unfold fillR findR emptyR
  simp only [show (lf 1 (q : Int)).s = 1 from rfl, show (lf 1 (q : Int)).p = (q : Int) from rfl]
  rw [if_neg (fun z => e' (.inl (a.1 z))), if_neg (fun z => e' (.inr (b.1 z)))]
  simp only [Bool.false_eq_true, if_false]
  by_cases hx : x = zT
  · simp only [if_pos hx, if_true]
    exact ⟨_, _, _, rfl, .inl ⟨rfl, rfl, hx⟩⟩
  · by_cases hy : y = zT
    · simp only [if_neg hx, if_pos hy, if_true, show ((1 : Int) = 0) = False by simp, if_false]
      exact ⟨_, _, _, rfl, .inr ⟨rfl, rfl, hy⟩⟩
    · exfalso
      have gx : x = lf 1 ((q % 4 : Nat) : Int) ∨ x = lf 1 ((q % 4 + 4 : Nat) : Int) := g.1.resolve_left hx
      have gy : y = lf 1 ((q % 4 : Nat) : Int) ∨ y = lf 1 ((q % 4 + 4 : Nat) : Int) := g.2.resolve_left hy
      have hq4 : q = q % 4 ∨ q = q % 4 + 4 := by omega
      have ex : x ≠ lf 1 (q : Int) := fun z => e' (.inl z)
      have ey : y ≠ lf 1 (q : Int) := fun z => e' (.inr z)
      have same : x = y := by
        rcases hq4 with c | c
        · rw [← c] at gx gy
          rw [gx.resolve_left ex, gy.resolve_left ey]
        · rw [← c] at gx gy
          rw [gx.resolve_right ex, gy.resolve_right ey]
      subst same
      refine ng ?_ rfl rfl
      rcases gx with z | z <;> (rw [z]; exact Int.le_refl _)
theorem wayP_set (s : TS) (k : Nat) (t : TransX × TransX × Int) (i j : Nat) : wayP (setS s k t) (i, j) = if i = k then (if j = 0 then t.1 else t.2.1) else wayP s (i, j) := by
  unfold wayP setS
  by_cases h : i = k
  · subst h; simp
  · simp [h]
theorem has_set (s : TS) (k : Nat) (t : TransX × TransX × Int) (q : Nat) : hasB (setS s k t) q = if q % 4 = k then decide (t.1 = lf 1 q) || decide (t.2.1 = lf 1 q) else hasB s q := by
  unfold hasB
  rw [wayP_set, wayP_set]
  by_cases h : q % 4 = k
  · simp [h]
  · simp [h]
theorem own_fill_ok {s : TS} (hg : Good s) (h : OwnOk s) {q : Nat} (hq : q < 8) (hn : hasB s q = false) : OwnOk (fillS s (lf 1 q)) := by
  obtain ⟨x', y', d', e, hc⟩ := own_fill hg h hq hn
  rw [e]
  intro i hi
  unfold setS
  by_cases hk : i = q % 4
  · subst hk
    rw [if_pos rfl]
    have g := h (q % 4) hi
    rcases hc with ⟨rfl, rfl, _⟩ | ⟨rfl, rfl, _⟩
    · exact ⟨ownW_lf hq, g.2⟩
    · exact ⟨g.1, ownW_lf hq⟩
  · rw [if_neg hk]; exact h i hi
theorem own_fill_has {s : TS} (hg : Good s) (h : OwnOk s) {q : Nat} (hq : q < 8) (hn : hasB s q = false) (r : Nat) : hasB (fillS s (lf 1 q)) r = if r = q then true else hasB s r := by
  obtain ⟨x', y', d', e, hc⟩ := own_fill hg h hq hn
  rw [e, has_set]
  by_cases hr : r = q
  · subst hr
    rw [if_pos rfl, if_pos rfl]
    rcases hc with ⟨rfl, rfl, _⟩ | ⟨rfl, rfl, _⟩ <;> simp
  · rw [if_neg hr]
    split
    · rename_i hm
      unfold hasB wayP
      rw [hm]
      have hl : lf 1 (q : Int) ≠ lf 1 (r : Int) := fun z => hr (by have := lf_p z; omega)
      have hz : zT ≠ lf 1 (r : Int) := fun z => lf_z z.symm
      rcases hc with ⟨rfl, rfl, hw⟩ | ⟨rfl, rfl, hw⟩
      · simp [hw, hl, hz]
      · simp [hw, hl, hz]
    · rfl
/-- Evict(0, 0). -/
theorem evict00 (s : TS) : evictS s 0 0 = (setS s 0 (zT, (s 0).2.1, (s 0).2.2), decide ((s 0).1 ≠ zT)) := by
  unfold evictS
  rw [if_pos (by decide)]
  rfl
theorem own_evict_ok {s : TS} (h : OwnOk s) : OwnOk (evictS s 0 0).1 := by
  rw [evict00]
  intro i hi
  simp only [setS]
  by_cases hk : i = 0
  · subst hk
    rw [if_pos rfl]
    exact ⟨.inl rfl, (h 0 hi).2⟩
  · rw [if_neg hk]; exact h i hi
theorem own_evict_has (s : TS) {r : Nat} (hr : r < 8) (h0 : r ≠ 0) (h4 : r ≠ 4) : hasB (evictS s 0 0).1 r = hasB s r := by
  rw [evict00]
  simp only
  rw [has_set, if_neg (by omega)]
/-- One set: how many it has, and which. -/
def nz (x : TransX) : Nat := if x = zT then 0 else 1
theorem all_sum (s : TS) : allN s = nz (s 0).1 + nz (s 0).2.1 + (nz (s 1).1 + nz (s 1).2.1) + (nz (s 2).1 + nz (s 2).2.1) + (nz (s 3).1 + nz (s 3).2.1) := by
  unfold allN
  rw [fullP_8]
  have e : ∀ (q : Nat × Nat) (L : List (Nat × Nat)), ((q :: L).filter fun p => decide (wayP s p ≠ zT)).length = nz (wayP s q) + (L.filter fun p => decide (wayP s p ≠ zT)).length := by
    intro q L
    rw [List.filter_cons]
    unfold nz
    by_cases h : wayP s q = zT
    · simp [h]
    · simp [h]; omega
  rw [e, e, e, e, e, e, e, e]
  simp [wayP]
  omega
def b1 (b : Bool) : Nat := if b then 1 else 0
theorem set_sum {s : TS} (hg : Good s) (h : OwnOk s) {i : Nat} (hi : i < 4) : nz (s i).1 + nz (s i).2.1 = b1 (hasB s i) + b1 (hasB s (i + 4)) := by
  have g := h i hi
  have ng := (hg i hi).ne
  have e1 : i % 4 = i := by omega
  have e2 : (i + 4) % 4 = i := by omega
  unfold hasB wayP
  rw [e1, e2]
  simp only [if_true, show ((1 : Nat) = 0) = False by simp, if_false]
  obtain ⟨⟨x, y, d⟩, hs⟩ : ∃ t, s i = t := ⟨_, rfl⟩
  rw [hs] at g ng ⊢
  simp only at g ng ⊢
  have z1 : zT ≠ lf 1 (i : Int) := fun z => lf_z z.symm
  have z2 : zT ≠ lf 1 ((i + 4 : Nat) : Int) := fun z => lf_z z.symm
  have z3 : lf 1 (i : Int) ≠ zT := lf_z
  have z4 : lf 1 ((i + 4 : Nat) : Int) ≠ zT := lf_z
  have z5 : lf 1 (i : Int) ≠ lf 1 ((i + 4 : Nat) : Int) := fun z => by have := lf_p z; omega
  have z6 : lf 1 ((i + 4 : Nat) : Int) ≠ lf 1 (i : Int) := fun z => z5 z.symm
  have ne : x ≠ zT → x ≠ y := fun hx e => by
    subst e
    rcases g.1 with rfl | rfl | rfl
    · exact hx rfl
    · exact ng (Int.le_refl _) rfl rfl
    · exact ng (Int.le_refl _) rfl rfl
  unfold OwnW at g
  generalize ((i + 4 : Nat) : Int) = j at *
  rcases g.1 with rfl | rfl | rfl <;> rcases g.2 with rfl | rfl | rfl
  · simp [nz, b1, z1, z2]
  · simp [nz, b1, z1, z2, z3, z5]
  · simp [nz, b1, z1, z2, z4, z6]
  · simp [nz, b1, z1, z2, z3, z5]
  · exact absurd rfl (ne z3)
  · simp [nz, b1, z3, z4, z5, z6]
  · simp [nz, b1, z1, z2, z4, z6]
  · simp [nz, b1, z3, z4, z5, z6]
  · exact absurd rfl (ne z4)
def cntB (f : Nat → Bool) : Nat → Nat
  | 0 => 0
  | k + 1 => cntB f k + b1 (f k)
theorem own_len {s : TS} (hg : Good s) (h : OwnOk s) : allN s = cntB (hasB s) 8 := by
  have h0 := set_sum hg h (i := 0) (by decide)
  have h1 := set_sum hg h (i := 1) (by decide)
  have h2 := set_sum hg h (i := 2) (by decide)
  have h3 := set_sum hg h (i := 3) (by decide)
  rw [all_sum]
  simp only [cntB]
  simp only [Nat.zero_add, Nat.reduceAdd] at h0 h1 h2 h3
  omega
/-- Each row is a page's that the cache has. -/
theorem own_row {s : TS} (h : OwnOk s) {l : Nat} (hl : l < allN s) : ∃ q : Nat, q < 8 ∧ allT s l = lf 1 q ∧ hasB s q = true := by
  obtain ⟨e, m, hnz, h4, h2⟩ := allT_get hl
  unfold allT at hnz ⊢
  rw [e] at hnz ⊢
  obtain ⟨⟨i, j⟩, hq⟩ : ∃ t, (fullP s 8)[l]'hl = t := ⟨_, rfl⟩
  rw [hq] at hnz h4 h2 ⊢
  simp only at h4 h2
  have g := h i h4
  have e1 : i % 4 = i := by omega
  have e2 : (i + 4) % 4 = i := by omega
  have key : OwnW (wayP s (i, j)) i := by
    unfold wayP
    split
    · exact g.1
    · exact g.2
  have hw : ∀ q, q % 4 = i → wayP s (i, j) = lf 1 (q : Int) → hasB s q = true := by
    intro q hqi hw
    rw [has_iff, hqi]
    unfold wayP at hw
    split at hw
    · exact .inl hw
    · exact .inr hw
  rcases key with k | k | k
  · exact absurd k hnz
  · exact ⟨i, by omega, k, hw i e1 k⟩
  · exact ⟨i + 4, by omega, k, hw (i + 4) e2 k⟩
/-- Each page that it has is a row's. -/
theorem own_has {s : TS} {q : Nat} (hq : q < 8) (h : hasB s q = true) : ∃ l, l < allN s ∧ allT s l = lf 1 q := by
  have hm : q % 4 < 4 := Nat.mod_lt _ (by decide)
  rcases (has_iff s q).1 h with e | e
  · have w : wayP s (q % 4, 0) = lf 1 q := by simpa [wayP] using e
    obtain ⟨k, hk, ek⟩ := all_of_way (S := s) (q := (q % 4, 0)) hm (by simp) (by rw [w]; exact lf_z)
    exact ⟨k, hk, ek.trans w⟩
  · have w : wayP s (q % 4, 1) = lf 1 q := by simpa [wayP] using e
    obtain ⟨k, hk, ek⟩ := all_of_way (S := s) (q := (q % 4, 1)) hm (by simp) (by rw [w]; exact lf_z)
    exact ⟨k, hk, ek.trans w⟩
/-- How many there are behind Evict(0, 0). -/
theorem own_evict_len (s : TS) : allN (evictS s 0 0).1 + b1 (evictS s 0 0).2 = allN s := by
  rw [evict00, all_sum, all_sum]
  simp only [setS]
  simp only [if_true, show ((1 : Nat) = 0) = False by simp, show ((2 : Nat) = 0) = False by simp, show ((3 : Nat) = 0) = False by simp, if_false]
  unfold nz b1
  by_cases hz : (s 0).1 = zT
  · simp [hz]
  · simp [hz]; omega
/-- What the table has while the rows are read. -/
def midH (s : TS) (f : Nat → Bool) (l : Nat) (q : Nat) : Bool := if q = 0 ∨ q = 4 then (List.range l).any fun i => decide ((allT s i).p = (q : Int)) else f q
theorem midH_0 (s : TS) (f : Nat → Bool) : midH s f 0 = fun q => if q = 0 ∨ q = 4 then false else f q := by
  funext q; unfold midH; simp
theorem midH_succ {s : TS} (h : OwnOk s) (f : Nat → Bool) (hf : ∀ q, q < 8 → q ≠ 0 → q ≠ 4 → f q = hasB s q) {l : Nat} (hl : l < allN s) {p : Nat} (hp : (allT s l).p = (p : Int)) (q : Nat) : midH s f (l + 1) q = if q = p then true else midH s f l q := by
  obtain ⟨r, hr, e, hh⟩ := own_row h hl
  have hrp : r = p := by rw [e] at hp; have : (r : Int) = p := hp; omega
  subst hrp
  unfold midH
  by_cases hq : q = 0 ∨ q = 4
  · rw [if_pos hq, if_pos hq, List.range_succ, List.any_append]
    by_cases e2 : q = r
    · subst e2
      rw [if_pos rfl]
      simp [hp]
    · rw [if_neg e2]
      simp only [List.any_cons, List.any_nil, Bool.or_false]
      rw [hp]
      have : decide (((r : Nat) : Int) = (q : Int)) = false := decide_eq_false (by omega)
      rw [this, Bool.or_false]
  · rw [if_neg hq, if_neg hq]
    by_cases e2 : q = r
    · subst e2
      rw [if_pos rfl, hf _ hr (by omega) (by omega)]
      exact hh
    · rw [if_neg e2]
theorem midH_end {s : TS} (h : OwnOk s) (f : Nat → Bool) (hf : ∀ q, q < 8 → q ≠ 0 → q ≠ 4 → f q = hasB s q) (q : Nat) (hq : q < 8) : midH s f (allN s) q = hasB s q := by
  unfold midH
  by_cases h0 : q = 0 ∨ q = 4
  · rw [if_pos h0, Bool.eq_iff_iff, List.any_eq_true]
    constructor
    · rintro ⟨i, hi, e⟩
      obtain ⟨r, hr, e2, hh⟩ := own_row h (List.mem_range.1 hi)
      have e3 : (allT s i).p = (q : Int) := by simpa using e
      rw [e2] at e3
      have : r = q := by have : (r : Int) = q := e3; omega
      rw [← this]; exact hh
    · intro hh
      obtain ⟨l, hl, e⟩ := own_has hq hh
      exact ⟨l, List.mem_range.2 hl, by rw [e]; simp [lf]⟩
  · rw [if_neg h0]
    exact hf q hq (by omega) (by omega)
end Go.Proofs.Ytedapbliebiblaa
