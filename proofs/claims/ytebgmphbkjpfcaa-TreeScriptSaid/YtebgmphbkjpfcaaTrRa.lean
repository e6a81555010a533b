/- what is below what, behind a slot that was taken out. -/
import Derived.Test.YtebgmphbkjpfcaaTrPb
import Derived.Test.YtebgmphbkjpfcaaTrV
namespace Go.Proofs.Ytebgmphbkjpfcaa
set_option linter.unusedVariables false
set_option linter.unusedSimpArgs false
open Go.ChangeShapes Go.WideShapes Go.ChangeAt Go.RowKit Go.Shelf

/-- The list behind the k-th that is taken out. -/
def rem (l : List Nod) (k : Nat) : List Nod := (low l k (belowN l k)).eraseIdx k
theorem rem_get {l : List Nod} {k j : Nat} : (rem l k)[j]? = (low l k (belowN l k))[back k j]? := del_back
theorem rem_dep {l : List Nod} {k j : Nat} (hj : back k j < l.length) : dep (rem l k) j = if k < back k j ∧ back k j < k + 1 + belowN l k then dep l (back k j) - 1 else dep l (back k j) := by
  have hx : l[back k j]? = some (l[back k j]'hj) := List.getElem?_eq_getElem _
  have hr : (rem l k)[j]? = some (if k < back k j ∧ back k j < k + 1 + belowN l k then { l[back k j]'hj with d := (l[back k j]'hj).d - 1 } else l[back k j]'hj) := by
    rw [rem_get, low_get, hx]; rfl
  rw [dep_at hr, dep_at hx]
  split <;> rfl
theorem rem_slot {l : List Nod} {k j : Nat} {y : Nod} (h : (rem l k)[j]? = some y) : ∃ x, l[back k j]? = some x ∧ y.o = x.o ∧ y.i = x.i := by
  rw [rem_get] at h
  exact low_slot h
def fwd (k t : Nat) : Nat := if t < k then t else t - 1
theorem back_fwd {k t : Nat} (h : t ≠ k) : back k (fwd k t) = t := by
  unfold back fwd
  by_cases h1 : t < k
  · simp [h1]
  · have h2 : ¬ t - 1 < k := by omega
    simp only [h1, h2, if_false]
    omega
theorem rem_at {l : List Nod} {k t : Nat} {x : Nod} (h : t ≠ k) (hx : l[t]? = some x) : ∃ y, (rem l k)[fwd k t]? = some y ∧ y.o = x.o ∧ y.i = x.i := by
  rw [rem_get, back_fwd h, low_get, hx]
  refine ⟨_, rfl, ?_⟩
  split <;> exact ⟨rfl, rfl⟩
theorem rem_len {l : List Nod} {k : Nat} (hk : k < l.length) : (rem l k).length + 1 = l.length := by
  unfold rem
  rw [List.length_eraseIdx, low_len, if_pos hk]
  omega
theorem back_lt {k a b : Nat} : back k a < back k b ↔ a < b := by
  unfold back
  split <;> split <;> omega
theorem back_len {l : List Nod} {k j : Nat} (hk : k < l.length) : back k j < l.length ↔ j < (rem l k).length := by
  have := rem_len hk
  unfold back
  split <;> omega
theorem rem_bel {l : List Nod} (hP : Dep l) {k : Nat} (hk : k < l.length) (a b : Nat) : Bel (rem l k) a b ↔ Bel l (back k a) (back k b) := by
  have hin : ∀ t, k < t → t < k + 1 + belowN l k → dep l k < dep l t := by
    intro t h1 h2
    obtain ⟨c, rfl⟩ : ∃ c, t = k + 1 + c := ⟨t - (k + 1), by omega⟩
    have hx : l[k]? = some (l[k]'hk) := List.getElem?_eq_getElem _
    obtain ⟨z, hz, hd⟩ := belowN_in hx (c := c) (by omega)
    rw [dep_at hx, dep_at hz]; exact hd
  have hout : k + 1 + belowN l k < l.length → dep l (k + 1 + belowN l k) ≤ dep l k := by
    intro h
    have hx : l[k]? = some (l[k]'hk) := List.getElem?_eq_getElem _
    have hz : l[k + 1 + belowN l k]? = some (l[k + 1 + belowN l k]'h) := List.getElem?_eq_getElem _
    rw [dep_at hx, dep_at hz]
    exact belowN_out hx hz
  have hstep : ∀ t, t + 1 < l.length → dep l (t + 1) ≤ dep l t + 1 := by
    intro t h
    have hx : l[t]? = some (l[t]'(by omega)) := List.getElem?_eq_getElem _
    have hz : l[t + 1]? = some (l[t + 1]'h) := List.getElem?_eq_getElem _
    rw [dep_at hx, dep_at hz]
    exact hP.step t _ _ hx hz
  constructor
  · rintro ⟨h1, h2, h3⟩
    have hab := back_lt (k := k).2 h1
    have hbl := (back_len hk).2 h2
    have hal : back k a < l.length := by omega
    have hda := rem_dep hal
    have hne := back_ne k a
    -- a place between, not the k-th
    have hmid : ∀ t, t ≠ k → back k a < t → t ≤ back k b → dep l (back k a) < dep l t := by
      intro t ht t1 t2
      have hf := back_fwd ht
      have f1 : a < fwd k t := by rw [← back_lt (k := k), hf]; exact t1
      have f2 : fwd k t ≤ b := by
        rcases Nat.lt_or_ge b (fwd k t) with q | q
        · have := back_lt (k := k).2 q
          omega
        · exact q
      have hd := h3 (fwd k t) f1 f2
      have hdt := rem_dep (l := l) (k := k) (j := fwd k t) (by rw [hf]; omega)
      rw [hf] at hdt
      rw [hda, hdt] at hd
      split at hd <;> split at hd
      · omega
      · rename_i q1 q2
        -- the end of the lowered ones lies between
        have hel : k + 1 + belowN l k < l.length := by omega
        have hee := hout hel
        have hne2 : k + 1 + belowN l k ≠ k := by omega
        have hf2 := back_fwd hne2
        have g1 : a < fwd k (k + 1 + belowN l k) := by rw [← back_lt (k := k), hf2]; omega
        have g2 : fwd k (k + 1 + belowN l k) ≤ b := by
          rcases Nat.lt_or_ge b (fwd k (k + 1 + belowN l k)) with q | q
          · have := back_lt (k := k).2 q
            omega
          · exact q
        have hd2 := h3 _ g1 g2
        have hdt2 := rem_dep (l := l) (k := k) (j := fwd k (k + 1 + belowN l k)) (by rw [hf2]; omega)
        rw [hf2, if_neg (by omega)] at hdt2
        rw [hda, hdt2, if_pos q1] at hd2
        have := hin (back k a) q1.1 q1.2
        omega
      · omega
      · exact hd
    refine ⟨hab, hbl, fun t t1 t2 => ?_⟩
    by_cases ht : t = k
    · subst ht
      have hbn := back_ne t b
      have hm := hmid (t + 1) (by omega) (by omega) (by omega)
      have hs := hstep t (by omega)
      by_cases hN : t + 1 < t + 1 + belowN l t
      · -- it is lowered
        have hf := back_fwd (k := t) (t := t + 1) (by omega)
        have g1 : a < fwd t (t + 1) := by rw [← back_lt (k := t), hf]; omega
        have g2 : fwd t (t + 1) ≤ b := by
          rcases Nat.lt_or_ge b (fwd t (t + 1)) with q | q
          · have := back_lt (k := t).2 q
            omega
          · exact q
        have hd2 := h3 _ g1 g2
        have hdt2 := rem_dep (l := l) (k := t) (j := fwd t (t + 1)) (by rw [hf]; omega)
        rw [hf, if_pos ⟨by omega, hN⟩] at hdt2
        rw [hda, hdt2, if_neg (by omega)] at hd2
        omega
      · have e0 : t + 1 + belowN l t = t + 1 := by omega
        have := hout (by omega)
        rw [e0] at this
        omega
    · exact hmid t ht t1 t2
  · rintro ⟨h1, h2, h3⟩
    have hab := back_lt (k := k).1 h1
    have hbl := (back_len hk).1 h2
    refine ⟨hab, hbl, fun t t1 t2 => ?_⟩
    have g1 := back_lt (k := k).2 t1
    have g2 : back k t ≤ back k b := by
      rcases Nat.lt_or_ge b t with q | q
      · omega
      · rcases Nat.lt_or_ge t b with q2 | q2
        · have := back_lt (k := k).2 q2; omega
        · have : t = b := by omega
          rw [this]; exact Nat.le_refl _
    have hd := h3 _ g1 g2
    rw [rem_dep (by omega), rem_dep (by omega)]
    have hna := back_ne k a
    split <;> split
    · omega
    · omega
    · rename_i q1 q2
      have hk2 : back k a < k := by omega
      have := h3 k hk2 (by omega)
      have := hin (back k t) q2.1 q2.2
      omega
    · exact hd
theorem below_mem {l : List Nod} (hO : Once l) {k : Nat} {y : Nod} (hy : l[k]? = some y) (o i : Int) : (∃ z ∈ belowA l y.o y.i, z.o = o ∧ z.i = i) ↔ ∃ (t : Nat) (x : Nod), l[t]? = some x ∧ Bel l k t ∧ x.o = o ∧ x.i = i := by
  constructor
  · rintro ⟨z, hz, h1, h2⟩
    have hzl : z ∈ l := by
      have hb : belowA l y.o y.i = (l.drop (k + 1)).take (belowN l k) := by unfold belowA; rw [idx_self hO hy]
      rw [hb] at hz
      exact List.mem_of_mem_drop (List.mem_of_mem_take hz)
    obtain ⟨t, ht⟩ := List.getElem?_of_mem hzl
    exact ⟨t, z, ht, (bel_iff hO hy ht).1 ((idx_iff _ _ _).2 ⟨z, hz, rfl, rfl⟩), h1, h2⟩
  · rintro ⟨t, x, hx, hb, h1, h2⟩
    obtain ⟨z, hz, q1, q2⟩ := (idx_iff _ _ _).1 ((bel_iff hO hy hx).2 hb)
    exact ⟨z, hz, by omega, by omega⟩
/-- Behind the k-th's removal: what was below stays below, and as many. -/
theorem rem_below {l : List Nod} (hO : Once l) (hP : Dep l) {k : Nat} {p : Nod} (hp : l[k]? = some p) (hO' : Once (rem l k)) {a : Nat} {x : Nod} (hx : l[a]? = some x) (hne : ¬ (x.o = p.o ∧ x.i = p.i)) :
    (∀ w ∈ belowA l x.o x.i, ¬ (w.o = p.o ∧ w.i = p.i) → (idx (belowA (rem l k) x.o x.i) w.o w.i).isSome = true) ∧
    (belowA (rem l k) x.o x.i).length = ((belowA l x.o x.i).filter fun z => decide (¬ (z.o = p.o ∧ z.i = p.i))).length := by
  have hk := (List.getElem?_eq_some_iff.1 hp).1
  have hak : a ≠ k := fun e => hne (by rw [e, hp] at hx; cases hx; exact ⟨rfl, rfl⟩)
  obtain ⟨x', hx', e1, e2⟩ := rem_at hak hx
  have hbf := back_fwd hak
  have hmem : ∀ o i, (∃ z ∈ belowA (rem l k) x.o x.i, z.o = o ∧ z.i = i) ↔ ((∃ z ∈ belowA l x.o x.i, z.o = o ∧ z.i = i) ∧ ¬ (o = p.o ∧ i = p.i)) := by
    intro o i
    rw [← e1, ← e2, below_mem hO' hx' o i, e1, e2, below_mem hO hx o i]
    constructor
    · rintro ⟨t, y, hy, hb, h1, h2⟩
      rw [rem_bel hP hk, hbf] at hb
      obtain ⟨z, hz, q1, q2⟩ := rem_slot hy
      refine ⟨⟨_, z, hz, hb, by omega, by omega⟩, fun e => ?_⟩
      exact back_ne k t (hO _ _ _ _ hz hp (by omega) (by omega))
    · rintro ⟨⟨t, y, hy, hb, h1, h2⟩, hn⟩
      have htk : t ≠ k := fun e => hn (by rw [e, hp] at hy; cases hy; exact ⟨h1.symm, h2.symm⟩)
      obtain ⟨y', hy', q1, q2⟩ := rem_at htk hy
      refine ⟨_, y', hy', ?_, by omega, by omega⟩
      rw [rem_bel hP hk, hbf, back_fwd htk]
      exact hb
  constructor
  · intro w hw hwn
    rw [idx_iff]
    exact (hmem w.o w.i).2 ⟨⟨w, hw, rfl, rfl⟩, hwn⟩
  · have hnd : ∀ (L m : List Nod), Once L → m.Sublist L → (m.map fun z => (z.o, z.i)).Nodup := by
      intro L m hL hm
      rw [List.Nodup, List.pairwise_map]
      refine ((once_pair hL).sublist hm).imp (fun {u v} h e => h ?_)
      simp only [Prod.mk.injEq] at e
      exact e
    have hsub : ∀ L : List Nod, ∀ o i, (belowA L o i).Sublist L := by
      intro L o i
      unfold belowA
      split
      · exact List.nil_sublist _
      · exact (List.take_sublist _ _).trans (List.drop_sublist _ _)
    have n1 := hnd _ _ hO' (hsub (rem l k) x.o x.i)
    have n2 := hnd _ _ hO ((List.filter_sublist (p := fun z : Nod => decide (¬ (z.o = p.o ∧ z.i = p.i)))).trans (hsub l x.o x.i))
    have hperm := (List.perm_ext_iff_of_nodup n1 n2).2 (fun ⟨o, i⟩ => by
      simp only [List.mem_map, List.mem_filter, Prod.mk.injEq, decide_eq_true_eq]
      have := hmem o i
      constructor
      · intro h
        obtain ⟨⟨z, hz, q1, q2⟩, hn⟩ := this.1 h
        exact ⟨z, ⟨hz, by rw [q1, q2]; exact hn⟩, q1, q2⟩
      · rintro ⟨z, ⟨hz, hzn⟩, q1, q2⟩
        exact this.2 ⟨⟨z, hz, q1, q2⟩, by rw [← q1, ← q2]; exact hzn⟩)
    have := hperm.length_eq
    simpa using this
theorem rem_gone {l : List Nod} (hO : Once l) {k : Nat} {p : Nod} (hp : l[k]? = some p) : idx (rem l k) p.o p.i = none := by
  cases e : idx (rem l k) p.o p.i with
  | none => rfl
  | some j =>
    obtain ⟨y, hy, h1, h2⟩ := idx_some e
    obtain ⟨z, hz, q1, q2⟩ := rem_slot hy
    exact absurd (hO _ _ _ _ hz hp (by omega) (by omega)) (back_ne k j)
theorem remove_eq {l : List Nod} (hO : Once l) {k : Nat} {p : Nod} (hp : l[k]? = some p) : removeA l p.o p.i = (rem l k, 0) := by
  unfold removeA
  rw [idx_self hO hp]
  rfl
end Go.Proofs.Ytebgmphbkjpfcaa
