/- TreeDepths: the first depth is 0, each is at most one more than the one ahead, and no slot stands twice. -/
import Derived.Test.YtebgmphbkjpfcaaTrK
namespace Go.Proofs.Ytebgmphbkjpfcaa
set_option linter.unusedVariables false
set_option linter.unusedSimpArgs false
open Go.ChangeShapes Go.WideShapes Go.ChangeAt Go.RowKit Go.Shelf

structure Dep (l : List Nod) : Prop where
  zero : ∀ x, l[0]? = some x → x.d = 0
  step : ∀ (k : Nat) (x y : Nod), l[k]? = some x → l[k + 1]? = some y → y.d ≤ x.d + 1
  pos : ∀ (k : Nat) (x : Nod), l[k]? = some x → 0 ≤ x.d
theorem dep_nil : Dep [] := ⟨fun x h => by simp at h, fun k x y h => by simp at h, fun k x h => by simp at h⟩
theorem dep_ins {l : List Nod} {q : Nat} {x : Nod} (h : Dep l) (hq : q ≤ l.length) (h0 : q = 0 → x.d = 0) (h1 : ∀ k y, q = k + 1 → l[k]? = some y → x.d ≤ y.d + 1) (h2 : ∀ y, l[q]? = some y → y.d ≤ x.d + 1) (h3 : 0 ≤ x.d) (h4 : q = 0 → l = []) : Dep (l.insertIdx q x) := by
  refine ⟨fun y hy => ?_, fun k y z hy hz => ?_, fun k y hy => ?_⟩
  · rcases ins_get hq hy with ⟨e, hr⟩ | ⟨e, rfl⟩ | ⟨j, e, _⟩
    · exact h.zero y hr
    · exact h0 e.symm
    · omega
  · rcases ins_get hq hy with ⟨e, hr⟩ | ⟨rfl, rfl⟩ | ⟨j, rfl, e, hr⟩
    · by_cases e2 : k + 1 = q
      · subst e2
        rw [ins_at hq] at hz
        cases hz
        exact h1 k y rfl hr
      · rw [ins_lo (by omega)] at hz
        exact h.step k y z hr hz
    · rw [ins_hi (Nat.le_refl _)] at hz
      exact h2 z hz
    · rw [ins_hi (by omega)] at hz
      exact h.step j y z hr hz
  · rcases ins_get hq hy with ⟨e, hr⟩ | ⟨e, rfl⟩ | ⟨j, e, _, hr⟩
    · exact h.pos _ _ hr
    · exact h3
    · exact h.pos _ _ hr
theorem dep_root {l : List Nod} (h : Dep l) (o i : Int) : Dep (rootA l o i).1 := by
  unfold rootA
  split
  · exact h
  · refine dep_ins h (Nat.le_refl _) (fun _ => rfl) (fun k y _ hy => ?_) (fun y hy => ?_) (Int.le_refl _) (fun e => List.length_eq_zero_iff.1 e)
    · have := h.pos k y hy
      show (0 : Int) ≤ _
      omega
    · simp at hy
theorem dep_child {l : List Nod} (h : Dep l) (o i p j : Int) : Dep (childA l o i p j).1 := by
  unfold childA
  cases hk : idx l o i with
  | none => exact h
  | some k =>
    simp only
    split
    · exact h
    · obtain ⟨x, hx, _⟩ := idx_some hk
      have hxd : (l[k]?.map Nod.d).getD 0 = x.d := by rw [hx]; rfl
      rw [hxd]
      have hkl : k < l.length := (List.getElem?_eq_some_iff.1 hx).1
      refine dep_ins h (by omega) (fun e => by omega) (fun k' y e hy => ?_) (fun y hy => ?_) ?_ (fun e => by omega)
      · obtain rfl : k = k' := by omega
        rw [hx] at hy
        cases hy
        exact Int.le_refl _
      · have := h.step k x y hx hy
        show y.d ≤ x.d + 1 + 1
        omega
      · have := h.pos k x hx
        show 0 ≤ x.d + 1
        omega
theorem low_d {l : List Nod} {k j : Nat} {x y : Nod} (hx : l[k]? = some x) (hy : l[j]? = some y) (hj : k < j) : ∃ z, (low l k (belowN l k))[j]? = some z ∧ ((j < k + 1 + belowN l k ∧ x.d < y.d ∧ z.d = y.d - 1) ∨ (k + 1 + belowN l k ≤ j ∧ z.d = y.d)) := by
  by_cases e : j < k + 1 + belowN l k
  · refine ⟨{ y with d := y.d - 1 }, ?_, .inl ⟨e, ?_, rfl⟩⟩
    · rw [low_get, hy]
      show some (if _ then _ else _) = _
      rw [if_pos ⟨hj, e⟩]
    · obtain ⟨c, rfl⟩ : ∃ c, j = k + 1 + c := ⟨j - (k + 1), by omega⟩
      obtain ⟨z, hz, hd⟩ := belowN_in hx (c := c) (by omega)
      rw [hy] at hz
      cases hz
      exact hd
  · exact ⟨y, by rw [low_out (by omega)]; exact hy, .inr ⟨by omega, rfl⟩⟩
theorem dep_low {l : List Nod} (h : Dep l) {k : Nat} {x : Nod} (hx : l[k]? = some x) : Dep ((low l k (belowN l k)).eraseIdx k) := by
  have hxp := h.pos k x hx
  -- what stands behind the k-th
  have hb : ∀ (j : Nat) (z : Nod), k < j → (low l k (belowN l k))[j]? = some z → ∃ y, l[j]? = some y ∧ ((j < k + 1 + belowN l k ∧ x.d < y.d ∧ z.d = y.d - 1) ∨ (k + 1 + belowN l k ≤ j ∧ z.d = y.d)) := by
    intro j z hj hz
    obtain ⟨y, hy, _⟩ := low_slot hz
    obtain ⟨z', hz', hc⟩ := low_d hx hy hj
    rw [hz] at hz'
    cases hz'
    exact ⟨y, hy, hc⟩
  have hnext : ∀ y, l[k + 1 + belowN l k]? = some y → y.d ≤ x.d := fun y hy => belowN_out hx hy
  refine ⟨fun z hz => ?_, fun j u z hu hz => ?_, fun j z hz => ?_⟩
  · by_cases e : k = 0
    · subst e
      rw [del_hi (Nat.le_refl _)] at hz
      obtain ⟨y, hy, hc⟩ := hb 1 z (by omega) hz
      have h0 := h.zero x hx
      have h1 := h.step 0 x y hx hy
      have h2 := h.pos 1 y hy
      rcases hc with ⟨_, _, hd⟩ | ⟨hl, hd⟩
      · omega
      · have hN : belowN l 0 = 0 := by omega
        have := hnext y (by rw [hN]; exact hy)
        omega
    · rw [del_lo (by omega), low_out (by omega)] at hz
      exact h.zero z hz
  · rcases Nat.lt_trichotomy (j + 1) k with e | e | e
    · rw [del_lo (by omega), low_out (by omega)] at hu hz
      exact h.step j u z hu hz
    · rw [del_lo (by omega), low_out (by omega)] at hu
      rw [e, del_hi (Nat.le_refl _)] at hz
      obtain ⟨y, hy, hc⟩ := hb _ z (by omega) hz
      have h1 := h.step j u x hu (by rw [e]; exact hx)
      have h2 := h.step k x y hx hy
      rcases hc with ⟨_, _, hd⟩ | ⟨hl, hd⟩
      · omega
      · have hN : belowN l k = 0 := by omega
        have := hnext y (by rw [hN]; exact hy)
        omega
    · rw [del_hi (by omega)] at hu hz
      obtain ⟨y1, hy1, hc1⟩ := hb _ u (by omega) hu
      obtain ⟨y2, hy2, hc2⟩ := hb _ z (by omega) hz
      have h1 := h.step _ _ _ hy1 hy2
      rcases hc1 with ⟨a1, a2, a3⟩ | ⟨a1, a3⟩
      · rcases hc2 with ⟨b1, b2, b3⟩ | ⟨b1, b3⟩
        · omega
        · have e3 : j + 1 + 1 = k + 1 + belowN l k := by omega
          have := hnext y2 (by rw [← e3]; exact hy2)
          omega
      · rcases hc2 with ⟨b1, b2, b3⟩ | ⟨b1, b3⟩
        · omega
        · omega
  · rw [del_back] at hz
    by_cases e : back k j ≤ k
    · have hne := back_ne k j
      rw [low_out (by omega)] at hz
      exact h.pos _ _ hz
    · obtain ⟨y, hy, hc⟩ := hb _ z (by omega) hz
      have := h.pos _ _ hy
      rcases hc with ⟨_, a, b⟩ | ⟨_, b⟩ <;> omega
theorem dep_remove {l : List Nod} (h : Dep l) (o i : Int) : Dep (removeA l o i).1 := by
  unfold removeA
  cases hk : idx l o i with
  | none => exact h
  | some k =>
    obtain ⟨x, hx, _⟩ := idx_some hk
    exact dep_low h hx
theorem dep_swap {l : List Nod} (h : Dep l) (o i p j : Int) : Dep (swapA l o i p j) := by
  have hg : ∀ {k : Nat} {y : Nod}, (swapA l o i p j)[k]? = some y → ∃ x, l[k]? = some x ∧ y.d = x.d := by
    intro k y hy
    unfold swapA at hy
    rw [List.getElem?_map] at hy
    obtain ⟨x, hx, e⟩ := Option.map_eq_some_iff.1 hy
    refine ⟨x, hx, ?_⟩
    rw [← e]
    unfold sw
    split
    · rfl
    · split <;> rfl
  refine ⟨fun y hy => ?_, fun k y z hy hz => ?_, fun k y hy => ?_⟩
  · obtain ⟨x, hx, e⟩ := hg hy
    rw [e]; exact h.zero x hx
  · obtain ⟨x, hx, e⟩ := hg hy
    obtain ⟨x', hx', e'⟩ := hg hz
    rw [e, e']; exact h.step k x x' hx hx'
  · obtain ⟨x, hx, e⟩ := hg hy
    rw [e]; exact h.pos k x hx
theorem dep_step {l : List Nod} (h : Dep l) (x : ActT) : Dep (stepA l x) := by
  unfold stepA
  split
  · exact dep_root h _ _
  split
  · exact dep_child h _ _ _ _
  split
  · exact dep_remove h _ _
  split
  · unfold moveA
    split
    · split
      · exact h
      · exact dep_swap h _ _ _ _
    · exact h
  split
  · exact dep_swap h _ _ _ _
  · exact h
theorem dep_play (D : Nat → ActT) : ∀ n, Dep (playL D n)
  | 0 => dep_nil
  | n + 1 => dep_step (dep_play D n) _
/-- No slot stands twice. -/
def Once (l : List Nod) : Prop := ∀ (k j : Nat) (x y : Nod), l[k]? = some x → l[j]? = some y → x.o = y.o → x.i = y.i → k = j
theorem St.once {w0 W : World} {b m n : Nat} {l : List Nod} (h : St w0 b m n l W) : Once l := by
  obtain ⟨ps, f, hT, _⟩ := h
  exact hT.slots
theorem St.small {w0 W : World} {b m n : Nat} {l : List Nod} (h : St w0 b m n l W) : ∀ (k : Nat) (x : Nod), l[k]? = some x → x.d ≤ n ∧ InS x.o ∧ InS x.i := by
  obtain ⟨ps, f, hT, _⟩ := h
  intro k x hx
  obtain ⟨a, c, d, e⟩ := hT.ins k x hx
  exact ⟨e, a, c⟩
end Go.Proofs.Ytebgmphbkjpfcaa
