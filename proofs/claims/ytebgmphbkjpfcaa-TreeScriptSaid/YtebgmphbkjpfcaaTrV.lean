/- a tree laid anew, level by level: what it holds on the way. -/
import Derived.Test.YtebgmphbkjpfcaaTrT
namespace Go.Proofs.Ytebgmphbkjpfcaa
set_option linter.unusedVariables false
set_option linter.unusedSimpArgs false
open Go.ChangeShapes Go.WideShapes Go.ChangeAt Go.RowKit Go.Shelf

def Apart (x y : Nod) : Prop := ¬ (x.o = y.o ∧ x.i = y.i)
theorem once_pair {l : List Nod} (h : Once l) : l.Pairwise Apart := by
  rw [List.pairwise_iff_getElem]
  intro i j hi hj hij e
  have := h i j l[i] l[j] (List.getElem?_eq_getElem hi) (List.getElem?_eq_getElem hj) e.1 e.2
  omega
theorem idx_in {A G : List Nod} {y : Nod} (h : (A ++ y :: G).Pairwise Apart) : idx (A ++ y :: G) y.o y.i = some A.length := by
  cases e : idx (A ++ y :: G) y.o y.i with
  | none =>
    exact absurd ⟨rfl, rfl⟩ (idx_none e (k := A.length) (x := y) (by simp))
  | some k =>
    obtain ⟨x, hx, h1, h2⟩ := idx_some e
    have hy : (A ++ y :: G)[A.length]? = some y := by simp
    have hkl := (List.getElem?_eq_some_iff.1 hx).1
    have hal := (List.getElem?_eq_some_iff.1 hy).1
    have ex := (List.getElem?_eq_some_iff.1 hx).2
    have ey := (List.getElem?_eq_some_iff.1 hy).2
    rw [List.pairwise_iff_getElem] at h
    rcases Nat.lt_trichotomy k A.length with q | q | q
    · exact absurd ⟨by rw [ex, ey]; exact h1, by rw [ex, ey]; exact h2⟩ (h k A.length hkl hal q)
    · rw [q]
    · exact absurd ⟨by rw [ex, ey]; exact h1.symm, by rw [ex, ey]; exact h2.symm⟩ (h A.length k hal hkl q)
theorem idx_out {A G : List Nod} {x : Nod} (h : (A ++ x :: G).Pairwise Apart) : idx (A ++ G) x.o x.i = none := by
  cases e : idx (A ++ G) x.o x.i with
  | none => rfl
  | some k =>
    obtain ⟨z, hz, h1, h2⟩ := idx_some e
    have hm := List.mem_of_getElem? hz
    rw [List.pairwise_append] at h
    obtain ⟨p1, p2, p3⟩ := h
    rw [List.pairwise_cons] at p2
    rcases List.mem_append.1 hm with hm | hm
    · exact absurd ⟨h1, h2⟩ (p3 z hm x (by simp))
    · exact absurd ⟨h1.symm, h2.symm⟩ (p2.1 z hm)
theorem ins_app {α : Type} (x : α) (G : List α) : ∀ A : List α, (A ++ G).insertIdx A.length x = A ++ x :: G
  | [] => by simp
  | a :: A => by simp [ins_app x G A]
/-- What has been laid of l, when level D has come down to the i-th. -/
def cur (l : List Nod) (D : Int) (i : Nat) : List Nod := (l.take i).filter (fun x => decide (x.d < D)) ++ (l.drop i).filter (fun x => decide (x.d < D + 1))
theorem cur_sub (l : List Nod) (D : Int) (i : Nat) : (cur l D i).Sublist l := by
  have h := (List.filter_sublist (p := fun x : Nod => decide (x.d < D)) (l := l.take i)).append (List.filter_sublist (p := fun x : Nod => decide (x.d < D + 1)) (l := l.drop i))
  rw [List.take_append_drop] at h
  exact h
theorem cur_pair {l : List Nod} (h : Once l) (D : Int) (i : Nat) : (cur l D i).Pairwise Apart := (once_pair h).sublist (cur_sub l D i)
theorem cur_start (l : List Nod) (D : Int) : cur l D l.length = l.filter (fun x => decide (x.d < D)) := by simp [cur]
theorem cur_end (l : List Nod) (D : Int) : cur l D 0 = l.filter (fun x => decide (x.d < D + 1)) := by simp [cur]
theorem drop_at {l : List Nod} {i : Nat} {x : Nod} (hx : l[i]? = some x) : l.drop i = x :: l.drop (i + 1) := by
  obtain ⟨hi, e⟩ := List.getElem?_eq_some_iff.1 hx
  rw [List.drop_eq_getElem_cons hi, e]
theorem take_at {l : List Nod} {i : Nat} {x : Nod} (hx : l[i]? = some x) : l.take (i + 1) = l.take i ++ [x] := by
  rw [List.take_add_one, hx]; rfl
theorem cur_skip {l : List Nod} {D : Int} {i : Nat} {x : Nod} (hx : l[i]? = some x) (hd : x.d ≠ D) : cur l D (i + 1) = cur l D i := by
  unfold cur
  rw [take_at hx, drop_at hx, List.filter_append]
  by_cases h : x.d < D
  · have a1 : [x].filter (fun x => decide (x.d < D)) = [x] := by simp [h]
    have a2 : (x :: l.drop (i + 1)).filter (fun x => decide (x.d < D + 1)) = x :: (l.drop (i + 1)).filter (fun x => decide (x.d < D + 1)) := List.filter_cons_of_pos (by simp; omega)
    rw [a1, a2]; simp
  · have a1 : [x].filter (fun x => decide (x.d < D)) = [] := by simp; omega
    have a2 : (x :: l.drop (i + 1)).filter (fun x => decide (x.d < D + 1)) = (l.drop (i + 1)).filter (fun x => decide (x.d < D + 1)) := List.filter_cons_of_neg (by simp; omega)
    rw [a1, a2]; simp
theorem cur_put {l : List Nod} (hO : Once l) (hP : Dep l) {D : Int} {i r : Nat} {x y : Nod} (hx : l[i]? = some x) (hd : x.d = D) (hr : r < i) (hy : l[r]? = some y) (hyd : y.d < D) (hm : ∀ (j : Nat) (z : Nod), r < j → j < i → l[j]? = some z → D ≤ z.d) :
    childA (cur l D (i + 1)) y.o y.i x.o x.i = (cur l D i, 0) := by
  -- the parent is the last one ahead that is laid
  have hmid : l.take i = l.take r ++ y :: (l.take i).drop (r + 1) := by
    have h1 : (l.take i)[r]? = some y := by rw [List.getElem?_take, if_pos hr]; exact hy
    have h2 := List.take_append_drop r (l.take i)
    rw [drop_at h1, List.take_take, Nat.min_eq_left (by omega)] at h2
    exact h2.symm
  have hmf : ((l.take i).drop (r + 1)).filter (fun x => decide (x.d < D)) = [] := by
    rw [List.filter_eq_nil_iff]
    intro z hz
    obtain ⟨j, hj⟩ := List.getElem?_of_mem hz
    rw [List.getElem?_drop, List.getElem?_take] at hj
    split at hj
    · rename_i hji
      have := hm (r + 1 + j) z (by omega) hji hj
      simp; omega
    · cases hj
  obtain ⟨F, hF⟩ : ∃ F, F = (l.take r).filter (fun x => decide (x.d < D)) := ⟨_, rfl⟩
  obtain ⟨G, hG⟩ : ∃ G, G = (l.drop (i + 1)).filter (fun x => decide (x.d < D + 1)) := ⟨_, rfl⟩
  have hti : (l.take i).filter (fun x => decide (x.d < D)) = F ++ [y] := by
    rw [hmid, List.filter_append, List.filter_cons, if_pos (by simpa using hyd), hmf, ← hF]
  have h1 : cur l D (i + 1) = F ++ y :: G := by
    unfold cur
    rw [take_at hx, List.filter_append, hti, ← hG]
    have : [x].filter (fun x => decide (x.d < D)) = [] := by simp; omega
    rw [this]; simp
  have h2 : cur l D i = (F ++ [y]) ++ x :: G := by
    unfold cur
    rw [hti, drop_at hx, List.filter_cons, if_pos (by simp; omega), ← hG]
  have p1 := cur_pair hO D (i + 1)
  have p2 := cur_pair hO D i
  rw [h1] at p1
  rw [h2] at p2
  have hyx : y.d + 1 = x.d := by
    obtain ⟨z, hz⟩ : ∃ z, l[r + 1]? = some z := ⟨l[r + 1]'(by have := (List.getElem?_eq_some_iff.1 hx).1; omega), List.getElem?_eq_getElem _⟩
    have hs := hP.step r y z hy hz
    by_cases e : r + 1 = i
    · rw [e, hx] at hz
      cases hz
      omega
    · have := hm (r + 1) z (by omega) (by omega) hz
      omega
  have i1 := idx_in p1
  have i2 := idx_out p2
  rw [h1, h2]
  unfold childA
  rw [i1]
  simp only
  have i3 : idx (F ++ y :: G) x.o x.i = none := by
    have e : F ++ y :: G = (F ++ [y]) ++ G := by simp
    rw [e]; exact i2
  rw [i3]
  have hget : (F ++ y :: G)[F.length]? = some y := by simp
  rw [hget]
  simp only [Option.isSome_none, Bool.false_eq_true, if_false, Option.map_some, Option.getD_some]
  have e : F ++ y :: G = (F ++ [y]) ++ G := by simp
  rw [e, show F.length + 1 = (F ++ [y]).length by simp, ins_app, hyx]
theorem root_put {l : List Nod} (hO : Once l) {i : Nat} {x : Nod} (hx : l[i]? = some x) (hd : x.d = 0) :
    rootA ((l.take i).filter (fun x => decide (x.d < 1))) x.o x.i = ((l.take (i + 1)).filter (fun x => decide (x.d < 1)), 0) := by
  have h2 : (l.take (i + 1)).filter (fun x => decide (x.d < 1)) = (l.take i).filter (fun x => decide (x.d < 1)) ++ [x] := by
    rw [take_at hx, List.filter_append]
    simp [hd]
  have p : ((l.take (i + 1)).filter (fun x => decide (x.d < 1))).Pairwise Apart := (once_pair hO).sublist ((List.filter_sublist).trans (List.take_sublist _ _))
  rw [h2] at p
  have i1 := idx_out (G := []) p
  rw [List.append_nil] at i1
  unfold rootA
  rw [i1, h2]
  simp only [Option.isSome_none, Bool.false_eq_true, if_false]
  have := ins_app ⟨x.o, x.i, 0⟩ [] ((l.take i).filter (fun x => decide (x.d < 1)))
  rw [List.append_nil] at this
  rw [this, ← hd]
theorem dep_le {l : List Nod} (h : Dep l) : ∀ (k : Nat) (x : Nod), l[k]? = some x → x.d ≤ k
  | 0, x, hx => by rw [h.zero x hx]; exact Int.le_refl _
  | k + 1, x, hx => by
    have hl := (List.getElem?_eq_some_iff.1 hx).1
    obtain ⟨y, hy⟩ : ∃ y, l[k]? = some y := ⟨l[k]'(by omega), List.getElem?_eq_getElem _⟩
    have := dep_le h k y hy
    have := h.step k y x hy hx
    omega
theorem all_laid {l : List Nod} (h : Dep l) : l.filter (fun x => decide (x.d < (l.length : Int) + 1)) = l := by
  rw [List.filter_eq_self]
  intro x hx
  obtain ⟨k, hk⟩ := List.getElem?_of_mem hx
  have := dep_le h k x hk
  have := (List.getElem?_eq_some_iff.1 hk).1
  simp; omega
end Go.Proofs.Ytebgmphbkjpfcaa
