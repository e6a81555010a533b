/- package ends: what an endpoints' object holds, in whatever order; the acts over that. -/
import Derived.Test.YtmbjaemflmbljaaEn7
namespace Go.Proofs.Ytmbjaemflmbljaa
set_option linter.unusedVariables false
set_option linter.unusedSimpArgs false
open TabE

/-- An endpoint by its number: who waits, for what. -/
abbrev EA := Int × List Int × Bool
def absE (x : En) : EA := (x.id, x.l, x.s)
def whoA (A : List EA) : List Int := A.flatMap (fun x => x.2.1)
def getA (A : List EA) (id : Int) : Option EA := A.find? (fun x => decide (x.1 = id))
def listA (A : List EA) (id : Int) : List Int × Bool := match getA A id with
  | none => ([], false)
  | some x => if x.2.1 = [] then ([], false) else x.2
def firstA (A : List EA) (id : Int) : Int × Bool × Bool := match (listA A id).1 with
  | [] => (0, false, false)
  | z :: _ => (z, (listA A id).2, true)
def waitR (A : List EA) (id t : Int) (s : Bool) : Int := match getA A id with
  | none => 2
  | some x => if t < 1 then 2 else if t ∈ whoA A then 16 else if x.2.1 = [] ∨ x.2.2 = s then 0 else 16
def waitF (id t : Int) (s : Bool) (x : EA) : EA := if x.1 = id then (x.1, x.2.1 ++ [t], s) else x
def waitL (A : List EA) (id t : Int) (s : Bool) : List EA := if waitR A id t s = 0 then A.map (waitF id t s) else A
def remF (t : Int) (x : EA) : EA := (x.1, x.2.1.erase t, x.2.2)
def remL (A : List EA) (t : Int) : List EA := A.map (remF t)
def addR (A : List EA) (id : Int) : Int := if id < 1 then 2 else if (getA A id).isSome then 11 else 0
def addL (A : List EA) (id : Int) : List EA := if addR A id = 0 then A ++ [(id, [], false)] else A
def dropR (A : List EA) (id : Int) : Int := if (getA A id).isSome then 0 else 2
def dropL (A : List EA) (id : Int) : List EA := A.filter (fun x => decide (x.1 ≠ id))
/-- Nobody waits twice; no number is there twice. -/
structure OnceA (A : List EA) (n : Nat) : Prop where
  ids : (A.map (fun x => x.1)).Nodup
  once : (whoA A).Nodup
  many : A.length ≤ n
  who : (whoA A).length ≤ n
theorem OnceA.le {A : List EA} {n m : Nat} (h : OnceA A n) (k : n ≤ m) : OnceA A m := ⟨h.ids, h.once, Nat.le_trans h.many k, Nat.le_trans h.who k⟩
theorem getA_some {A : List EA} {x : EA} (h : (A.map (fun x => x.1)).Nodup) (hx : x ∈ A) : getA A x.1 = some x := by
  induction A with
  | nil => cases hx
  | cons y A ih =>
    simp only [List.map_cons, List.nodup_cons] at h
    unfold getA
    rw [List.find?_cons]
    rcases List.mem_cons.1 hx with rfl | hx'
    · simp
    · have : y.1 ≠ x.1 := fun e => h.1 (List.mem_map.2 ⟨x, hx', e.symm⟩)
      simp only [this, decide_false]
      exact ih h.2 hx'
theorem getA_none {A : List EA} {id : Int} (h : ∀ x ∈ A, x.1 ≠ id) : getA A id = none := by
  unfold getA
  rw [List.find?_eq_none]
  intro x hx
  simp [h x hx]
theorem getA_mem {A : List EA} {id : Int} {x : EA} (h : getA A id = some x) : x ∈ A ∧ x.1 = id := by
  unfold getA at h
  exact ⟨List.mem_of_find?_eq_some h, by simpa using List.find?_some h⟩
theorem whoA_mem {A : List EA} {t : Int} : t ∈ whoA A ↔ ∃ x ∈ A, t ∈ x.2.1 := by
  unfold whoA
  exact List.mem_flatMap
theorem whoA_perm {A B : List EA} (h : A.Perm B) : (whoA A).Perm (whoA B) := h.flatMap_right _
theorem OnceA.perm {A B : List EA} {n : Nat} (h : OnceA A n) (k : A.Perm B) : OnceA B n :=
  ⟨((k.map _).nodup_iff).1 h.ids, ((whoA_perm k).nodup_iff).1 h.once, k.length_eq ▸ h.many, (whoA_perm k).length_eq ▸ h.who⟩
theorem getA_perm {A B : List EA} {n : Nat} (h : OnceA A n) (k : A.Perm B) (id : Int) : getA A id = getA B id := by
  have h2 := h.perm k
  cases e : getA A id with
  | none =>
    unfold getA at e
    rw [List.find?_eq_none] at e
    exact (getA_none (fun x hx => by have := e x (k.mem_iff.2 hx); simpa using this)).symm
  | some x =>
    obtain ⟨h3, rfl⟩ := getA_mem e
    exact (getA_some h2.ids (k.mem_iff.1 h3)).symm
theorem set_map {α : Type} {M : List α} {f : α → α} {p : Nat} {y : α} (hy : M[p]? = some y) (ho : ∀ (i : Nat) (z : α), i ≠ p → M[i]? = some z → f z = z) : M.set p (f y) = M.map f := by
  refine List.ext_getElem? (fun i => ?_)
  rw [List.getElem?_map]
  by_cases e : p = i
  · subst e
    rw [List.getElem?_set_self (List.getElem?_eq_some_iff.1 hy).1, hy]
    rfl
  · rw [List.getElem?_set_ne e]
    cases hz : M[i]? with
    | none => rfl
    | some z => simp [ho i z (fun q => e q.symm) hz]
theorem whoA_apart {A : List EA} (h : (whoA A).Nodup) {i p : Nat} {x y : EA} {t : Int} (hx : A[i]? = some x) (hy : A[p]? = some y) (hn : i ≠ p) (h1 : t ∈ x.2.1) (h2 : t ∈ y.2.1) : False := by
  unfold whoA List.Nodup at h
  rw [List.pairwise_flatMap] at h
  have hp := List.pairwise_iff_getElem.1 h.2
  obtain ⟨l1, e1⟩ := List.getElem?_eq_some_iff.1 hx
  obtain ⟨l2, e2⟩ := List.getElem?_eq_some_iff.1 hy
  rcases Nat.lt_or_ge i p with q | q
  · exact hp i p l1 l2 q t (by rw [e1]; exact h1) t (by rw [e2]; exact h2) rfl
  · exact hp p i l2 l1 (by omega) t (by rw [e2]; exact h2) t (by rw [e1]; exact h1) rfl
theorem ids_apart {A : List EA} (h : (A.map (fun x => x.1)).Nodup) {i p : Nat} {x y : EA} (hx : A[i]? = some x) (hy : A[p]? = some y) (hn : i ≠ p) : x.1 ≠ y.1 := by
  unfold List.Nodup at h
  rw [List.pairwise_map] at h
  have hp := List.pairwise_iff_getElem.1 h
  obtain ⟨l1, e1⟩ := List.getElem?_eq_some_iff.1 hx
  obtain ⟨l2, e2⟩ := List.getElem?_eq_some_iff.1 hy
  rcases Nat.lt_or_ge i p with q | q
  · have := hp i p l1 l2 q
    rw [e1, e2] at this
    exact this
  · have := hp p i l2 l1 (by omega)
    rw [e1, e2] at this
    exact fun e => this e.symm
theorem waitF_id (id t : Int) (s : Bool) (x : EA) : (waitF id t s x).1 = x.1 := by
  unfold waitF; split <;> rfl
theorem map_ids {A : List EA} {f : EA → EA} (h : ∀ x, (f x).1 = x.1) : (A.map f).map (fun x => x.1) = A.map (fun x => x.1) := by
  rw [List.map_map]
  exact List.map_congr_left (fun x _ => h x)
theorem OnceA.wait {A : List EA} {n : Nat} (h : OnceA A n) (id t : Int) (s : Bool) (ht : t ∉ whoA A) : OnceA (A.map (waitF id t s)) (n + 1) := by
  have hids : (A.map (waitF id t s)).map (fun x => x.1) = A.map (fun x => x.1) := map_ids (waitF_id id t s)
  have hm : ∀ {x : EA} {z : Int}, z ∈ (waitF id t s x).2.1 → z ∈ x.2.1 ∨ (z = t ∧ x.1 = id) := by
    intro x z hz
    unfold waitF at hz
    split at hz
    · rename_i e
      rcases List.mem_append.1 hz with q | q
      · exact .inl q
      · simp at q; exact .inr ⟨q, e⟩
    · exact .inl hz
  refine ⟨by rw [hids]; exact h.ids, ?_, by simp; have := h.many; omega, ?_⟩
  · have h1 := h.once
    have h2 := h.ids
    unfold whoA List.Nodup at h1 ⊢
    unfold List.Nodup at h2
    rw [List.pairwise_map] at h2
    rw [List.pairwise_flatMap] at h1
    rw [List.flatMap_map, List.pairwise_flatMap]
    refine ⟨fun x hx => ?_, ?_⟩
    · have hn : x.2.1.Nodup := h1.1 x hx
      have hnt : t ∉ x.2.1 := fun q => ht (whoA_mem.2 ⟨x, hx, q⟩)
      show (waitF id t s x).2.1.Nodup
      unfold waitF
      split
      · refine List.nodup_append.2 ⟨hn, by simp, fun a ha b hb e => ?_⟩
        simp at hb
        subst hb e
        exact hnt ha
      · exact hn
    · refine (h1.2.and h2).imp_of_mem (fun {a c} ha hc hq => ?_)
      obtain ⟨q1, q2⟩ := hq
      intro x hx y hy e
      subst e
      rcases hm hx with p1 | ⟨p1, p2⟩ <;> rcases hm hy with r1 | ⟨r1, r2⟩
      · exact q1 x p1 x r1 rfl
      · subst r1; exact ht (whoA_mem.2 ⟨a, ha, p1⟩)
      · subst p1; exact ht (whoA_mem.2 ⟨c, hc, r1⟩)
      · exact q2 (p2.trans r2.symm)
  · have h1 := h.who
    have h2 := h.ids
    have : ∀ B : List EA, (B.map (fun x => x.1)).Nodup → (whoA (B.map (waitF id t s))).length ≤ (whoA B).length + 1 ∧ ((∀ x ∈ B, x.1 ≠ id) → (whoA (B.map (waitF id t s))).length = (whoA B).length) := by
      intro B
      induction B with
      | nil => intro _; simp [whoA]
      | cons x B ih =>
        intro hn
        simp only [List.map_cons, List.nodup_cons] at hn
        obtain ⟨i1, i2⟩ := ih hn.2
        have e1 : (whoA ((x :: B).map (waitF id t s))).length = (waitF id t s x).2.1.length + (whoA (B.map (waitF id t s))).length := by simp [whoA]
        have e2 : (whoA (x :: B)).length = x.2.1.length + (whoA B).length := by simp [whoA]
        rw [e1, e2]
        by_cases hx : x.1 = id
        · have i3 := i2 (fun y hy e => hn.1 (List.mem_map.2 ⟨y, hy, e.trans hx.symm⟩))
          have : (waitF id t s x).2.1.length = x.2.1.length + 1 := by unfold waitF; rw [if_pos hx]; simp
          exact ⟨by omega, fun q => absurd hx (q x (List.mem_cons_self ..))⟩
        · have : (waitF id t s x).2.1.length = x.2.1.length := by unfold waitF; rw [if_neg hx]
          exact ⟨by omega, fun q => by rw [this, i2 (fun y hy => q y (List.mem_cons_of_mem _ hy))]⟩
    have := (this A h2).1
    omega
theorem OnceA.rem {A : List EA} {n : Nat} (h : OnceA A n) (t : Int) : OnceA (remL A t) n := by
  have hs : ∀ B : List EA, (whoA (remL B t)).Sublist (whoA B) := by
    intro B
    induction B with
    | nil => exact List.Sublist.refl _
    | cons x B ih =>
      have e1 : whoA (remL (x :: B) t) = x.2.1.erase t ++ whoA (remL B t) := by simp [whoA, remL, remF]
      have e2 : whoA (x :: B) = x.2.1 ++ whoA B := by simp [whoA]
      rw [e1, e2]
      exact List.Sublist.append (List.erase_sublist) ih
  refine ⟨?_, h.once.sublist (hs A), by unfold remL; rw [List.length_map]; exact h.many, Nat.le_trans (hs A).length_le h.who⟩
  unfold remL
  rw [map_ids (f := remF t) (fun x => rfl)]
  exact h.ids
theorem OnceA.add {A : List EA} {n : Nat} (h : OnceA A n) {id : Int} (hg : getA A id = none) : OnceA (A ++ [(id, [], false)]) (n + 1) := by
  have hw : whoA (A ++ [(id, [], false)]) = whoA A := by simp [whoA]
  refine ⟨?_, by rw [hw]; exact h.once, by simp; exact h.many, by rw [hw]; have := h.who; omega⟩
  rw [List.map_append]
  refine List.nodup_append.2 ⟨h.ids, by simp, fun a ha b hb e => ?_⟩
  simp at hb
  subst hb
  obtain ⟨x, hx, rfl⟩ := List.mem_map.1 ha
  unfold getA at hg
  rw [List.find?_eq_none] at hg
  exact hg x hx (by simpa using e)
theorem OnceA.drop {A : List EA} {n : Nat} (h : OnceA A n) (id : Int) : OnceA (dropL A id) n := by
  have hs : ∀ B : List EA, (whoA (dropL B id)).Sublist (whoA B) := by
    intro B
    induction B with
    | nil => exact List.Sublist.refl _
    | cons x B ih =>
      have e2 : whoA (x :: B) = x.2.1 ++ whoA B := by simp [whoA]
      unfold dropL at ih ⊢
      rw [List.filter_cons, e2]
      split
      · have e1 : whoA (x :: B.filter (fun x => decide (x.1 ≠ id))) = x.2.1 ++ whoA (B.filter (fun x => decide (x.1 ≠ id))) := by simp [whoA]
        rw [e1]
        exact List.Sublist.append (List.Sublist.refl _) ih
      · exact ih.trans (List.sublist_append_right _ _)
  exact ⟨h.ids.sublist (List.filter_sublist.map _), h.once.sublist (hs A), Nat.le_trans (List.length_filter_le _ _) h.many, Nat.le_trans (hs A).length_le h.who⟩
theorem erase_at : ∀ {l : List Int} {t : Int} {j : Nat}, IdxAt l t j → l.erase t = l.take j ++ l.drop (j + 1)
  | [], t, j, h => by have := h.1; simp at this
  | a :: l, t, 0, h => by
    have e := h.1
    simp at e
    subst e
    simp
  | a :: l, t, j + 1, h => by
    have hne : a ≠ t := h.2 0 a (by omega) rfl
    have ih : IdxAt l t j := ⟨by simpa using h.1, fun i z hi hz => h.2 (i + 1) z (by omega) (by simpa using hz)⟩
    rw [List.erase_cons_tail (by simpa using hne), erase_at ih]
    simp
end Go.Proofs.Ytmbjaemflmbljaa
