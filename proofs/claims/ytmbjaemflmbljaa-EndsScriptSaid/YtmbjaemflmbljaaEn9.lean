/- package ends: each call over what the object holds. -/
import Derived.Test.YtmbjaemflmbljaaEn8
namespace Go.Proofs.Ytmbjaemflmbljaa
set_option linter.unusedVariables false
set_option linter.unusedSimpArgs false
open Go.ChangeShapes Go.WideShapes Go.ChangeAt Go.RowKit Go.Shelf
open TabE

structure AbsE (L : List En) (A : List EA) (n : Nat) : Prop where
  perm : (L.map absE).Perm A
  once : OnceA A n
theorem AbsE.here {L : List En} {A : List EA} {n : Nat} (h : AbsE L A n) : OnceA (L.map absE) n := h.once.perm h.perm.symm
theorem AbsE.len {L : List En} {A : List EA} {n : Nat} (h : AbsE L A n) : L.length ≤ n := by
  have := h.here.many
  rwa [List.length_map] at this
theorem AbsE.each {L : List En} {A : List EA} {n : Nat} (h : AbsE L A n) : ∀ x ∈ L, x.l.length ≤ n := by
  intro x hx
  refine Nat.le_trans ?_ h.here.who
  have hm : absE x ∈ L.map absE := List.mem_map.2 ⟨x, hx, rfl⟩
  generalize L.map absE = M at hm
  clear h hx
  show (absE x).2.1.length ≤ _
  generalize absE x = y at hm
  induction M with
  | nil => cases hm
  | cons z M ih =>
    have e : (whoA (z :: M)).length = z.2.1.length + (whoA M).length := by simp [whoA]
    rcases List.mem_cons.1 hm with rfl | hm
    · omega
    · have := ih hm; omega
theorem abs_get {w : World} {b base : Nat} {tv : Value} {L : List En} {A : List EA} {n : Nat} (h : EndsAt w b base tv L) (hA : AbsE L A n) (id : Int) :
    (getN L id = none ∧ hasN L id = false ∧ getA A id = none) ∨ ∃ x, getN L id = some x ∧ hasN L id = true ∧ L[posN L id]? = some x ∧ x.id = id ∧ getA A id = some (absE x) := by
  rw [← getA_perm hA.here hA.perm id]
  rcases getN_has h.tab.asc id with ⟨h1, h2⟩ | ⟨x, h1, h2, h3, h4⟩
  · refine .inl ⟨h1, h2, getA_none (fun y hy e => ?_)⟩
    obtain ⟨z, hz, rfl⟩ := List.mem_map.1 hy
    have : hasR (rowsN L) id = true := by
      unfold hasR
      rw [List.any_eq_true]
      exact ⟨rowN z, List.mem_map.2 ⟨z, hz, rfl⟩, decide_eq_true e⟩
    rw [show hasR (rowsN L) id = false from h2] at this
    cases this
  · refine .inr ⟨x, h1, h2, h3, h4, ?_⟩
    have := getA_some hA.here.ids (List.mem_map.2 ⟨x, List.mem_of_getElem? h3, rfl⟩)
    rw [← h4]
    exact this
theorem abs_list {w : World} {b base : Nat} {tv : Value} {L : List En} {A : List EA} {n : Nat} (h : EndsAt w b base tv L) (hA : AbsE L A n) (id : Int) : listN L id = listA A id := by
  unfold listN listA
  rcases abs_get h hA id with ⟨h1, _, h3⟩ | ⟨x, h1, _, _, _, h3⟩
  · rw [h1, h3]
  · rw [h1, h3]
    rfl
theorem abs_first {w : World} {b base : Nat} {tv : Value} {L : List En} {A : List EA} {n : Nat} (h : EndsAt w b base tv L) (hA : AbsE L A n) (id : Int) : firstN L id = firstA A id := by
  unfold firstN firstA
  rw [abs_list h hA id]
  cases (listA A id).1 <;> rfl
theorem abs_who {L : List En} {A : List EA} {n : Nat} (hA : AbsE L A n) (t : Int) : t ∈ whoA A ↔ ∃ x ∈ L, t ∈ x.l := by
  rw [← (whoA_perm hA.perm).mem_iff, whoA_mem]
  constructor
  · rintro ⟨y, hy, ht⟩
    obtain ⟨x, hx, rfl⟩ := List.mem_map.1 hy
    exact ⟨x, hx, ht⟩
  · rintro ⟨x, hx, ht⟩
    exact ⟨absE x, List.mem_map.2 ⟨x, hx, rfl⟩, ht⟩
theorem find_ex : ∀ {L : List En} {t : Int}, (∃ x ∈ L, t ∈ x.l) → ∃ i x j, FindAt L t i x j
  | [], t, ⟨x, hx, _⟩ => by cases hx
  | y :: L, t, ⟨x, hx, ht⟩ => by
    by_cases hy : t ∈ y.l
    · obtain ⟨j, hj⟩ := idx_ex hy
      exact ⟨0, y, j, rfl, hj, fun k z hk => by omega⟩
    · have hx' : x ∈ L := by
        rcases List.mem_cons.1 hx with rfl | q
        · exact absurd ht hy
        · exact q
      obtain ⟨i, z, j, h1, h2, h3⟩ := find_ex ⟨x, hx', ht⟩
      refine ⟨i + 1, z, j, by simpa using h1, h2, fun k u hk hu => ?_⟩
      cases k with
      | zero => simp at hu; subst hu; exact hy
      | succ k => exact h3 k u (by omega) (by simpa using hu)
theorem AbsE.of {w : World} {b base n : Nat} (w0 : EndsAt w b base (.slice none 0 0) []) : AbsE [] [] n := ⟨.refl _, ⟨by simp, by simp [whoA], by simp, by simp [whoA]⟩⟩
section acts
variable (w : World) (b base : Nat) (tv : Value) (L : List En) (A : List EA) (n : Nat)
theorem list_A (id : Int) (h : EndsAt w b base tv L) (hA : AbsE L A n) (hn : n < 1000000) :
    Calls Try.prog 22 #[.pointer (some ⟨b, 0, none⟩), .int .i64 id] w fun e w' => ∃ r, e = .returned (.tuple #[r, .bool (listA A id).2]) ∧ w'.ownsRow w.heap.size 3 1 r (listA A id).1.length ((listA A id).1.map (Value.int .i64)) ∧ Below w.heap.size w w' := by
  have := elist_any w b base tv L id h (fun x hx => by have := hA.each x hx; omega)
  rw [abs_list h hA id] at this
  exact this
theorem first_A (id : Int) (h : EndsAt w b base tv L) (hA : AbsE L A n) (hn : n < 1000000) :
    Calls Try.prog 20 #[.pointer (some ⟨b, 0, none⟩), .int .i64 id] w fun e w' => e = .returned (.tuple #[.int .i64 (firstA A id).1, .bool (firstA A id).2.1, .bool (firstA A id).2.2]) ∧ Below w.heap.size w w' := by
  have := efirst_any w b base tv L id h (fun x hx => by have := hA.each x hx; omega)
  rw [abs_first h hA id] at this
  exact this
theorem wait_A (id t : Int) (s : Bool) (h : EndsAt w b base tv L) (hA : AbsE L A n) (hn : n < 1000000) :
    Calls Try.prog 16 #[.pointer (some ⟨b, 0, none⟩), .int .i64 id, .int .i64 t, .bool s] w fun e w' => e = .returned (.int .i64 (waitR A id t s)) ∧ ∃ L', EndsAt w' b base tv L' ∧ AbsE L' (waitL A id t s) (n + 1) ∧ EOnly w w' b tv tv L L' := by
  have hl : L.length < 1000000 := by have := hA.len; omega
  have hm : ∀ x ∈ L, x.l.length < 1000000 := fun x hx => by have := hA.each x hx; omega
  have hm2 : ∀ x ∈ L, x.l.length ≤ 1000000 := fun x hx => by have := hm x hx; omega
  have stay : ∀ {e : Ending} {r : Int}, waitR A id t s = r → r ≠ 0 → (fun e w' => e = .returned (.int .i64 r) ∧ Below w.heap.size w w') e = (fun w' => e = .returned (.int .i64 r) ∧ Below w.heap.size w w') → ∀ w', (e = .returned (.int .i64 r) ∧ Below w.heap.size w w') → e = .returned (.int .i64 (waitR A id t s)) ∧ ∃ L', EndsAt w' b base tv L' ∧ AbsE L' (waitL A id t s) (n + 1) ∧ EOnly w w' b tv tv L L' := by
    intro e r hr h0 _ w' ⟨he, hb⟩
    refine ⟨by rw [hr]; exact he, L, h.call hb, ?_, .of_below hb⟩
    unfold waitL
    rw [if_neg (by rw [hr]; exact h0)]
    exact ⟨hA.perm, hA.once.le (by omega)⟩
  rcases abs_get h hA id with ⟨h1, h2, h3⟩ | ⟨x, h1, h2, hx, hid, h3⟩
  · exact (wait_arg w b base tv L id t s h (.inl h2)).mono fun e w' q => stay (r := 2) (by unfold waitR; rw [h3]) (by decide) rfl w' q
  by_cases ht : t < 1
  · exact (wait_arg w b base tv L id t s h (.inr ht)).mono fun e w' q => stay (r := 2) (by unfold waitR; rw [h3]; simp only [if_pos ht]) (by decide) rfl w' q
  by_cases hw : t ∈ whoA A
  · obtain ⟨i, y, j, hf⟩ := find_ex ((abs_who hA t).1 hw)
    exact (wait_held w b base tv L id t s i j y h hl hm2 h2 ht hf).mono fun e w' q => stay (r := 16) (by unfold waitR; rw [h3]; simp only [if_neg ht, if_pos hw]) (by decide) rfl w' q
  have hno : ∀ x ∈ L, t ∉ x.l := fun x hx q => hw ((abs_who hA t).2 ⟨x, hx, q⟩)
  by_cases hs : x.l = [] ∨ x.s = s
  · have hr : waitR A id t s = 0 := by unfold waitR; rw [h3]; simp only [if_neg ht, if_neg hw]; exact if_pos hs
    refine (wait_in w b base tv L id t s (posN L id) x h hl hm hx hid ht hno hs).mono ?_
    rintro e w' ⟨he, v', hE, hO⟩
    refine ⟨by rw [hr]; exact he, _, hE, ?_, hO⟩
    unfold waitL
    rw [if_pos hr]
    refine ⟨?_, hA.once.wait id t s hw⟩
    rw [List.map_set]
    have hM : (L.map absE)[posN L id]? = some (absE x) := by rw [List.getElem?_map, hx]; rfl
    have hF : absE { id := x.id, l := x.l ++ [t], s := s, v := v' } = waitF id t s (absE x) := by
      unfold waitF
      rw [if_pos (show (absE x).1 = id from hid)]
      rfl
    rw [hF, set_map hM (fun i z hi hz => ?_)]
    · exact hA.perm.map _
    · have := ids_apart hA.here.ids hz hM hi
      unfold waitF
      rw [if_neg (fun e => this (e.trans hid.symm))]
  · have h0 : x.l ≠ [] := fun e => hs (.inl e)
    have h4 : x.s ≠ s := fun e => hs (.inr e)
    exact (wait_busy w b base tv L id t s x h hl hm2 h1 ht hno h0 h4).mono fun e w' q => stay (r := 16) (by unfold waitR; rw [h3]; simp only [if_neg ht, if_neg hw]; exact if_neg hs) (by decide) rfl w' q
theorem remove_A (t : Int) (h : EndsAt w b base tv L) (hA : AbsE L A n) (hn : n < 1000000) :
    Calls Try.prog 18 #[.pointer (some ⟨b, 0, none⟩), .int .i64 t] w fun e w' => e = .returned (.bool (decide (t ∈ whoA A))) ∧ ∃ L', EndsAt w' b base tv L' ∧ AbsE L' (remL A t) n ∧ EOnly w w' b tv tv L L' := by
  have hl : L.length < 1000000 := by have := hA.len; omega
  have hm2 : ∀ x ∈ L, x.l.length ≤ 1000000 := fun x hx => by have := hA.each x hx; omega
  by_cases hw : t ∈ whoA A
  · obtain ⟨i, y, j, hf⟩ := find_ex ((abs_who hA t).1 hw)
    refine (remove_yes w b base tv L t i j y h hl hm2 hf).mono ?_
    rintro e w' ⟨he, v', hE, hO⟩
    refine ⟨by rw [decide_eq_true hw]; exact he, _, hE, ⟨?_, hA.once.rem t⟩, hO⟩
    rw [List.map_set]
    have hM : (L.map absE)[i]? = some (absE y) := by rw [List.getElem?_map, hf.1]; rfl
    have hF : absE { y with l := y.l.take j ++ y.l.drop (j + 1), v := v' } = remF t (absE y) := by
      unfold remF
      show (y.id, y.l.take j ++ y.l.drop (j + 1), y.s) = (y.id, y.l.erase t, y.s)
      rw [erase_at hf.2.1]
    rw [hF, set_map hM (fun k z hk hz => ?_)]
    · exact hA.perm.map _
    · have hzt : t ∉ z.2.1 := fun q => whoA_apart hA.here.once hz hM hk q (idx_mem hf.2.1)
      unfold remF
      rw [List.erase_of_not_mem hzt]
  · have hno : ∀ x ∈ L, t ∉ x.l := fun x hx q => hw ((abs_who hA t).2 ⟨x, hx, q⟩)
    refine (remove_no w b base tv L t h hl hm2 hno).mono ?_
    rintro e w' ⟨he, hb⟩
    refine ⟨by rw [decide_eq_false hw]; exact he, L, h.call hb, ⟨?_, hA.once.rem t⟩, .of_below hb⟩
    have : remL A t = A := by
      unfold remL
      conv => rhs; rw [← List.map_id A]
      refine List.map_congr_left (fun x hx => ?_)
      unfold remF
      rw [List.erase_of_not_mem (fun q => hw (whoA_mem.2 ⟨x, hx, q⟩))]
      rfl
    rw [this]
    exact hA.perm
theorem drop_del {L : List En} {id : Int} (hA : Asc (rowsN L)) (hh : hasN L id = true) : delN L id = L.filter (fun x => decide (x.id ≠ id)) := by
  rcases getN_has hA id with ⟨_, q⟩ | ⟨x, _, _, hx, hid⟩
  · rw [hh] at q; cases q
  obtain ⟨hp, e⟩ := List.getElem?_eq_some_iff.1 hx
  have hs : L = L.take (posN L id) ++ x :: L.drop (posN L id + 1) := by
    rw [← e, ← List.drop_eq_getElem_cons hp, List.take_append_drop]
  have hne : ∀ (i : Nat) (y : En), i ≠ posN L id → L[i]? = some y → y.id ≠ id := by
    intro i y hi hy e2
    rcases Nat.lt_or_ge i (posN L id) with q | q
    · have := hA.at q (x := rowN y) (y := rowN x) (by rw [rowsN_get, hy]; rfl) (by rw [rowsN_get, hx]; rfl)
      change y.id < x.id at this
      omega
    · have := hA.at (show posN L id < i by omega) (x := rowN x) (y := rowN y) (by rw [rowsN_get, hx]; rfl) (by rw [rowsN_get, hy]; rfl)
      change x.id < y.id at this
      omega
  have h1 : ∀ y ∈ L.take (posN L id), y.id ≠ id := by
    intro y hy
    obtain ⟨i, hi⟩ := List.getElem?_of_mem hy
    rw [List.getElem?_take] at hi
    split at hi
    · exact hne i y (by omega) hi
    · cases hi
  have h2 : ∀ y ∈ L.drop (posN L id + 1), y.id ≠ id := by
    intro y hy
    obtain ⟨i, hi⟩ := List.getElem?_of_mem hy
    rw [List.getElem?_drop] at hi
    exact hne _ y (by omega) hi
  unfold delN
  generalize posN L id = p at *
  conv => rhs; rw [hs]
  rw [List.filter_append, List.filter_cons]
  rw [if_neg (by simp [hid])]
  rw [List.filter_eq_self.2 (fun y hy => by simpa using h1 y hy), List.filter_eq_self.2 (fun y hy => by simpa using h2 y hy)]
theorem drop_A (id : Int) (h : EndsAt w b base tv L) (hA : AbsE L A n) (hn : n < 1000000) :
    Calls Try.prog 12 #[.pointer (some ⟨b, 0, none⟩), .int .i64 id] w fun e w' => ∃ r tv' L', e = .returned (.tuple #[r, .int .i64 (dropR A id)]) ∧ w'.ownsRow w.heap.size 3 1 r (listA A id).1.length ((listA A id).1.map (Value.int .i64)) ∧ EndsAt w' b base tv' L' ∧ AbsE L' (dropL A id) n ∧ EOnly w w' b tv tv' L L' ∧ ∀ k, r.ownBlock = some k → tv'.ownBlock ≠ some k ∧ ∀ x ∈ L', x.v.ownBlock ≠ some k := by
  refine (edrop_any w b base tv L id h (fun x hx => by have := hA.each x hx; omega)).mono ?_
  rintro e w' ⟨r, tv', he, hr, hE, hO, hsep⟩
  rw [abs_list h hA id] at hr
  have hR : (if hasN L id then (0 : Int) else 2) = dropR A id := by
    unfold dropR
    rcases abs_get h hA id with ⟨_, h2, h3⟩ | ⟨x, _, h2, _, _, h3⟩
    · rw [h2, h3]; rfl
    · rw [h2, h3]; rfl
  rw [hR] at he
  refine ⟨r, tv', _, he, hr, hE, ⟨?_, hA.once.drop id⟩, hO, hsep⟩
  have hf : ∀ M : List En, (M.filter (fun x => decide (x.id ≠ id))).map absE = (M.map absE).filter (fun x => decide (x.1 ≠ id)) := by
    intro M
    rw [List.filter_map]
    rfl
  split
  · rename_i hh
    rw [drop_del h.tab.asc hh, hf]
    exact hA.perm.filter _
  · rename_i hh
    have hh : hasN L id = false := by simpa using hh
    have : L.filter (fun x => decide (x.id ≠ id)) = L := by
      refine List.filter_eq_self.2 (fun y hy => ?_)
      simp only [decide_eq_true_eq]
      intro e2
      have : hasR (rowsN L) id = true := by
        unfold hasR
        rw [List.any_eq_true]
        exact ⟨rowN y, List.mem_map.2 ⟨y, hy, rfl⟩, decide_eq_true e2⟩
      rw [show hasR (rowsN L) id = false from hh] at this
      cases this
    rw [← this, hf]
    exact hA.perm.filter _
theorem add_A (id : Int) (h : EndsAt w b base tv L) (hA : AbsE L A n) (hn : n < 1000000) :
    Calls Try.prog 10 #[.pointer (some ⟨b, 0, none⟩), .int .i64 id] w fun e w' => e = .returned (.int .i64 (addR A id)) ∧ ∃ tv' L', EndsAt w' b base tv' L' ∧ AbsE L' (addL A id) (n + 1) ∧ EOnly w w' b tv tv' L L' := by
  refine (eadd_any w b base tv L id h (by have := hA.len; omega)).mono ?_
  rintro e w' ⟨he, tv', hE, hO⟩
  have hR : addNR L id = addR A id := by
    unfold addNR addR
    rcases abs_get h hA id with ⟨_, h2, h3⟩ | ⟨x, _, h2, _, _, h3⟩
    · rw [h2, h3]; rfl
    · rw [h2, h3]; rfl
  rw [hR] at he
  refine ⟨he, tv', _, hE, ?_, hO⟩
  unfold addNL
  by_cases h1 : id < 1
  · rw [if_pos h1]
    have : addL A id = A := by unfold addL addR; rw [if_pos h1]; rfl
    rw [this]
    exact ⟨hA.perm, hA.once.le (by omega)⟩
  rw [if_neg h1]
  rcases abs_get h hA id with ⟨_, h2, h3⟩ | ⟨x, _, h2, _, _, h3⟩
  · have : addL A id = A ++ [(id, [], false)] := by unfold addL addR; rw [if_neg h1, h3]; rfl
    rw [this, h2]
    refine ⟨?_, hA.once.add h3⟩
    simp only [Bool.false_eq_true, if_false]
    have hp : (insN L (newN id)).Perm (newN id :: L) := by
      unfold insN
      refine List.perm_middle.trans ?_
      rw [List.take_append_drop]
    refine (hp.map absE).trans ?_
    refine List.Perm.trans ?_ (List.perm_append_comm (l₁ := [(id, [], false)]))
    exact List.Perm.cons _ hA.perm
  · have : addL A id = A := by unfold addL addR; rw [if_neg h1, h3]; rfl
    rw [this, h2]
    exact ⟨hA.perm, hA.once.le (by omega)⟩
end acts
end Go.Proofs.Ytmbjaemflmbljaa
