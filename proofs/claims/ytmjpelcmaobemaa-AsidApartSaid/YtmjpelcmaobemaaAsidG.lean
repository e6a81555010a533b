/- package asid: two pools do not touch one another. -/
import Derived.Test.YtmjpelcmaobemaaAsidF
import Derived.Test.YtmjpelcmaobemaaLowL
namespace Go.Proofs.Ytmjpelcmaobemaa
set_option linter.unusedVariables false
set_option linter.unusedSimpArgs false
open Go.ChangeShapes Go.WideShapes Go.ChangeAt Go.RowKit Go.Shelf

/-- One object with pools 1 and 2, another whose pool 2 was never used: the same in pool 1. -/
structure Apt (po1 : Nat → Int) (N1 : Nums) (po2 : Nat → Int) (N2 : Nums) : Prop where
  a0 : po1 0 = 1
  b0 : po2 0 = 1
  two : ∀ i, i < 8 → po1 i = 2 → i = 1
  same : ∀ n, n < 4 → N1 n = N2 n
  low : ∀ n, n < 4 → 0 ≤ (N1 n).1 ∧ (N1 n).1 ≤ 6
  hi1 : ∀ n, 4 ≤ n → n < 32 → (N1 n).1 = 0 ∨ 100 ≤ (N1 n).1
  hi2 : ∀ n, 4 ≤ n → n < 32 → (N2 n).1 = 0
  ok1 : NumsOk N1
  ok2 : NumsOk N2
theorem place_one {po : Nat → Int} (h : po 0 = 1) : placeF po 1 = (((0 : Nat) : Int), true) := place_yes (by decide) (by simp [placeP, h]) (fun j hj => absurd hj (by omega))
theorem place_of {po : Nat → Int} {obj : Int} {p : Nat} (h : placeF po obj = ((p : Int), true)) : p < 8 ∧ po p = obj := by
  unfold placeF at h
  split at h
  · rename_i q hq
    have h1 := List.mem_of_find?_eq_some hq
    have h2 := List.find?_some hq
    simp only [Prod.mk.injEq, and_true] at h
    obtain rfl : q = p := by omega
    unfold placeP at h2
    simp only [Bool.and_eq_true, beq_iff_eq] at h2
    exact ⟨by simpa using h1, h2.1⟩
  · simp at h
theorem place_two {po1 : Nat → Int} (h : ∀ i, i < 8 → po1 i = 2 → i = 1) : placeF po1 2 = (((1 : Nat) : Int), true) ∨ placeF po1 2 = (0, false) := by
  rcases place_in po1 2 with ⟨p, hp, e⟩ | e
  · obtain ⟨a, b⟩ := place_of e
    obtain rfl := h p a b
    exact .inl e
  · exact .inr e
theorem apt_frees {po1 po2 : Nat → Int} {N1 N2 : Nums} (h : Apt po1 N1 po2 N2) {k : Nat} (hk : 4 ≤ k) : Apt po1 (freeN N1 k) po2 N2 := by
  have e : ∀ n, n ≠ k → freeN N1 k n = N1 n := fun n hn => by unfold freeN; rw [if_neg hn]
  refine ⟨h.a0, h.b0, h.two, fun n hn => (e n (by omega)).trans (h.same n hn), fun n hn => by rw [e n (by omega)]; exact h.low n hn, fun n h4 hn => ?_, h.hi2, ok_free h.ok1 k, h.ok2⟩
  by_cases c : n = k
  · subst c; exact .inl (by unfold freeN; rw [if_pos rfl])
  · rw [e n c]; exact h.hi1 n h4 hn
theorem apt_take {po1 po2 : Nat → Int} {N1 N2 : Nums} (h : Apt po1 N1 po2 N2) {r : Int} (hr : 100 ≤ r) : Apt po1 (takeF N1 1 r).2 po2 N2 := by
  have hok := ok_take h.ok1 1 r
  unfold takeF at hok ⊢
  split
  · rename_i i hi
    dsimp only
    have e : ∀ n, n ≠ 1 * 4 + i → stepN N1 (1 * 4 + i) r n = N1 n := fun n hn => by unfold stepN; rw [if_neg hn]
    refine ⟨h.a0, h.b0, h.two, fun n hn => (e n (by omega)).trans (h.same n hn), fun n hn => by rw [e n (by omega)]; exact h.low n hn, fun n h4 hn => ?_, h.hi2, by simpa [hi] using hok, h.ok2⟩
    by_cases c : n = 1 * 4 + i
    · subst c; exact .inr (by unfold stepN; rw [if_pos rfl]; exact hr)
    · rw [e n c]; exact h.hi1 n h4 hn
  · exact h
theorem apt_assign {po1 po2 : Nat → Int} {N1 N2 : Nums} (h : Apt po1 N1 po2 N2) {r : Int} (hr : 100 ≤ r) : Apt po1 (assignF po1 N1 2 r).2 po2 N2 := by
  unfold assignF
  split
  · exact h
  · rename_i c
    split
    · exact h
    · rcases place_two h.two with e | e
      · rw [e]; exact apt_take h hr
      · rw [e] at c; simp at c
theorem apt_unassign {po1 po2 : Nat → Int} {N1 N2 : Nums} (h : Apt po1 N1 po2 N2) {r : Int} (hr : 100 ≤ r) : Apt po1 (unassignF N1 r).2 po2 N2 := by
  unfold unassignF
  split
  · rename_i c
    obtain ⟨k, hk, e, hroot, hz⟩ := of_in3 c
    rw [e]
    simp only [Int.toNat_natCast]
    refine apt_frees h ?_
    rcases Nat.lt_or_ge k 4 with g | g
    · have := h.low k g; omega
    · exact g
  · exact h
theorem apt_drop {po1 po2 : Nat → Int} {N1 N2 : Nums} (h : Apt po1 N1 po2 N2) : Apt (dropPo po1 2) (dropNL po1 N1 2).1 po2 N2 := by
  rcases place_two h.two with e | e
  · have e1 : dropPo po1 2 = fun i => if i = 1 then 0 else po1 i := by unfold dropPo; rw [e]; simp
    have e2 : dropNL po1 N1 2 = dfold 1 N1 (fst4 4) := by unfold dropNL; rw [e]; simp
    rw [e1, e2]
    suffices H : ∀ (pre : List (Fin 4)) (s : Nums × List Int), Apt po1 s.1 po2 N2 → Apt po1 (pre.foldl (dstep 1) s).1 po2 N2 by
      have h2 := H (fst4 4) (N1, []) h
      exact ⟨by simpa using h.a0, h.b0, fun i hi e => by
        by_cases c : i = 1
        · exact c
        · simp only [if_neg c] at e
          exact h.two i hi e, h2.same, h2.low, h2.hi1, h2.hi2, h2.ok1, h2.ok2⟩
    intro pre
    induction pre with
    | nil => exact fun s h => h
    | cons x pre ih =>
      intro s hs
      refine ih _ ?_
      unfold dstep
      split
      · exact hs
      · exact apt_frees hs (by omega)
  · have e1 : dropPo po1 2 = po1 := by unfold dropPo; rw [e]; simp
    have e2 : dropNL po1 N1 2 = (N1, []) := by unfold dropNL; rw [e]; simp
    rw [e1, e2]
    exact h
theorem find_congr {q q' : Nat → Bool} {n : Nat} (h : ∀ k, k < n → q k = q' k) : (List.range n).find? q = (List.range n).find? q' := by
  rw [← List.head?_filter, ← List.head?_filter]
  congr 1
  exact List.filter_congr fun x hx => h x (List.mem_range.1 hx)
theorem apt_of {po1 po2 : Nat → Int} {N1 N2 : Nums} (h : Apt po1 N1 po2 N2) {r : Int} (h1 : 1 ≤ r) (h6 : r ≤ 6) : ofR N1 r = ofR N2 r := by
  have hp : ∀ k, k < 32 → ofP N1 r k = ofP N2 r k := fun k hk => by
    unfold ofP
    rcases Nat.lt_or_ge k 4 with g | g
    · rw [h.same k g]
    · rw [h.hi2 k g hk]
      rcases h.hi1 k g hk with e | e
      · rw [e]
      · have : ((N1 k).1 == r) = false := beq_eq_false_iff_ne.2 (by omega)
        simp [this]
  unfold ofR
  rw [find_congr hp]
  split
  · rename_i k hk
    have hk32 : k < 32 := by simpa using List.mem_of_find?_eq_some hk
    have hq := List.find?_some hk
    rcases Nat.lt_or_ge k 4 with g | g
    · rw [h.same k g]
    · unfold ofP at hq
      rw [h.hi2 k g hk32] at hq
      simp at hq
  · rfl
theorem apt_mine {po1 po2 : Nat → Int} {N1 N2 : Nums} (h : Apt po1 N1 po2 N2) {r : Int} (h1 : 1 ≤ r) (h6 : r ≤ 6) :
    (assignF po2 N2 1 r).1 = (assignF po1 N1 1 r).1 ∧ Apt po1 (assignF po1 N1 1 r).2 po2 (assignF po2 N2 1 r).2 := by
  have a1 : assignF po1 N1 1 r = if (ofR N2 r).2.2 = true then ((0, 0, 13), N1) else takeF N1 0 r := by
    unfold assignF
    rw [place_one h.a0, apt_of h h1 h6, if_neg (by simp; omega)]
    simp
  have a2 : assignF po2 N2 1 r = if (ofR N2 r).2.2 = true then ((0, 0, 13), N2) else takeF N2 0 r := by
    unfold assignF
    rw [place_one h.b0, if_neg (by simp; omega)]
    simp
  rw [a1, a2]
  split
  · exact ⟨rfl, h⟩
  · clear a1 a2
    have o1 := ok_take h.ok1 0 r
    have o2 := ok_take h.ok2 0 r
    have hf : (List.range 4).find? (fun i => condA N1 (0 * 4 + i)) = (List.range 4).find? (fun i => condA N2 (0 * 4 + i)) := find_congr fun k hk => by
      unfold condA
      rw [h.same _ (by omega)]
    unfold takeF at o1 o2 ⊢
    rw [hf] at o1 ⊢
    split
    · rename_i i hi
      simp only [hi] at o1 o2
      dsimp only
      have hi4 : i < 4 := by simpa using List.mem_of_find?_eq_some hi
      have e1 : ∀ n, n ≠ 0 * 4 + i → stepN N1 (0 * 4 + i) r n = N1 n := fun n hn => by unfold stepN; rw [if_neg hn]
      have e2 : ∀ n, n ≠ 0 * 4 + i → stepN N2 (0 * 4 + i) r n = N2 n := fun n hn => by unfold stepN; rw [if_neg hn]
      have es := h.same (0 * 4 + i) (by omega)
      refine ⟨by rw [es], h.a0, h.b0, h.two, fun n hn => ?_, fun n hn => ?_, fun n h4 hn => ?_, fun n h4 hn => ?_, o1, o2⟩
      · by_cases c : n = 0 * 4 + i
        · subst c; unfold stepN; rw [if_pos rfl, if_pos rfl, es]
        · rw [e1 n c, e2 n c]; exact h.same n hn
      · by_cases c : n = 0 * 4 + i
        · subst c; unfold stepN; rw [if_pos rfl]; simp only; omega
        · rw [e1 n c]; exact h.low n hn
      · rw [e1 n (by omega)]; exact h.hi1 n h4 hn
      · rw [e2 n (by omega)]; exact h.hi2 n h4 hn
    · exact ⟨rfl, h⟩
theorem apt_mineU {po1 po2 : Nat → Int} {N1 N2 : Nums} (h : Apt po1 N1 po2 N2) {r : Int} (h1 : 1 ≤ r) (h6 : r ≤ 6) :
    (unassignF N2 r).1 = (unassignF N1 r).1 ∧ Apt po1 (unassignF N1 r).2 po2 (unassignF N2 r).2 := by
  unfold unassignF
  rw [apt_of h h1 h6]
  split
  · rename_i c
    obtain ⟨k, hk, e, hroot, hz⟩ := of_in3 c
    rw [e]
    simp only [Int.toNat_natCast, true_and]
    have hk4 : k < 4 := by
      rcases Nat.lt_or_ge k 4 with g | g
      · exact g
      · have := h.hi2 k g hk; omega
    have e1 : ∀ n, n ≠ k → freeN N1 k n = N1 n := fun n hn => by unfold freeN; rw [if_neg hn]
    have e2 : ∀ n, n ≠ k → freeN N2 k n = N2 n := fun n hn => by unfold freeN; rw [if_neg hn]
    refine ⟨h.a0, h.b0, h.two, fun n hn => ?_, fun n hn => ?_, fun n h4 hn => ?_, fun n h4 hn => ?_, ok_free h.ok1 k, ok_free h.ok2 k⟩
    · by_cases c : n = k
      · subst c; unfold freeN; rw [if_pos rfl, if_pos rfl, h.same n hk4]
      · rw [e1 n c, e2 n c]; exact h.same n hn
    · by_cases c : n = k
      · subst c; unfold freeN; rw [if_pos rfl]; simp
      · rw [e1 n c]; exact h.low n hn
    · rw [e1 n (by omega)]; exact h.hi1 n h4 hn
    · rw [e2 n (by omega)]; exact h.hi2 n h4 hn
  · exact ⟨rfl, h⟩
theorem add_one (po : Nat → Int) (hpo : po = po0) : (addF po 0 1) = ((0, 0), (fun i => if i = 0 then 1 else 0), 1) := by
  subst hpo
  unfold addF
  rw [if_neg (by decide), place_no (fun j _ => by unfold placeP; simp [po0])]
  simp
theorem add_two : (addF (fun i => if i = 0 then 1 else 0) 1 2) = ((1, 0), (fun i => if i = 1 then 2 else if i = 0 then 1 else 0), 2) := by
  unfold addF
  rw [if_neg (by decide), place_no (fun j _ => by unfold placeP; by_cases c : j = 0 <;> simp [c])]
  simp
theorem apt_0 : Apt (fun i => if i = 1 then 2 else if i = 0 then 1 else 0) N0 (fun i => if i = 1 then 2 else if i = 0 then 1 else 0) N0 :=
  ⟨rfl, rfl, fun i hi e => by
    by_cases c : i = 1
    · exact c
    · simp only [if_neg c] at e
      split at e <;> omega, fun _ _ => rfl, fun _ _ => by simp, fun _ _ _ => .inl rfl, fun _ _ _ => rfl, ok_N0, ok_N0⟩
end Go.Proofs.Ytmjpelcmaobemaa
