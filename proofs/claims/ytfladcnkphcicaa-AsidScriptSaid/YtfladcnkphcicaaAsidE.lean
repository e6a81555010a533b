/- package asid: what serials keep. -/
import Derived.Test.YtfladcnkphcicaaAsidD
namespace Go.Proofs.Ytfladcnkphcicaa
set_option linter.unusedVariables false
set_option linter.unusedSimpArgs false
open Go.ChangeShapes Go.WideShapes Go.ChangeAt Go.RowKit Go.Shelf

/-- Whatever a number has or has given, it had given before its times. -/
structure SerInv (N : Nums) (gv : List Int) : Prop where
  own : ∀ n, n < 32 → (N n).1 ≠ 0 → ∃ t : Int, 0 ≤ t ∧ t < (N n).2.2 ∧ (N n).2.1 = n + 32 * t
  giv : ∀ s ∈ gv, ∃ n : Nat, n < 32 ∧ ∃ t : Int, 0 ≤ t ∧ t < (N n).2.2 ∧ s = n + 32 * t
theorem ser_0 : SerInv N0 [] := ⟨fun n _ h => absurd rfl h, fun s hs => by cases hs⟩
theorem ser_free {N : Nums} {gv : List Int} (h : SerInv N gv) (k : Nat) : SerInv (freeN N k) gv := by
  refine ⟨fun n hn h0 => ?_, fun s hs => ?_⟩
  · unfold freeN at h0 ⊢
    by_cases e : n = k
    · rw [if_pos e] at h0; exact absurd rfl h0
    · rw [if_neg e] at h0 ⊢; exact h.own n hn h0
  · obtain ⟨n, hn, t, t0, t1, e⟩ := h.giv s hs
    refine ⟨n, hn, t, t0, ?_, e⟩
    unfold freeN
    by_cases e : n = k
    · rw [if_pos e]; subst e; exact t1
    · rw [if_neg e]; exact t1
theorem ser_fold {N : Nums} {gv : List Int} (h : SerInv N gv) (hN : NumsOk N) (pl : Nat) (pre : List (Fin 4)) : SerInv (dfold pl N pre).1 gv ∧ NumsOk (dfold pl N pre).1 := by
  suffices H : ∀ s : Nums × List Int, SerInv s.1 gv ∧ NumsOk s.1 → SerInv (pre.foldl (dstep pl) s).1 gv ∧ NumsOk (pre.foldl (dstep pl) s).1 from H (N, []) ⟨h, hN⟩
  induction pre with
  | nil => exact fun s h => h
  | cons x pre ih =>
    intro s hs
    refine ih _ ?_
    unfold dstep
    split
    · exact hs
    · exact ⟨ser_free hs.1 _, ok_free hs.2 _⟩
theorem ser_unassign {N : Nums} {gv : List Int} (h : SerInv N gv) (r : Int) : SerInv (unassignF N r).2 gv := by
  unfold unassignF
  split
  · exact ser_free h _
  · exact h
theorem ser_take {N : Nums} {gv : List Int} (h : SerInv N gv) (hN : NumsOk N) {k : Nat} (hk : k < 32) {root : Int} (hr : 1 ≤ root) (hc : condA N k = true) :
    1 ≤ k ∧ rootR (stepN N k root) (k + 32 * (N k).2.2) = (root, (k : Int), true) ∧ SerInv (stepN N k root) (gv ++ [(k : Int) + 32 * (N k).2.2]) ∧ ((k : Int) + 32 * (N k).2.2) ∉ gv := by
  obtain ⟨t0, t1⟩ := hN k hk
  have hk1 : 1 ≤ k := by
    unfold condA at hc
    simp only [Bool.and_eq_true, bne_iff_ne] at hc
    have := hc.1.1
    omega
  have hs : stepN N k root k = (root, (k : Int) + 32 * (N k).2.2, (N k).2.2 + 1) := by unfold stepN; rw [if_pos rfl]
  have hs2 : ∀ n, n ≠ k → stepN N k root n = N n := fun n e => by unfold stepN; rw [if_neg e]
  refine ⟨hk1, ?_, ⟨fun n hn h0 => ?_, fun s hs' => ?_⟩, fun hm => ?_⟩
  · rw [root_yes hk (by unfold rootP; rw [hs]; simp; omega) (fun j hj => ?_), hs]
    unfold rootP
    rw [hs2 j (by omega)]
    by_cases z : (N j).1 = 0
    · simp [z]
    · obtain ⟨t, a, b, c⟩ := h.own j (by omega) z
      rw [c]
      simp; intro _; omega
  · by_cases e : n = k
    · subst e
      rw [hs]
      exact ⟨(N n).2.2, t0, by simp only; omega, rfl⟩
    · rw [hs2 n e] at h0 ⊢
      exact h.own n hn h0
  · rcases List.mem_append.1 hs' with g | g
    · obtain ⟨n, hn, t, a, b, c⟩ := h.giv s g
      refine ⟨n, hn, t, a, ?_, c⟩
      by_cases e : n = k
      · subst e; rw [hs]; simp only; omega
      · rw [hs2 n e]; exact b
    · rw [List.mem_singleton] at g
      exact ⟨k, hk, (N k).2.2, t0, by rw [hs]; simp only; omega, g⟩
  · obtain ⟨n, hn, t, a, b, c⟩ := h.giv _ hm
    by_cases e : n = k
    · subst e; omega
    · omega
theorem ser_assign {N : Nums} {gv : List Int} (h : SerInv N gv) (hN : NumsOk N) (po : Nat → Int) (pool root : Int) :
    (∃ c : Int, (c == 0) = false ∧ assignF po N pool root = ((0, 0, c), N)) ∨
    ∃ (k : Nat) (s : Int) (M : Nums), k < 32 ∧ 1 ≤ k ∧ s = k + 32 * (N k).2.2 ∧ s % 32 = k ∧ 0 ≤ s ∧ assignF po N pool root = (((k : Int), s, 0), M) ∧ rootR M s = (root, (k : Int), true) ∧ SerInv M (gv ++ [s]) ∧ NumsOk M ∧ s ∉ gv := by
  unfold assignF
  split
  · exact .inl ⟨2, rfl, rfl⟩
  · rename_i h1
    split
    · exact .inl ⟨13, rfl, rfl⟩
    · have hr : 1 ≤ root := by omega
      rcases place_in po pool with ⟨pl, hpl, hp⟩ | hp
      · rw [hp]
        simp only [Int.toNat_natCast]
        unfold takeF
        split
        · rename_i i hi
          have hc := List.find?_some hi
          have hi4 : i < 4 := by simpa using List.mem_of_find?_eq_some hi
          have hk : pl * 4 + i < 32 := by omega
          obtain ⟨a, b, c, d⟩ := ser_take h hN hk hr hc
          obtain ⟨t0, t1⟩ := hN _ hk
          refine .inr ⟨pl * 4 + i, _, _, hk, a, rfl, by omega, by omega, ?_, b, c, ok_step hN hc, d⟩
          simp
        · exact .inl ⟨11, rfl, rfl⟩
      · rw [hp] at h1
        simp at h1
end Go.Proofs.Ytfladcnkphcicaa
