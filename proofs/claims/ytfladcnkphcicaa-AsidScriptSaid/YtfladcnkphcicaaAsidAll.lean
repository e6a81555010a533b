/- The law AsidAll. -/
import Derived.Test.YtfladcnkphcicaaAsidNone
import Derived.Test.YtfladcnkphcicaaActs
import Derived.Test.YtfladcnkphcicaaLowL
namespace Go.Proofs.Ytfladcnkphcicaa
set_option linter.unusedVariables false
set_option linter.unusedSimpArgs false
open Go.ChangeShapes Go.WideShapes Go.ChangeAt Go.RowKit Go.Shelf

/-- The first k places have the pools 1 to k. -/
def poA (k : Nat) : Nat → Int := fun i => if i < k then 1 + i else 0
theorem poA_0 : poA 0 = po0 := by funext i; simp [poA]
theorem addA {k : Nat} (hk : k < 8) : addF (poA k) k (1 + k) = (((k : Int), 0), poA (k + 1), (k : Int) + 1) := by
  have hp : placeF (poA k) (1 + k) = (0, false) := place_no fun j hj => by
    unfold placeP poA
    split
    · simp; intro _; omega
    · simp; omega
  unfold addF
  rw [if_neg (by omega), hp, if_neg (by simp), if_neg (by omega)]
  have e : (fun i => if i = (k : Int).toNat then (1 + (k : Int)) else poA k i) = poA (k + 1) := by
    funext i
    unfold poA
    by_cases h : i = k
    · subst h; simp
    · have h2 : i ≠ (k : Int).toNat := by omega
      rw [if_neg h2]
      by_cases h3 : i < k
      · rw [if_pos h3, if_pos (by omega)]
      · rw [if_neg h3, if_neg (by omega)]
  rw [e]
theorem placeA {p : Nat} (hp : p < 8) : placeF (poA 8) (1 + p) = ((p : Int), true) := by
  refine place_yes hp ?_ fun j hj => ?_
  · unfold placeP poA
    rw [if_pos hp]
    simp; omega
  · unfold placeP poA
    rw [if_pos (by omega)]
    simp; intro _; omega
/-- What k roots have left. -/
structure AllInv (G : Nat → Nat) (N : Nums) (k : Nat) : Prop where
  le : ∀ p, p < 8 → G p ≤ 4
  one : 1 ≤ G 0
  yes : ∀ p j, p < 8 → j < 4 → p * 4 + j ≠ 0 → j < G p → ∃ i, i < k ∧ N (p * 4 + j) = (100 + (i : Int), ((p * 4 + j : Nat) : Int), 1)
  no : ∀ p j, p < 8 → j < 4 → (p * 4 + j = 0 ∨ G p ≤ j) → N (p * 4 + j) = (0, 0, 0)
theorem all_0 : AllInv (fun j => if j = 0 then 1 else 0) N0 0 := by
  refine ⟨fun p _ => by split <;> omega, by simp, fun p j _ _ h1 h2 => ?_, fun _ _ _ _ _ => rfl⟩
  (try simp only at h2)
  split at h2 <;> omega
theorem all_num {G : Nat → Nat} {N : Nums} {k n : Nat} (h : AllInv G N k) (hn : n < 32) : N n = (0, 0, 0) ∨ ∃ i, i < k ∧ N n = (100 + (i : Int), (n : Int), 1) := by
  have e : n = n / 4 * 4 + n % 4 := by omega
  rw [e]
  by_cases c : n / 4 * 4 + n % 4 = 0 ∨ G (n / 4) ≤ n % 4
  · exact .inl (h.no _ _ (by omega) (by omega) c)
  · exact .inr (h.yes _ _ (by omega) (by omega) (by omega) (by omega))
theorem all_of {G : Nat → Nat} {N : Nums} {k : Nat} (h : AllInv G N k) : ofR N (100 + k) = (0, 0, false) := of_no fun j hj => by
  unfold ofP
  rcases all_num h hj with e | ⟨i, hi, e⟩
  · rw [e]; rfl
  · rw [e]; simp; omega
theorem all_assign {G : Nat → Nat} {N : Nums} {k p : Nat} (h : AllInv G N k) (hp : p < 8) : assignF (poA 8) N (1 + p) (100 + k) = takeF N p (100 + k) := by
  unfold assignF
  rw [placeA hp, if_neg (by simp; omega), all_of h]
  simp
theorem all_full {G : Nat → Nat} {N : Nums} {k p : Nat} (h : AllInv G N k) (hp : p < 8) (hg : G p = 4) : assignF (poA 8) N (1 + p) (100 + k) = ((0, 0, 11), N) := by
  rw [all_assign h hp]
  refine take_no fun j hj => ?_
  unfold condA
  by_cases hz : p * 4 + j = 0
  · simp [hz]
  · obtain ⟨i, _, e⟩ := h.yes p j hp hj hz (by omega)
    rw [e]
    have : ((100 : Int) + i == 0) = false := beq_eq_false_iff_ne.2 (by omega)
    simp [this]
theorem all_take {G : Nat → Nat} {N : Nums} {k p : Nat} (h : AllInv G N k) (hp : p < 8) (hg : G p < 4) : assignF (poA 8) N (1 + p) (100 + k) = ((4 * (p : Int) + G p, 4 * (p : Int) + G p, 0), stepN N (p * 4 + G p) (100 + k)) := by
  rw [all_assign h hp]
  have hz : p * 4 + G p ≠ 0 := by
    have := h.one
    by_cases e : p = 0
    · subst e; omega
    · omega
  have e := h.no p (G p) hp hg (.inr (Nat.le_refl _))
  rw [take_yes hg (by unfold condA; rw [e]; simp; exact ⟨fun a c => hz (by omega), by omega⟩) (fun j hj => by
    unfold condA
    by_cases hz : p * 4 + j = 0
    · simp [hz]
    · obtain ⟨i, _, e⟩ := h.yes p j hp (by omega) hz hj
      rw [e]
      have : ((100 : Int) + i == 0) = false := beq_eq_false_iff_ne.2 (by omega)
      simp [this]), e]
  simp only [Prod.mk.injEq, and_true]
  exact ⟨by omega, by omega⟩
theorem all_step {G : Nat → Nat} {N : Nums} {k p : Nat} (h : AllInv G N k) (hp : p < 8) (hg : G p < 4) : AllInv (fun q => if q = p then G p + 1 else G q) (stepN N (p * 4 + G p) (100 + k)) (k + 1) := by
  have e := h.no p (G p) hp hg (.inr (Nat.le_refl _))
  refine ⟨fun q hq => ?_, ?_, fun q j hq hj h1 h2 => ?_, fun q j hq hj h1 => ?_⟩
  · (try simp only)
    split
    · omega
    · exact h.le q hq
  · (try simp only)
    have := h.one
    split
    · omega
    · exact this
  · unfold stepN
    by_cases c : q * 4 + j = p * 4 + G p
    · rw [if_pos c]
      refine ⟨k, by omega, ?_⟩
      rw [e, c]
      simp
    · rw [if_neg c]
      have h3 : j < G q := by
        (try simp only at h2)
        split at h2
        · rename_i hqp; subst hqp; omega
        · exact h2
      obtain ⟨i, hi, e2⟩ := h.yes q j hq hj h1 h3
      exact ⟨i, by omega, e2⟩
  · unfold stepN
    have c : ¬ q * 4 + j = p * 4 + G p := by
      intro c
      obtain ⟨rfl, rfl⟩ : q = p ∧ j = G p := by omega
      simp only [if_true] at h1
      have := h.one
      rcases h1 with h1 | h1
      · have : q = 0 := by omega
        subst this
        omega
      · omega
    rw [if_neg c]
    refine h.no q j hq hj (h1.imp id fun h1 => ?_)
    (try simp only at h1)
    split at h1
    · rename_i hqp; subst hqp; omega
    · exact h1
theorem all_root {G : Nat → Nat} {N : Nums} {k p : Nat} (h : AllInv G N k) (hp : p < 8) (hg : G p < 4) : rootR (stepN N (p * 4 + G p) (100 + k)) (4 * (p : Int) + G p) = (100 + (k : Int), 4 * (p : Int) + G p, true) := by
  have e := h.no p (G p) hp hg (.inr (Nat.le_refl _))
  have s0 : stepN N (p * 4 + G p) (100 + k) (p * 4 + G p) = (100 + (k : Int), ((p * 4 + G p : Nat) : Int), 1) := by
    unfold stepN
    rw [if_pos rfl, e]
    simp
  have y : rootP (stepN N (p * 4 + G p) (100 + k)) (4 * (p : Int) + G p) (p * 4 + G p) = true := by
    unfold rootP
    rw [s0]
    simp; omega
  rw [root_yes (by omega) y (fun j hj => by
    unfold rootP stepN
    rw [if_neg (by omega)]
    rcases all_num h (show j < 32 by omega) with e | ⟨i, hi, e⟩
    · rw [e]; rfl
    · rw [e]; simp; intro _; omega), s0]
  simp only [Prod.mk.injEq, and_true, true_and]
  omega
/-- How many each pool has given. -/
def GivAt (w : World) (b : Nat) (G : Nat → Nat) : Prop := ∀ j, j < 8 → w.cell? ⟨b, j, none⟩ = some (.int .i64 (G j))
theorem giv_set {w : World} {b p : Nat} {G : Nat → Nat} (h : GivAt w b G) (hp : p < 8) : GivAt (w.setCell ⟨b, p, none⟩ (.int .i64 ((G p : Int) + 1))) b (fun q => if q = p then G p + 1 else G q) := by
  intro j hj
  have c := h j hj
  by_cases e : j = p
  · subst e; simp [go_sem, c]
  · rw [World.cell?_setCell_other]
    · simp only [if_neg e]; exact c
    · intro e2; simp only [Addr.mk.injEq, true_and, and_true] at e2; omega
theorem GivAt.of_block {w w' : World} {b : Nat} {G : Nat → Nat} (h : GivAt w b G) (e : w'.heap[b]? = w.heap[b]?) : GivAt w' b G := fun j hj => (cell_of_block e).trans (h j hj)
/-- The picks. -/
def PicksAt (w : World) (p : Option Addr) (n : Nat) (D : Nat → Int) : Prop :=
  ∃ b off, (0 < n → p = some ⟨b, off, none⟩ ∧ b < w.heap.size) ∧ ∀ k, k < n → w.cell? ⟨b, off + k, none⟩ = some (.int .i64 (D k)) ∧ -9223372036854775808 ≤ D k ∧ D k ≤ 9223372036854775807
theorem i64_of {n : Int} (h : (Lit.int .i64 n).wf = true) : -9223372036854775808 ≤ n ∧ n ≤ 9223372036854775807 := by
  simp [Lit.wf, IntKind.min, IntKind.max, IntKind.signed, IntKind.bits] at h
  exact ⟨by omega, by omega⟩
theorem open_s42 {H : Type} {enc : TypeId × Value → H} {W : World} {base : Nat} {v : Value} {d : DataW H} {ps : List MemPlace} (hval : Value.okWide Try.prog W .any base 42 v) (hd : DataW.Trod enc Try.prog W 0 (fun _ => true) true 42 v d ps) :
    ∃ p n c, v = .slice p n c ∧ n ≤ c ∧ c ≤ maxLen ∧ ∃ D, PicksAt W p n D := by
  obtain ⟨p, n, c, rfl, h1, h2, b, off, h3, h4⟩ := open_rows (C := 1) Try.underlying42 (by kernel_rfl) (by kernel_rfl) (by decide) hval hd
  refine ⟨p, n, c, rfl, h1, h2, fun k => intAt W b (off + (k * 1 + 0)), b, off, h3, fun k hk => ?_⟩
  obtain ⟨c0, o0⟩ := h4 k hk 0 (.i .i64) (by kernel_rfl)
  refine ⟨?_, i64_of o0⟩
  simpa using c0
end Go.Proofs.Ytfladcnkphcicaa
