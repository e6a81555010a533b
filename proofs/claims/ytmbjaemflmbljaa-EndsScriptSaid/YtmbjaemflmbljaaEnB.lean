/- package ends: the acts of its laws; four endpoints; counts. -/
import Derived.Test.YtmbjaemflmbljaaEnA
import Derived.Test.YtmbjaemflmbljaaActs
import Derived.Deep.CutRange
import Derived.BigQuiet
namespace Go.Proofs.Ytmbjaemflmbljaa
set_option linter.unusedVariables false
set_option linter.unusedSimpArgs false
open Go.ChangeShapes Go.WideShapes Go.ChangeAt Go.RowKit Go.Shelf

structure ActE where
  d : Int
  a : Int
  t : Int
  s : Bool
/-- An act's cells. -/
def ActCells (w : World) (b o : Nat) (x : ActE) : Prop :=
  w.cell? ⟨b, o, none⟩ = some (.int .i64 x.d) ∧ w.cell? ⟨b, o + 1, none⟩ = some (.int .i64 x.a) ∧ w.cell? ⟨b, o + 2, none⟩ = some (.int .i64 x.t) ∧ w.cell? ⟨b, o + 3, none⟩ = some (.bool x.s)
def InS (n : Int) : Prop := -9223372036854775808 ≤ n ∧ n ≤ 9223372036854775807
def ActE.Ok (x : ActE) : Prop := InS x.d ∧ InS x.a ∧ InS x.t
/-- The acts that a slice holds. -/
def ActsAt (w : World) (p : Option Addr) (n : Nat) (D : Nat → ActE) : Prop :=
  ∃ b off, (0 < n → p = some ⟨b, off, none⟩ ∧ b < w.heap.size) ∧ ∀ k, k < n → ActCells w b (off + k * 4) (D k) ∧ (D k).Ok
theorem open_s22 {H : Type} {enc : TypeId × Value → H} {W : World} {base : Nat} {v : Value} {d : DataW H} {ps : List MemPlace} (hval : Value.okWide Try.prog W .any base 22 v) (hd : DataW.Trod enc Try.prog W 0 (fun _ => true) true 22 v d ps) :
    ∃ p n c, v = .slice p n c ∧ n ≤ c ∧ c ≤ maxLen ∧ ∃ D, ActsAt W p n D := by
  obtain ⟨p, n, c, rfl, h1, h2, b, off, h3, h4⟩ := open_rows (C := 4) Try.underlying22 (by kernel_rfl) (by kernel_rfl) (by decide) hval hd
  refine ⟨p, n, c, rfl, h1, h2, fun k => ⟨intAt W b (off + (k * 4 + 0)), intAt W b (off + (k * 4 + 1)), intAt W b (off + (k * 4 + 2)), boolAt W b (off + (k * 4 + 3))⟩, b, off, h3, fun k hk => ?_⟩
  obtain ⟨c0, o0⟩ := h4 k hk 0 (.i .i64) (by kernel_rfl)
  obtain ⟨c1, o1⟩ := h4 k hk 1 (.i .i64) (by kernel_rfl)
  obtain ⟨c2, o2⟩ := h4 k hk 2 (.i .i64) (by kernel_rfl)
  have c3 := h4 k hk 3 .b (by kernel_rfl)
  exact ⟨⟨by simpa using c0, by simpa [Nat.add_assoc] using c1, by simpa [Nat.add_assoc] using c2, by simp only [Nat.add_assoc]; exact c3⟩, i64_of o0, i64_of o1, i64_of o2⟩
theorem ActsAt.below {w w' : World} {p : Option Addr} {n : Nat} {D : Nat → ActE} (h : ActsAt w p n D) (hb : Below w.heap.size w w') : ActsAt w' p n D := by
  obtain ⟨b, off, h1, h2⟩ := h
  refine ⟨b, off, fun hn => ⟨(h1 hn).1, Nat.lt_of_lt_of_le (h1 hn).2 hb.size⟩, fun k hk => ?_⟩
  obtain ⟨⟨a0, a1, a2, a3⟩, ok⟩ := h2 k hk
  have hl := (h1 (by omega)).2
  have q := fun o => hb.cell (p := ⟨b, o, none⟩) hl
  exact ⟨⟨(q _).trans a0, (q _).trans a1, (q _).trans a2, (q _).trans a3⟩, ok⟩
/-- Endpoints 1 to 4; who waits has a number from 1 to 6. -/
structure Q4 (A : List EA) : Prop where
  ids : A.map (fun x => x.1) = [1, 2, 3, 4]
  who : ∀ t ∈ whoA A, 1 ≤ t ∧ t ≤ 6
theorem Q4.form {A : List EA} (h : Q4 A) : ∃ a b c d : List Int × Bool, A = [(1, a), (2, b), (3, c), (4, d)] := by
  have := h.ids
  match A, this with
  | [(i1, a), (i2, b), (i3, c), (i4, d)], this =>
    simp at this
    obtain ⟨rfl, rfl, rfl, rfl⟩ := this
    exact ⟨a, b, c, d, rfl⟩
  | [], this => simp at this
  | [_], this => simp at this
  | [_, _], this => simp at this
  | [_, _, _], this => simp at this
  | _ :: _ :: _ :: _ :: _ :: _, this => simp at this
theorem list_sub {A : List EA} {id z : Int} (h : z ∈ (listA A id).1) : z ∈ whoA A := by
  unfold listA at h
  cases hg : getA A id with
  | none => rw [hg] at h; simp at h
  | some x =>
    rw [hg] at h
    simp only at h
    split at h
    · simp at h
    · exact whoA_mem.2 ⟨x, (getA_mem hg).1, h⟩
/-- Who waits at the first k of them. -/
def vis (A : List EA) : Nat → List Int
  | 0 => []
  | k + 1 => vis A k ++ (listA A ((k : Int) + 1)).1
theorem list_at {A : List EA} {id : Int} {x : EA} (h : getA A id = some x) : (listA A id).1 = x.2.1 := by
  unfold listA
  rw [h]
  simp only
  split
  · rename_i e; rw [e]
  · rfl
theorem Q4.vis4 {A : List EA} (h : Q4 A) : vis A 4 = whoA A := by
  obtain ⟨a, b, c, d, rfl⟩ := h.form
  simp only [vis]
  rw [list_at (id := ((0 : Nat) : Int) + 1) (x := (1, a)) rfl, list_at (id := ((1 : Nat) : Int) + 1) (x := (2, b)) rfl, list_at (id := ((2 : Nat) : Int) + 1) (x := (3, c)) rfl, list_at (id := ((3 : Nat) : Int) + 1) (x := (4, d)) rfl]
  simp [whoA]
theorem vis_le (A : List EA) {k m : Nat} (h : k ≤ m) : (vis A k).length ≤ (vis A m).length := by
  induction h with
  | refl => exact Nat.le_refl _
  | step _ ih => rw [vis, List.length_append]; omega
theorem Q4.rem {A : List EA} (h : Q4 A) (t : Int) : Q4 (remL A t) := by
  refine ⟨?_, fun z hz => ?_⟩
  · unfold remL
    rw [map_ids (f := remF t) (fun x => rfl)]
    exact h.ids
  · obtain ⟨y, hy, hz⟩ := whoA_mem.1 hz
    obtain ⟨x, hx, rfl⟩ := List.mem_map.1 hy
    exact h.who z (whoA_mem.2 ⟨x, hx, List.mem_of_mem_erase hz⟩)
theorem Q4.wait {A : List EA} (h : Q4 A) (id t : Int) (s : Bool) (ht : 1 ≤ t ∧ t ≤ 6) : Q4 (waitL A id t s) := by
  unfold waitL
  split
  · refine ⟨?_, fun z hz => ?_⟩
    · rw [map_ids (f := waitF id t s) (waitF_id id t s)]
      exact h.ids
    · obtain ⟨y, hy, hz⟩ := whoA_mem.1 hz
      obtain ⟨x, hx, rfl⟩ := List.mem_map.1 hy
      unfold waitF at hz
      split at hz
      · rcases List.mem_append.1 hz with q | q
        · exact h.who z (whoA_mem.2 ⟨x, hx, q⟩)
        · simp at q; subst q; exact ht
      · exact h.who z (whoA_mem.2 ⟨x, hx, hz⟩)
  · exact h
/-- Who waits at an endpoint for the other thing keeps out who comes. -/
theorem wait_other {A : List EA} {id t : Int} {s : Bool} (ht : 1 ≤ t) (h0 : (listA A id).1 ≠ []) (hs : (listA A id).2 ≠ s) : waitR A id t s = 16 := by
  unfold listA at h0 hs
  unfold waitR
  cases hg : getA A id with
  | none => rw [hg] at h0; simp at h0
  | some x =>
    rw [hg] at h0 hs
    simp only at h0 hs ⊢
    split at h0
    · simp at h0
    · rename_i e
      rw [if_neg e] at hs
      rw [if_neg (by omega)]
      split
      · rfl
      · rw [if_neg]
        rintro (q | q)
        · exact e q
        · exact hs q
def A4 (k : Nat) : List EA := (List.range k).map (fun j : Nat => ((j : Int) + 1, [], false))
theorem A4_q : Q4 (A4 4) := ⟨by decide, by decide⟩
theorem A4_add {k : Nat} (h : k < 4) : addL (A4 k) ((k : Int) + 1) = A4 (k + 1) := by
  rcases (by omega : k = 0 ∨ k = 1 ∨ k = 2 ∨ k = 3) with rfl | rfl | rfl | rfl <;> decide
theorem A4_len (k : Nat) : (A4 k).length = k := by simp [A4]
theorem A4_who (k : Nat) : whoA (A4 k) = [] := by
  simp [whoA, A4, List.flatMap_map]
/-- How often each of 0 to 6 is in P. -/
def CntAt (w : World) (b : Nat) (P : List Int) : Prop := (∀ j : Nat, j < 7 → w.cell? ⟨b, j, none⟩ = some (.int .i64 ((P.count (j : Int) : Nat) : Int))) ∧ ∀ j, w.frozen? ⟨b, j, none⟩ = false
theorem cnt_new (w : World) : CntAt (w.alloc (.cells #[.int .i64 0, .int .i64 0, .int .i64 0, .int .i64 0, .int .i64 0, .int .i64 0, .int .i64 0] 52)) w.heap.size [] := by
  refine ⟨fun j hj => ?_, fun j => ?_⟩
  · rcases (by omega : j = 0 ∨ j = 1 ∨ j = 2 ∨ j = 3 ∨ j = 4 ∨ j = 5 ∨ j = 6) with rfl | rfl | rfl | rfl | rfl | rfl | rfl <;> simp [go_sem]
  · unfold World.frozen?
    rw [World.alloc_heap_new]
    rfl
theorem CntAt.of_block {w w' : World} {b : Nat} {P : List Int} (h : CntAt w b P) (e : w'.heap[b]? = w.heap[b]?) : CntAt w' b P :=
  ⟨fun j hj => (World.cell?_of_block e).trans (h.1 j hj), fun j => (World.frozen?_of_block e).trans (h.2 j)⟩
theorem CntAt.put {w : World} {b k : Nat} {P : List Int} (h : CntAt w b P) (hk : k < 7) : CntAt (w.setCell ⟨b, k, none⟩ (.int .i64 ((P.count (k : Int) : Nat) + 1))) b (P ++ [(k : Int)]) := by
  refine ⟨fun j hj => ?_, fun j => (World.frozen?_setCell _ _ _ _).trans (h.2 j)⟩
  rw [List.count_append, List.count_singleton]
  by_cases e : j = k
  · subst e
    rw [World.cell?_setCell_same' _ _ _ (by rw [h.1 j hj]; rfl)]
    simp
  · have : ((k : Int) == (j : Int)) = false := by simp; omega
    rw [this]
    simp only [Bool.false_eq_true, if_false, Nat.add_zero]
    exact (World.cell?_setCell_other _ _ _ _ (by intro q; injection q with _ q _; exact e q.symm)).trans (h.1 j hj)
theorem count_one : ∀ {P : List Int} (x : Int), P.Nodup → P.count x ≤ 1
  | [], x, _ => by simp
  | y :: P, x, h => by
    rw [List.nodup_cons] at h
    rw [List.count_cons]
    by_cases e : y = x
    · subst e
      rw [List.count_eq_zero_of_not_mem h.1]
      simp
    · have : (y == x) = false := by simpa using e
      rw [this]
      simpa using count_one x h.2
end Go.Proofs.Ytmbjaemflmbljaa
