/- package tlb: the iterator over the ways that have something. -/
import Derived.Test.YtedapbliebiblaaTlbV
import Derived.Test.YtedapbliebiblaaLink
import Derived.LoopIn
import Derived.Outline
namespace Go.Proofs.Ytedapbliebiblaa
set_option linter.unusedVariables false
open Go.RowKit Go.Shelf
attribute [local go_sem] Oper.semAt_some
/-- A way of a cache by its set and its number there. -/
def wayP (S : Nat → TransX × TransX × Int) (p : Nat × Nat) : TransX := if p.2 = 0 then (S p.1).1 else (S p.1).2.1
/-- The ways that have something, of the first m. -/
def fullP (S : Nat → TransX × TransX × Int) (m : Nat) : List (Nat × Nat) := ((List.range m).map fun q => (q / 2, q % 2)).filter fun p => wayP S p ≠ zT
theorem fullP_succ (S : Nat → TransX × TransX × Int) (k j : Nat) (hj : j < 2) : fullP S (2 * k + j + 1) = fullP S (2 * k + j) ++ (if wayP S (k, j) ≠ zT then [(k, j)] else []) := by
  unfold fullP
  rw [List.range_succ, List.map_append, List.filter_append]
  have h1 : (2 * k + j) / 2 = k := by omega
  have h2 : (2 * k + j) % 2 = j := by omega
  simp [h1, h2, List.filter_cons]
theorem fullP_mem {S : Nat → TransX × TransX × Int} {m : Nat} {p : Nat × Nat} (h : p ∈ fullP S m) : 2 * p.1 + p.2 < m := by
  unfold fullP at h
  rw [List.mem_filter, List.mem_map] at h
  obtain ⟨⟨q, hq, rfl⟩, _⟩ := h
  have := List.mem_range.1 hq
  simp only
  omega
theorem fullP_not {S : Nat → TransX × TransX × Int} {k j : Nat} : (k, j) ∉ fullP S (2 * k + j) := fun h => absurd (fullP_mem h) (by simp)
theorem fullP_len (S : Nat → TransX × TransX × Int) (m : Nat) : (fullP S m).length ≤ m := by
  unfold fullP
  refine Nat.le_trans (List.length_filter_le _ _) ?_
  simp
/-- The five cells of a way. -/
theorem way_cells {w : World} {b : Nat} {T : Nat → TransX × TransX × Int} (h : TlbAt w b T) {k j : Nat} (hk : k < 4) (hj : j < 2) :
    w.cell? ⟨b, k * 11 + j * 5, none⟩ = some (.int .i64 (wayP T (k, j)).s) ∧ w.cell? ⟨b, k * 11 + j * 5 + 1, none⟩ = some (.int .i64 (wayP T (k, j)).p) ∧ w.cell? ⟨b, k * 11 + j * 5 + 2, none⟩ = some (.int .i64 (wayP T (k, j)).f) ∧ w.cell? ⟨b, k * 11 + j * 5 + 3, none⟩ = some (.bool (wayP T (k, j)).r) ∧ w.cell? ⟨b, k * 11 + j * 5 + 4, none⟩ = some (.bool (wayP T (k, j)).w) := by
  obtain ⟨⟨c0, c1, c2, c3, c4⟩, ⟨c5, c6, c7, c8, c9⟩, _⟩ := h.at_ k hk
  rw [Nat.mul_comm 11 k] at *
  obtain rfl | rfl : j = 0 ∨ j = 1 := by omega
  · exact ⟨c0, c1, c2, c3, c4⟩
  · exact ⟨c5, c6, c7, c8, c9⟩
set_option maxHeartbeats 1000000 in
theorem each1_linked (n l b Bn : Nat) (W : World) (S : Nat → TransX × TransX × Int) (hok : ∀ k j, k < 4 → j < 2 → OkT (wayP S (k, j))) (J : List (Nat × Nat) → World → Prop)
   (hY : ∀ pre x W1, (x.1 < 4 ∧ x.2 < 2) → J pre W1 → pre.length < 8 → YieldAt Fence.wide n Try.prog l #[.pointer (some ⟨b, x.1 * 11 + x.2 * 5, none⟩)] W1 fun e W' => e = .returned (.bool true) ∧ J (pre ++ [x]) W') (h0 : J [] W)
   (hJ : ∀ pre W1, J pre W1 → (∃ T, TlbAt W1 b T ∧ ∀ k j, k < 4 → j < 2 → (k, j) ∉ pre → wayP T (k, j) = wayP S (k, j)) ∧ W1.cell? ⟨Bn, 0, none⟩ = some (.pointer (some ⟨b, 0, none⟩))) :
    CallsIn Fence.wide (n + 1) Try.prog 79 #[.func (.yield l) #[] #[], .pointer (some ⟨Bn, 0, none⟩)] W fun e W' => (∃ v, e = .returned v) ∧ ∃ xs, xs = fullP S 8 ∧ J xs W' := by
  have hc := (hJ [] W h0).2
  have HY := Lib.hid hY
  have HJ := Lib.hid hJ
  have HO := Lib.hid hok
  clear hY hJ hok
  refine callsIn_of_wp Try.func79 rfl trivial ?_ rfl
  simp only [Try.ntmps79, List.size_toArray, List.length_cons, List.length_nil, Nat.reduceAdd, Nat.reduceSub, Array.replicate_succ, Array.replicate_zero, List.push_toArray, List.append_toArray, List.nil_append, List.cons_append]
  gi_wp2
  gi_loopw [8] (fun i wr => ∃ k : Nat, k ≤ 4 ∧ i = .int .i64 k ∧ J (fullP S (2 * k)) wr) (fun i _ => 4 - (intOf i).toNat)
  case atStart => exact ⟨0, by omega, rfl, h0⟩
  case round =>
    obtain ⟨k, hk, rfl, hJk⟩ := hrel
    by_cases hlt : k < 4
    · have hlt' : (k : Int) < 4 := by omega
      gi_wp2
      gi_loopw [11] (fun i wr => ∃ j : Nat, j ≤ 2 ∧ i = .int .i64 j ∧ J (fullP S (2 * k + j)) wr) (fun i _ => 2 - (intOf i).toNat)
      case atStart => exact ⟨0, by omega, rfl, hJk⟩
      case round =>
        obtain ⟨j, hj, rfl, hJj⟩ := hrel
        obtain ⟨⟨T, hT, hS⟩, hbn⟩ := HJ.out _ _ hJj
        by_cases hjl : j < 2
        · have hjl' : (j : Int) < 2 := by omega
          have hw := hS k j hlt hjl fullP_not
          have hst := fullP_succ S k j hjl
          have hko := HO.out k j hlt hjl
          obtain ⟨c0, c1, c2, c3, c4⟩ := way_cells hT hlt hjl
          rw [hw] at c0 c1 c2 c3 c4
          clear hS hw hT
          generalize hx : wayP S (k, j) = x at *
          have HX := Lib.hid hx
          clear hx
          have HST := Lib.hid hst
          clear hst
          rcases hko with rfl | hko
          · gi_wp2
            refine ⟨fun _ h => (by cases h), ?_⟩
            gi_wp2
            go_roundw
            case rel => exact ⟨j + 1, by omega, by go_num, by rw [← Nat.add_assoc, HST.out]; simpa using hJj⟩
            case measure => simp [intOf]; omega
          · obtain ⟨s, p, f, r, q⟩ := x
            have hs0 : (s == 0) = false := beq_eq_false_iff_ne.2 (by simp only at hko; omega)
            obtain ⟨fn, tmps, assign, body, hy, hR⟩ := HY.out _ (k, j) wr ⟨hlt, hjl⟩ hJj (Nat.lt_of_le_of_lt (fullP_len _ _) (by omega))
            dsimp only at hy
            have hnz : (⟨s, p, f, r, q⟩ : TransX) ≠ zT := fun e => by
              have := congrArg TransX.s e
              simp only at this hko
              omega
            gi_wp2
            refine hR.mono ?_
            rintro e W' ⟨rfl, hJ'⟩
            gi_wp2
            go_roundw
            case rel => exact ⟨j + 1, by omega, by go_num, by rw [← Nat.add_assoc, HST.out, if_pos hnz]; exact hJ'⟩
            case measure => simp [intOf]; omega
        · obtain rfl : j = 2 := by omega
          gi_wp2
          exact ⟨⟨k + 1, by omega, by go_num, hJj⟩, by simp [intOf]; omega⟩
    · obtain rfl : k = 4 := by omega
      gi_wp2
      go_end0
      exact ⟨⟨_, rfl⟩, _, rfl, hJk⟩
end Go.Proofs.Ytedapbliebiblaa
