/- carve: what is compared with what was asked; Meet, Within. -/
import Derived.Test.YtenbnclalcgdkaaCarve2
import Derived.Deep.QuietTactic
import Derived.BigQuiet
namespace Go.Proofs.Ytenbnclalcgdkaa
set_option linter.unusedVariables false
open Go.ChangeShapes Go.WideShapes Go.ChangeAt Go.RowKit Go.Shelf

/-- The first n cells of a block are these numbers. -/
def HasInts (w : World) (g n : Nat) (xs : List Int) : Prop := ∀ j, j < n → w.cell? ⟨g, j, none⟩ = some (.int .i64 (xs.getD j 0))
theorem own_ints {W : World} {lo e : Nat} {v : Value} {n : Nat} {xs : List Int} (h : W.ownsRow lo e 1 v n (xs.map (Value.int .i64))) (hn : 1 ≤ n) :
    ∃ g cap, v = .slice (some ⟨g, 0, none⟩) n cap ∧ lo ≤ g ∧ g < W.heap.size ∧ HasInts W g n xs := by
  rcases h.2 with ⟨_, h0⟩ | ⟨g, cap, cur, rfl, hg, hb, h1, h2, h3, h4⟩
  · omega
  · refine ⟨g, cap, rfl, hg, (Array.getElem?_eq_some_iff.1 hb).1, fun j hj => ?_⟩
    have hl := h.1
    have hc : W.cell? ⟨g, j, none⟩ = cur[j]? := by simp [World.cell?, hb]
    have e : cur[j]? = (xs.map (Value.int .i64))[j]? := by
      rw [← h4, List.getElem?_take_of_lt (by omega)]; simp
    rw [hc, e]
    simp at hl
    rw [List.getElem?_map, List.getD_eq_getElem?_getD, List.getElem?_eq_getElem (by omega)]
    rfl
theorem same_ints (ga gb n ca cb : Nat) (xs : List Int) (w : World) (hn : n ≤ 4) (hA : HasInts w ga n xs) (hB : HasInts w gb n xs) :
    Calls Try.prog 20 #[.slice (some ⟨ga, 0, none⟩) n ca, .slice (some ⟨gb, 0, none⟩) n cb] w fun e w' => e = .returned (.bool true) ∧ ∃ q, w' = w.drewN q := by
  go_enter Try.func20, Try.ntmps20
  go_wp2
  go_loopw [5] (fun i wr => ∃ k q : Nat, k ≤ n ∧ i = .int .i64 k ∧ wr = w.drewN q) (fun i _ => n - (intOf i).toNat)
  case atStart => exact ⟨0, 0, by omega, rfl, rfl⟩
  case round =>
    obtain ⟨k, q, hk, rfl, rfl⟩ := hrel
    by_cases hlt : k < n
    · have cA : w.cell? ⟨ga, k, none⟩ = some (.int .i64 (xs.getD k 0)) := hA k hlt
      have cB : w.cell? ⟨gb, k, none⟩ = some (.int .i64 (xs.getD k 0)) := hB k hlt
      clear hA hB
      generalize xs.getD k 0 = x at cA cB
      have hi : (k : Int) < n := by omega
      go_wp2
      go_quiet (fail)
      go_wp2
      go_roundw
      case rel => exact ⟨k + 1, _, by omega, by go_num, rfl⟩
      case measure => simp [intOf]; omega
    · obtain rfl : k = n := by omega
      clear hA hB
      go_wp2
      go_ret
      exact ⟨rfl, _, rfl⟩
theorem same_nil (w : World) : Calls Try.prog 20 #[.slice none 0 0, .slice none 0 0] w fun e w' => e = .returned (.bool true) ∧ w = w' := by
  go_enter Try.func20, Try.ntmps20
  go_wp2
  refine wp_loop_rounds 1 ?_
  rw [rounds_succ]; go_wp2
  go_ret
  exact ⟨rfl, rfl⟩

/-- All four are so small that sums do not wrap round. -/
def nearB (a n b k : Int) : Bool := decide (0 ≤ a ∧ a ≤ 1048576) && decide (0 ≤ n ∧ n ≤ 1048576) && decide (0 ≤ b ∧ b ≤ 1048576) && decide (0 ≤ k ∧ k ≤ 1048576)
theorem near_any (a n b k : Int) (B : Nat) (w : World) (c0 : w.cell? ⟨B, 0, none⟩ = some (.int .i64 a)) (c1 : w.cell? ⟨B, 1, none⟩ = some (.int .i64 n)) (c2 : w.cell? ⟨B, 2, none⟩ = some (.int .i64 b)) (c3 : w.cell? ⟨B, 3, none⟩ = some (.int .i64 k)) :
    Calls Try.prog 30 #[.slice (some ⟨B, 0, none⟩) 4 4] w fun e w' => e = .returned (.bool (nearB a n b k)) ∧ w = w' := by
  go_enter Try.func30, Try.ntmps30
  go_wp2
  refine wp_loop_rounds 5 ?_
  all_goals rw [rounds_succ]
  all_goals go_wp2
  all_goals try (go_ret; refine ⟨ret_bool ?_, rfl⟩; simp [nearB]; omega)
  all_goals rw [rounds_succ]
  all_goals go_wp2
  all_goals try (go_ret; refine ⟨ret_bool ?_, rfl⟩; simp [nearB]; omega)
  all_goals rw [rounds_succ]
  all_goals go_wp2
  all_goals try (go_ret; refine ⟨ret_bool ?_, rfl⟩; simp [nearB]; omega)
  all_goals rw [rounds_succ]
  all_goals go_wp2
  all_goals try (go_ret; refine ⟨ret_bool ?_, rfl⟩; simp [nearB]; omega)
  all_goals rw [rounds_succ]
  all_goals go_wp2
  all_goals try (go_ret; refine ⟨ret_bool ?_, rfl⟩; simp [nearB]; omega)

/-- What Meet tells, and Within. -/
def meetB (a n b k : Int) : Bool := nearB a n b k && decide (0 < n ∧ 0 < k ∧ a < b + k ∧ b < a + n)
def withinB (a n b k : Int) : Bool := nearB a n b k && decide (n = 0 ∨ (b ≤ a ∧ a + n ≤ b + k))
theorem near_bd {a n b k : Int} (h : nearB a n b k = true) : (0 ≤ a ∧ a ≤ 1048576) ∧ (0 ≤ n ∧ n ≤ 1048576) ∧ (0 ≤ b ∧ b ≤ 1048576) ∧ 0 ≤ k ∧ k ≤ 1048576 := by
  simp [nearB] at h; omega
theorem cellQ {W : World} {b : Nat} {cs : Array Value} {t : TypeId} (h : W.heap[b]? = some (.cells cs t (0, 0))) (j : Nat) : W.cell? ⟨b, j, none⟩ = cs[j]? := by
  simp [World.cell?, h]
theorem box4 (w : World) (a n b k : Int) (t : TypeId) : (w.alloc (.cells #[.int .i64 a, .int .i64 n, .int .i64 b, .int .i64 k] t)).cell? ⟨w.heap.size, 0, none⟩ = some (.int .i64 a) ∧ (w.alloc (.cells #[.int .i64 a, .int .i64 n, .int .i64 b, .int .i64 k] t)).cell? ⟨w.heap.size, 1, none⟩ = some (.int .i64 n) ∧
    (w.alloc (.cells #[.int .i64 a, .int .i64 n, .int .i64 b, .int .i64 k] t)).cell? ⟨w.heap.size, 2, none⟩ = some (.int .i64 b) ∧ (w.alloc (.cells #[.int .i64 a, .int .i64 n, .int .i64 b, .int .i64 k] t)).cell? ⟨w.heap.size, 3, none⟩ = some (.int .i64 k) := by
  have h := World.alloc_heap_new w (.cells #[.int .i64 a, .int .i64 n, .int .i64 b, .int .i64 k] t)
  exact ⟨cellQ h 0, cellQ h 1, cellQ h 2, cellQ h 3⟩
theorem meet_any (a n b k : Int) (w : World) : Calls Try.prog 23 #[.int .i64 a, .int .i64 n, .int .i64 b, .int .i64 k] w fun e w' => e = .returned (.bool (meetB a n b k)) ∧ Below w.heap.size w w' := by
  obtain ⟨q0, q1, q2, q3⟩ := box4 w a n b k 3
  cases h : nearB a n b k with
  | false =>
    go_enter Try.func23, Try.ntmps23
    go_wp2_with (go_at_call 30; refine (near_any a n b k _ _ q0 q1 q2 q3).mono ?_; rw [h]; rintro e w1 ⟨rfl, rfl⟩)
    go_ret
    exact ⟨ret_bool (by unfold meetB; rw [h]; rfl), bal (Below.refl _ _) _⟩
  | true =>
    obtain ⟨⟨a0, a1⟩, ⟨n0, n1⟩, ⟨b0, b1⟩, k0, k1⟩ := near_bd h
    go_enter Try.func23, Try.ntmps23
    go_wp2_with (go_at_call 30; refine (near_any a n b k _ _ q0 q1 q2 q3).mono ?_; rw [h]; rintro e w1 ⟨rfl, rfl⟩)
    all_goals go_ret
    all_goals refine ⟨ret_bool ?_, bal (Below.refl _ _) _⟩
    all_goals unfold meetB
    all_goals rw [h, Bool.eq_iff_iff]
    all_goals simp
    all_goals omega
theorem within_any (a n b k : Int) (w : World) : Calls Try.prog 25 #[.int .i64 a, .int .i64 n, .int .i64 b, .int .i64 k] w fun e w' => e = .returned (.bool (withinB a n b k)) ∧ Below w.heap.size w w' := by
  obtain ⟨q0, q1, q2, q3⟩ := box4 w a n b k 3
  cases h : nearB a n b k with
  | false =>
    go_enter Try.func25, Try.ntmps25
    go_wp2_with (go_at_call 30; refine (near_any a n b k _ _ q0 q1 q2 q3).mono ?_; rw [h]; rintro e w1 ⟨rfl, rfl⟩)
    go_ret
    exact ⟨ret_bool (by unfold withinB; rw [h]; rfl), bal (Below.refl _ _) _⟩
  | true =>
    obtain ⟨⟨a0, a1⟩, ⟨n0, n1⟩, ⟨b0, b1⟩, k0, k1⟩ := near_bd h
    go_enter Try.func25, Try.ntmps25
    go_wp2_with (go_at_call 30; refine (near_any a n b k _ _ q0 q1 q2 q3).mono ?_; rw [h]; rintro e w1 ⟨rfl, rfl⟩)
    all_goals go_ret
    all_goals refine ⟨ret_bool ?_, bal (Below.refl _ _) _⟩
    all_goals unfold withinB
    all_goals rw [h, Bool.eq_iff_iff]
    all_goals simp
    all_goals omega

end Go.Proofs.Ytenbnclalcgdkaa
