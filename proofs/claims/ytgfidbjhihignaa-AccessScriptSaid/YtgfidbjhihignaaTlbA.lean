/- package tlb: one set. -/
import Derived.Test.YtgfidbjhihignaaTlbN
import Derived.LoopTactic
import Derived.Outline
namespace Go.Proofs.Ytgfidbjhihignaa
set_option linter.unusedVariables false
set_option linter.unusedSimpArgs false
open Go.ChangeShapes Go.WideShapes Go.ChangeAt Go.RowKit

structure TransX where
  s : Int
  p : Int
  f : Int
  r : Bool
  w : Bool
/-- The eleven cells of a set at a place of a block. -/
def setAt (w : World) (b o : Nat) (x y : TransX) (due : Int) : Prop :=
  (w.cell? ⟨b, o, none⟩ = some (.int .i64 x.s) ∧ w.cell? ⟨b, o + 1, none⟩ = some (.int .i64 x.p) ∧ w.cell? ⟨b, o + 2, none⟩ = some (.int .i64 x.f) ∧ w.cell? ⟨b, o + 3, none⟩ = some (.bool x.r) ∧ w.cell? ⟨b, o + 4, none⟩ = some (.bool x.w)) ∧
  (w.cell? ⟨b, o + 5, none⟩ = some (.int .i64 y.s) ∧ w.cell? ⟨b, o + 6, none⟩ = some (.int .i64 y.p) ∧ w.cell? ⟨b, o + 7, none⟩ = some (.int .i64 y.f) ∧ w.cell? ⟨b, o + 8, none⟩ = some (.bool y.r) ∧ w.cell? ⟨b, o + 9, none⟩ = some (.bool y.w)) ∧
  w.cell? ⟨b, o + 10, none⟩ = some (.int .i64 due)
abbrev X (s p f : Int) (r w : Bool) : TransX := ⟨s, p, f, r, w⟩
abbrev trV (s p f : Int) (r w : Bool) : Value := .agg #[.int .i64 s, .int .i64 p, .int .i64 f, .bool r, .bool w]
theorem ix0 (s p f : Int) (r q : Bool) (s' p' f' : Int) (r' q' : Bool) : ∀ w, (Instr.index 105 (.agg #[.int .i64 s, .int .i64 p, .int .i64 f, .bool r, .bool q, .int .i64 s', .int .i64 p', .int .i64 f', .bool r', .bool q']) (.int .i64 0)).run Try.prog w = .ok (trV s p f r q) w := fun _ => by kernel_rfl
theorem ix1 (s p f : Int) (r q : Bool) (s' p' f' : Int) (r' q' : Bool) : ∀ w, (Instr.index 105 (.agg #[.int .i64 s, .int .i64 p, .int .i64 f, .bool r, .bool q, .int .i64 s', .int .i64 p', .int .i64 f', .bool r', .bool q']) (.int .i64 1)).run Try.prog w = .ok (trV s' p' f' r' q') w := fun _ => by kernel_rfl
set_option maxRecDepth 100000 in
set_option maxHeartbeats 1000000 in
theorem find_0 (w : World) (b o : Nat) (s p f : Int) (r q : Bool) (s' p' f' : Int) (r' q' : Bool) (due a c : Int) (h : setAt w b o (X s p f r q) (X s' p' f' r' q') due) (e1 : a = s) (e2 : c = p) : Calls Try.prog 64 #[.pointer (some ⟨b, o, none⟩), .int .i64 a, .int .i64 c] w fun e w' => e = .returned (.tuple #[.int .i64 0, .bool true]) ∧ Below w.heap.size w w' := by
  obtain ⟨⟨c0, c1, c2, c3, c4⟩, ⟨c5, c6, c7, c8, c9⟩, c10⟩ := h
  have i0 := ix0 s p f r q s' p' f' r' q'
  have i1 := ix1 s p f r q s' p' f' r' q'
  subst e1 e2
  go_enter Try.func64, Try.ntmps64
  go_wp2
  go_step3
  go_wp2
  go_step3
  go_wp2
  refine wp_loop_rounds 3 ?_
  rw [rounds_succ]; go_wp2
  rw [Exit.noGoto_ret]
  go_ret2
  exact ⟨rfl, by repeat (first | exact Below.refl _ _ | refine bal ?_ _)⟩
set_option maxRecDepth 100000 in
set_option maxHeartbeats 1000000 in
theorem find_10 (w : World) (b o : Nat) (s p f : Int) (r q : Bool) (s' p' f' : Int) (r' q' : Bool) (due a c : Int) (h : setAt w b o (X s p f r q) (X s' p' f' r' q') due) (m0 : (s == a) = false) (e2 : a = s') (e3 : c = p') : Calls Try.prog 64 #[.pointer (some ⟨b, o, none⟩), .int .i64 a, .int .i64 c] w fun e w' => e = .returned (.tuple #[.int .i64 1, .bool true]) ∧ Below w.heap.size w w' := by
  obtain ⟨⟨c0, c1, c2, c3, c4⟩, ⟨c5, c6, c7, c8, c9⟩, c10⟩ := h
  have i0 := ix0 s p f r q s' p' f' r' q'
  have i1 := ix1 s p f r q s' p' f' r' q'
  subst e2 e3
  go_enter Try.func64, Try.ntmps64
  go_wp2
  go_step3
  go_wp2
  go_step3
  go_wp2
  refine wp_loop_rounds 3 ?_
  rw [rounds_succ]; go_wp2
  rw [rounds_succ]; go_wp2
  rw [Exit.noGoto_ret]
  go_ret2
  exact ⟨rfl, by repeat (first | exact Below.refl _ _ | refine bal ?_ _)⟩
set_option maxRecDepth 100000 in
set_option maxHeartbeats 1000000 in
theorem find_n00 (w : World) (b o : Nat) (s p f : Int) (r q : Bool) (s' p' f' : Int) (r' q' : Bool) (due a c : Int) (h : setAt w b o (X s p f r q) (X s' p' f' r' q') due) (m0 : (s == a) = false) (m1 : (s' == a) = false) : Calls Try.prog 64 #[.pointer (some ⟨b, o, none⟩), .int .i64 a, .int .i64 c] w fun e w' => e = .returned (.tuple #[.int .i64 0, .bool false]) ∧ Below w.heap.size w w' := by
  obtain ⟨⟨c0, c1, c2, c3, c4⟩, ⟨c5, c6, c7, c8, c9⟩, c10⟩ := h
  have i0 := ix0 s p f r q s' p' f' r' q'
  have i1 := ix1 s p f r q s' p' f' r' q'
  go_enter Try.func64, Try.ntmps64
  go_wp2
  go_step3
  go_wp2
  go_step3
  go_wp2
  refine wp_loop_rounds 3 ?_
  rw [rounds_succ]; go_wp2
  rw [rounds_succ]; go_wp2
  rw [rounds_succ]; go_wp2
  rw [Exit.noGoto_ret]
  go_ret2
  exact ⟨rfl, by repeat (first | exact Below.refl _ _ | refine bal ?_ _)⟩
set_option maxRecDepth 100000 in
set_option maxHeartbeats 1000000 in
theorem find_n01 (w : World) (b o : Nat) (s p f : Int) (r q : Bool) (s' p' f' : Int) (r' q' : Bool) (due a c : Int) (h : setAt w b o (X s p f r q) (X s' p' f' r' q') due) (m0 : (s == a) = false) (e2 : s' = a) (m1 : (p' == c) = false) : Calls Try.prog 64 #[.pointer (some ⟨b, o, none⟩), .int .i64 a, .int .i64 c] w fun e w' => e = .returned (.tuple #[.int .i64 0, .bool false]) ∧ Below w.heap.size w w' := by
  obtain ⟨⟨c0, c1, c2, c3, c4⟩, ⟨c5, c6, c7, c8, c9⟩, c10⟩ := h
  have i0 := ix0 s p f r q s' p' f' r' q'
  have i1 := ix1 s p f r q s' p' f' r' q'
  subst e2
  go_enter Try.func64, Try.ntmps64
  go_wp2
  go_step3
  go_wp2
  go_step3
  go_wp2
  refine wp_loop_rounds 3 ?_
  rw [rounds_succ]; go_wp2
  rw [rounds_succ]; go_wp2
  rw [rounds_succ]; go_wp2
  rw [Exit.noGoto_ret]
  go_ret2
  exact ⟨rfl, by repeat (first | exact Below.refl _ _ | refine bal ?_ _)⟩
set_option maxRecDepth 100000 in
set_option maxHeartbeats 1000000 in
theorem find_11 (w : World) (b o : Nat) (s p f : Int) (r q : Bool) (s' p' f' : Int) (r' q' : Bool) (due a c : Int) (h : setAt w b o (X s p f r q) (X s' p' f' r' q') due) (e1 : s = a) (m0 : (p == c) = false) (e2 : a = s') (e3 : c = p') : Calls Try.prog 64 #[.pointer (some ⟨b, o, none⟩), .int .i64 a, .int .i64 c] w fun e w' => e = .returned (.tuple #[.int .i64 1, .bool true]) ∧ Below w.heap.size w w' := by
  obtain ⟨⟨c0, c1, c2, c3, c4⟩, ⟨c5, c6, c7, c8, c9⟩, c10⟩ := h
  have i0 := ix0 s p f r q s' p' f' r' q'
  have i1 := ix1 s p f r q s' p' f' r' q'
  subst e1
  subst e2 e3
  go_enter Try.func64, Try.ntmps64
  go_wp2
  go_step3
  go_wp2
  go_step3
  go_wp2
  refine wp_loop_rounds 3 ?_
  rw [rounds_succ]; go_wp2
  rw [rounds_succ]; go_wp2
  rw [Exit.noGoto_ret]
  go_ret2
  exact ⟨rfl, by repeat (first | exact Below.refl _ _ | refine bal ?_ _)⟩
set_option maxRecDepth 100000 in
set_option maxHeartbeats 1000000 in
theorem find_n10 (w : World) (b o : Nat) (s p f : Int) (r q : Bool) (s' p' f' : Int) (r' q' : Bool) (due a c : Int) (h : setAt w b o (X s p f r q) (X s' p' f' r' q') due) (e1 : s = a) (m0 : (p == c) = false) (m1 : (s' == a) = false) : Calls Try.prog 64 #[.pointer (some ⟨b, o, none⟩), .int .i64 a, .int .i64 c] w fun e w' => e = .returned (.tuple #[.int .i64 0, .bool false]) ∧ Below w.heap.size w w' := by
  obtain ⟨⟨c0, c1, c2, c3, c4⟩, ⟨c5, c6, c7, c8, c9⟩, c10⟩ := h
  have i0 := ix0 s p f r q s' p' f' r' q'
  have i1 := ix1 s p f r q s' p' f' r' q'
  subst e1
  go_enter Try.func64, Try.ntmps64
  go_wp2
  go_step3
  go_wp2
  go_step3
  go_wp2
  refine wp_loop_rounds 3 ?_
  rw [rounds_succ]; go_wp2
  rw [rounds_succ]; go_wp2
  rw [rounds_succ]; go_wp2
  rw [Exit.noGoto_ret]
  go_ret2
  exact ⟨rfl, by repeat (first | exact Below.refl _ _ | refine bal ?_ _)⟩
set_option maxRecDepth 100000 in
set_option maxHeartbeats 1000000 in
theorem find_n11 (w : World) (b o : Nat) (s p f : Int) (r q : Bool) (s' p' f' : Int) (r' q' : Bool) (due a c : Int) (h : setAt w b o (X s p f r q) (X s' p' f' r' q') due) (e1 : s = a) (m0 : (p == c) = false) (e2 : s' = a) (m1 : (p' == c) = false) : Calls Try.prog 64 #[.pointer (some ⟨b, o, none⟩), .int .i64 a, .int .i64 c] w fun e w' => e = .returned (.tuple #[.int .i64 0, .bool false]) ∧ Below w.heap.size w w' := by
  obtain ⟨⟨c0, c1, c2, c3, c4⟩, ⟨c5, c6, c7, c8, c9⟩, c10⟩ := h
  have i0 := ix0 s p f r q s' p' f' r' q'
  have i1 := ix1 s p f r q s' p' f' r' q'
  subst e1
  subst e2
  go_enter Try.func64, Try.ntmps64
  go_wp2
  go_step3
  go_wp2
  go_step3
  go_wp2
  refine wp_loop_rounds 3 ?_
  rw [rounds_succ]; go_wp2
  rw [rounds_succ]; go_wp2
  rw [rounds_succ]; go_wp2
  rw [Exit.noGoto_ret]
  go_ret2
  exact ⟨rfl, by repeat (first | exact Below.refl _ _ | refine bal ?_ _)⟩
set_option maxRecDepth 100000 in
set_option maxHeartbeats 1000000 in
theorem empty_0 (w : World) (b o : Nat) (s p f : Int) (r q : Bool) (s' p' f' : Int) (r' q' : Bool) (due : Int) (h : setAt w b o (X s p f r q) (X s' p' f' r' q') due) (e0 : s = 0) (e1 : p = 0) (e2 : f = 0) (e3 : r = false) (e4 : q = false) : Calls Try.prog 74 #[.pointer (some ⟨b, o, none⟩)] w fun e w' => e = .returned (.tuple #[.int .i64 0, .bool true]) ∧ Below w.heap.size w w' := by
  obtain ⟨⟨c0, c1, c2, c3, c4⟩, ⟨c5, c6, c7, c8, c9⟩, c10⟩ := h
  have i0 := ix0 s p f r q s' p' f' r' q'
  have i1 := ix1 s p f r q s' p' f' r' q'
  subst e0 e1 e2 e3 e4
  go_enter Try.func74, Try.ntmps74
  go_wp2
  go_step3
  go_wp2
  go_step3
  go_wp2
  refine wp_loop_rounds 3 ?_
  rw [rounds_succ]; go_wp2
  rw [Exit.noGoto_ret]
  go_ret2
  exact ⟨rfl, by repeat (first | exact Below.refl _ _ | refine bal ?_ _)⟩
set_option maxRecDepth 100000 in
set_option maxHeartbeats 1000000 in
theorem empty_1 (w : World) (b o : Nat) (s p f : Int) (r q : Bool) (s' p' f' : Int) (r' q' : Bool) (due : Int) (h : setAt w b o (X s p f r q) (X s' p' f' r' q') due) (m0 : (s == 0) = false) (k0 : s' = 0) (k1 : p' = 0) (k2 : f' = 0) (k3 : r' = false) (k4 : q' = false) : Calls Try.prog 74 #[.pointer (some ⟨b, o, none⟩)] w fun e w' => e = .returned (.tuple #[.int .i64 1, .bool true]) ∧ Below w.heap.size w w' := by
  obtain ⟨⟨c0, c1, c2, c3, c4⟩, ⟨c5, c6, c7, c8, c9⟩, c10⟩ := h
  have i0 := ix0 s p f r q s' p' f' r' q'
  have i1 := ix1 s p f r q s' p' f' r' q'
  subst k0 k1 k2 k3 k4
  go_enter Try.func74, Try.ntmps74
  go_wp2
  go_step3
  go_wp2
  go_step3
  go_wp2
  refine wp_loop_rounds 3 ?_
  rw [rounds_succ]; go_wp2
  rw [rounds_succ]; go_wp2
  rw [Exit.noGoto_ret]
  go_ret2
  exact ⟨rfl, by repeat (first | exact Below.refl _ _ | refine bal ?_ _)⟩
set_option maxRecDepth 100000 in
set_option maxHeartbeats 1000000 in
theorem empty_n (w : World) (b o : Nat) (s p f : Int) (r q : Bool) (s' p' f' : Int) (r' q' : Bool) (due : Int) (h : setAt w b o (X s p f r q) (X s' p' f' r' q') due) (m0 : (s == 0) = false) (m1 : (s' == 0) = false) : Calls Try.prog 74 #[.pointer (some ⟨b, o, none⟩)] w fun e w' => e = .returned (.tuple #[.int .i64 0, .bool false]) ∧ Below w.heap.size w w' := by
  obtain ⟨⟨c0, c1, c2, c3, c4⟩, ⟨c5, c6, c7, c8, c9⟩, c10⟩ := h
  have i0 := ix0 s p f r q s' p' f' r' q'
  have i1 := ix1 s p f r q s' p' f' r' q'
  go_enter Try.func74, Try.ntmps74
  go_wp2
  go_step3
  go_wp2
  go_step3
  go_wp2
  refine wp_loop_rounds 3 ?_
  rw [rounds_succ]; go_wp2
  rw [rounds_succ]; go_wp2
  rw [rounds_succ]; go_wp2
  rw [Exit.noGoto_ret]
  go_ret2
  exact ⟨rfl, by repeat (first | exact Below.refl _ _ | refine bal ?_ _)⟩
end Go.Proofs.Ytgfidbjhihignaa
