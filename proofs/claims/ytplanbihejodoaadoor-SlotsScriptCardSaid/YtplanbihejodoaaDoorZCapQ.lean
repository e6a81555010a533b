/- Chapter 13's own May at nodes, frames, endpoints and at what is no kind. -/
import Derived.Test.YtplanbihejodoaaDoorZCapP
import Derived.RegionTactic
import Derived.Deep.QuietTactic
import Derived.BigQuiet
import Derived.Lib.Hide
namespace Go.Proofs.YtplanbihejodoaaDoor
namespace CX
set_option linter.unusedVariables false
open Go.ChangeShapes Go.WideShapes Go.ChangeAt Go.RowKit

theorem same_q {P : Program} {f : FuncId} {args : Array Value} {w : World} {v : Value} (h : Calls P f args w fun e w' => e = .returned v ∧ w = w') : Calls P f args w fun e w' => e = .returned v ∧ w' = w := h.mono fun _ _ ⟨a, b⟩ => ⟨a, b.symm⟩
theorem obj13_is (b : Int) {v : Bool} (h : objB b = v) (W : World) : Calls Tryd.prog 42 #[.int .i64 b] W fun x W' => x = .returned (.bool v) ∧ W = W' := h ▸ obj13_any b W
theorem two_caps {W w2 : World} {T : TypeId} {a b c d e f g h a' b' c' d' e' f' g' h' : Int} (hw : w2 = ((W.alloc (Obj.cells #[Value.int .i64 a, Value.int .i64 b, Value.int .i64 c, Value.int .u64 d, Value.int .i64 e, Value.int .i64 f, Value.int .i64 g, Value.int .i64 h] T)).alloc (Obj.cells #[Value.int .i64 a', Value.int .i64 b', Value.int .i64 c', Value.int .u64 d', Value.int .i64 e', Value.int .i64 f', Value.int .i64 g', Value.int .i64 h'] T)).drew) :
    (w2.cell? ⟨W.heap.size, 0, none⟩ = some (.int .i64 a) ∧ w2.cell? ⟨W.heap.size, 1, none⟩ = some (.int .i64 b) ∧ w2.cell? ⟨W.heap.size, 2, none⟩ = some (.int .i64 c) ∧ w2.cell? ⟨W.heap.size, 3, none⟩ = some (.int .u64 d) ∧ w2.cell? ⟨W.heap.size, 4, none⟩ = some (.int .i64 e) ∧ w2.cell? ⟨W.heap.size, 5, none⟩ = some (.int .i64 f) ∧ w2.cell? ⟨W.heap.size, 6, none⟩ = some (.int .i64 g) ∧ w2.cell? ⟨W.heap.size, 7, none⟩ = some (.int .i64 h)) ∧
    (w2.cell? ⟨W.heap.size + 1, 0, none⟩ = some (.int .i64 a') ∧ w2.cell? ⟨W.heap.size + 1, 1, none⟩ = some (.int .i64 b') ∧ w2.cell? ⟨W.heap.size + 1, 2, none⟩ = some (.int .i64 c') ∧ w2.cell? ⟨W.heap.size + 1, 3, none⟩ = some (.int .u64 d') ∧ w2.cell? ⟨W.heap.size + 1, 4, none⟩ = some (.int .i64 e') ∧ w2.cell? ⟨W.heap.size + 1, 5, none⟩ = some (.int .i64 f') ∧ w2.cell? ⟨W.heap.size + 1, 6, none⟩ = some (.int .i64 g') ∧ w2.cell? ⟨W.heap.size + 1, 7, none⟩ = some (.int .i64 h')) ∧ Below W.heap.size W w2 := by
  subst hw
  refine ⟨⟨?_, ?_, ?_, ?_, ?_, ?_, ?_, ?_⟩, ⟨?_, ?_, ?_, ?_, ?_, ?_, ?_, ?_⟩, (bal (bal (Below.refl _ _) _) _).drew⟩
  all_goals simp
set_option maxRecDepth 100000 in
set_option maxHeartbeats 1000000 in
theorem refMay13_node0 (b c d e f g h : Int) (W : World) (hn : objB b = false ∨ (objB b = true ∧ c ≠ 0) ∨ (objB b = true ∧ c = 0 ∧ d ≠ 0) ∨ (objB b = true ∧ c = 0 ∧ d = 0 ∧ g ≠ 0) ∨ (objB b = true ∧ c = 0 ∧ d = 0 ∧ g = 0 ∧ h ≠ 0) ∨ (objB b = true ∧ c = 0 ∧ d = 0 ∧ g = 0 ∧ h = 0 ∧ f < 0) ∨
    (objB b = true ∧ c = 0 ∧ d = 0 ∧ g = 0 ∧ h = 0 ∧ 0 ≤ f ∧ 12 < f) ∨ (objB b = true ∧ c = 0 ∧ d = 0 ∧ g = 0 ∧ h = 0 ∧ 0 ≤ f ∧ f ≤ 12 ∧ e < 0)) : Calls Tryd.prog 32 #[capV 2 b c d e f g h] W fun x W' => x = .returned (.bool (capB 2 b c d e f g h)) ∧ Below W.heap.size W W' := by
  have hk : capB 2 b c d e f g h = false := by
    unfold capB guardB
    simp only [Bool.and_eq_false_iff, decide_eq_false_iff_not, Int.reduceEq, or_self, if_false, if_true]
    rcases hn with hn | ⟨hn, h1⟩ | ⟨hn, h1, h2⟩ | ⟨hn, h1, h2, h3⟩ | ⟨hn, h1, h2, h3, h4⟩ | ⟨hn, h1, h2, h3, h4, h5⟩ | ⟨hn, h1, h2, h3, h4, h5, h6⟩ | ⟨hn, h1, h2, h3, h4, h5, h6, h7⟩
    · exact .inl (.inl hn)
    all_goals first
      | exact .inr (by omega)
      | exact .inl (.inr (by omega))
  rw [hk]
  clear hk
  have HN := Lib.hid hn
  clear hn
  go_enter Tryd.func32, Tryd.ntmps32
  go_wp2
  go_region
  go_wp2
  obtain ⟨w2, hw2⟩ : ∃ x, x = ((W.alloc (Obj.cells #[Value.int .i64 2, Value.int .i64 b, Value.int .i64 c, Value.int .u64 d, Value.int .i64 e, Value.int .i64 f, Value.int .i64 g, Value.int .i64 h] 34)).alloc (Obj.cells #[Value.int .i64 2, Value.int .i64 b, Value.int .i64 0, Value.int .u64 0, Value.int .i64 e, Value.int .i64 f, Value.int .i64 0, Value.int .i64 0] 34)).drew := ⟨_, rfl⟩
  rw [← hw2]
  obtain ⟨⟨p0, p1, p2, p3, p4, p5, p6, p7⟩, ⟨q0, q1, q2, q3, q4, q5, q6, q7⟩, hb2⟩ := two_caps hw2
  clear hw2
  have hn := HN.out
  clear HN
  rcases hn with hn | ⟨hn, h1⟩ | ⟨hn, rfl, h2⟩ | ⟨hn, rfl, rfl, h3⟩ | ⟨hn, rfl, rfl, rfl, h4⟩ | ⟨hn, rfl, rfl, rfl, rfl, h5⟩ | ⟨hn, rfl, rfl, rfl, rfl, h5, h6⟩ | ⟨hn, rfl, rfl, rfl, rfl, h5, h6, h7⟩
  all_goals first | (have k1 : decide (0 ≤ f) = false := decide_eq_false (by omega)) | (have k1 : decide (f ≤ 12) = false := decide_eq_false (by omega)) | (have k1 : decide (0 ≤ e) = false := decide_eq_false (by omega)) | skip
  all_goals
    have HN := Lib.hid hn
    clear hn
    go_quiet ((go_at_call 42; exact Calls.quiet_of_same (same_q (obj13_is _ HN.out _))))
    all_goals
      go_wp2
      go_ret
      exact ⟨rfl, (by repeat (first | exact Below.refl _ _ | assumption | refine below_drewN ?_ _ | refine Below.drew ?_ | refine Below.setCell ?_ (by first | exact Nat.le_refl _ | (simp; done) | (simp; omega)) _ | refine bal ?_ _ | refine bgo ?_ (by assumption)))⟩
set_option maxRecDepth 100000 in
set_option maxHeartbeats 1000000 in
theorem refMay13_node1 (b e : Int) (f : Nat) (W : World) (hb : objB b = true) (hf : f ≤ 12) (he : 0 ≤ e) : Calls Tryd.prog 32 #[capV 2 b 0 0 e f 0 0] W fun x W' => x = .returned (.bool (capB 2 b 0 0 e f 0 0)) ∧ Below W.heap.size W W' := by
  have f0 : (0 : Int) ≤ f := by omega
  have f1 : (f : Int) ≤ 12 := by omega
  have hk : capB 2 b 0 0 e f 0 0 = decide (e < ((2 ^ f : Nat) : Int)) := by
    rw [Bool.eq_iff_iff]
    simp only [capB, guardB, hb, Int.reduceEq, or_self, if_false, if_true, and_self, decide_true, Bool.and_true, Bool.true_and, decide_eq_true_eq, Int.toNat_natCast]
    exact ⟨fun h => h.2.2.2, fun h => ⟨f0, f1, he, h⟩⟩
  rw [hk]
  have HN := Lib.hid hb
  clear hb hk
  go_enter Tryd.func32, Tryd.ntmps32
  go_wp2
  go_region
  go_wp2
  obtain ⟨w2, hw2⟩ : ∃ x, x = ((W.alloc (Obj.cells #[Value.int .i64 2, Value.int .i64 b, Value.int .i64 0, Value.int .u64 0, Value.int .i64 e, Value.int .i64 f, Value.int .i64 0, Value.int .i64 0] 34)).alloc (Obj.cells #[Value.int .i64 2, Value.int .i64 b, Value.int .i64 0, Value.int .u64 0, Value.int .i64 e, Value.int .i64 f, Value.int .i64 0, Value.int .i64 0] 34)).drew := ⟨_, rfl⟩
  rw [← hw2]
  obtain ⟨⟨p0, p1, p2, p3, p4, p5, p6, p7⟩, ⟨q0, q1, q2, q3, q4, q5, q6, q7⟩, hb2⟩ := two_caps hw2
  clear hw2
  go_quiet ((first | (go_at_call 42; exact Calls.quiet_of_same (same_q (obj13_is _ HN.out _))) | (go_at_call 43; exact Calls.quiet_of_same (same_q (power_any f _ hf)))))
  all_goals
    go_wp2
    go_ret
    exact ⟨rfl, (by repeat (first | exact Below.refl _ _ | assumption | refine below_drewN ?_ _ | refine Below.drew ?_ | refine Below.setCell ?_ (by first | exact Nat.le_refl _ | (simp; done) | (simp; omega)) _ | refine bal ?_ _ | refine bgo ?_ (by assumption)))⟩
end CX
end Go.Proofs.YtplanbihejodoaaDoor
