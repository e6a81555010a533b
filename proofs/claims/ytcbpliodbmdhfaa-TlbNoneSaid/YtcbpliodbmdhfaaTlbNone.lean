/- The law TlbNone. -/
import Derived.Test.YtcbpliodbmdhfaaTlbW
import Derived.Test.YtcbpliodbmdhfaaCells
namespace Go.Proofs.Ytcbpliodbmdhfaa
set_option linter.unusedVariables false
set_option linter.unusedSimpArgs false
open Go.ChangeShapes Go.WideShapes Go.ChangeAt Go.RowKit

abbrev TransX.val (x : TransX) : Value := .agg #[.int .i64 x.s, .int .i64 x.p, .int .i64 x.f, .bool x.r, .bool x.w]
def TransX.Ok (x : TransX) : Prop := (-9223372036854775808 ≤ x.s ∧ x.s ≤ 9223372036854775807) ∧ (-9223372036854775808 ≤ x.p ∧ x.p ≤ 9223372036854775807) ∧ (-9223372036854775808 ≤ x.f ∧ x.f ≤ 9223372036854775807)
set_option maxRecDepth 100000 in
theorem open_t23 {W : World} {base : Nat} {v : Value} (hv : Value.okWide Try.prog W .any base 23 v) : ∃ x : TransX, v = x.val ∧ x.Ok := by
  obtain ⟨cs, rfl, hl, hc⟩ := agg_cells (ts := [3, 3, 3, 4, 4]) Try.underlying23 (by kernel_rfl) (by kernel_rfl) hv
  obtain ⟨v0, e0, o0⟩ := hc 0 _ rfl
  obtain ⟨a, rfl, b0⟩ := cell_i64 Try.underlying3 o0
  obtain ⟨v1, e1, o1⟩ := hc 1 _ rfl
  obtain ⟨b, rfl, b1⟩ := cell_i64 Try.underlying3 o1
  obtain ⟨v2, e2, o2⟩ := hc 2 _ rfl
  obtain ⟨c, rfl, b2⟩ := cell_i64 Try.underlying3 o2
  obtain ⟨v3, e3, o3⟩ := hc 3 _ rfl
  obtain ⟨d, rfl⟩ := cell_bool Try.underlying4 o3
  obtain ⟨v4, e4, o4⟩ := hc 4 _ rfl
  obtain ⟨e, rfl⟩ := cell_bool Try.underlying4 o4
  match cs, hl with
  | [c0, c1, c2, c3, c4], _ =>
    cases e0
    cases e1
    cases e2
    cases e3
    cases e4
    exact ⟨⟨a, b, c, d, e⟩, rfl, ⟨b0, b1, b2⟩⟩
abbrev zval_t23 : Value := .agg #[.int .i64 0, .int .i64 0, .int .i64 0, .bool false, .bool false]
abbrev zdat_t23 {H : Type} : DataW H := .agg [.lit (.int .i64 0), .lit (.int .i64 0), .lit (.int .i64 0), .lit (.bool false), .lit (.bool false)]
theorem tfind_nil (a c : Int) (w : World) : Calls Try.prog 12 #[.pointer none, .int .i64 a, .int .i64 c] w fun e w' => e = .returned (.tuple #[trV 0 0 0 false false, .bool false]) ∧ Below w.heap.size w w' := by
  go_enter Try.func12, Try.ntmps12
  go_wp2
  exact bodyPost_ret (v := .tuple #[trV 0 0 0 false false, .bool false]) (by simp [results, Try.results12, go_sem]) rfl ⟨rfl, bal (Below.refl _ _) _⟩
set_option maxRecDepth 100000 in
set_option maxHeartbeats 2000000 in
theorem walk_tlbNone (a0 : TransX) (w0 : a0.Ok) (a1 : Int) (w1 : (Lit.int .i64 a1).wf = true) (a2 : Int) (w2 : (Lit.int .i64 a2).wf = true) (W : World) :
    Calls Try.prog 3 #[a0.val, .int .i64 a1, .int .i64 a2] W fun e w' => e = .returned (.bool true) ∧ Below W.heap.size W w' := by
  obtain ⟨s, p, f, r, q⟩ := a0
  clear w0 w1 w2
  go_enter Try.func3, Try.ntmps3
  go_wp2_with (first
    | (go_at_call 12; refine (tfind_nil _ _ _).mono ?_; rintro e w4 ⟨rfl, hb4⟩; obtain ⟨hc4, hf4⟩ := bcell hb4; have hz4 : W.heap.size < w4.heap.size := (by have := hb4.size; simp at this; omega))
    | (go_at_call 86; refine (drop_any _ _ _).mono ?_; rintro e w1 ⟨rfl, hb1⟩; obtain ⟨hc1, hf1⟩ := bcell hb1)
    | (go_at_call 18; refine (all_any _).mono ?_; rintro e w2 ⟨rfl, hb2⟩; obtain ⟨hc2, hf2⟩ := bcell hb2)
    | (go_at_call 19; refine (awake6 _).mono ?_; rintro e w3 ⟨rfl, hb3⟩)
    | go_in)
  go_ret
  exact ⟨rfl, (by repeat (first | with_reducible exact Below.refl _ _ | with_reducible assumption | with_reducible refine below_drewN ?_ _ | with_reducible refine Below.drew ?_ | with_reducible refine bal ?_ _ | with_reducible refine bgo ?_ (by with_reducible assumption) | refine Below.setCell ?_ (by first | exact Nat.le_refl _ | (simp; done) | (simp; omega)) _))⟩
end Go.Proofs.Ytcbpliodbmdhfaa
