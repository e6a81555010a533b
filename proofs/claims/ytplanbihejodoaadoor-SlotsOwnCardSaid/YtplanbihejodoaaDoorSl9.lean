/- SlotsOwn: its arguments; of any number of acts. -/
import Derived.Test.YtplanbihejodoaaDoorSl8
namespace Go.Proofs.YtplanbihejodoaaDoor
set_option linter.unusedVariables false
set_option linter.unusedSimpArgs false
open Go.ChangeShapes Go.WideShapes Go.ChangeAt Go.RowKit Go.Shelf
open TabS

set_option maxRecDepth 100000 in
theorem open_s22 {H : Type} {enc : TypeId × Value → H} {W : World} {base : Nat} {v : Value} {d : DataW H} {ps : List MemPlace} (hval : Value.okWide Tryd.prog W .any base 22 v) (hd : DataW.Trod enc Tryd.prog W 0 (fun _ => true) true 22 v d ps) :
    ∃ p n c, v = .slice p n c ∧ n ≤ c ∧ c ≤ maxLen ∧ ∃ D, TabS.ActsAt W p n D := by
  obtain ⟨p, n, c, rfl, h1, h2, b, off, h3, h4⟩ := open_rows (C := 12) Tryd.underlying22 (by kernel_rfl) (by kernel_rfl) (by decide) hval hd
  refine ⟨p, n, c, rfl, h1, h2, fun k => ⟨intAt W b (off + (k * 12 + 0)), intAt W b (off + (k * 12 + 1)), intAt W b (off + (k * 12 + 2)), intAt W b (off + (k * 12 + 3)), ⟨intAt W b (off + (k * 12 + 4)), intAt W b (off + (k * 12 + 5)), intAt W b (off + (k * 12 + 6)), intAt W b (off + (k * 12 + 7)), intAt W b (off + (k * 12 + 8)), intAt W b (off + (k * 12 + 9)), intAt W b (off + (k * 12 + 10)), intAt W b (off + (k * 12 + 11))⟩⟩, b, off, h3, fun k hk => ?_⟩
  obtain ⟨c0, o0⟩ := h4 k hk 0 (.i .i64) (by kernel_rfl)
  obtain ⟨c1, o1⟩ := h4 k hk 1 (.i .i64) (by kernel_rfl)
  obtain ⟨c2, o2⟩ := h4 k hk 2 (.i .i64) (by kernel_rfl)
  obtain ⟨c3, o3⟩ := h4 k hk 3 (.i .i64) (by kernel_rfl)
  obtain ⟨c4, o4⟩ := h4 k hk 4 (.i .i64) (by kernel_rfl)
  obtain ⟨c5, o5⟩ := h4 k hk 5 (.i .i64) (by kernel_rfl)
  obtain ⟨c6, o6⟩ := h4 k hk 6 (.i .i64) (by kernel_rfl)
  obtain ⟨c7, o7⟩ := h4 k hk 7 (.i .u64) (by kernel_rfl)
  obtain ⟨c8, o8⟩ := h4 k hk 8 (.i .i64) (by kernel_rfl)
  obtain ⟨c9, o9⟩ := h4 k hk 9 (.i .i64) (by kernel_rfl)
  obtain ⟨c10, o10⟩ := h4 k hk 10 (.i .i64) (by kernel_rfl)
  obtain ⟨c11, o11⟩ := h4 k hk 11 (.i .i64) (by kernel_rfl)
  exact ⟨range_cons c0 (range_cons c1 (range_cons c2 (range_cons c3 (range_cons c4 (range_cons c5 (range_cons c6 (range_cons c7 (range_cons c8 (range_cons c9 (range_cons c10 (range_cons c11 (range_nil _ _ _)))))))))))), TabS.wf_S o0, TabS.wf_S o1, TabS.wf_S o2, TabS.wf_S o3, TabS.wf_S o8⟩
structure SlX where
  s : Int
  i : Int
abbrev SlX.val (x : SlX) : Value := .agg #[.int .i64 x.s, .int .i64 x.i]
set_option maxRecDepth 100000 in
theorem open_t31 {W : World} {base : Nat} {v : Value} (hv : Value.okWide Tryd.prog W .any base 31 v) : ∃ x : SlX, v = x.val ∧ (TabS.InS x.s ∧ TabS.InS x.i) := by
  obtain ⟨cs, rfl, hl, hc⟩ := agg_cells (ts := [3, 3]) Tryd.underlying31 (by kernel_rfl) (by kernel_rfl) hv
  obtain ⟨v0, e0, o0⟩ := hc 0 _ rfl
  obtain ⟨a, rfl, b0⟩ := cell_i64 Tryd.underlying3 o0
  obtain ⟨v1, e1, o1⟩ := hc 1 _ rfl
  obtain ⟨b, rfl, b1⟩ := cell_i64 Tryd.underlying3 o1
  match cs, hl with
  | [x0, x1], _ =>
    cases e0
    cases e1
    exact ⟨⟨a, b⟩, rfl, b0, b1⟩
abbrev zval_t31 : Value := .agg #[.int .i64 0, .int .i64 0]
abbrev zdat_t31 {H : Type} : DataW H := .agg [.lit (.int .i64 0), .lit (.int .i64 0)]
set_option maxRecDepth 100000 in
theorem open_t34 {W : World} {base : Nat} {v : Value} (hv : Value.okWide Tryd.prog W .any base 34 v) : ∃ x : TabS.Cp, v = x.V ∧ TabS.InS x.e := by
  obtain ⟨cs, rfl, hl, hc⟩ := agg_cells (ts := [3, 3, 3, 32, 3, 3, 3, 3]) Tryd.underlying34 (by kernel_rfl) (by kernel_rfl) hv
  obtain ⟨v0, e0, o0⟩ := hc 0 _ rfl
  obtain ⟨a, rfl, b0⟩ := cell_i64 Tryd.underlying3 o0
  obtain ⟨v1, e1, o1⟩ := hc 1 _ rfl
  obtain ⟨b, rfl, b1⟩ := cell_i64 Tryd.underlying3 o1
  obtain ⟨v2, e2, o2⟩ := hc 2 _ rfl
  obtain ⟨c, rfl, b2⟩ := cell_i64 Tryd.underlying3 o2
  obtain ⟨v3, e3, o3⟩ := hc 3 _ rfl
  obtain ⟨d, rfl, b3⟩ := cell_u64 Tryd.underlying32 o3
  obtain ⟨v4, e4, o4⟩ := hc 4 _ rfl
  obtain ⟨e, rfl, b4⟩ := cell_i64 Tryd.underlying3 o4
  obtain ⟨v5, e5, o5⟩ := hc 5 _ rfl
  obtain ⟨f, rfl, b5⟩ := cell_i64 Tryd.underlying3 o5
  obtain ⟨v6, e6, o6⟩ := hc 6 _ rfl
  obtain ⟨g, rfl, b6⟩ := cell_i64 Tryd.underlying3 o6
  obtain ⟨v7, e7, o7⟩ := hc 7 _ rfl
  obtain ⟨h, rfl, b7⟩ := cell_i64 Tryd.underlying3 o7
  match cs, hl with
  | [x0, x1, x2, x3, x4, x5, x6, x7], _ =>
    cases e0
    cases e1
    cases e2
    cases e3
    cases e4
    cases e5
    cases e6
    cases e7
    exact ⟨⟨a, b, c, d, e, f, g, h⟩, rfl, b4⟩
abbrev zval_t34 : Value := .agg #[.int .i64 0, .int .i64 0, .int .i64 0, .int .u64 0, .int .i64 0, .int .i64 0, .int .i64 0, .int .i64 0]
abbrev zdat_t34 {H : Type} : DataW H := .agg [.lit (.int .i64 0), .lit (.int .i64 0), .lit (.int .i64 0), .lit (.int .u64 0), .lit (.int .i64 0), .lit (.int .i64 0), .lit (.int .i64 0), .lit (.int .i64 0)]
set_option maxRecDepth 100000 in
set_option maxHeartbeats 1000000 in
theorem walk_slotsOwn {W : World} (q : Option Addr) (n c : Nat) (hx : n ≤ c ∧ c ≤ maxLen ∧ ∃ D, TabS.ActsAt W q n D) (a1 : SlX) (w1 : TabS.InS a1.s ∧ TabS.InS a1.i) (a2 : TabS.Cp) (w2 : TabS.InS a2.e) (hL : LaidV_laid_math_bits_deBruijn64tab W) :
    Calls Tryd.prog 4 #[.slice q n c, a1.val, a2.V] W fun e w' => e = .returned (.bool true) ∧ Below W.heap.size W w' := by
  obtain ⟨h1, h2, D, hD⟩ := hx
  unfold maxLen at h2
  by_cases hn : n ≤ 60
  · exact TabS.own_any q n c D a1.s a1.i a2 W hn hD hL w1.1 w1.2 w2
  · have hn' : (n : Int) > 60 := by omega
    clear hD
    obtain ⟨s, i⟩ := a1
    go_enter Tryd.func4, Tryd.ntmps4
    go_wp2_with (go_at_call 6; refine (SX.awake15 _).mono ?_; rintro e w3 ⟨rfl, hb3⟩)
    go_ret
    exact ⟨rfl, bgo (bal (bal (Below.refl _ _) _) _) hb3⟩
end Go.Proofs.YtplanbihejodoaaDoor
