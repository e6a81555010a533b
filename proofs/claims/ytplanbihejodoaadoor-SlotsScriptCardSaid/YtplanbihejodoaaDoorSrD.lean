/- SlotsScript: its arguments; of any number of acts. -/
import Derived.Test.YtplanbihejodoaaDoorSrC
import Derived.Test.YtplanbihejodoaaDoorActs
namespace Go.Proofs.YtplanbihejodoaaDoor
set_option linter.unusedVariables false
set_option linter.unusedSimpArgs false
open Go.ChangeShapes Go.WideShapes Go.ChangeAt Go.RowKit Go.Shelf
open TabS

set_option maxRecDepth 100000 in
theorem open_s22 {H : Type} {enc : TypeId × Value → H} {W : World} {base : Nat} {v : Value} {d : DataW H} {ps : List MemPlace} (hval : Value.okWide Tryd.prog W .any base 22 v) (hd : DataW.Trod enc Tryd.prog W 0 (fun _ => true) true 22 v d ps) :
    ∃ p n c, v = .slice p n c ∧ n ≤ c ∧ c ≤ maxLen ∧ ∃ D, TabS.ActsAt W p n D := by
  obtain ⟨p, n, c, rfl, h1, h2, b, off, h3, h4⟩ := open_rows (C := 12) Tryd.underlying22 (by kernel_rfl) (by kernel_rfl) (by decide) hval hd
  refine ⟨p, n, c, rfl, h1, h2, fun k => ⟨intAt W b (off + (k * 12 + 0)), intAt W b (off + (k * 12 + 1)), intAt W b (off + (k * 12 + 2)), intAt W b (off + (k * 12 + 3)), ⟨intAt W b (off + (k * 12 + 4)), intAt W b (off + (k * 12 + 5)), intAt W b (off + (k * 12 + 6)), intAt W b (off + (k * 12 + 7)), intAt W b (off + (k * 12 + 8)), intAt W b (off + (k * 12 + 9)), intAt W b (off + (k * 12 + 10)), intAt W b (off + (k * 12 + 11))⟩⟩, b, off, h3, fun k hk => ?_⟩
  obtain ⟨c0, o0⟩ := h4 k hk 0 (.i .i64) (by kernel_rfl)
  obtain ⟨c1, o1⟩ := h4 k hk 1 (.i .i64) (by kernel_rfl)
  obtain ⟨c2, o2⟩ := h4 k hk 2 (.i .i64) (by kernel_rfl)
  obtain ⟨c3, o3⟩ := h4 k hk 3 (.i .i64) (by kernel_rfl)
  obtain ⟨c4, o4⟩ := h4 k hk 4 (.i .i64) (by kernel_rfl)
  obtain ⟨c5, o5⟩ := h4 k hk 5 (.i .i64) (by kernel_rfl)
  obtain ⟨c6, o6⟩ := h4 k hk 6 (.i .i64) (by kernel_rfl)
  obtain ⟨c7, o7⟩ := h4 k hk 7 (.i .u64) (by kernel_rfl)
  obtain ⟨c8, o8⟩ := h4 k hk 8 (.i .i64) (by kernel_rfl)
  obtain ⟨c9, o9⟩ := h4 k hk 9 (.i .i64) (by kernel_rfl)
  obtain ⟨c10, o10⟩ := h4 k hk 10 (.i .i64) (by kernel_rfl)
  obtain ⟨c11, o11⟩ := h4 k hk 11 (.i .i64) (by kernel_rfl)
  exact ⟨range_cons c0 (range_cons c1 (range_cons c2 (range_cons c3 (range_cons c4 (range_cons c5 (range_cons c6 (range_cons c7 (range_cons c8 (range_cons c9 (range_cons c10 (range_cons c11 (range_nil _ _ _)))))))))))), TabS.wf_S o0, TabS.wf_S o1, TabS.wf_S o2, TabS.wf_S o3, TabS.wf_S o8⟩
set_option maxRecDepth 100000 in
set_option maxHeartbeats 1000000 in
theorem walk_slotsScript {W : World} (q : Option Addr) (n c : Nat) (hx : n ≤ c ∧ c ≤ maxLen ∧ ∃ D, TabS.ActsAt W q n D) (hL : LaidV_laid_math_bits_deBruijn64tab W) :
    Calls Tryd.prog 3 #[.slice q n c] W fun e w' => e = .returned (.bool true) ∧ Below W.heap.size W w' := by
  obtain ⟨h1, h2, D, hD⟩ := hx
  unfold maxLen at h2
  by_cases hn : n ≤ 100
  · exact TabS.script_any q n c D W hn hD hL
  · have hn' : (n : Int) > 100 := by omega
    clear hD
    go_enter Tryd.func3, Tryd.ntmps3
    go_wp2_with (go_at_call 6; refine (SX.awake15 _).mono ?_; rintro e w3 ⟨rfl, hb3⟩)
    go_ret
    exact ⟨rfl, hb3⟩
end Go.Proofs.YtplanbihejodoaaDoor
