import Derived.Test.YtchjfeafkmpmbaaGreatDoorHe4
namespace Go.Proofs.YtchjfeafkmpmbaaGreatDoor
set_option linter.unusedVariables false
set_option linter.unusedSimpArgs false
set_option maxRecDepth 100000
set_option maxHeartbeats 8000000
open Lib (hid)
open Go.ChangeShapes Go.WideShapes Go.ChangeAt Go.RowKit Go.Shelf
structure SlX where
 o : Int
 i : Int
abbrev SlX.val (x : SlX) : Value := slV x.o x.i
def SlX.Ok (x : SlX) : Prop := InS x.o ∧ InS x.i
theorem open_t30 {W : World} {base : Nat} {v : Value} (hv : Value.okWide Tryz.prog W .any base 30 v) : ∃ x : SlX, v = x.val ∧ x.Ok := by
 obtain ⟨cs, rfl, hl, hc⟩ := agg_cells (ts := [3, 3]) Tryz.underlying30 (by kernel_rfl) (by kernel_rfl) hv
 obtain ⟨v0, e0, o0⟩ := hc 0 _ rfl
 obtain ⟨a, rfl, b0⟩ := cell_i64 Tryz.underlying3 o0
 obtain ⟨v1, e1, o1⟩ := hc 1 _ rfl
 obtain ⟨b, rfl, b1⟩ := cell_i64 Tryz.underlying3 o1
 match cs, hl with
 | [c0, c1], _ =>
  cases e0
  cases e1
  exact ⟨⟨a, b⟩, rfl, ⟨b0, b1⟩⟩
abbrev zval_t30 : Value := .agg #[.int .i64 0, .int .i64 0]
abbrev zdat_t30 {H : Type} : DataW H := .agg [.lit (.int .i64 0), .lit (.int .i64 0)]
theorem walk_holdMoves {W : World} (q : Option Addr) (n c : Nat) (hx : n ≤ c ∧ c ≤ maxLen ∧ ∃ D, HdS.Acts18 W q n D) (a1 : SlX) (w1 : a1.Ok) (a2 : SlX) (w2 : a2.Ok) (hL : LaidV_laid_math_bits_deBruijn64tab W) :
  Calls Tryz.prog 6 #[.slice q n c, a1.val, a2.val] W fun e w' => e = .returned (.bool true) ∧ Below W.heap.size W w' := by
 obtain ⟨h1, h2, D, hD⟩ := hx
 unfold maxLen at h2
 by_cases hn : n ≤ 60
 ·exact HdS.moves_any q n c D W a1.o a1.i a2.o a2.i hn hD hL w1.1 w1.2 w2.1 w2.2
 ·have hn' : (n : Int) > 60 := by omega
  clear hD
  obtain ⟨o, i⟩ := a1
  obtain ⟨p, j⟩ := a2
  obtain ⟨hb0, hs0, ht0⟩ := HdS.duo_boxes W o i p j
  obtain ⟨w0, hw0⟩ : ∃ y, y = (W.alloc (slO o i)).alloc (slO p j) := ⟨_, rfl⟩
  rw [← hw0] at hb0
  have HAW := hid (HpS.awake18 w0 (CX.TabG.call (show CX.TabG W from hL) hb0))
  have HB0 := hid hb0
  have HW := hid hw0
  clear hb0 hs0 ht0 hw0 w1 w2
  go_enter Tryz.func6, Tryz.ntmps6
  go_upto_region 1 with fail
  rw [show (W.alloc (slO o i)).alloc (slO p j) = w0 from HW.out.symm]
  go_wp2_with (go_at_call 8; (with_reducible refine HAW.out.mono ?_); rintro e w3 ⟨rfl, hb3⟩)
  go_ret
  exact ⟨rfl, bgo HB0.out hb3⟩
end Go.Proofs.YtchjfeafkmpmbaaGreatDoor
