import Derived.Test.YtchjfeafkmpmbaaGreatDoorHeD
import Derived.Test.YtchjfeafkmpmbaaGreatDoorHeS
namespace Go.Proofs.YtchjfeafkmpmbaaGreatDoor
set_option linter.unusedVariables false
set_option linter.unusedSimpArgs false
set_option maxRecDepth 100000
set_option maxHeartbeats 8000000
open Lib (hid)
open Go.ChangeShapes Go.WideShapes Go.ChangeAt Go.RowKit Go.Shelf
theorem walk_holdCopies {W : World} (q : Option Addr) (n c : Nat) (hx : n ≤ c ∧ c ≤ maxLen ∧ ∃ D, HdS.Acts18 W q n D) (a1 : SlX) (w1 : a1.Ok) (a2 : SlX) (w2 : a2.Ok) (a3 : Int) (w3 : (Lit.int .i64 a3).wf = true) (a4 : Int) (w4 : (Lit.int .u64 a4).wf = true) (a5 : Bool) (hL : LaidV_laid_math_bits_deBruijn64tab W) :
  Calls Tryz.prog 5 #[.slice q n c, a1.val, a2.val, .int .i64 a3, .int .u64 a4, .bool a5] W fun e w' => e = .returned (.bool true) ∧ Below W.heap.size W w' := by
 obtain ⟨h1, h2, D, hD⟩ := hx
 unfold maxLen at h2
 have hu := HdS.wf_U w4
 have hae : a4 = ((a4.toNat : Nat) : Int) := (Int.toNat_of_nonneg hu.1).symm
 by_cases hn : n ≤ 60
 ·rw [hae]
  exact HdS.copies_any q n c D W a1.o a1.i a2.o a2.i a3 a4.toNat a5 hn hD hL w1.1 w1.2 w2.1 w2.2 hu.2
 ·have hn' : (n : Int) > 60 := by omega
  clear hD
  obtain ⟨o, i⟩ := a1
  obtain ⟨p, j⟩ := a2
  obtain ⟨hb0, hs0, ht0⟩ := HdS.duo_boxes W o i p j
  obtain ⟨w0, hw0⟩ : ∃ y, y = (W.alloc (slO o i)).alloc (slO p j) := ⟨_, rfl⟩
  rw [← hw0] at hb0
  have HAW := hid (HpS.awake18 w0 (CX.TabG.call (show CX.TabG W from hL) hb0))
  have HB0 := hid hb0
  have HW := hid hw0
  clear hb0 hs0 ht0 hw0 w1 w2 w3 w4 hu hae
  go_enter Tryz.func5, Tryz.ntmps5
  go_upto_region 1 with fail
  rw [show (W.alloc (slO o i)).alloc (slO p j) = w0 from HW.out.symm]
  go_wp2_with (go_at_call 8; (with_reducible refine HAW.out.mono ?_); rintro e w3 ⟨rfl, hb3⟩)
  go_ret
  exact ⟨rfl, bgo HB0.out hb3⟩
end Go.Proofs.YtchjfeafkmpmbaaGreatDoor
