import Derived.Test.YtchjfeafkmpmbaaGreatDoorHe7
namespace Go.Proofs.YtchjfeafkmpmbaaGreatDoor
set_option linter.unusedVariables false
set_option linter.unusedSimpArgs false
set_option maxRecDepth 100000
set_option maxHeartbeats 8000000
open Lib (hid)
open Go.ChangeShapes Go.WideShapes Go.ChangeAt Go.RowKit Go.Shelf
theorem walk_holdFinal {W : World} (q : Option Addr) (n c : Nat) (hx : n ≤ c ∧ c ≤ maxLen ∧ ∃ D, HdS.Acts18 W q n D) (hL : LaidV_laid_math_bits_deBruijn64tab W) :
  Calls Tryz.prog 7 #[.slice q n c] W fun e w' => e = .returned (.bool true) ∧ Below W.heap.size W w' := by
 obtain ⟨h1, h2, D, hD⟩ := hx
 unfold maxLen at h2
 by_cases hn : n ≤ 60
 ·exact HdS.final_any q n c D W hn hD hL
 ·have hn' : (n : Int) > 60 := by omega
  clear hD
  have HAW := hid (HpS.awake18 W hL)
  go_enter Tryz.func7, Tryz.ntmps7
  go_wp2_with (go_at_call 8; (with_reducible refine HAW.out.mono ?_); rintro e w3 ⟨rfl, hb3⟩)
  go_ret
  exact ⟨rfl, hb3⟩
end Go.Proofs.YtchjfeafkmpmbaaGreatDoor
