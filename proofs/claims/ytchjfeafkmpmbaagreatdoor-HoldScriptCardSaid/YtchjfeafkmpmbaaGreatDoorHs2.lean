import Derived.Test.YtchjfeafkmpmbaaGreatDoorHe0
import Derived.Test.YtchjfeafkmpmbaaGreatDoorHs1
import Derived.Deep.QuietTactic
import Derived.BigQuiet
namespace Go.Proofs.YtchjfeafkmpmbaaGreatDoor
set_option linter.unusedVariables false
set_option linter.unusedSimpArgs false
set_option maxRecDepth 100000
set_option maxHeartbeats 8000000
open Lib (hid)
open Go.ChangeShapes Go.WideShapes Go.ChangeAt Go.RowKit Go.Shelf
namespace HdS
open TabS (Cp Sn zC mayC sizS getR getN SameS rowsS heldA hdsC heldL)
variable {W w w' : World} {s : Sh} {hb rhb n n' t : Nat} {L M : List Sn} {l : List Nod}
theorem script_any (q : Option Addr) (n c : Nat) (D : Nat → A18) (W : World) (hn : n ≤ 100) (hD : Acts18 W q n D) (hT0 : CX.TabG W) :
  Calls Tryz.prog 3 #[.slice q n c] W fun e w' => e = .returned (.bool true) ∧ Below W.heap.size W w' := by
 have HD := hid hD
 have HT := hid hT0
 have hn' : ¬ (n : Int) > 100 := by omega
 have HN := hid hn
 clear hD hT0 hn
 go_enter Tryz.func3, Tryz.ntmps3
 go_wp2_with (go_at_call 9; (with_reducible refine (start18 W HT.out).mono ?_); rintro e w1 ⟨s, hb, rhb, rfl, hS⟩; have HS := hid hS; clear hS)
 go_loopw [5] (fun i wr => ∃ t : Nat, t ≤ n ∧ i = .int .i64 t ∧ Hid (HSt W s hb rhb (3 + t) (fun _ => False) wr)) (fun i _ => n - (intOf i).toNat)
 case atStart => exact ⟨0, Nat.zero_le _, rfl, HS⟩
 case round =>
  obtain ⟨t, ht, rfl, HO⟩ := hrel
  clear HS
  by_cases hlt : t < n
  ·have hltI : (t : Int) < n := by omega
   obtain ⟨aB, aO, hq, hcs⟩ := HD.out
   obtain ⟨rfl, hal⟩ := hq (by omega)
   obtain ⟨hrow, hok⟩ := hcs t hlt
   have hbl := HO.out.below
   have HCL : Hid (∀ v, Below W.heap.size W v → ∀ j y, (D t).row[j]? = some y → v.cell? ⟨aB, aO + t * 15 + j, none⟩ = some y) := hid (fun v hv j y hj => (hv.cell (p := ⟨aB, _, none⟩) hal).trans (hrow j y hj))
   generalize D t = x at *
   have c0 := HCL.out _ hbl 0 _ rfl
   rw [Nat.add_zero] at c0
   have c1 := HCL.out _ hbl 1 _ rfl
   have c2 := HCL.out _ hbl 2 _ rfl
   have c3 := HCL.out _ hbl 3 _ rfl
   have c4 := HCL.out _ hbl 4 _ rfl
   have c5 := HCL.out _ hbl 5 _ rfl
   have c6 := HCL.out _ hbl 6 _ rfl
   have c7 := HCL.out _ hbl 7 _ rfl
   have c8 := HCL.out _ hbl 8 _ rfl
   have c9 := HCL.out _ hbl 9 _ rfl
   have c10 := HCL.out _ hbl 10 _ rfl
   have c11 := HCL.out _ hbl 11 _ rfl
   have c12 := HCL.out _ hbl 12 _ rfl
   have c13 := HCL.out _ hbl 13 _ rfl
   have c14 := HCL.out _ hbl 14 _ rfl
   have HNn := HN.out
   have HC := hid (done_any HT.out (by omega) HO.out x hok)
   have HK := hid hok
   have HLE : Hid (3 + t + 1 ≤ 110) := hid (by omega)
   clear hq hcs hrow hok hal hbl HNn
   go_wp2_with (first
    | (go_at_call 10; (with_reducible refine HC.out.mono ?_); rintro e w2 ⟨rfl, h2, -⟩; have H2 := hid h2; clear h2 c0 c1 c2 c3 c4 c5 c6 c7 c8 c9 c10 c11 c12 c13 c14; have c1 := HCL.out _ H2.out.below 1 _ rfl; have c2 := HCL.out _ H2.out.below 2 _ rfl; have HA2 := hid (alike18 HT.out HLE.out H2.out x.o x.i HK.out.1 HK.out.2.1))
    | (go_at_call 11; (with_reducible refine HA2.out.mono ?_); rintro e w3 ⟨rfl, hb3⟩; have H3 := hid (H2.out.call hb3); clear hb3 c1 c2 HA2; have c3 := HCL.out _ H3.out.below 3 _ rfl; have c4 := HCL.out _ H3.out.below 4 _ rfl; have HA3 := hid (alike18 HT.out HLE.out H3.out x.p x.j HK.out.2.2.1 HK.out.2.2.2.1))
    | (go_at_call 11; (with_reducible refine HA3.out.mono ?_); rintro e w4 ⟨rfl, hb4⟩; have H4 := hid (H3.out.call hb4); clear hb4))
   go_roundw
   case rel => exact ⟨t + 1, by omega, by go_num, hid (H4.out)⟩
   case measure => first | (simp [intOf]; done) | (simp [intOf]; omega)
  ·obtain rfl : t = n := by omega
   have HAW := hid (HpS.awake18 wr (HT.out.call HO.out.below))
   have HB := hid HO.out.below
   go_wp2_with (go_at_call 8; (with_reducible refine HAW.out.mono ?_); rintro e w6 ⟨rfl, hb6⟩)
   go_ret
   exact ⟨rfl, bgo HB.out hb6⟩
end HdS
theorem walk_holdScript {W : World} (q : Option Addr) (n c : Nat) (hx : n ≤ c ∧ c ≤ maxLen ∧ ∃ D, HdS.Acts18 W q n D) (hL : LaidV_laid_math_bits_deBruijn64tab W) :
  Calls Tryz.prog 3 #[.slice q n c] W fun e w' => e = .returned (.bool true) ∧ Below W.heap.size W w' := by
 obtain ⟨h1, h2, D, hD⟩ := hx
 unfold maxLen at h2
 by_cases hn : n ≤ 100
 ·exact HdS.script_any q n c D W hn hD hL
 ·have hn' : (n : Int) > 100 := by omega
  clear hD
  have HAW := hid (HpS.awake18 W hL)
  go_enter Tryz.func3, Tryz.ntmps3
  go_wp2_with (go_at_call 8; (with_reducible refine HAW.out.mono ?_); rintro e w3 ⟨rfl, hb3⟩)
  go_ret
  exact ⟨rfl, hb3⟩
end Go.Proofs.YtchjfeafkmpmbaaGreatDoor
