/- Chapter 13's law: what every program answers that is one. -/
import Derived.Test.YtoepbcaldlgnjaaDoorCapI
import Derived.Test.YtoepbcaldlgnjaaDoorCapA
namespace Go.Proofs.YtoepbcaldlgnjaaDoor
set_option linter.unusedVariables false
set_option linter.unusedSimpArgs false
open Go.ChangeShapes Go.WideShapes Go.ChangeAt Go.RowKit Go.Shelf

theorem dec01 : decB 0 1 = false := by decide +kernel
theorem cap321 : capB 3 2 1 0 0 0 3 5 = true := by decide +kernel
theorem eqN_self (n : Nat) (X : Nat → Int) : eqN n X X = true := eqN_yes fun _ _ => rfl
/-- A block of two words. -/
def Row2 (w : World) (G : Nat) (x y : Int) : Prop := w.heap[G]? = some (.cells #[.int .u64 x, .int .u64 y] 22 (0, 0))
theorem Row2.lt {w : World} {G : Nat} {x y : Int} (h : Row2 w G x y) : G < w.heap.size := (Array.getElem?_eq_some_iff.1 h).1
theorem Row2.go {w w' : World} {G : Nat} {x y : Int} (h : Row2 w G x y) (k : Below w.heap.size w w') : Row2 w' G x y := (k.block G h.lt).trans h
theorem Row2.cells {w : World} {G : Nat} {x y : Int} (h : Row2 w G x y) : ∀ j, j < 2 → w.cell? ⟨G, j, none⟩ = some (.int .u64 (if j = 0 then x else y)) := two_cells h
theorem Row2.cells0 {w : World} {G : Nat} {x y : Int} (h : Row2 w G x y) : ∀ j, j < 2 → w.cell? ⟨G, 0 + j, none⟩ = some (.int .u64 (if j = 0 then x else y)) := fun j hj => by rw [Nat.zero_add]; exact two_cells h j hj
theorem row2_new (w : World) (x y : Int) : Row2 (w.alloc (.cells #[.int .u64 x, .int .u64 y] 22)) w.heap.size x y := World.alloc_heap_new w _
theorem row2_new2 (w : World) (o : Obj) (x y : Int) : Row2 ((w.alloc o).alloc (.cells #[.int .u64 x, .int .u64 y] 22)) (w.heap.size + 1) x y := alloc2_second w o _
theorem encA321 : encA 3 2 1 3 5 = 3298618769939 := by decide +kernel
theorem encB0 : encB 0 0 0 = 0 := by decide +kernel
theorem TabG.go {w w' : World} (h : TabG w) (k : Below w.heap.size w w') : TabG w' := h.call k
set_option maxHeartbeats 2000000 in
theorem awake13 (W : World) (hT : TabG W) (hL : LaidV_laid_seisin_cap_layout W) : Calls Tryd.prog 14 #[] W fun e w' => e = .returned (.bool true) ∧ Below W.heap.size W w' := by
  have HT := Lib.hid hT
  have HL := Lib.hid hL
  clear hT hL
  go_enter Tryd.func14, Tryd.ntmps14
  go_wp2_with (first
    | (go_at_call 7; refine (encode_yes 3 2 1 0 0 0 3 5 _ HT.out HL.out (by decide) cap321).mono ?_; rintro r w2 ⟨G2, rfl, hG2, hr2, hb2⟩; have HB2 := Lib.hid hb2; rw [encA321, encB0] at hr2; have HR2 : Hid (Row2 w2 G2 3298618769939 0) := Lib.hid hr2; obtain ⟨hc2, hf2⟩ := bcell hb2; have hz2 : G2 < w2.heap.size := (Array.getElem?_eq_some_iff.1 hr2).1; clear hb2 hr2)
    | (go_at_call 16; refine (decode_any _ (HT.out.call (bal HB2.out _)) (HL.out.call (bal HB2.out _)) w2.heap.size 2 0 1 (by decide) (by decide) (by decide) (by simp) (by simp) (by simp)).mono ?_; rw [decR_no dec01, decE_no dec01]; rintro r w3 ⟨rfl, hb3⟩; have HB3 := Lib.hid hb3; clear hb3)
    | (go_at_call 9; refine (same2_any _ G2 _ 0 2 2 2 (fun j => if j = 0 then 3298618769939 else 0) (fun j => if j = 0 then 3298618769939 else 0) (by omega) ?_ ?_).mono ?_; rotate_right; rw [eqN_self]; rintro r w4 ⟨rfl, q, rfl⟩))
  · go_ret
    exact ⟨rfl, below_drewN (bal (bal (bgo (bal HB2.out _) HB3.out) _) _) _⟩
  · exact (HR2.out.go (bal (bal (bgo (bal (Below.refl _ _) _) HB3.out) _) _)).cells
  · exact (row2_new2 _ _ _ _).cells0
end Go.Proofs.YtoepbcaldlgnjaaDoor
