import Derived.Test.YtekllgejmgoajaaDoorPkbe
import Derived.Test.YtekllgejmgoajaaDoorFrame
import Derived.LoopTactic
namespace Go.Proofs.YtekllgejmgoajaaDoor
set_option linter.unusedVariables false
set_option linter.unusedSimpArgs false
set_option maxRecDepth 100000
set_option maxHeartbeats 8000000
open Lib (hid)
section
open Go.ChangeShapes Go.WideShapes Go.ChangeAt Go.RowKit Go.Shelf
namespace HpS
open TabS (Cp Sn zC mayC sizS getR getN FootP foot_ltP SameS AddRel addSR setN setM rowsS hasS dropSR dropSL heldA hdsC)
open TabP (Two Pr)
variable {W w w' : World} {s : Sh} {hb rhb n n' : Nat} {L M L' M' : List Sn} {l l2 l' l2' : List Nod} {S : Nat → Prop}
theorem duo_boxes (w : World) (o i p j : Int) : Below w.heap.size w ((w.alloc (slO o i)).alloc (slO p j)) ∧ ((w.alloc (slO o i)).alloc (slO p j)).heap[w.heap.size]? = some (.cells #[.int .i64 o, .int .i64 i] 23 (0, 0)) ∧ ((w.alloc (slO o i)).alloc (slO p j)).heap[w.heap.size + 1]? = some (.cells #[.int .i64 p, .int .i64 j] 23 (0, 0)) := by
 have h1 := heap_alloc_new (w.alloc (slO o i)) (slO p j)
 rw [World.size_alloc] at h1
 exact ⟨bal (bal (Below.refl _ _) _) _, (Below.heap_alloc _ _ _ (by simp)).trans (heap_alloc_new w _), h1⟩
def swapN (L : List Sn) (o i p j : Int) : Int := if gn L o i ≠ 0 then gn L o i else gn L p j
def swapL (L : List Sn) (o i p j : Int) : List Sn := setM (setM L o i (gt L p j)) p j (gt L o i)
theorem hadd (h : Hd W s hb rhb n L M l l2 S w) (hl : L.length < 1000000) (id k : Int) :
  Calls Tryd.prog 13 #[.pointer (some ⟨hb, 0, none⟩), .int .i64 id, .int .i64 k] w fun e w' => e = .returned (.int .i64 (addSR L id k)) ∧ ∃ L', AddRel L id k L' ∧ Hd W s hb rhb n L' M l l2 S w' ∧ SameK S w w' := by
 have HS := hid (hslots h)
 have HC := hid (h.bo.add hl id k)
 have HH := hid h
 generalize addSR L id k = r at *
 clear h
 go_enter Tryd.func13, Tryd.ntmps13
 go_wp2_with (first
  | (go_at_call 19; (with_reducible refine HS.out.mono ?_); rintro e w2 ⟨rfl, rfl⟩)
  | (go_at_call 36; (with_reducible refine HC.out.mono ?_); rintro e w3 ⟨rfl, L3, hr3, hb3, hk3⟩; have HR := hid hr3; have HB := hid hb3; have HK := hid hk3; clear hr3 hb3 hk3))
 go_ret
 exact ⟨rfl, L3, HR.out, HH.out.lift HB.out HK.out, fun k q => HK.out k (.inr q)⟩
end HpS
end
section
namespace CX
open Go.ChangeShapes Go.WideShapes Go.ChangeAt Go.RowKit
structure CapX where
 a : Int
 b : Int
 c : Int
 d : Int
 e : Int
 f : Int
 g : Int
 h : Int
abbrev CapX.val (x : CapX) : Value := .agg #[.int .i64 x.a, .int .i64 x.b, .int .i64 x.c, .int .u64 x.d, .int .i64 x.e, .int .i64 x.f, .int .i64 x.g, .int .i64 x.h]
def CapX.Ok (x : CapX) : Prop := (-9223372036854775808 ≤ x.a ∧ x.a ≤ 9223372036854775807) ∧ (-9223372036854775808 ≤ x.b ∧ x.b ≤ 9223372036854775807) ∧ (-9223372036854775808 ≤ x.c ∧ x.c ≤ 9223372036854775807) ∧ (0 ≤ x.d ∧ x.d ≤ 18446744073709551615) ∧ (-9223372036854775808 ≤ x.e ∧ x.e ≤ 9223372036854775807) ∧ (-9223372036854775808 ≤ x.f ∧ x.f ≤ 9223372036854775807) ∧ (-9223372036854775808 ≤ x.g ∧ x.g ≤ 9223372036854775807) ∧ (-9223372036854775808 ≤ x.h ∧ x.h ≤ 9223372036854775807)
theorem part_bd (r m : Int) (k : Nat) : 0 ≤ partN r m k ∧ partN r m k ≤ 7 := by
 unfold partN
 split <;> split <;> split <;> omega
theorem part1 (r m : Int) : partN r m 1 = partN r m 0 + (if hasB m 1 = true ∧ hasB r 1 = true then 1 else 0) := by
 simp [partN]
theorem part2 (r m : Int) : partN r m 2 = partN r m 1 + (if hasB m 2 = true ∧ hasB r 2 = true then 2 else 0) := by
 simp [partN]
theorem part3 (r m : Int) : partN r m 3 = partN r m 2 + (if hasB m 4 = true ∧ hasB r 4 = true then 4 else 0) := by
 simp [partN]
theorem kept_any (a b c d e f g h : Int) (m : Int) (w : World) (c0 : 0 ≤ c) (c1 : c ≤ 7) (m0 : 0 ≤ m) (m1 : m ≤ 7) :
  Calls Tryd.prog 51 #[.agg #[.int .i64 a, .int .i64 b, .int .i64 c, .int .u64 d, .int .i64 e, .int .i64 f, .int .i64 g, .int .i64 h], .int .i64 m] w fun e w' => e = .returned (.int .i64 (maskN c m)) ∧ Below w.heap.size w w' := by
 have hp := part_mask c0 c1 m0 m1
 go_enter Tryd.func51, Tryd.ntmps51
 go_wp2_with (fail)
 go_loop [5, 6] (fun s r => (r = .int .i64 1 ∧ s = .int .i64 (partN c m 0)) ∨ (r = .int .i64 2 ∧ s = .int .i64 (partN c m 1)) ∨ (r = .int .i64 4 ∧ s = .int .i64 (partN c m 2)) ∨ (r = .int .i64 8 ∧ s = .int .i64 (partN c m 3))) (fun _ r => 8 - (intOf r).toNat)
 case atStart => exact .inl ⟨rfl, by simp [partN]⟩
 case round =>
  obtain ⟨rfl, rfl⟩ | ⟨rfl, rfl⟩ | ⟨rfl, rfl⟩ | ⟨rfl, rfl⟩ := hrel
  ·have P := part1 c m
   have B := part_bd c m 0
   obtain ⟨B0, B1⟩ := B
   have B2 := part_bd c m 1
   obtain ⟨B20, B21⟩ := B2
   cases h1 : hasB m 1 <;> cases h2 : hasB c 1
   all_goals
    rw [h1, h2] at P
    simp only [Bool.false_eq_true, false_and, and_false, and_self, if_false, if_true, Int.add_zero] at P
    generalize partN c m 1 = s' at *
    generalize partN c m 0 = s at *
    go_wp2
    go_step3
    go_wp2
    go_step3
    go_wp2_with (go_at_call 67; refine (has_any _ _ _ (by omega) (by omega) (by decide) (by decide)).mono ?_; (first | rw [h1] | rw [h2]); rintro e w1 ⟨rfl, rfl⟩)
    go_wp2
    rw [Exit.noGoto_normal]
    go_wp2
    go_round
    all_goals first | (simp [intOf]; done) | exact .inr (.inl ⟨by go_num, by rw [P]⟩)
  ·have P := part2 c m
   have B := part_bd c m 1
   obtain ⟨B0, B1⟩ := B
   have B2 := part_bd c m 2
   obtain ⟨B20, B21⟩ := B2
   cases h1 : hasB m 2 <;> cases h2 : hasB c 2
   all_goals
    rw [h1, h2] at P
    simp only [Bool.false_eq_true, false_and, and_false, and_self, if_false, if_true, Int.add_zero] at P
    generalize partN c m 2 = s' at *
    generalize partN c m 1 = s at *
    go_wp2
    go_step3
    go_wp2
    go_step3
    go_wp2_with (go_at_call 67; refine (has_any _ _ _ (by omega) (by omega) (by decide) (by decide)).mono ?_; (first | rw [h1] | rw [h2]); rintro e w1 ⟨rfl, rfl⟩)
    go_wp2
    rw [Exit.noGoto_normal]
    go_wp2
    go_round
    all_goals first | (simp [intOf]; done) | exact .inr (.inr (.inl ⟨by go_num, by rw [P]⟩))
  ·have P := part3 c m
   have B := part_bd c m 2
   obtain ⟨B0, B1⟩ := B
   have B2 := part_bd c m 3
   obtain ⟨B20, B21⟩ := B2
   cases h1 : hasB m 4 <;> cases h2 : hasB c 4
   all_goals
    rw [h1, h2] at P
    simp only [Bool.false_eq_true, false_and, and_false, and_self, if_false, if_true, Int.add_zero] at P
    generalize partN c m 3 = s' at *
    generalize partN c m 2 = s at *
    go_wp2
    go_step3
    go_wp2
    go_step3
    go_wp2_with (go_at_call 67; refine (has_any _ _ _ (by omega) (by omega) (by decide) (by decide)).mono ?_; (first | rw [h1] | rw [h2]); rintro e w1 ⟨rfl, rfl⟩)
    go_wp2
    rw [Exit.noGoto_normal]
    go_wp2
    go_round
    all_goals first | (simp [intOf]; done) | exact .inr (.inr (.inr ⟨by go_num, by rw [P]⟩))
  ·go_wp2_with (fail)
   go_ret
   exact ⟨rfl, (Below.refl _ _).alloc (Nat.le_refl _) _⟩
end CX
end
end Go.Proofs.YtekllgejmgoajaaDoor
