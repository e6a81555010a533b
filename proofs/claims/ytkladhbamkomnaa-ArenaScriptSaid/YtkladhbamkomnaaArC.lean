/- The objects of an arena: around, collide. -/
import Derived.Test.YtkladhbamkomnaaArK
import Derived.WalkSmall
import Derived.Deep.RegionWith
import Derived.Laws.Rows
import Derived.LoopN
namespace Go.Proofs.Ytkladhbamkomnaa
set_option linter.unusedVariables false
set_option linter.unusedSimpArgs false
open Go.ChangeShapes Go.WideShapes Go.ChangeAt Go.RowKit

/-- An object. -/
structure Ob where
  id : Int
  kd : Int
  sz : Int
  fi : Int
  fr : Int
  ma : Int
  se : Int
  pg : Int
  lv : Int
deriving DecidableEq
def Ob.cells (x : Ob) : List Value := [.int .i64 x.id, .int .i64 x.kd, .int .i64 x.sz, .int .i64 x.fi, .int .i64 x.fr, .int .i64 x.ma, .int .i64 x.se, .int .i64 x.pg, .int .i64 x.lv]
abbrev obV (x : Ob) : Value := .agg #[.int .i64 x.id, .int .i64 x.kd, .int .i64 x.sz, .int .i64 x.fi, .int .i64 x.fr, .int .i64 x.ma, .int .i64 x.se, .int .i64 x.pg, .int .i64 x.lv]
def aroundA (x y : Ob) : Bool := decide (x.kd = 1) && withinB y.fi y.fr x.fi x.fr
def collideA (x y : Ob) : Bool := meetB x.fi x.fr y.fi y.fr && !aroundA x y && !aroundA y x
set_option maxRecDepth 100000 in
set_option maxHeartbeats 1000000 in
theorem around_any (w : World) (x y : Ob) : Calls Try.prog 48 #[obV x, obV y] w fun e w' => e = .returned (.bool (aroundA x y)) ∧ Below w.heap.size w w' := by
  obtain ⟨i1, k1, s1, f1, n1, m1, e1, p1, l1⟩ := x
  obtain ⟨i2, k2, s2, f2, n2, m2, e2, p2, l2⟩ := y
  unfold aroundA
  by_cases h : k1 = 1
  · subst h
    go_enter Try.func48, Try.ntmps48
    go_wp2_with (go_at_call 22; refine (within_any _ _ _ _ _).mono ?_; rintro e w1 ⟨rfl, hb1⟩)
    all_goals go_ret
    all_goals exact ⟨ret_bool (by simp), (by repeat (first | with_reducible exact Below.refl _ _ | refine bal ?_ _ | refine bgo ?_ (by assumption)))⟩
  · go_enter Try.func48, Try.ntmps48
    go_wp2_with (go_at_call 22; refine (within_any _ _ _ _ _).mono ?_; rintro e w1 ⟨rfl, hb1⟩)
    all_goals go_ret
    all_goals exact ⟨ret_bool (by simp [h]), (by repeat (first | with_reducible exact Below.refl _ _ | refine bal ?_ _ | refine bgo ?_ (by assumption)))⟩
set_option maxRecDepth 100000 in
set_option maxHeartbeats 2000000 in
theorem collide_any (w : World) (x y : Ob) : Calls Try.prog 38 #[obV x, obV y] w fun e w' => e = .returned (.bool (collideA x y)) ∧ Below w.heap.size w w' := by
  have hxy := fun w => around_any w x y
  have hyx := fun w => around_any w y x
  have HXY := Lib.hid hxy
  have HYX := Lib.hid hyx
  clear hxy hyx
  unfold collideA
  obtain ⟨i1, k1, s1, f1, n1, m1, e1, p1, l1⟩ := x
  obtain ⟨i2, k2, s2, f2, n2, m2, e2, p2, l2⟩ := y
  generalize hA : aroundA _ _ = A at HXY ⊢
  generalize hB : aroundA _ _ = B at HYX ⊢
  cases hm : meetB f1 n1 f2 n2
  · have HM := Lib.hid hm
    clear hm
    go_enter Try.func38, Try.ntmps38
    go_wp2_with (go_at_call 21; refine (meet_any _ _ _ _ _).mono ?_; rw [HM.out]; rintro e w1 ⟨rfl, hb1⟩)
    all_goals go_ret
    all_goals exact ⟨ret_bool (by simp), (by repeat (first | with_reducible exact Below.refl _ _ | refine bal ?_ _ | refine bgo ?_ (by assumption)))⟩
  · have HM := Lib.hid hm
    clear hm hA hB
    have hB2 : Below w.heap.size w ((w.alloc (.cells #[.int .i64 i1, .int .i64 k1, .int .i64 s1, .int .i64 f1, .int .i64 n1, .int .i64 m1, .int .i64 e1, .int .i64 p1, .int .i64 l1] 37)).alloc (.cells #[.int .i64 i2, .int .i64 k2, .int .i64 s2, .int .i64 f2, .int .i64 n2, .int .i64 m2, .int .i64 e2, .int .i64 p2, .int .i64 l2] 37)) := bal (bal (Below.refl _ _) _) _
    have HB2 := Lib.hid hB2
    clear hB2
    cases A
    all_goals
      go_enter Try.func38, Try.ntmps38
      go_wp2_with (first | (go_at_call 21; refine (meet_any _ _ _ _ _).mono ?_; rw [HM.out]; rintro e w1 ⟨rfl, hb1⟩; obtain ⟨hc1, hf1⟩ := bcell hb1; have hz1 := hb1.size; have hz2 : w.heap.size + 1 < w1.heap.size := (by simp at hz1; omega); have hz20 : w.heap.size < w1.heap.size := (by omega)) | (go_at_call 48; refine (HYX.out w2).mono ?_; rintro e w3 ⟨rfl, hb3⟩) | (go_at_call 48; refine (HXY.out w1).mono ?_; rintro e w2 ⟨rfl, hb2⟩; obtain ⟨hc2, hf2⟩ := bcell hb2; have hz3 := hb2.size; have hz4 : w.heap.size + 1 < w2.heap.size := (by omega); have hz40 : w.heap.size < w2.heap.size := (by omega)))
      all_goals go_ret
      all_goals first | exact ⟨ret_bool (by simp), HB2.out.trans ((hb1.mono (by simp only [World.size_alloc]; omega)).trans ((hb2.mono (by omega)).trans (hb3.mono (by omega))))⟩ | exact ⟨ret_bool (by simp), HB2.out.trans ((hb1.mono (by simp only [World.size_alloc]; omega)).trans (hb2.mono (by omega)))⟩
end Go.Proofs.Ytkladhbamkomnaa
