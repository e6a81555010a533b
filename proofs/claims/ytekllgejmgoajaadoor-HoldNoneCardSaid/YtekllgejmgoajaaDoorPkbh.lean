import Derived.Test.YtekllgejmgoajaaDoorRows
import Derived.WalkKit
import Derived.ProofKit
import Derived.OpenShut
import Derived.Deep.QuietTactic
import Derived.BigQuiet
import Derived.Lib.Hide
import Derived.Laws.BitsAllLaws
import Derived.Test.YtekllgejmgoajaaDoorPkbg
import Derived.RegionTactic
import Derived.Test.YtekllgejmgoajaaDoorFrame
namespace Go.Proofs.YtekllgejmgoajaaDoor
set_option linter.unusedVariables false
set_option linter.unusedSimpArgs false
set_option maxRecDepth 100000
set_option maxHeartbeats 8000000
open Lib (hid)
section
namespace Wd
open Go.ChangeShapes Go.WideShapes Go.ChangeAt Go.RowKit
def insideB (a n : Int) : Bool := decide (0 ≤ a ∧ a < 64 ∧ 1 ≤ n ∧ n ≤ 64 - a)
theorem ret_bool {a b : Bool} (h : a = b) : Ending.returned (.bool a) = .returned (.bool b) := by rw [h]
def onesN (n : Int) : Int := if n ≤ 0 then 0 else if 64 ≤ n then 18446744073709551615 else 2 ^ n.toNat - 1
def fieldN (v a n : Int) : Int := v / 2 ^ a.toNat % 2 ^ n.toNat
end Wd
end
section
namespace CX
open Go.ChangeShapes Go.WideShapes Go.ChangeAt Go.RowKit
def capAt (w : World) (k : Nat) (a b c d e f g h : Int) : Prop :=
 w.cell? ⟨k, 0, none⟩ = some (.int .i64 a) ∧ w.cell? ⟨k, 1, none⟩ = some (.int .i64 b) ∧ w.cell? ⟨k, 2, none⟩ = some (.int .i64 c) ∧ w.cell? ⟨k, 3, none⟩ = some (.int .u64 d) ∧ w.cell? ⟨k, 4, none⟩ = some (.int .i64 e) ∧ w.cell? ⟨k, 5, none⟩ = some (.int .i64 f) ∧ w.cell? ⟨k, 6, none⟩ = some (.int .i64 g) ∧ w.cell? ⟨k, 7, none⟩ = some (.int .i64 h)
def CapX.B (x : CapX) : Bool := capB x.a x.b x.c x.d x.e x.f x.g x.h
abbrev zX : CapX := ⟨0, 0, 0, 0, 0, 0, 0, 0⟩
def copyX (x : CapX) (m : Int) : CapX × Int :=
 if x.B = false ∨ mayB m = false then (zX, 2)
 else if x.a = 0 then (zX, 10)
 else if x.a = 1 ∨ x.a = 7 then (zX, 8)
 else if x.a = 3 then (if maskN x.c m = 0 then (zX, 9) else (⟨x.a, x.b, maskN x.c m, x.d, x.e, x.f, 0, 0⟩, 0))
 else if x.a = 8 then (⟨x.a, x.b, maskN x.c m, x.d, x.e, x.f, x.g, x.h⟩, 0)
 else (x, 0)
abbrev Gives (F : Nat) (args : Array Value) (r : Value) : Prop := ∀ w : World, TabG w → Calls Tryd.prog F args w fun e w' => e = .returned r ∧ Below w.heap.size w w'
theorem capB_kind {a b c d e f g h : Int} (hx : capB a b c d e f g h = true) : a = 0 ∨ a = 7 ∨ a = 1 ∨ a = 3 ∨ a = 8 ∨ a = 2 ∨ a = 4 ∨ a = 5 ∨ a = 6 ∨ a = 9 := by
 unfold capB at hx
 split at hx
 ·omega
 ·split at hx
  ·omega
  ·split at hx
   ·omega
   ·split at hx
    ·omega
    ·split at hx
     ·omega
     ·simp at hx
theorem copyD (x : CapX) (m : Int) (he : x.e ≤ 9223372036854775807) : Gives 32 #[x.val, .int .i64 m] (.tuple #[(copyX x m).1.val, .int .i64 (copyX x m).2]) := by
 intro W hT
 obtain ⟨a, b, c, d, e, f, g, h⟩ := x
 cases hx : capB a b c d e f g h with
 | false =>
  rw [show copyX ⟨a, b, c, d, e, f, g, h⟩ m = (zX, 2) by simp [copyX, CapX.B, hx]]
  exact copy_bad1 a b c d e f g h m W hT he hx
 | true =>
  cases hm : mayB m with
  | false =>
   rw [show copyX ⟨a, b, c, d, e, f, g, h⟩ m = (zX, 2) by simp [copyX, CapX.B, hm]]
   exact copy_bad2 a b c d e f g h m W hT he hx hm
  | true =>
   rcases capB_kind hx with ha | ha | ha | ha | ha | ha
   ·rw [show copyX ⟨a, b, c, d, e, f, g, h⟩ m = (zX, 10) by subst ha; simp [copyX, CapX.B, hx, hm]]
    exact copy_k0 a b c d e f g h m W hT he hx hm ha
   ·rw [show copyX ⟨a, b, c, d, e, f, g, h⟩ m = (zX, 8) by subst ha; simp [copyX, CapX.B, hx, hm]]
    exact copy_k1 a b c d e f g h m W hT he hx hm (.inr ha)
   ·rw [show copyX ⟨a, b, c, d, e, f, g, h⟩ m = (zX, 8) by subst ha; simp [copyX, CapX.B, hx, hm]]
    exact copy_k1 a b c d e f g h m W hT he hx hm (.inl ha)
   ·by_cases hn : maskN c m = 0
    ·rw [show copyX ⟨a, b, c, d, e, f, g, h⟩ m = (zX, 9) by subst ha; simp [copyX, CapX.B, hx, hm, hn]]
     exact copy_k3n a b c d e f g h m W hT he hx hm ha hn
    ·rw [show copyX ⟨a, b, c, d, e, f, g, h⟩ m = (⟨a, b, maskN c m, d, e, f, 0, 0⟩, 0) by subst ha; simp [copyX, CapX.B, hx, hm, hn]]
     exact copy_k3y a b c d e f g h m W hT he hx hm ha hn
   ·rw [show copyX ⟨a, b, c, d, e, f, g, h⟩ m = (⟨a, b, maskN c m, d, e, f, g, h⟩, 0) by subst ha; simp [copyX, CapX.B, hx, hm]]
    exact copy_k8 a b c d e f g h m W hT he hx hm ha
   ·rw [show copyX ⟨a, b, c, d, e, f, g, h⟩ m = (⟨a, b, c, d, e, f, g, h⟩, 0) by
     have h0 : ¬ a = 0 := by omega
     have h1 : ¬ (a = 1 ∨ a = 7) := by omega
     have h3 : ¬ a = 3 := by omega
     have h8 : ¬ a = 8 := by omega
     simp only [copyX, CapX.B, hx, hm, Bool.true_eq_false, or_self, if_neg h0, if_neg h1, if_neg h3, if_neg h8, if_false]]
    exact copy_rest a b c d e f g h m W hT he hx hm ha
instance : DecidableEq CapX := fun x y => decidable_of_iff (x.a = y.a ∧ x.b = y.b ∧ x.c = y.c ∧ x.d = y.d ∧ x.e = y.e ∧ x.f = y.f ∧ x.g = y.g ∧ x.h = y.h) (by cases x; cases y; simp)
def mintX (x : CapX) (m n : Int) : CapX × Int :=
 if (copyX x m).2 ≠ 0 then (zX, (copyX x m).2)
 else if x.a = 8 then (if 16777215 < n then (zX, 3) else if (copyX x m).1.d ≠ 0 then (zX, 9) else (⟨(copyX x m).1.a, (copyX x m).1.b, (copyX x m).1.c, n, (copyX x m).1.e, (copyX x m).1.f, (copyX x m).1.g, (copyX x m).1.h⟩, 0))
 else if x.a = 2 then (if 65536 ≤ n then (zX, 3) else if capB (copyX x m).1.a (copyX x m).1.b (copyX x m).1.c (copyX x m).1.d (n % 4096) (n / 4096) (copyX x m).1.g (copyX x m).1.h = true then (⟨(copyX x m).1.a, (copyX x m).1.b, (copyX x m).1.c, (copyX x m).1.d, n % 4096, n / 4096, (copyX x m).1.g, (copyX x m).1.h⟩, 0) else (zX, 3))
 else if n ≠ 0 then (zX, 2) else ((copyX x m).1, 0)
def Good (x y : CapX) : Prop := x.B = true ∧ y.B = true ∧ x.a ≠ 0 ∧ x.a = y.a ∧ x.b = y.b ∧ (0 ≤ x.c ∧ x.c ≤ 7) ∧ (0 ≤ y.c ∧ y.c ≤ 7) ∧ hasB x.c y.c = true ∧ y.g = 0 ∧ y.h = 0 ∧ (x.d = 0 ∨ y.d = x.d) ∧ y.e ≤ 9223372036854775807
end CX
end
section
open Go.ChangeShapes Go.WideShapes Go.ChangeAt Go.RowKit Go.Shelf
namespace HpS
open TabS (Cp Sn zC mayC sizS getR getN FootP foot_ltP SameS AddRel addSR setN setM rowsS hasS dropSR dropSL heldA hdsC)
open TabP (Two Pr)
def toX (c : Cp) : CX.CapX := ⟨c.a, c.b, c.c, c.d, c.e, c.f, c.g, c.h⟩
def ofX (x : CX.CapX) : Cp := ⟨x.a, x.b, x.c, x.d, x.e, x.f, x.g, x.h⟩
def cpy (c : Cp) (m : Int) : Cp × Int := (ofX (CX.copyX (toX c) m).1, (CX.copyX (toX c) m).2)
theorem dcopy (w : World) (hT : CX.TabG w) (c : Cp) (m : Int) (he : c.e ≤ 9223372036854775807) :
  Calls Tryd.prog 32 #[c.V, .int .i64 m] w fun e w' => e = .returned (.tuple #[(cpy c m).1.V, .int .i64 (cpy c m).2]) ∧ Below w.heap.size w w' := CX.copyD (toX c) m he w hT
theorem cap_boxes (w : World) (c : Cp) : Below w.heap.size w ((w.alloc (.cells c.L.toArray 26)).alloc (.cells zC.L.toArray 26)) ∧ ((w.alloc (.cells c.L.toArray 26)).alloc (.cells zC.L.toArray 26)).heap[w.heap.size]? = some (.cells c.L.toArray 26 (0, 0)) ∧ ((w.alloc (.cells c.L.toArray 26)).alloc (.cells zC.L.toArray 26)).heap[w.heap.size + 1]? = some (.cells zC.L.toArray 26 (0, 0)) := by
 refine ⟨bal (bal (Below.refl _ _) _) _, (Below.heap_alloc _ _ _ (by simp)).trans (heap_alloc_new w _), ?_⟩
 have := heap_alloc_new (w.alloc (.cells c.L.toArray 26)) (.cells zC.L.toArray 26)
 rwa [World.size_alloc] at this
theorem hcopy1 (w : World) (hT : CX.TabG w) (c : Cp) (m : Int) (mB : Nat) (he : c.e ≤ 9223372036854775807) (hm : w.cell? ⟨mB, 0, none⟩ = some (.int .i64 m)) (hz : mB < w.heap.size) :
  Calls Tryd.prog 31 #[c.V, .pointer (some ⟨mB, 0, none⟩)] w fun e w' => e = .returned (.tuple #[(cpy c m).1.V, .int .i64 (cpy c m).2]) ∧ Below w.heap.size w w' := by
 obtain ⟨hb1, hx1, hc1⟩ := cap_boxes w c
 obtain ⟨w1, hw1⟩ : ∃ y, y = (w.alloc (.cells c.L.toArray 26)).alloc (.cells zC.L.toArray 26) := ⟨_, rfl⟩
 rw [← hw1] at hb1 hx1 hc1
 have HB1 := hid hb1
 have HC1 := hid hc1
 have HD := hid (dcopy w1 (hT.call hb1) c m he)
 have hm1 := (hb1.cell (p := ⟨mB, 0, none⟩) hz).trans hm
 generalize cpy c m = r at *
 obtain ⟨⟨ca, cb, cx, cd, ce, cf, cg, ch⟩, k⟩ := r
 obtain ⟨ta, tb, tx, td, te, tf, tg, th⟩ := c
 obtain ⟨x0, x1, x2, x3, x4, x5, x6, x7⟩ := cap_cells hx1
 simp only [] at x0 x1 x2 x3 x4 x5 x6 x7
 have HZ1 := hid (ags hc1).1
 have HW := hid hw1
 clear hb1 hx1 hc1 hw1 hT he hm hz
 go_enter Tryd.func31, Tryd.ntmps31
 go_upto_region 1 with fail
 rw [show ((w.alloc (.cells #[.int .i64 ta, .int .i64 tb, .int .i64 tx, .int .u64 td, .int .i64 te, .int .i64 tf, .int .i64 tg, .int .i64 th] 26)).alloc (.cells #[.int .i64 0, .int .i64 0, .int .i64 0, .int .u64 0, .int .i64 0, .int .i64 0, .int .i64 0, .int .i64 0] 26)) = w1 from HW.out.symm]
 go_wp2_with (go_at_call 32; (with_reducible refine HD.out.mono ?_); rintro e w3 ⟨rfl, hb3⟩; have HB3 := hid hb3; have hc3 := (hb3.block _ HZ1.out).trans HC1.out; have HC3 := hid hc3; obtain ⟨y0, y1, y2, y3, y4, y5, y6, y7⟩ := cap_cells hc3; have g0 := cap_froz hc3 0; have g1 := cap_froz hc3 1; have g2 := cap_froz hc3 2; have g3 := cap_froz hc3 3; have g4 := cap_froz hc3 4; have g5 := cap_froz hc3 5; have g6 := cap_froz hc3 6; have g7 := cap_froz hc3 7; have hz3 := (ags hc3).1; clear hb3 hc3)
 have HF := hid (lay8_same ⟨ca, cb, cx, cd, ce, cf, cg, ch⟩ HC3.out)
 have HFB := hid (lay8_below (k := w.heap.size + 1) ⟨ca, cb, cx, cd, ce, cf, cg, ch⟩ (HB1.out.trans (HB3.out.mono HB1.out.size)) (by omega))
 obtain ⟨w4, hw4⟩ : ∃ y, y = lay8 w3 (w.heap.size + 1) ⟨ca, cb, cx, cd, ce, cf, cg, ch⟩ := ⟨_, rfl⟩
 rw [← hw4] at HF HFB
 simp only [lay8] at hw4
 rw [← hw4]
 clear hw4
 obtain ⟨q0, q1, q2, q3, q4, q5, q6, q7⟩ := cap_cells HF.out
 simp only [] at q0 q1 q2 q3 q4 q5 q6 q7
 exact bodyPost_ret (v := .tuple #[.agg #[.int .i64 ca, .int .i64 cb, .int .i64 cx, .int .u64 cd, .int .i64 ce, .int .i64 cf, .int .i64 cg, .int .i64 ch], .int .i64 k]) (by simp [results, Tryd.results31, go_sem, q0, q1, q2, q3, q4, q5, q6, q7]) rfl ⟨rfl, HFB.out⟩
end HpS
end
section
open Go.ChangeShapes Go.WideShapes Go.ChangeAt Go.RowKit Go.Shelf
namespace HpS
open TabS (Cp Sn zC mayC sizS getR getN FootP foot_ltP SameS AddRel addSR setN setM rowsS hasS dropSR dropSL heldA hdsC)
open TabP (Two Pr)
variable {W w w' : World} {s : Sh} {hb rhb n n' : Nat} {L M L' M' : List Sn} {l l2 l' l2' : List Nod} {S : Nat → Prop}
theorem pairC_zero {L : List Sn} {o i p j : Int} (h : pairN L o i p j = 0) : pairC L o i p j = gt L o i := by unfold pairC; rw [if_pos h]
theorem hderived_no (h : Hd W s hb rhb n L M l l2 S w) (o i p j : Int) (F : FuncId) (B : Array Value) (r : Cp × Int) (hF : ∀ v, Below w.heap.size w v → Calls Tryd.prog F (#[(gt L o i).V] ++ B) v fun e w' => e = .returned (.tuple #[r.1.V, .int .i64 r.2]) ∧ Below v.heap.size v w') (hno : pairN L o i p j ≠ 0) :
  Calls Tryd.prog 30 #[.pointer (some ⟨hb, 0, none⟩), slV o i, slV p j, .func (.func F) #[] B] w fun e w' => e = .returned (.int .i64 (pairN L o i p j)) ∧ Below w.heap.size w w' := by
 obtain ⟨hb1, hs1, ht1⟩ := duo_boxes w o i p j
 obtain ⟨w1, hw1⟩ : ∃ y, y = (w.alloc (slO o i)).alloc (slO p j) := ⟨_, rfl⟩
 rw [← hw1] at hb1 hs1 ht1
 have HB1 := hid hb1
 have HG := hid (hpair (h.call hb1) o i p j)
 generalize pairC L o i p j = t at *
 generalize pairN L o i p j = cn at *
 obtain ⟨ta, tb, tx, td, te, tf, tg, th⟩ := t
 obtain ⟨k0, k1⟩ := slot_cells hs1
 obtain ⟨r0, r1⟩ := slot_cells ht1
 have HW := hid hw1
 clear h hb1 hs1 ht1 hw1 hF
 go_enter Tryd.func30, Tryd.ntmps30
 go_upto_region 1 with fail
 rw [show ((w.alloc (slO o i)).alloc (slO p j)) = w1 from HW.out.symm]
 go_wp2_with (go_at_call 27; (with_reducible refine HG.out.mono ?_); rintro e w2 ⟨rfl, hb2⟩; have HB2 := hid hb2; clear hb2)
 go_ret
 exact ⟨rfl, bal (HB1.out.trans (HB2.out.mono HB1.out.size)) _⟩
end HpS
end
end Go.Proofs.YtekllgejmgoajaaDoor
