import Derived.Deep.RegionHeld3
import Derived.Test.YtekllgejmgoajaaDoorPkaz
import Derived.StillTailTactics
import Derived.Deep.RegionWith
namespace Go.Proofs.YtekllgejmgoajaaDoor
set_option linter.unusedVariables false
set_option linter.unusedSimpArgs false
set_option maxRecDepth 100000
set_option maxHeartbeats 8000000
open Lib (hid)
section
namespace CX
open Go.ChangeShapes Go.WideShapes Go.ChangeAt Go.RowKit
def Kept (n : Nat) (a b : World) : Prop := Below n a b ∧ n ≤ b.heap.size
def alikeB (m n : Bool) (a a' b b' : Int) : Bool := m && n && decide (a ≠ 0) && decide (a = a') && decide (b = b')
theorem alike_any (a b c d e f g h a' b' c' d' e' f' g' h' : Int) (W : World) (hT : TabG W) (e1 : e ≤ 9223372036854775807) (e2 : e' ≤ 9223372036854775807) :
  Calls Tryd.prog 29 #[capV a b c d e f g h, capV a' b' c' d' e' f' g' h'] W fun r W' => r = .returned (.bool (alikeB (capB a b c d e f g h) (capB a' b' c' d' e' f' g' h') a a' b b')) ∧ Below W.heap.size W W' := by
 cases hx : capB a b c d e f g h <;> cases hy : capB a' b' c' d' e' f' g' h'
 all_goals
  have HX := hid hx
  have HY := hid hy
  clear hx hy
  go_enter Tryd.func29, Tryd.ntmps29
  go_wp2_with (first
   | (have _t := hb1; go_at_call 45; refine (capMay a' b' c' d' e' f' g' h' _ (by exact hT.call (by repeat (first | exact Below.refl _ _ | assumption | refine below_drewN ?_ _ | refine Below.drew ?_ | refine Below.setCell ?_ (by first | exact Nat.le_refl _ | (simp; done) | (simp; omega)) _ | refine bal ?_ _ | refine bgo ?_ (by assumption)))) e2).mono ?_; rw [HY.out]; rintro r w2 ⟨rfl, hb2⟩; obtain ⟨hc2, hf2⟩ := bcell hb2)
   | (go_at_call 45; refine (capMay a b c d e f g h _ (by exact hT.call (by repeat (first | exact Below.refl _ _ | assumption | refine below_drewN ?_ _ | refine Below.drew ?_ | refine Below.setCell ?_ (by first | exact Nat.le_refl _ | (simp; done) | (simp; omega)) _ | refine bal ?_ _ | refine bgo ?_ (by assumption)))) e1).mono ?_; rw [HX.out]; rintro r w1 ⟨rfl, hb1⟩; obtain ⟨hc1, hf1⟩ := bcell hb1; have hz1 : W.heap.size + 1 < w1.heap.size := (by have := hb1.size; simp at this; omega); have hz0 : W.heap.size < w1.heap.size := (by omega)))
  all_goals
   go_ret
   exact ⟨ret_bool (by first | (simp [alikeB, *]; done) | (refine Bool.eq_iff_iff.2 ?_; simp [alikeB, *] <;> omega)), (by repeat (first | exact Below.refl _ _ | assumption | refine below_drewN ?_ _ | refine Below.drew ?_ | refine Below.setCell ?_ (by first | exact Nat.le_refl _ | (simp; done) | (simp; omega)) _ | refine bal ?_ _ | refine bgo ?_ (by assumption)))⟩
end CX
end
section
open Go.ChangeShapes Go.WideShapes Go.ChangeAt Go.RowKit Go.Shelf
namespace HpS
open TabS (Cp Sn zC mayC sizS getR getN FootP foot_ltP SameS AddRel addSR setN setM rowsS hasS dropSR dropSL heldA hdsC)
open TabP (Two Pr)
structure Hd (W : World) (s : Sh) (hb rhb n : Nat) (L M : List Sn) (l l2 : List Nod) (S : Nat → Prop) (w : World) : Prop where
 bo : BoS W s n L M l l2 (fun k => k = hb ∨ S k) w
 hd : w.heap[hb]? = some (.cells #[.pointer (some ⟨s.sb, 0, none⟩), .pointer (some ⟨s.tb, 0, none⟩)] 53 (0, 0))
variable {W w w' : World} {s : Sh} {hb rhb n n' : Nat} {L M L' M' : List Sn} {l l2 l' l2' : List Nod} {S : Nat → Prop}
theorem Hd.lift (h : Hd W s hb rhb n L M l l2 S w) (hB : BoS W s n' L' M' l' l2' (fun k => k = hb ∨ S k) w') (hK : SameK (fun k => k = hb ∨ S k) w w') : Hd W s hb rhb n' L' M' l' l2' S w' :=
 ⟨hB, (hK hb (.inl rfl)).trans h.hd⟩
theorem Hd.call (h : Hd W s hb rhb n L M l l2 S w) (hb' : Below w.heap.size w w') : Hd W s hb rhb n L M l l2 S w' :=
 h.lift (h.bo.call hb').1 (h.bo.call hb').2
theorem Hd.below (h : Hd W s hb rhb n L M l l2 S w) : Below W.heap.size W w := h.bo.below
theorem Hd.c (h : Hd W s hb rhb n L M l l2 S w) : w.cell? ⟨hb, 0, none⟩ = some (.pointer (some ⟨s.sb, 0, none⟩)) ∧ w.cell? ⟨hb, 1, none⟩ = some (.pointer (some ⟨s.tb, 0, none⟩)) ∧ hb < w.heap.size :=
 ⟨cell_cur (cur := [.pointer (some ⟨s.sb, 0, none⟩), .pointer (some ⟨s.tb, 0, none⟩)]) h.hd 0, cell_cur (cur := [.pointer (some ⟨s.sb, 0, none⟩), .pointer (some ⟨s.tb, 0, none⟩)]) h.hd 1, (ags h.hd).1⟩
def gt (L : List Sn) (o i : Int) : Cp := (getR L o i).getD zC
def gn (L : List Sn) (o i : Int) : Int := getN (getR L o i)
theorem cap_cells {w : World} {k : Nat} {c : Cp} (h : w.heap[k]? = some (.cells c.L.toArray 26 (0, 0))) : w.cell? ⟨k, 0, none⟩ = some (.int .i64 c.a) ∧ w.cell? ⟨k, 1, none⟩ = some (.int .i64 c.b) ∧ w.cell? ⟨k, 2, none⟩ = some (.int .i64 c.c) ∧ w.cell? ⟨k, 3, none⟩ = some (.int .u64 c.d) ∧ w.cell? ⟨k, 4, none⟩ = some (.int .i64 c.e) ∧ w.cell? ⟨k, 5, none⟩ = some (.int .i64 c.f) ∧ w.cell? ⟨k, 6, none⟩ = some (.int .i64 c.g) ∧ w.cell? ⟨k, 7, none⟩ = some (.int .i64 c.h) :=
 ⟨cell_cur (cur := c.L) h 0, cell_cur (cur := c.L) h 1, cell_cur (cur := c.L) h 2, cell_cur (cur := c.L) h 3, cell_cur (cur := c.L) h 4, cell_cur (cur := c.L) h 5, cell_cur (cur := c.L) h 6, cell_cur (cur := c.L) h 7⟩
theorem cap_froz {w : World} {k : Nat} {xs : Array Value} {t : TypeId} (h : w.heap[k]? = some (.cells xs t (0, 0))) : ∀ j, w.frozen? ⟨k, j, none⟩ = false := fun j => by simp [World.frozen?, h]
theorem slot_cells {w : World} {k : Nat} {x y : Int} (h : w.heap[k]? = some (.cells #[.int .i64 x, .int .i64 y] 23 (0, 0))) : w.cell? ⟨k, 0, none⟩ = some (.int .i64 x) ∧ w.cell? ⟨k, 1, none⟩ = some (.int .i64 y) :=
 ⟨cell_cur (cur := [.int .i64 x, .int .i64 y]) h 0, cell_cur (cur := [.int .i64 x, .int .i64 y]) h 1⟩
def lay8 (w : World) (k : Nat) (n : Cp) : World := (((((((w.setCell ⟨k, 0, none⟩ (.int .i64 n.a)).setCell ⟨k, 1, none⟩ (.int .i64 n.b)).setCell ⟨k, 2, none⟩ (.int .i64 n.c)).setCell ⟨k, 3, none⟩ (.int .u64 n.d)).setCell ⟨k, 4, none⟩ (.int .i64 n.e)).setCell ⟨k, 5, none⟩ (.int .i64 n.f)).setCell ⟨k, 6, none⟩ (.int .i64 n.g)).setCell ⟨k, 7, none⟩ (.int .i64 n.h)
theorem set_step {w : World} {k : Nat} {l : List Value} {t : TypeId} (i : Nat) (v : Value) (h : w.heap[k]? = some (.cells l.toArray t (0, 0))) : (w.setCell ⟨k, i, none⟩ v).heap[k]? = some (.cells (l.set i v).toArray t (0, 0)) := by
 rw [Go.heap_setCell_same _ k i _ t v h]
 simp
theorem lay8_same {w : World} {k : Nat} {c : Cp} {t : TypeId} (n : Cp) (h : w.heap[k]? = some (.cells c.L.toArray t (0, 0))) : (lay8 w k n).heap[k]? = some (.cells n.L.toArray t (0, 0)) := by
 have e : (((((((c.L.set 0 (.int .i64 n.a)).set 1 (.int .i64 n.b)).set 2 (.int .i64 n.c)).set 3 (.int .u64 n.d)).set 4 (.int .i64 n.e)).set 5 (.int .i64 n.f)).set 6 (.int .i64 n.g)).set 7 (.int .i64 n.h) = n.L := rfl
 rw [← e]
 unfold lay8
 exact set_step 7 _ (set_step 6 _ (set_step 5 _ (set_step 4 _ (set_step 3 _ (set_step 2 _ (set_step 1 _ (set_step 0 _ h)))))))
theorem lay8_below {w0 w : World} {B k : Nat} (n : Cp) (h : Below B w0 w) (hk : B ≤ k) : Below B w0 (lay8 w k n) :=
 (((((((h.setCell (p := ⟨k, 0, none⟩) hk _).setCell (p := ⟨k, 1, none⟩) hk _).setCell (p := ⟨k, 2, none⟩) hk _).setCell (p := ⟨k, 3, none⟩) hk _).setCell (p := ⟨k, 4, none⟩) hk _).setCell (p := ⟨k, 5, none⟩) hk _).setCell (p := ⟨k, 6, none⟩) hk _).setCell (p := ⟨k, 7, none⟩) hk _
theorem hslots (h : Hd W s hb rhb n L M l l2 S w) :
  Calls Tryd.prog 19 #[.pointer (some ⟨hb, 0, none⟩)] w fun e w' => e = .returned (.pointer (some ⟨s.sb, 0, none⟩)) ∧ w = w' := by
 obtain ⟨c0, -, -⟩ := h.c
 clear h
 go_enter Tryd.func19, Tryd.ntmps19
 go_wp2
 go_ret
 exact ⟨rfl, by trivial⟩
theorem hsome (w : World) (hT : CX.TabG w) (c : Cp) (he : c.e ≤ 9223372036854775807) :
  Calls Tryd.prog 25 #[c.V] w fun e w' => e = .returned (.bool (mayC c && decide (c.a ≠ 0))) ∧ Below w.heap.size w w' := by
 obtain ⟨ca, cb, cx, cd, ce, cf, cg, ch⟩ := c
 have hal : Below w.heap.size w (w.alloc (.cells #[.int .i64 ca, .int .i64 cb, .int .i64 cx, .int .u64 cd, .int .i64 ce, .int .i64 cf, .int .i64 cg, .int .i64 ch] 26)) := bal (Below.refl _ _) _
 have HM := hid (CX.capMay ca cb cx cd ce cf cg ch _ (hT.call hal) he)
 have HAL := hid hal
 have hx : (w.alloc (.cells (⟨ca, cb, cx, cd, ce, cf, cg, ch⟩ : Cp).L.toArray 26)).heap[w.heap.size]? = some (.cells (⟨ca, cb, cx, cd, ce, cf, cg, ch⟩ : Cp).L.toArray 26 (0, 0)) := heap_alloc_new w _
 have HX := hid hx
 have hz : w.heap.size < (w.alloc (.cells (⟨ca, cb, cx, cd, ce, cf, cg, ch⟩ : Cp).L.toArray 26)).heap.size := by simp
 have HZ := hid hz
 obtain ⟨mb, hmb⟩ : ∃ y, y = mayC (⟨ca, cb, cx, cd, ce, cf, cg, ch⟩ : Cp) := ⟨_, rfl⟩
 have HM' : Hid (Calls Tryd.prog 45 #[.agg #[.int .i64 ca, .int .i64 cb, .int .i64 cx, .int .u64 cd, .int .i64 ce, .int .i64 cf, .int .i64 cg, .int .i64 ch]] (w.alloc (.cells #[.int .i64 ca, .int .i64 cb, .int .i64 cx, .int .u64 cd, .int .i64 ce, .int .i64 cf, .int .i64 cg, .int .i64 ch] 26)) fun e w' => e = .returned (.bool mb) ∧ Below (w.alloc (.cells #[.int .i64 ca, .int .i64 cb, .int .i64 cx, .int .u64 cd, .int .i64 ce, .int .i64 cf, .int .i64 cg, .int .i64 ch] 26)).heap.size (w.alloc (.cells #[.int .i64 ca, .int .i64 cb, .int .i64 cx, .int .u64 cd, .int .i64 ce, .int .i64 cf, .int .i64 cg, .int .i64 ch] 26)) w') := hid (by rw [hmb]; exact HM.out)
 rw [← hmb]
 simp only []
 clear hT hal hx hz hmb HM he
 cases mb with
 | false =>
  go_enter Tryd.func25, Tryd.ntmps25
  go_wp2_with (go_at_call 45; (with_reducible refine HM'.out.mono ?_); rintro e w1 ⟨rfl, hb1⟩; have HB1 := hid (HAL.out.trans (hb1.mono HAL.out.size)); clear hb1)
  go_ret
  exact ⟨by first | rfl | simp, HB1.out⟩
 | true =>
  by_cases h0 : ca = 0
  ·subst h0
   go_enter Tryd.func25, Tryd.ntmps25
   go_wp2_with (go_at_call 45; (with_reducible refine HM'.out.mono ?_); rintro e w1 ⟨rfl, hb1⟩; have HB1 := hid (HAL.out.trans (hb1.mono HAL.out.size)); have hx1 := (hb1.block w.heap.size HZ.out).trans HX.out; obtain ⟨x0, -⟩ := cap_cells hx1; simp only [] at x0; clear hb1 hx1)
   go_ret
   exact ⟨by first | rfl | simp, HB1.out⟩
  ·go_enter Tryd.func25, Tryd.ntmps25
   go_wp2_with (go_at_call 45; (with_reducible refine HM'.out.mono ?_); rintro e w1 ⟨rfl, hb1⟩; have HB1 := hid (HAL.out.trans (hb1.mono HAL.out.size)); have hx1 := (hb1.block w.heap.size HZ.out).trans HX.out; obtain ⟨x0, -⟩ := cap_cells hx1; simp only [] at x0; clear hb1 hx1)
   go_ret
   exact ⟨by first | rfl | simp [h0], HB1.out⟩
end HpS
end
end Go.Proofs.YtekllgejmgoajaaDoor
