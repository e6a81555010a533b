import Derived.RangeFuncNested
import Derived.RangeFuncBound
import Derived.RangeFuncCalls
import Derived.RangeFuncLeaves
import Derived.RangeFuncFrom
import Derived.Shelf.Abstract
import Derived.Shelf.RegionOpen
import Derived.WalkKit
import Derived.OwnWalkIn
import Derived.TacticsInMore
import Derived.LoopNIn
import Derived.LoopIn
import Derived.Laws.Bits64b
import Derived.Test.YtchjfeafkmpmbaaGreatDoorRows
import Derived.Test.YtchjfeafkmpmbaaGreatDoorPkad
import Derived.Test.YtchjfeafkmpmbaaGreatDoorFrame
import Derived.LoopTactic
import Derived.RegionTactic
import Derived.Deep.QuietTactic
import Derived.BigQuiet
import Derived.Lib.Hide
namespace Go.Proofs.YtchjfeafkmpmbaaGreatDoor
set_option linter.unusedVariables false
set_option linter.unusedSimpArgs false
set_option maxRecDepth 100000
set_option maxHeartbeats 8000000
open Lib (hid)
section
open Go.RowKit Go.Shelf
def TabAt (w : World) : Prop := ∀ j, j < Lib.deBruijn64tab.length → w.cell? ⟨0, j, none⟩ = some (.int .u8 (Lib.deBruijn64tab.getD j 0))
theorem TabAt.below {n : Nat} {w w' : World} (h : TabAt w) (hn : 0 < n) (hb : Below n w w') : TabAt w' := fun j hj => (hb.cell (p := ⟨0, j, none⟩) hn).trans (h j hj)
theorem tz_key (x a : Nat) (hx : x < 18446744073709551616) (hx0 : x ≠ 0) (hlow : x &&& (18446744073709551616 - x) = a) :
  IntKind.u64.wrap (bits BinOp.and IntKind.u64 (x : Int) (IntKind.u64.wrap (-(x : Int))) * 285870213051353865) / 288230376151711744 = ((a * 285870213051353865 % 18446744073709551616 / 288230376151711744 : Nat) : Int) := by
 have e1 : IntKind.u64.wrap (-(x : Int)) = ((18446744073709551616 - x : Nat) : Int) := by rw [IntKind.wrap_u64]; omega
 rw [e1, u64_and_nat x _ hx (by omega), hlow, IntKind.wrap_u64]
 omega
theorem tz_core (x k idx : Nat) (w : World) (hx0 : ((x : Int) == 0) = false)
  (key : IntKind.u64.wrap (bits BinOp.and IntKind.u64 (x : Int) (IntKind.u64.wrap (-(x : Int))) * 285870213051353865) / 288230376151711744 = (idx : Int))
  (hi : idx < 64) (hk : k < 64) (hcell : w.cell? ⟨0, idx, none⟩ = some (.int .u8 k)) :
  Calls Tryz.prog 130 #[.int .u64 x] w fun e w' => e = .returned (.int .i64 k) ∧ w = w' := by
 go_enter Tryz.func130, Tryz.ntmps130
 go_wp2_with (simp only [key])
 go_ret
 exact ⟨rfl, rfl⟩
theorem tz_any (x : Nat) (hx : x < 2 ^ 64) (hx0 : x ≠ 0) (w : World) (hT : TabAt w) :
  Calls Tryz.prog 130 #[.int .u64 x] w fun e w' => e = .returned (.int .i64 (Lib.ctz 64 x)) ∧ w = w' := by
 obtain ⟨hlow, hk⟩ := Lib.lowest_bit 64 x hx0 hx
 obtain ⟨hi, htab⟩ := Lib.deBruijn64_at _ hk
 have hcell := hT _ hi
 rw [htab] at hcell
 exact tz_core x _ _ w (by simp; omega) (tz_key x _ hx hx0 hlow) hi hk hcell
attribute [local go_sem] Oper.semAt_some
theorem set1_in (n : Nat) (hn : 1 ≤ n) (l Bn n₀ : Nat) (v : Nat) (hv : v < 2 ^ 64) (J Jx : List Nat → World → Prop)
  (hY : ∀ pre x W, J pre W → pre.length < 64 → YieldAt Fence.wide (n - 1) Tryz.prog l #[.int .i64 (x : Nat)] W fun e W' =>
   (e = .returned (.bool true) ∧ J (pre ++ [x]) W' ∧ Below n₀ W W') ∨ (e = .returned (.bool false) ∧ Jx (pre ++ [x]) W'))
  (W : World) (hBn : W.cell? ⟨Bn, 0, none⟩ = some (.int .u64 v)) (hT : TabAt W) (hg : 0 < n₀) (h0 : J [] W) :
  CallsIn Fence.wide n Tryz.prog 129 #[.func (.yield l) #[] #[], .pointer (some ⟨Bn, 0, none⟩)] W fun e W' => (∃ v, e = .returned v) ∧
   ((∃ ys, SetAll v ys ∧ J ys W') ∨ (∃ pre, SetPart v pre ∧ Jx pre W')) := by
 refine callsIn_of_wp Tryz.func129 rfl trivial ?_ rfl
 simp only [Tryz.ntmps129, List.size_toArray, List.length_cons, List.length_nil, Nat.reduceAdd, Nat.reduceSub, Array.replicate_succ, Array.replicate_zero, List.push_toArray, List.append_toArray, List.nil_append, List.cons_append]
 gi_wp2
 gi_loopw [3] (fun p wr => ∃ (pre : List Nat) (rest : Nat), p = .int .u64 (rest : Nat) ∧ rest < 2 ^ 64 ∧ SetInv v pre rest ∧ TabAt wr ∧ J pre wr)
  (fun p wr => (intOf p).toNat)
 case atStart =>
  exact ⟨[], v, rfl, hv, SetInv.start v, hT, h0⟩
 case round =>
  obtain ⟨pre, rest, rfl, hr, hI, hTr, hJs⟩ := hrel
  clear hBn hT h0 hv
  by_cases hz : rest = 0
  ·subst hz
   gi_wp2
   go_end0
   exact ⟨⟨_, rfl⟩, .inl ⟨pre, hI.done, hJs⟩⟩
  ·have hlen := hI.len hz hr
   have hI2 := hI.step hz hr
   have hP := hI.part hz hr
   obtain ⟨fn, tmps, assign, body, hy, hR⟩ := hY pre (Lib.ctz 64 rest) wr hJs hlen
   have hb : ((rest : Int) != 0) = true := by simp; omega
   have hpos : (1 : Int) ≤ rest := by omega
   have hlt : (rest : Int) ≤ 18446744073709551615 := by omega
   gi_wp2_with (refine ⟨trivial, ?_⟩; gi_at_call 130; refine (callsIn_wide.2 (tz_any rest hr hz _ hTr)).mono ?_; rintro e w' ⟨rfl, rfl⟩)
   refine hR.mono ?_
   rintro e W3 (⟨rfl, hJ3, hk3⟩ | ⟨rfl, hJx3⟩)
   ·have hT3 := hTr.below hg hk3
    gi_wp2
    go_roundw
    case rel =>
     refine ⟨pre ++ [Lib.ctz 64 rest], rest &&& (rest - 1), ?_, Nat.lt_of_le_of_lt Nat.and_le_left hr, hI2, hT3, hJ3⟩
     have e2 : ((rest : Int) - 1) = ((rest - 1 : Nat) : Int) := by omega
     rw [e2, u64_and_nat _ _ hr (by omega)]
    case measure =>
     have e2 : ((rest : Int) - 1) = ((rest - 1 : Nat) : Int) := by omega
     simp only [intOf]
     rw [e2, u64_and_nat _ _ hr (by omega)]
     have := step_lt hz
     omega
   ·gi_wp2
    refine bodyPost_ret (results_none rfl _ _ _) rfl ?_
    exact ⟨⟨_, rfl⟩, .inr ⟨_, hP, hJx3⟩⟩
end
section
namespace CX
open Go.RowKit Go.Shelf
attribute [local go_sem] Oper.semAt_some
def fitsB (v : Nat) (n : Int) : Bool := decide (v < 2 ^ n.toNat)
def AllLt (n : Int) (pre : List Nat) : Prop := ∀ k ∈ pre, (k : Int) < n
def SomeGe (n : Int) (pre : List Nat) : Prop := ∃ k ∈ pre, n ≤ (k : Int)
theorem AllLt.snoc {n : Int} {pre : List Nat} {x : Nat} (h : AllLt n pre) (hx : (x : Int) < n) : AllLt n (pre ++ [x]) := fun k hk => (List.mem_append.1 hk).elim (h k) (fun e => by simp at e; subst e; exact hx)
theorem fits_of_all {v : Nat} {n : Int} {ys : List Nat} (h : SetAll v ys) (hl : AllLt n ys) : fitsB v n = true := by
 unfold fitsB
 refine decide_eq_true (lt_pow_of_bits fun i hi => ?_)
 have := hl i (h.2 i hi)
 omega
theorem fits_of_some {v : Nat} {n : Int} {ys : List Nat} (h : SetPart v ys) (hl : SomeGe n ys) : fitsB v n = false := by
 unfold fitsB
 refine decide_eq_false fun hlt => ?_
 obtain ⟨k, hk, hn⟩ := hl
 have := bits_of_lt_pow hlt (h k hk)
 omega
theorem cell_box {W : World} {B : Nat} {v : Value} {t : TypeId} (h : W.heap[B]? = some (.cells #[v] t (0, 0))) : W.cell? ⟨B, 0, none⟩ = some v ∧ W.frozen? ⟨B, 0, none⟩ = false := by
 constructor <;> simp [World.cell?, World.frozen?, h]
theorem cell_fresh (W : World) (v : Value) (t : TypeId) : (W.alloc (.cells #[v] t)).cell? ⟨W.heap.size, 0, none⟩ = some v ∧ (W.alloc (.cells #[v] t)).frozen? ⟨W.heap.size, 0, none⟩ = false :=
 cell_box (World.alloc_heap_new W _)
theorem cell_more {W : World} {a : Addr} {v : Value} (o : Obj) (h : W.cell? a = some v) : (W.alloc o).cell? a = some v := cell_kept h (World.grownBy_alloc W o none) (fun r e => by cases e)
theorem frozen_more {W : World} {a : Addr} {v : Value} (o : Obj) (h : W.cell? a = some v) (hf : W.frozen? a = false) : (W.alloc o).frozen? a = false := (frozen_kept h (World.grownBy_alloc W o none) (fun r e => by cases e)).trans hf
theorem set_in (n : Nat) (v : Int) (w : World) :
  CallsIn Fence.wide n Tryz.prog 119 #[.int .u64 v] w fun e w' => e = .returned (.func (.func 129) #[] #[.pointer (some ⟨w.heap.size, 0, none⟩)]) ∧ w' = w.alloc (.cells #[.int .u64 v] 31) := by
 refine callsIn_of_wp Tryz.func119 rfl trivial ?_ rfl
 simp only [Tryz.ntmps119, List.size_toArray, List.length_cons, List.length_nil, Nat.reduceAdd, Nat.reduceSub, Array.replicate_succ, Array.replicate_zero, List.push_toArray, List.append_toArray, List.nil_append, List.cons_append]
 gi_wp2
 go_ret
 exact ⟨rfl, rfl⟩
theorem set_stops (n : Nat) (hn : 1 ≤ n) (Bn n₀ v : Nat) (hv : v < 2 ^ 64) (w : World) (hBn : Bn < w.heap.size) (hn₀ : n₀ ≤ w.heap.size) (hg : 0 < n₀)
  (hc : w.cell? ⟨Bn, 0, none⟩ = some (.int .u64 v)) (hT : TabAt w) :
  SeqStopsK Fence.wide n Tryz.prog 129 #[.pointer (some ⟨Bn, 0, none⟩)] (fun x : Nat => #[Value.int .i64 x]) (Below n₀) (SetAll v) (SetPart v) 64 w := fun l J Jx W hW _ _ hY h0 =>
 set1_in n hn l Bn n₀ v hv J Jx hY W ((hW.cell (p := ⟨Bn, 0, none⟩) hBn).trans hc) (hT.below (Nat.lt_of_lt_of_le hg hn₀) hW) hg h0
theorem fits_in (v : Nat) (n : Int) (w : World) (hv : v < 2 ^ 64) (hT : TabAt w) (hg : 0 < w.heap.size) :
  CallsIn Fence.wide 3 Tryz.prog 98 #[.int .u64 v, .int .i64 n] w fun e W' => e = .returned (.bool (fitsB v n)) ∧ Below w.heap.size w W' := by
 refine callsIn_of_wp_marks Tryz.func98 rfl trivial ?_ rfl
 simp only [Tryz.ntmps98, List.size_toArray, List.length_cons, List.length_nil, Nat.reduceAdd, Nat.reduceSub, Array.replicate_succ, Array.replicate_zero, List.push_toArray, List.append_toArray, List.nil_append, List.cons_append]
 gi_wp2_with (refine ⟨trivial, ?_⟩; gi_at_call 119; refine (set_in _ _ _).mono ?_; rintro e w' ⟨rfl, rfl⟩)
 have c0 := cell_fresh w (.int .i64 n) 3
 have c1 := cell_fresh (w.alloc (.cells #[.int .i64 n] 3)) (.bool false) 4
 have c2 := cell_fresh ((w.alloc (.cells #[.int .i64 n] 3)).alloc (.cells #[.bool false] 4)) (.int .u64 v) 31
 simp only [World.size_alloc] at c1 c2
 have hB0 : Below w.heap.size w (((w.alloc (.cells #[.int .i64 n] 3)).alloc (.cells #[.bool false] 4)).alloc (.cells #[.int .u64 v] 31)) := (((Below.refl _ w).alloc (Nat.le_refl _) _).alloc (by simp) _).alloc (by simp; omega) _
 refine wpIn_rangeFunc_ownF rfl (by omega) (gf := 129) (lb := #[.pointer (some ⟨w.heap.size + 1 + 1, 0, none⟩)]) rfl trivial (enters_of Tryz.func129 (by kernel_rfl) rfl)
  (set_stops (3 - 1) (by omega) (w.heap.size + 1 + 1) w.heap.size v hv _ (by simp) (by simp; omega) hg c2.1 (hT.below hg hB0)) belowK_t (belowK_b (by simp; omega)) (Below.refl _ _) (fun _ => rfl)
  (fun pre W => (AllLt n pre ∧ W.cell? ⟨w.heap.size, 0, none⟩ = some (.int .i64 n) ∧ W.cell? ⟨w.heap.size + 1, 0, none⟩ = some (.bool false) ∧ W.frozen? ⟨w.heap.size + 1, 0, none⟩ = false) ∧ Below w.heap.size w W)
  (fun c pre W => (c = .ret ∧ SomeGe n pre ∧ W.cell? ⟨w.heap.size + 1, 0, none⟩ = some (.bool false)) ∧ Below w.heap.size w W)
  (OwnFrom.and (Own.from (fun s A B row hs hg hr => ⟨hs.1, cell_kept hs.2.1 hg hr, cell_kept hs.2.2.1 hg hr, (frozen_kept hs.2.2.1 hg hr).trans hs.2.2.2⟩) _) (ownFrom_below (Nat.le_refl _) (by simp; omega)))
  (fun c => OwnFrom.and (Own.from (fun s A B row hs hg hr => ⟨hs.1, hs.2.1, cell_kept hs.2.2 hg hr⟩) _) (ownFrom_below (Nat.le_refl _) (by simp; omega)))
  ⟨⟨(fun k hk => by cases hk), cell_more _ (cell_more _ c0.1), cell_more _ c1.1, frozen_more _ c1.1 c1.2⟩, hB0⟩
  (fun x => { tmps := #[.int .u64 v, .int .i64 n, undef, .pointer (some ⟨w.heap.size, 0, none⟩), .pointer (some ⟨w.heap.size + 1, 0, none⟩), .int .i64 x, .int .u64 v, .func (.func 129) #[] #[.pointer (some ⟨w.heap.size + 1 + 1, 0, none⟩)], .int .i64 x, undef, undef, undef], defers := [] }) ?assign ?body ?done ?stop
 case assign =>
  intro l x W K hK
  gi_wp2
  exact hK
 case body =>
  rintro l pre x W ⟨⟨hp, hcw, hcr, hfr⟩, hB⟩ _
  gi_wp2
  ·have hx : n ≤ (x : Int) := by assumption
   exact ⟨KeepsOthers.setCell _ _ _, ⟨rfl, ⟨x, by simp, hx⟩, World.cell?_setCell_same' _ _ _ (by rw [hcr]; rfl)⟩, hB.setCell (p := ⟨w.heap.size + 1, 0, none⟩) (by simp) _⟩
  ·have hx : (x : Int) < n := by first | assumption | omega
   exact ⟨KeepsOthers.refl _, Below.refl _ _, ⟨hp.snoc hx, hcw, hcr, hfr⟩, hB⟩
 case done =>
  rintro D ys W hD hall ⟨⟨hlt, _, hcr, hfr⟩, hB⟩ hK
  gi_wp2
  have hK' := (KeepsOthers.setCell W ⟨w.heap.size + 1, 0, none⟩ (.bool true)).same D _ hK rfl
  refine ⟨by simp, .inl ⟨_, _, rfl, run_takeDeferred hK', ?_⟩⟩
  have hc5 := cell_kept (World.cell?_setCell_same' W ⟨w.heap.size + 1, 0, none⟩ (.bool true) (by rw [hcr]; rfl)) (grownBy_putObj' _ D (.deferred none)) (fun r e => by cases e; exact ⟨_, hK', rfl⟩)
  refine ⟨.bool true, ?_, by rw [fits_of_all hall hlt], (hB.setCell (p := ⟨w.heap.size + 1, 0, none⟩) (by simp) _).trans (belowK_b (w := w) (Nat.le_refl _) _ D _ _ (by simp at hD; omega) hK' rfl rfl)⟩
  simp [results, Tryz.f98, go_sem, hc5]
 case stop =>
  rintro D c pre W hD hpre ⟨⟨rfl, hin, hcr⟩, hB⟩ hK
  gi_wp2
  refine ⟨by simp, .inl ⟨_, _, rfl, run_takeDeferred hK, ?_⟩⟩
  have hc5 := cell_kept hcr (grownBy_putObj' _ D (.deferred none)) (fun r e => by cases e; exact ⟨_, hK, rfl⟩)
  refine ⟨.bool false, ?_, by rw [fits_of_some hpre hin], hB.trans (belowK_b (w := w) (Nat.le_refl _) W D _ _ (by simp at hD; omega) hK rfl rfl)⟩
  simp [results, Tryz.f98, go_sem, hc5]
theorem fits_any (v : Nat) (n : Int) (w : World) (hv : v < 2 ^ 64) (hT : TabAt w) (hg : 0 < w.heap.size) :
  Calls Tryz.prog 98 #[.int .u64 v, .int .i64 n] w fun e W' => e = .returned (.bool (fitsB v n)) ∧ Below w.heap.size w W' :=
 callsIn_wide.1 (fits_in v n w hv hT hg)
end CX
end
section
namespace CX
open Go.ChangeShapes Go.WideShapes Go.ChangeAt Go.RowKit
theorem bcell {W w1 : World} (hb : Below W.heap.size W w1) : (∀ b o, b < W.heap.size → w1.cell? ⟨b, o, none⟩ = W.cell? ⟨b, o, none⟩) ∧ (∀ b o, b < W.heap.size → w1.frozen? ⟨b, o, none⟩ = W.frozen? ⟨b, o, none⟩) :=
 ⟨fun b o h => hb.cell (p := ⟨b, o, none⟩) h, fun b o h => hb.frozen (p := ⟨b, o, none⟩) h⟩
theorem below_drewN {B : Nat} {a b : World} (h : Below B a b) (k : Nat) : Below B a (b.drewN k) := by
 induction k with
 | zero => exact h
 | succ k ih => exact ih.drew
def objB (b : Int) : Bool := decide (1 ≤ b ∧ b ≤ 65535)
def guardB (e f : Int) : Bool := decide (0 ≤ f ∧ f ≤ 12 ∧ 0 ≤ e ∧ e < (2 ^ f.toNat : Nat))
def placeB (g h : Int) : Bool := decide (g = 0 ∧ h = 0 ∨ 1 ≤ g ∧ g ≤ 16777215 ∧ 0 ≤ h ∧ h < 512)
def capB (a b c d e f g h : Int) : Bool :=
 if a = 0 ∨ a = 7 then decide (b = 0 ∧ c = 0 ∧ d = 0 ∧ e = 0 ∧ f = 0 ∧ g = 0 ∧ h = 0)
 else if a = 1 ∨ a = 4 ∨ a = 5 ∨ a = 6 ∨ a = 9 then objB b && decide (c = 0 ∧ d = 0 ∧ e = 0 ∧ f = 0 ∧ g = 0 ∧ h = 0)
 else if a = 2 then objB b && guardB e f && decide (c = 0 ∧ d = 0 ∧ g = 0 ∧ h = 0)
 else if a = 3 then objB b && decide (1 ≤ c ∧ c ≤ 3) && placeB g h && decide (d = 0 ∧ e = 0 ∧ f = 0)
 else if a = 8 then objB b && mayB c && decide (d ≤ 16777215) && decide (e = 0 ∧ f = 0 ∧ g = 0 ∧ h = 0)
 else false
abbrev capV (a b c d e f g h : Int) : Value := .agg #[.int .i64 a, .int .i64 b, .int .i64 c, .int .u64 d, .int .i64 e, .int .i64 f, .int .i64 g, .int .i64 h]
theorem obj_any (a b c d e f g h : Int) (W : World) : Calls Tryz.prog 57 #[capV a b c d e f g h] W fun x W' => x = .returned (.bool (objB b)) ∧ Below W.heap.size W W' := by
 go_enter Tryz.func57, Tryz.ntmps57
 go_wp2
 all_goals go_ret
 all_goals refine ⟨ret_bool ?_, (Below.refl _ _).alloc (Nat.le_refl _) _⟩
 all_goals (rw [Bool.eq_iff_iff]; simp [objB]; omega)
theorem obj13_any (b : Int) (W : World) : Calls Tryz.prog 124 #[.int .i64 b] W fun x W' => x = .returned (.bool (objB b)) ∧ W = W' := by
 go_enter Tryz.func124, Tryz.ntmps124
 go_wp2
 all_goals go_ret
 all_goals refine ⟨ret_bool ?_, rfl⟩
 all_goals (rw [Bool.eq_iff_iff]; simp [objB]; omega)
theorem frame_any (a b c d e f g h : Int) (W : World) : Calls Tryz.prog 59 #[capV a b c d e f g h] W fun x W' => x = .returned (.bool (decide (1 ≤ c ∧ c ≤ 3) && placeB g h)) ∧ Below W.heap.size W W' := by
  by_cases hc : 1 ≤ c ∧ c ≤ 3
  · obtain ⟨h1, h2⟩ := hc
    by_cases hg : g = 0
    · subst hg
      by_cases hh : h = 0
      · subst hh
        go_enter Tryz.func59, Tryz.ntmps59
        go_wp2
        all_goals go_ret
        all_goals refine ⟨ret_bool ?_, (Below.refl _ _).alloc (Nat.le_refl _) _⟩
        all_goals (rw [Bool.eq_iff_iff]; simp [placeB]; omega)
      · go_enter Tryz.func59, Tryz.ntmps59
        go_wp2
        all_goals go_ret
        all_goals refine ⟨ret_bool ?_, (Below.refl _ _).alloc (Nat.le_refl _) _⟩
        all_goals (rw [Bool.eq_iff_iff]; simp [placeB]; omega)
    · go_enter Tryz.func59, Tryz.ntmps59
      go_wp2
      all_goals go_ret
      all_goals refine ⟨ret_bool ?_, (Below.refl _ _).alloc (Nat.le_refl _) _⟩
      all_goals (rw [Bool.eq_iff_iff]; simp [placeB]; omega)
  · go_enter Tryz.func59, Tryz.ntmps59
    go_wp2
    all_goals first
      | (exfalso; omega)
      | (go_ret
         refine ⟨ret_bool ?_, (Below.refl _ _).alloc (Nat.le_refl _) _⟩
         first | (rw [Bool.eq_iff_iff]; done) | (rw [Bool.eq_iff_iff]; simp [placeB] <;> omega))
def TabG (w : World) : Prop := TabAt w ∧ 0 < w.heap.size
theorem TabG.below {B : Nat} {w w' : World} (h : TabG w) (hB : 0 < B) (hb : Below B w w') : TabG w' := ⟨h.1.below hB hb, Nat.lt_of_lt_of_le h.2 hb.size⟩
theorem TabG.call {w w' : World} (h : TabG w) (hb : Below w.heap.size w w') : TabG w' := h.below h.2 hb
theorem TabG.alloc {w : World} (h : TabG w) (o : Obj) : TabG (w.alloc o) := h.call ((Below.refl _ _).alloc (Nat.le_refl _) _)
theorem guard_yes (a b c d g h f : Int) (e : Nat) (W : World) (hT : TabG W) (f0 : 0 ≤ f) (f1 : f ≤ 12) (e1 : (e : Int) ≤ 9223372036854775807) : Calls Tryz.prog 58 #[capV a b c d e f g h] W fun x W' => x = .returned (.bool (guardB e f)) ∧ Below W.heap.size W W' := by
 have hk : fitsB e f = guardB e f := by
  unfold fitsB guardB
  rw [Bool.eq_iff_iff]
  simp only [decide_eq_true_eq]
  constructor
  ·intro h; exact ⟨f0, f1, by omega, by exact_mod_cast h⟩
  ·intro h; exact_mod_cast h.2.2.2
 have he : (e : Nat) < 2 ^ 64 := by omega
 have e0 : (0 : Int) ≤ e := by omega
 have HK := hid hk
 clear hk
 go_enter Tryz.func58, Tryz.ntmps58
 go_wp2_with (first | (go_at_call 98; refine (fits_any e f _ he (hT.alloc _).1 (hT.alloc _).2).mono ?_; rintro x w1 ⟨rfl, hb1⟩))
 go_ret
 exact ⟨ret_bool HK.out, bgo (bal (Below.refl _ _) _) hb1⟩
theorem guard_no (a b c d g h f : Int) (e : Int) (W : World) (hn : f < 0 ∨ 12 < f ∨ e < 0) : Calls Tryz.prog 58 #[capV a b c d e f g h] W fun x W' => x = .returned (.bool (guardB e f)) ∧ Below W.heap.size W W' := by
 have hk : guardB e f = false := by unfold guardB; exact decide_eq_false (by omega)
 rw [hk]
 clear hk
 have hn' : f < 0 ∨ (0 ≤ f ∧ 12 < f) ∨ (0 ≤ f ∧ f ≤ 12 ∧ e < 0) := by omega
 clear hn
 rcases hn' with hn | ⟨h0, hn⟩ | ⟨h0, h1, hn⟩
 all_goals
  go_enter Tryz.func58, Tryz.ntmps58
  go_wp2
  go_ret
  exact ⟨rfl, bal (Below.refl _ _) _⟩
theorem guard_any (a b c d e f g h : Int) (W : World) (hT : TabG W) (e1 : e ≤ 9223372036854775807) : Calls Tryz.prog 58 #[capV a b c d e f g h] W fun x W' => x = .returned (.bool (guardB e f)) ∧ Below W.heap.size W W' := by
 by_cases hn : f < 0 ∨ 12 < f ∨ e < 0
 ·exact guard_no a b c d g h f e W hn
 ·obtain ⟨n, rfl⟩ := Int.eq_ofNat_of_zero_le (show 0 ≤ e by omega)
  exact guard_yes a b c d g h f n W hT (by omega) (by omega) e1
theorem none_may (a b c d e f g h : Int) (W : World) (ha : a = 0 ∨ a = 7) : Calls Tryz.prog 15 #[capV a b c d e f g h] W fun x W' => x = .returned (.bool (capB a b c d e f g h)) ∧ Below W.heap.size W W' := by
 rcases ha with rfl | rfl
 all_goals
  go_enter Tryz.func15, Tryz.ntmps15
  go_wp2
  all_goals
   go_ret
   exact ⟨ret_bool (by simp [capB, *]), (by repeat (first | exact Below.refl _ _ | assumption | refine below_drewN ?_ _ | refine Below.setCell ?_ (by first | exact Nat.le_refl _ | (simp; done) | (simp; omega)) _ | refine bal ?_ _ | refine bgo ?_ (by assumption)))⟩
theorem plain_may (a b c d e f g h : Int) (W : World) (ha : a = 1 ∨ a = 4 ∨ a = 5 ∨ a = 6 ∨ a = 9) : Calls Tryz.prog 15 #[capV a b c d e f g h] W fun x W' => x = .returned (.bool (capB a b c d e f g h)) ∧ Below W.heap.size W W' := by
 rcases ha with rfl | rfl | rfl | rfl | rfl
 all_goals
  go_enter Tryz.func15, Tryz.ntmps15
  go_wp2_with (first | (go_at_call 57; refine (obj_any _ _ _ _ _ _ _ _ _).mono ?_; rintro x w1 ⟨rfl, hb1⟩))
  all_goals
   go_ret
   exact ⟨ret_bool (by simp [capB, *]), (by repeat (first | exact Below.refl _ _ | assumption | refine below_drewN ?_ _ | refine Below.setCell ?_ (by first | exact Nat.le_refl _ | (simp; done) | (simp; omega)) _ | refine bal ?_ _ | refine bgo ?_ (by assumption)))⟩
theorem node_may (b c d e f g h : Int) (W : World) (hT : TabG W) (e1 : e ≤ 9223372036854775807) : Calls Tryz.prog 15 #[capV 2 b c d e f g h] W fun x W' => x = .returned (.bool (capB 2 b c d e f g h)) ∧ Below W.heap.size W W' := by
 cases ho : objB b
 all_goals
  go_enter Tryz.func15, Tryz.ntmps15
  go_wp2
  go_region
  all_goals go_wp2_with (first
   | (go_at_call 57; refine (obj_any _ _ _ _ _ _ _ _ _).mono ?_; rw [ho]; rintro x w1 ⟨rfl, hb1⟩; obtain ⟨hc1, hf1⟩ := bcell hb1)
   | (go_at_call 58; refine (guard_any _ _ _ _ _ _ _ _ _ (by exact hT.call (by repeat (first | exact Below.refl _ _ | assumption | refine below_drewN ?_ _ | refine Below.setCell ?_ (by first | exact Nat.le_refl _ | (simp; done) | (simp; omega)) _ | refine bal ?_ _ | refine bgo ?_ (by assumption)))) e1).mono ?_; rintro x w2 ⟨rfl, hb2⟩))
  all_goals
   go_ret
   exact ⟨ret_bool (by simp [capB, *]), (by repeat (first | exact Below.refl _ _ | assumption | refine below_drewN ?_ _ | refine Below.setCell ?_ (by first | exact Nat.le_refl _ | (simp; done) | (simp; omega)) _ | refine bal ?_ _ | refine bgo ?_ (by assumption)))⟩
theorem frame_may (b c d e f g h : Int) (W : World) : Calls Tryz.prog 15 #[capV 3 b c d e f g h] W fun x W' => x = .returned (.bool (capB 3 b c d e f g h)) ∧ Below W.heap.size W W' := by
 cases ho : objB b
 all_goals
  go_enter Tryz.func15, Tryz.ntmps15
  go_wp2
  go_region
  all_goals go_wp2_with (first
   | (go_at_call 57; refine (obj_any _ _ _ _ _ _ _ _ _).mono ?_; rw [ho]; rintro x w1 ⟨rfl, hb1⟩; obtain ⟨hc1, hf1⟩ := bcell hb1)
   | (go_at_call 59; refine (frame_any _ _ _ _ _ _ _ _ _).mono ?_; rintro x w2 ⟨rfl, hb2⟩))
  all_goals
   go_ret
   exact ⟨ret_bool (by simp [capB, *]), (by repeat (first | exact Below.refl _ _ | assumption | refine below_drewN ?_ _ | refine Below.setCell ?_ (by first | exact Nat.le_refl _ | (simp; done) | (simp; omega)) _ | refine bal ?_ _ | refine bgo ?_ (by assumption)))⟩
theorem end_may (b c d e f g h : Int) (W : World) : Calls Tryz.prog 15 #[capV 8 b c d e f g h] W fun x W' => x = .returned (.bool (capB 8 b c d e f g h)) ∧ Below W.heap.size W W' := by
 cases ho : objB b <;> cases hm : mayB c
 all_goals
  go_enter Tryz.func15, Tryz.ntmps15
  go_wp2
  go_region
  all_goals go_wp2_with (first
   | (go_at_call 57; refine (obj_any _ _ _ _ _ _ _ _ _).mono ?_; rw [ho]; rintro x w1 ⟨rfl, hb1⟩; obtain ⟨hc1, hf1⟩ := bcell hb1)
   | (go_at_call 60; refine (may_any _ _).mono ?_; rw [hm]; rintro x w2 ⟨rfl, rfl⟩))
  all_goals
   go_ret
   exact ⟨ret_bool (by simp [capB, *]), (by repeat (first | exact Below.refl _ _ | assumption | refine below_drewN ?_ _ | refine Below.setCell ?_ (by first | exact Nat.le_refl _ | (simp; done) | (simp; omega)) _ | refine bal ?_ _ | refine bgo ?_ (by assumption)))⟩
theorem no_may (a b c d e f g h : Int) (W : World) (ha : a < 0 ∨ 9 < a) : Calls Tryz.prog 15 #[capV a b c d e f g h] W fun x W' => x = .returned (.bool (capB a b c d e f g h)) ∧ Below W.heap.size W W' := by
 have hk : capB a b c d e f g h = false := by
  unfold capB
  rw [if_neg (by omega), if_neg (by omega), if_neg (by omega), if_neg (by omega), if_neg (by omega)]
 rw [hk]
 have k0 : (a == 0) = false := beq_eq_false_iff_ne.2 (by omega)
 have k1 : (a == 1) = false := beq_eq_false_iff_ne.2 (by omega)
 have k2 : (a == 2) = false := beq_eq_false_iff_ne.2 (by omega)
 have k3 : (a == 3) = false := beq_eq_false_iff_ne.2 (by omega)
 have k4 : (a == 4) = false := beq_eq_false_iff_ne.2 (by omega)
 have k5 : (a == 5) = false := beq_eq_false_iff_ne.2 (by omega)
 have k6 : (a == 6) = false := beq_eq_false_iff_ne.2 (by omega)
 have k7 : (a == 7) = false := beq_eq_false_iff_ne.2 (by omega)
 have k8 : (a == 8) = false := beq_eq_false_iff_ne.2 (by omega)
 have k9 : (a == 9) = false := beq_eq_false_iff_ne.2 (by omega)
 clear hk ha
 go_enter Tryz.func15, Tryz.ntmps15
 go_wp2
 go_ret
 exact ⟨rfl, (by repeat (first | exact Below.refl _ _ | assumption | refine below_drewN ?_ _ | refine Below.setCell ?_ (by first | exact Nat.le_refl _ | (simp; done) | (simp; omega)) _ | refine bal ?_ _ | refine bgo ?_ (by assumption)))⟩
theorem pow_bd {k : Nat} (h : k ≤ 12) : 1 ≤ 2 ^ k ∧ 2 ^ k ≤ 4096 := ⟨Nat.pos_of_ne_zero (by simp), Nat.pow_le_pow_right (by decide) h⟩
theorem power_any (n : Nat) (W : World) (hn : n ≤ 12) : Calls Tryz.prog 125 #[.int .i64 n] W fun x W' => x = .returned (.int .i64 ((2 ^ n : Nat) : Int)) ∧ W = W' := by
 go_enter Tryz.func125, Tryz.ntmps125
 go_wp2
 go_loop [3, 4] (fun v i => ∃ k : Nat, k ≤ n ∧ i = .int .i64 k ∧ v = .int .i64 ((2 ^ k : Nat) : Int)) (fun _ i => n - (intOf i).toNat)
 case atStart => exact ⟨0, Nat.zero_le _, rfl, rfl⟩
 case round =>
  obtain ⟨k, hk, rfl, rfl⟩ := hrel
  by_cases hlt : k < n
  ·have hb := pow_bd (k := k) (by omega)
   have hs : 2 ^ (k + 1) = 2 ^ k * 2 := Nat.pow_succ 2 k
   have HS := hid hs
   clear hs
   obtain ⟨h1, h2⟩ := hb
   generalize hp : 2 ^ k = p at *
   go_wp2
   go_round
   case rel => exact ⟨k + 1, by omega, by go_num, by rw [HS.out]; go_num⟩
   case measure => simp [intOf]; omega
  ·obtain rfl : k = n := by omega
   go_wp2
   go_ret
   exact ⟨rfl, rfl⟩
theorem refMay13_none (a b c d e f g h : Int) (W : World) (ha : a = 0 ∨ a = 7) : Calls Tryz.prog 110 #[capV a b c d e f g h] W fun x W' => x = .returned (.bool (capB a b c d e f g h)) ∧ Below W.heap.size W W' := by
 rcases ha with rfl | rfl
 all_goals
  go_enter Tryz.func110, Tryz.ntmps110
  go_wp2
  all_goals
   go_ret
   exact ⟨ret_bool (by simp [capB, *]), (by repeat (first | exact Below.refl _ _ | assumption | refine below_drewN ?_ _ | refine Below.setCell ?_ (by first | exact Nat.le_refl _ | (simp; done) | (simp; omega)) _ | refine bal ?_ _ | refine bgo ?_ (by assumption)))⟩
theorem refMay13_plain (a b c d e f g h : Int) (W : World) (ha : a = 1 ∨ a = 4 ∨ a = 5 ∨ a = 6 ∨ a = 9) : Calls Tryz.prog 110 #[capV a b c d e f g h] W fun x W' => x = .returned (.bool (capB a b c d e f g h)) ∧ Below W.heap.size W W' := by
 cases ho : objB b
 all_goals rcases ha with rfl | rfl | rfl | rfl | rfl
 all_goals
  go_enter Tryz.func110, Tryz.ntmps110
  go_wp2_with (first | (go_at_call 124; refine (obj13_any _ _).mono ?_; rw [ho]; rintro x w1 ⟨rfl, rfl⟩))
  all_goals
   go_ret
   exact ⟨ret_bool (by simp [capB, *]), (by repeat (first | exact Below.refl _ _ | assumption | refine below_drewN ?_ _ | refine Below.setCell ?_ (by first | exact Nat.le_refl _ | (simp; done) | (simp; omega)) _ | refine bal ?_ _ | refine bgo ?_ (by assumption)))⟩
theorem same_q {P : Program} {f : FuncId} {args : Array Value} {w : World} {v : Value} (h : Calls P f args w fun e w' => e = .returned v ∧ w = w') : Calls P f args w fun e w' => e = .returned v ∧ w' = w := h.mono fun _ _ ⟨a, b⟩ => ⟨a, b.symm⟩
theorem obj13_is (b : Int) {v : Bool} (h : objB b = v) (W : World) : Calls Tryz.prog 124 #[.int .i64 b] W fun x W' => x = .returned (.bool v) ∧ W = W' := h ▸ obj13_any b W
theorem two_caps {W w2 : World} {T : TypeId} {a b c d e f g h a' b' c' d' e' f' g' h' : Int} (hw : w2 = ((W.alloc (Obj.cells #[Value.int .i64 a, Value.int .i64 b, Value.int .i64 c, Value.int .u64 d, Value.int .i64 e, Value.int .i64 f, Value.int .i64 g, Value.int .i64 h] T)).alloc (Obj.cells #[Value.int .i64 a', Value.int .i64 b', Value.int .i64 c', Value.int .u64 d', Value.int .i64 e', Value.int .i64 f', Value.int .i64 g', Value.int .i64 h'] T)).drew) :
  (w2.cell? ⟨W.heap.size, 0, none⟩ = some (.int .i64 a) ∧ w2.cell? ⟨W.heap.size, 1, none⟩ = some (.int .i64 b) ∧ w2.cell? ⟨W.heap.size, 2, none⟩ = some (.int .i64 c) ∧ w2.cell? ⟨W.heap.size, 3, none⟩ = some (.int .u64 d) ∧ w2.cell? ⟨W.heap.size, 4, none⟩ = some (.int .i64 e) ∧ w2.cell? ⟨W.heap.size, 5, none⟩ = some (.int .i64 f) ∧ w2.cell? ⟨W.heap.size, 6, none⟩ = some (.int .i64 g) ∧ w2.cell? ⟨W.heap.size, 7, none⟩ = some (.int .i64 h)) ∧
  (w2.cell? ⟨W.heap.size + 1, 0, none⟩ = some (.int .i64 a') ∧ w2.cell? ⟨W.heap.size + 1, 1, none⟩ = some (.int .i64 b') ∧ w2.cell? ⟨W.heap.size + 1, 2, none⟩ = some (.int .i64 c') ∧ w2.cell? ⟨W.heap.size + 1, 3, none⟩ = some (.int .u64 d') ∧ w2.cell? ⟨W.heap.size + 1, 4, none⟩ = some (.int .i64 e') ∧ w2.cell? ⟨W.heap.size + 1, 5, none⟩ = some (.int .i64 f') ∧ w2.cell? ⟨W.heap.size + 1, 6, none⟩ = some (.int .i64 g') ∧ w2.cell? ⟨W.heap.size + 1, 7, none⟩ = some (.int .i64 h')) ∧ Below W.heap.size W w2 := by
 subst hw
 refine ⟨⟨?_, ?_, ?_, ?_, ?_, ?_, ?_, ?_⟩, ⟨?_, ?_, ?_, ?_, ?_, ?_, ?_, ?_⟩, (bal (bal (Below.refl _ _) _) _).drew⟩
 all_goals simp
theorem refMay13_node0 (b c d e f g h : Int) (W : World) (hn : objB b = false ∨ (objB b = true ∧ c ≠ 0) ∨ (objB b = true ∧ c = 0 ∧ d ≠ 0) ∨ (objB b = true ∧ c = 0 ∧ d = 0 ∧ g ≠ 0) ∨ (objB b = true ∧ c = 0 ∧ d = 0 ∧ g = 0 ∧ h ≠ 0) ∨ (objB b = true ∧ c = 0 ∧ d = 0 ∧ g = 0 ∧ h = 0 ∧ f < 0) ∨
  (objB b = true ∧ c = 0 ∧ d = 0 ∧ g = 0 ∧ h = 0 ∧ 0 ≤ f ∧ 12 < f) ∨ (objB b = true ∧ c = 0 ∧ d = 0 ∧ g = 0 ∧ h = 0 ∧ 0 ≤ f ∧ f ≤ 12 ∧ e < 0)) : Calls Tryz.prog 110 #[capV 2 b c d e f g h] W fun x W' => x = .returned (.bool (capB 2 b c d e f g h)) ∧ Below W.heap.size W W' := by
 have hk : capB 2 b c d e f g h = false := by
  unfold capB guardB
  simp only [Bool.and_eq_false_iff, decide_eq_false_iff_not, Int.reduceEq, or_self, if_false, if_true]
  rcases hn with hn | ⟨hn, h1⟩ | ⟨hn, h1, h2⟩ | ⟨hn, h1, h2, h3⟩ | ⟨hn, h1, h2, h3, h4⟩ | ⟨hn, h1, h2, h3, h4, h5⟩ | ⟨hn, h1, h2, h3, h4, h5, h6⟩ | ⟨hn, h1, h2, h3, h4, h5, h6, h7⟩
  ·exact .inl (.inl hn)
  all_goals first
   | exact .inr (by omega)
   | exact .inl (.inr (by omega))
 rw [hk]
 clear hk
 have HN := hid hn
 clear hn
 go_enter Tryz.func110, Tryz.ntmps110
 go_wp2
 go_region
 go_wp2
 obtain ⟨w2, hw2⟩ : ∃ x, x = ((W.alloc (Obj.cells #[Value.int .i64 2, Value.int .i64 b, Value.int .i64 c, Value.int .u64 d, Value.int .i64 e, Value.int .i64 f, Value.int .i64 g, Value.int .i64 h] 33)).alloc (Obj.cells #[Value.int .i64 2, Value.int .i64 b, Value.int .i64 0, Value.int .u64 0, Value.int .i64 e, Value.int .i64 f, Value.int .i64 0, Value.int .i64 0] 33)).drew := ⟨_, rfl⟩
 rw [← hw2]
 obtain ⟨⟨p0, p1, p2, p3, p4, p5, p6, p7⟩, ⟨q0, q1, q2, q3, q4, q5, q6, q7⟩, hb2⟩ := two_caps hw2
 clear hw2
 have hn := HN.out
 clear HN
 rcases hn with hn | ⟨hn, h1⟩ | ⟨hn, rfl, h2⟩ | ⟨hn, rfl, rfl, h3⟩ | ⟨hn, rfl, rfl, rfl, h4⟩ | ⟨hn, rfl, rfl, rfl, rfl, h5⟩ | ⟨hn, rfl, rfl, rfl, rfl, h5, h6⟩ | ⟨hn, rfl, rfl, rfl, rfl, h5, h6, h7⟩
 all_goals first | (have k1 : decide (0 ≤ f) = false := decide_eq_false (by omega)) | (have k1 : decide (f ≤ 12) = false := decide_eq_false (by omega)) | (have k1 : decide (0 ≤ e) = false := decide_eq_false (by omega)) | skip
 all_goals
  have HN := hid hn
  clear hn
  go_quiet ((go_at_call 124; exact Calls.quiet_of_same (same_q (obj13_is _ HN.out _))))
  all_goals
   go_wp2
   go_ret
   exact ⟨rfl, (by repeat (first | exact Below.refl _ _ | assumption | refine below_drewN ?_ _ | refine Below.drew ?_ | refine Below.setCell ?_ (by first | exact Nat.le_refl _ | (simp; done) | (simp; omega)) _ | refine bal ?_ _ | refine bgo ?_ (by assumption)))⟩
theorem refMay13_node1 (b e : Int) (f : Nat) (W : World) (hb : objB b = true) (hf : f ≤ 12) (he : 0 ≤ e) : Calls Tryz.prog 110 #[capV 2 b 0 0 e f 0 0] W fun x W' => x = .returned (.bool (capB 2 b 0 0 e f 0 0)) ∧ Below W.heap.size W W' := by
 have f0 : (0 : Int) ≤ f := by omega
 have f1 : (f : Int) ≤ 12 := by omega
 have hk : capB 2 b 0 0 e f 0 0 = decide (e < ((2 ^ f : Nat) : Int)) := by
  rw [Bool.eq_iff_iff]
  simp only [capB, guardB, hb, Int.reduceEq, or_self, if_false, if_true, and_self, decide_true, Bool.and_true, Bool.true_and, decide_eq_true_eq, Int.toNat_natCast]
  exact ⟨fun h => h.2.2.2, fun h => ⟨f0, f1, he, h⟩⟩
 rw [hk]
 have HN := hid hb
 clear hb hk
 go_enter Tryz.func110, Tryz.ntmps110
 go_wp2
 go_region
 go_wp2
 obtain ⟨w2, hw2⟩ : ∃ x, x = ((W.alloc (Obj.cells #[Value.int .i64 2, Value.int .i64 b, Value.int .i64 0, Value.int .u64 0, Value.int .i64 e, Value.int .i64 f, Value.int .i64 0, Value.int .i64 0] 33)).alloc (Obj.cells #[Value.int .i64 2, Value.int .i64 b, Value.int .i64 0, Value.int .u64 0, Value.int .i64 e, Value.int .i64 f, Value.int .i64 0, Value.int .i64 0] 33)).drew := ⟨_, rfl⟩
 rw [← hw2]
 obtain ⟨⟨p0, p1, p2, p3, p4, p5, p6, p7⟩, ⟨q0, q1, q2, q3, q4, q5, q6, q7⟩, hb2⟩ := two_caps hw2
 clear hw2
 go_quiet ((first | (go_at_call 124; exact Calls.quiet_of_same (same_q (obj13_is _ HN.out _))) | (go_at_call 125; exact Calls.quiet_of_same (same_q (power_any f _ hf)))))
 all_goals
  go_wp2
  go_ret
  exact ⟨rfl, (by repeat (first | exact Below.refl _ _ | assumption | refine below_drewN ?_ _ | refine Below.drew ?_ | refine Below.setCell ?_ (by first | exact Nat.le_refl _ | (simp; done) | (simp; omega)) _ | refine bal ?_ _ | refine bgo ?_ (by assumption)))⟩
theorem refMay13_frame (b c d e f g h : Int) (W : World) : Calls Tryz.prog 110 #[capV 3 b c d e f g h] W fun x W' => x = .returned (.bool (capB 3 b c d e f g h)) ∧ Below W.heap.size W W' := by
 cases ho : objB b
 all_goals
  go_enter Tryz.func110, Tryz.ntmps110
  go_wp2
  go_region
  all_goals go_wp2_with (first
   | (go_at_call 124; refine (obj13_any _ _).mono ?_; rw [ho]; rintro x w1 ⟨rfl, rfl⟩))
  all_goals
   go_ret
   exact ⟨ret_bool (by simp [capB, placeB, *] <;> omega), (by repeat (first | exact Below.refl _ _ | assumption | refine below_drewN ?_ _ | refine Below.drew ?_ | refine Below.setCell ?_ (by first | exact Nat.le_refl _ | (simp; done) | (simp; omega)) _ | refine bal ?_ _ | refine bgo ?_ (by assumption)))⟩
theorem refMay13_end (b c d e f g h : Int) (W : World) : Calls Tryz.prog 110 #[capV 8 b c d e f g h] W fun x W' => x = .returned (.bool (capB 8 b c d e f g h)) ∧ Below W.heap.size W W' := by
 cases ho : objB b
 all_goals
  go_enter Tryz.func110, Tryz.ntmps110
  go_wp2
  go_region
  all_goals go_wp2_with (first
   | (go_at_call 124; refine (obj13_any _ _).mono ?_; rw [ho]; rintro x w1 ⟨rfl, rfl⟩))
  all_goals
   go_ret
   exact ⟨ret_bool (by simp [capB, mayB, *] <;> omega), (by repeat (first | exact Below.refl _ _ | assumption | refine below_drewN ?_ _ | refine Below.drew ?_ | refine Below.setCell ?_ (by first | exact Nat.le_refl _ | (simp; done) | (simp; omega)) _ | refine bal ?_ _ | refine bgo ?_ (by assumption)))⟩
end CX
end
end Go.Proofs.YtchjfeafkmpmbaaGreatDoor
