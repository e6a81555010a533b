import Derived.Test.YtekllgejmgoajaaDoorPkaj
import Derived.Test.YtekllgejmgoajaaDoorPkai
import Derived.Test.YtekllgejmgoajaaDoorFrame
import Derived.LoopTactic
namespace Go.Proofs.YtekllgejmgoajaaDoor
set_option linter.unusedVariables false
set_option linter.unusedSimpArgs false
set_option maxRecDepth 100000
set_option maxHeartbeats 8000000
open Lib (hid)
section
namespace CX
open Go.RowKit Go.Shelf
attribute [local go_sem] Oper.semAt_some
def fitsB (v : Nat) (n : Int) : Bool := decide (v < 2 ^ n.toNat)
def AllLt (n : Int) (pre : List Nat) : Prop := ∀ k ∈ pre, (k : Int) < n
def SomeGe (n : Int) (pre : List Nat) : Prop := ∃ k ∈ pre, n ≤ (k : Int)
theorem AllLt.snoc {n : Int} {pre : List Nat} {x : Nat} (h : AllLt n pre) (hx : (x : Int) < n) : AllLt n (pre ++ [x]) := fun k hk => (List.mem_append.1 hk).elim (h k) (fun e => by simp at e; subst e; exact hx)
theorem fits_of_all {v : Nat} {n : Int} {ys : List Nat} (h : SetAll v ys) (hl : AllLt n ys) : fitsB v n = true := by
 unfold fitsB
 refine decide_eq_true (lt_pow_of_bits fun i hi => ?_)
 have := hl i (h.2 i hi)
 omega
theorem fits_of_some {v : Nat} {n : Int} {ys : List Nat} (h : SetPart v ys) (hl : SomeGe n ys) : fitsB v n = false := by
 unfold fitsB
 refine decide_eq_false fun hlt => ?_
 obtain ⟨k, hk, hn⟩ := hl
 have := bits_of_lt_pow hlt (h k hk)
 omega
theorem cell_box {W : World} {B : Nat} {v : Value} {t : TypeId} (h : W.heap[B]? = some (.cells #[v] t (0, 0))) : W.cell? ⟨B, 0, none⟩ = some v ∧ W.frozen? ⟨B, 0, none⟩ = false := by
 constructor <;> simp [World.cell?, World.frozen?, h]
theorem cell_fresh (W : World) (v : Value) (t : TypeId) : (W.alloc (.cells #[v] t)).cell? ⟨W.heap.size, 0, none⟩ = some v ∧ (W.alloc (.cells #[v] t)).frozen? ⟨W.heap.size, 0, none⟩ = false :=
 cell_box (World.alloc_heap_new W _)
theorem cell_more {W : World} {a : Addr} {v : Value} (o : Obj) (h : W.cell? a = some v) : (W.alloc o).cell? a = some v := cell_kept h (World.grownBy_alloc W o none) (fun r e => by cases e)
theorem frozen_more {W : World} {a : Addr} {v : Value} (o : Obj) (h : W.cell? a = some v) (hf : W.frozen? a = false) : (W.alloc o).frozen? a = false := (frozen_kept h (World.grownBy_alloc W o none) (fun r e => by cases e)).trans hf
theorem set_in (n : Nat) (v : Int) (w : World) :
  CallsIn Fence.wide n Tryd.prog 76 #[.int .u64 v] w fun e w' => e = .returned (.func (.func 83) #[] #[.pointer (some ⟨w.heap.size, 0, none⟩)]) ∧ w' = w.alloc (.cells #[.int .u64 v] 24) := by
 refine callsIn_of_wp Tryd.func76 rfl trivial ?_ rfl
 simp only [Tryd.ntmps76, List.size_toArray, List.length_cons, List.length_nil, Nat.reduceAdd, Nat.reduceSub, Array.replicate_succ, Array.replicate_zero, List.push_toArray, List.append_toArray, List.nil_append, List.cons_append]
 gi_wp2
 go_ret
 exact ⟨rfl, rfl⟩
theorem set_stops (n : Nat) (hn : 1 ≤ n) (Bn n₀ v : Nat) (hv : v < 2 ^ 64) (w : World) (hBn : Bn < w.heap.size) (hn₀ : n₀ ≤ w.heap.size) (hg : 0 < n₀)
  (hc : w.cell? ⟨Bn, 0, none⟩ = some (.int .u64 v)) (hT : TabAt w) :
  SeqStopsK Fence.wide n Tryd.prog 83 #[.pointer (some ⟨Bn, 0, none⟩)] (fun x : Nat => #[Value.int .i64 x]) (Below n₀) (SetAll v) (SetPart v) 64 w := fun l J Jx W hW _ _ hY h0 =>
 set1_in n hn l Bn n₀ v hv J Jx hY W ((hW.cell (p := ⟨Bn, 0, none⟩) hBn).trans hc) (hT.below (Nat.lt_of_lt_of_le hg hn₀) hW) hg h0
theorem fits_in (v : Nat) (n : Int) (w : World) (hv : v < 2 ^ 64) (hT : TabAt w) (hg : 0 < w.heap.size) :
  CallsIn Fence.wide 3 Tryd.prog 68 #[.int .u64 v, .int .i64 n] w fun e W' => e = .returned (.bool (fitsB v n)) ∧ Below w.heap.size w W' := by
 refine callsIn_of_wp_marks Tryd.func68 rfl trivial ?_ rfl
 simp only [Tryd.ntmps68, List.size_toArray, List.length_cons, List.length_nil, Nat.reduceAdd, Nat.reduceSub, Array.replicate_succ, Array.replicate_zero, List.push_toArray, List.append_toArray, List.nil_append, List.cons_append]
 gi_wp2_with (refine ⟨trivial, ?_⟩; gi_at_call 76; refine (set_in _ _ _).mono ?_; rintro e w' ⟨rfl, rfl⟩)
 have c0 := cell_fresh w (.int .i64 n) 3
 have c1 := cell_fresh (w.alloc (.cells #[.int .i64 n] 3)) (.bool false) 4
 have c2 := cell_fresh ((w.alloc (.cells #[.int .i64 n] 3)).alloc (.cells #[.bool false] 4)) (.int .u64 v) 24
 simp only [World.size_alloc] at c1 c2
 have hB0 : Below w.heap.size w (((w.alloc (.cells #[.int .i64 n] 3)).alloc (.cells #[.bool false] 4)).alloc (.cells #[.int .u64 v] 24)) := (((Below.refl _ w).alloc (Nat.le_refl _) _).alloc (by simp) _).alloc (by simp; omega) _
 refine wpIn_rangeFunc_ownF rfl (by omega) (gf := 83) (lb := #[.pointer (some ⟨w.heap.size + 1 + 1, 0, none⟩)]) rfl trivial (enters_of Tryd.func83 (by kernel_rfl) rfl)
  (set_stops (3 - 1) (by omega) (w.heap.size + 1 + 1) w.heap.size v hv _ (by simp) (by simp; omega) hg c2.1 (hT.below hg hB0)) belowK_t (belowK_b (by simp; omega)) (Below.refl _ _) (fun _ => rfl)
  (fun pre W => (AllLt n pre ∧ W.cell? ⟨w.heap.size, 0, none⟩ = some (.int .i64 n) ∧ W.cell? ⟨w.heap.size + 1, 0, none⟩ = some (.bool false) ∧ W.frozen? ⟨w.heap.size + 1, 0, none⟩ = false) ∧ Below w.heap.size w W)
  (fun c pre W => (c = .ret ∧ SomeGe n pre ∧ W.cell? ⟨w.heap.size + 1, 0, none⟩ = some (.bool false)) ∧ Below w.heap.size w W)
  (OwnFrom.and (Own.from (fun s A B row hs hg hr => ⟨hs.1, cell_kept hs.2.1 hg hr, cell_kept hs.2.2.1 hg hr, (frozen_kept hs.2.2.1 hg hr).trans hs.2.2.2⟩) _) (ownFrom_below (Nat.le_refl _) (by simp; omega)))
  (fun c => OwnFrom.and (Own.from (fun s A B row hs hg hr => ⟨hs.1, hs.2.1, cell_kept hs.2.2 hg hr⟩) _) (ownFrom_below (Nat.le_refl _) (by simp; omega)))
  ⟨⟨(fun k hk => by cases hk), cell_more _ (cell_more _ c0.1), cell_more _ c1.1, frozen_more _ c1.1 c1.2⟩, hB0⟩
  (fun x => { tmps := #[.int .u64 v, .int .i64 n, undef, .pointer (some ⟨w.heap.size, 0, none⟩), .pointer (some ⟨w.heap.size + 1, 0, none⟩), .int .i64 x, .int .u64 v, .func (.func 83) #[] #[.pointer (some ⟨w.heap.size + 1 + 1, 0, none⟩)], .int .i64 x, undef, undef, undef], defers := [] }) ?assign ?body ?done ?stop
 case assign =>
  intro l x W K hK
  gi_wp2
  exact hK
 case body =>
  rintro l pre x W ⟨⟨hp, hcw, hcr, hfr⟩, hB⟩ _
  gi_wp2
  ·have hx : n ≤ (x : Int) := by assumption
   exact ⟨KeepsOthers.setCell _ _ _, ⟨rfl, ⟨x, by simp, hx⟩, World.cell?_setCell_same' _ _ _ (by rw [hcr]; rfl)⟩, hB.setCell (p := ⟨w.heap.size + 1, 0, none⟩) (by simp) _⟩
  ·have hx : (x : Int) < n := by first | assumption | omega
   exact ⟨KeepsOthers.refl _, Below.refl _ _, ⟨hp.snoc hx, hcw, hcr, hfr⟩, hB⟩
 case done =>
  rintro D ys W hD hall ⟨⟨hlt, _, hcr, hfr⟩, hB⟩ hK
  gi_wp2
  have hK' := (KeepsOthers.setCell W ⟨w.heap.size + 1, 0, none⟩ (.bool true)).same D _ hK rfl
  refine ⟨by simp, .inl ⟨_, _, rfl, run_takeDeferred hK', ?_⟩⟩
  have hc5 := cell_kept (World.cell?_setCell_same' W ⟨w.heap.size + 1, 0, none⟩ (.bool true) (by rw [hcr]; rfl)) (grownBy_putObj' _ D (.deferred none)) (fun r e => by cases e; exact ⟨_, hK', rfl⟩)
  refine ⟨.bool true, ?_, by rw [fits_of_all hall hlt], (hB.setCell (p := ⟨w.heap.size + 1, 0, none⟩) (by simp) _).trans (belowK_b (w := w) (Nat.le_refl _) _ D _ _ (by simp at hD; omega) hK' rfl rfl)⟩
  simp [results, Tryd.f68, go_sem, hc5]
 case stop =>
  rintro D c pre W hD hpre ⟨⟨rfl, hin, hcr⟩, hB⟩ hK
  gi_wp2
  refine ⟨by simp, .inl ⟨_, _, rfl, run_takeDeferred hK, ?_⟩⟩
  have hc5 := cell_kept hcr (grownBy_putObj' _ D (.deferred none)) (fun r e => by cases e; exact ⟨_, hK, rfl⟩)
  refine ⟨.bool false, ?_, by rw [fits_of_some hpre hin], hB.trans (belowK_b (w := w) (Nat.le_refl _) W D _ _ (by simp at hD; omega) hK rfl rfl)⟩
  simp [results, Tryd.f68, go_sem, hc5]
theorem fits_any (v : Nat) (n : Int) (w : World) (hv : v < 2 ^ 64) (hT : TabAt w) (hg : 0 < w.heap.size) :
  Calls Tryd.prog 68 #[.int .u64 v, .int .i64 n] w fun e W' => e = .returned (.bool (fitsB v n)) ∧ Below w.heap.size w W' :=
 callsIn_wide.1 (fits_in v n w hv hT hg)
end CX
end
section
namespace CX
open Go.ChangeShapes Go.WideShapes Go.ChangeAt Go.RowKit
theorem bcell {W w1 : World} (hb : Below W.heap.size W w1) : (∀ b o, b < W.heap.size → w1.cell? ⟨b, o, none⟩ = W.cell? ⟨b, o, none⟩) ∧ (∀ b o, b < W.heap.size → w1.frozen? ⟨b, o, none⟩ = W.frozen? ⟨b, o, none⟩) :=
 ⟨fun b o h => hb.cell (p := ⟨b, o, none⟩) h, fun b o h => hb.frozen (p := ⟨b, o, none⟩) h⟩
theorem below_drewN {B : Nat} {a b : World} (h : Below B a b) (k : Nat) : Below B a (b.drewN k) := by
 induction k with
 | zero => exact h
 | succ k ih => exact ih.drew
def objB (b : Int) : Bool := decide (1 ≤ b ∧ b ≤ 65535)
def guardB (e f : Int) : Bool := decide (0 ≤ f ∧ f ≤ 12 ∧ 0 ≤ e ∧ e < (2 ^ f.toNat : Nat))
def placeB (g h : Int) : Bool := decide (g = 0 ∧ h = 0 ∨ 1 ≤ g ∧ g ≤ 16777215 ∧ 0 ≤ h ∧ h < 512)
def capB (a b c d e f g h : Int) : Bool :=
 if a = 0 ∨ a = 7 then decide (b = 0 ∧ c = 0 ∧ d = 0 ∧ e = 0 ∧ f = 0 ∧ g = 0 ∧ h = 0)
 else if a = 1 ∨ a = 4 ∨ a = 5 ∨ a = 6 ∨ a = 9 then objB b && decide (c = 0 ∧ d = 0 ∧ e = 0 ∧ f = 0 ∧ g = 0 ∧ h = 0)
 else if a = 2 then objB b && guardB e f && decide (c = 0 ∧ d = 0 ∧ g = 0 ∧ h = 0)
 else if a = 3 then objB b && decide (1 ≤ c ∧ c ≤ 3) && placeB g h && decide (d = 0 ∧ e = 0 ∧ f = 0)
 else if a = 8 then objB b && mayB c && decide (d ≤ 16777215) && decide (e = 0 ∧ f = 0 ∧ g = 0 ∧ h = 0)
 else false
abbrev capV (a b c d e f g h : Int) : Value := .agg #[.int .i64 a, .int .i64 b, .int .i64 c, .int .u64 d, .int .i64 e, .int .i64 f, .int .i64 g, .int .i64 h]
theorem obj_any (a b c d e f g h : Int) (W : World) : Calls Tryd.prog 63 #[capV a b c d e f g h] W fun x W' => x = .returned (.bool (objB b)) ∧ Below W.heap.size W W' := by
 go_enter Tryd.func63, Tryd.ntmps63
 go_wp2
 all_goals go_ret
 all_goals refine ⟨ret_bool ?_, (Below.refl _ _).alloc (Nat.le_refl _) _⟩
 all_goals (rw [Bool.eq_iff_iff]; simp [objB]; omega)
theorem frame_any (a b c d e f g h : Int) (W : World) : Calls Tryd.prog 65 #[capV a b c d e f g h] W fun x W' => x = .returned (.bool (decide (1 ≤ c ∧ c ≤ 3) && placeB g h)) ∧ Below W.heap.size W W' := by
  by_cases hc : 1 ≤ c ∧ c ≤ 3
  · obtain ⟨h1, h2⟩ := hc
    by_cases hg : g = 0
    · subst hg
      by_cases hh : h = 0
      · subst hh
        go_enter Tryd.func65, Tryd.ntmps65
        go_wp2
        all_goals go_ret
        all_goals refine ⟨ret_bool ?_, (Below.refl _ _).alloc (Nat.le_refl _) _⟩
        all_goals (rw [Bool.eq_iff_iff]; simp [placeB]; omega)
      · go_enter Tryd.func65, Tryd.ntmps65
        go_wp2
        all_goals go_ret
        all_goals refine ⟨ret_bool ?_, (Below.refl _ _).alloc (Nat.le_refl _) _⟩
        all_goals (rw [Bool.eq_iff_iff]; simp [placeB]; omega)
    · go_enter Tryd.func65, Tryd.ntmps65
      go_wp2
      all_goals go_ret
      all_goals refine ⟨ret_bool ?_, (Below.refl _ _).alloc (Nat.le_refl _) _⟩
      all_goals (rw [Bool.eq_iff_iff]; simp [placeB]; omega)
  · go_enter Tryd.func65, Tryd.ntmps65
    go_wp2
    all_goals first
      | (exfalso; omega)
      | (go_ret
         refine ⟨ret_bool ?_, (Below.refl _ _).alloc (Nat.le_refl _) _⟩
         first | (rw [Bool.eq_iff_iff]; done) | (rw [Bool.eq_iff_iff]; simp [placeB] <;> omega))
def TabG (w : World) : Prop := TabAt w ∧ 0 < w.heap.size
theorem TabG.below {B : Nat} {w w' : World} (h : TabG w) (hB : 0 < B) (hb : Below B w w') : TabG w' := ⟨h.1.below hB hb, Nat.lt_of_lt_of_le h.2 hb.size⟩
theorem TabG.call {w w' : World} (h : TabG w) (hb : Below w.heap.size w w') : TabG w' := h.below h.2 hb
theorem TabG.alloc {w : World} (h : TabG w) (o : Obj) : TabG (w.alloc o) := h.call ((Below.refl _ _).alloc (Nat.le_refl _) _)
theorem guard_yes (a b c d g h f : Int) (e : Nat) (W : World) (hT : TabG W) (f0 : 0 ≤ f) (f1 : f ≤ 12) (e1 : (e : Int) ≤ 9223372036854775807) : Calls Tryd.prog 64 #[capV a b c d e f g h] W fun x W' => x = .returned (.bool (guardB e f)) ∧ Below W.heap.size W W' := by
 have hk : fitsB e f = guardB e f := by
  unfold fitsB guardB
  rw [Bool.eq_iff_iff]
  simp only [decide_eq_true_eq]
  constructor
  ·intro h; exact ⟨f0, f1, by omega, by exact_mod_cast h⟩
  ·intro h; exact_mod_cast h.2.2.2
 have he : (e : Nat) < 2 ^ 64 := by omega
 have e0 : (0 : Int) ≤ e := by omega
 have HK := hid hk
 clear hk
 go_enter Tryd.func64, Tryd.ntmps64
 go_wp2_with (first | (go_at_call 68; refine (fits_any e f _ he (hT.alloc _).1 (hT.alloc _).2).mono ?_; rintro x w1 ⟨rfl, hb1⟩))
 go_ret
 exact ⟨ret_bool HK.out, bgo (bal (Below.refl _ _) _) hb1⟩
theorem guard_no (a b c d g h f : Int) (e : Int) (W : World) (hn : f < 0 ∨ 12 < f ∨ e < 0) : Calls Tryd.prog 64 #[capV a b c d e f g h] W fun x W' => x = .returned (.bool (guardB e f)) ∧ Below W.heap.size W W' := by
 have hk : guardB e f = false := by unfold guardB; exact decide_eq_false (by omega)
 rw [hk]
 clear hk
 have hn' : f < 0 ∨ (0 ≤ f ∧ 12 < f) ∨ (0 ≤ f ∧ f ≤ 12 ∧ e < 0) := by omega
 clear hn
 rcases hn' with hn | ⟨h0, hn⟩ | ⟨h0, h1, hn⟩
 all_goals
  go_enter Tryd.func64, Tryd.ntmps64
  go_wp2
  go_ret
  exact ⟨rfl, bal (Below.refl _ _) _⟩
theorem guard_any (a b c d e f g h : Int) (W : World) (hT : TabG W) (e1 : e ≤ 9223372036854775807) : Calls Tryd.prog 64 #[capV a b c d e f g h] W fun x W' => x = .returned (.bool (guardB e f)) ∧ Below W.heap.size W W' := by
 by_cases hn : f < 0 ∨ 12 < f ∨ e < 0
 ·exact guard_no a b c d g h f e W hn
 ·obtain ⟨n, rfl⟩ := Int.eq_ofNat_of_zero_le (show 0 ≤ e by omega)
  exact guard_yes a b c d g h f n W hT (by omega) (by omega) e1
theorem none_may (a b c d e f g h : Int) (W : World) (ha : a = 0 ∨ a = 7) : Calls Tryd.prog 45 #[capV a b c d e f g h] W fun x W' => x = .returned (.bool (capB a b c d e f g h)) ∧ Below W.heap.size W W' := by
 rcases ha with rfl | rfl
 all_goals
  go_enter Tryd.func45, Tryd.ntmps45
  go_wp2
  all_goals
   go_ret
   exact ⟨ret_bool (by simp [capB, *]), (by repeat (first | exact Below.refl _ _ | assumption | refine below_drewN ?_ _ | refine Below.setCell ?_ (by first | exact Nat.le_refl _ | (simp; done) | (simp; omega)) _ | refine bal ?_ _ | refine bgo ?_ (by assumption)))⟩
theorem plain_may (a b c d e f g h : Int) (W : World) (ha : a = 1 ∨ a = 4 ∨ a = 5 ∨ a = 6 ∨ a = 9) : Calls Tryd.prog 45 #[capV a b c d e f g h] W fun x W' => x = .returned (.bool (capB a b c d e f g h)) ∧ Below W.heap.size W W' := by
 rcases ha with rfl | rfl | rfl | rfl | rfl
 all_goals
  go_enter Tryd.func45, Tryd.ntmps45
  go_wp2_with (first | (go_at_call 63; refine (obj_any _ _ _ _ _ _ _ _ _).mono ?_; rintro x w1 ⟨rfl, hb1⟩))
  all_goals
   go_ret
   exact ⟨ret_bool (by simp [capB, *]), (by repeat (first | exact Below.refl _ _ | assumption | refine below_drewN ?_ _ | refine Below.setCell ?_ (by first | exact Nat.le_refl _ | (simp; done) | (simp; omega)) _ | refine bal ?_ _ | refine bgo ?_ (by assumption)))⟩
end CX
end
end Go.Proofs.YtekllgejmgoajaaDoor
