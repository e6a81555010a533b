/- word.Fits(v, n), for every input: whether v is below 2^n; nothing that lay has turned. -/
import Derived.Test.YtplanbihejodoaaDoorSet
namespace Go.Proofs.YtplanbihejodoaaDoor
namespace CX
set_option linter.unusedVariables false
open Go.RowKit Go.Shelf
attribute [local go_sem] Oper.semAt_some

def fitsB (v : Nat) (n : Int) : Bool := decide (v < 2 ^ n.toNat)
def AllLt (n : Int) (pre : List Nat) : Prop := ∀ k ∈ pre, (k : Int) < n
def SomeGe (n : Int) (pre : List Nat) : Prop := ∃ k ∈ pre, n ≤ (k : Int)
theorem AllLt.snoc {n : Int} {pre : List Nat} {x : Nat} (h : AllLt n pre) (hx : (x : Int) < n) : AllLt n (pre ++ [x]) := fun k hk => (List.mem_append.1 hk).elim (h k) (fun e => by simp at e; subst e; exact hx)
theorem fits_of_all {v : Nat} {n : Int} {ys : List Nat} (h : SetAll v ys) (hl : AllLt n ys) : fitsB v n = true := by
  unfold fitsB
  refine decide_eq_true (lt_pow_of_bits fun i hi => ?_)
  have := hl i (h.2 i hi)
  omega
theorem fits_of_some {v : Nat} {n : Int} {ys : List Nat} (h : SetPart v ys) (hl : SomeGe n ys) : fitsB v n = false := by
  unfold fitsB
  refine decide_eq_false fun hlt => ?_
  obtain ⟨k, hk, hn⟩ := hl
  have := bits_of_lt_pow hlt (h k hk)
  omega

theorem cell_box {W : World} {B : Nat} {v : Value} {t : TypeId} (h : W.heap[B]? = some (.cells #[v] t (0, 0))) : W.cell? ⟨B, 0, none⟩ = some v ∧ W.frozen? ⟨B, 0, none⟩ = false := by
  constructor <;> simp [World.cell?, World.frozen?, h]
theorem cell_fresh (W : World) (v : Value) (t : TypeId) : (W.alloc (.cells #[v] t)).cell? ⟨W.heap.size, 0, none⟩ = some v ∧ (W.alloc (.cells #[v] t)).frozen? ⟨W.heap.size, 0, none⟩ = false :=
  cell_box (World.alloc_heap_new W _)
theorem cell_more {W : World} {a : Addr} {v : Value} (o : Obj) (h : W.cell? a = some v) : (W.alloc o).cell? a = some v := cell_kept h (World.grownBy_alloc W o none) (fun r e => by cases e)
theorem frozen_more {W : World} {a : Addr} {v : Value} (o : Obj) (h : W.cell? a = some v) (hf : W.frozen? a = false) : (W.alloc o).frozen? a = false := (frozen_kept h (World.grownBy_alloc W o none) (fun r e => by cases e)).trans hf

set_option maxHeartbeats 1000000 in
theorem set_in (n : Nat) (v : Int) (w : World) :
    CallsIn Fence.wide n Tryd.prog 53 #[.int .u64 v] w fun e w' => e = .returned (.func (.func 56) #[] #[.pointer (some ⟨w.heap.size, 0, none⟩)]) ∧ w' = w.alloc (.cells #[.int .u64 v] 32) := by
  refine callsIn_of_wp Tryd.func53 rfl trivial ?_ rfl
  simp only [Tryd.ntmps53, List.size_toArray, List.length_cons, List.length_nil, Nat.reduceAdd, Nat.reduceSub, Array.replicate_succ, Array.replicate_zero, List.push_toArray, List.append_toArray, List.nil_append, List.cons_append]
  gi_wp2
  go_ret
  exact ⟨rfl, rfl⟩

theorem set_stops (n : Nat) (hn : 1 ≤ n) (Bn n₀ v : Nat) (hv : v < 2 ^ 64) (w : World) (hBn : Bn < w.heap.size) (hn₀ : n₀ ≤ w.heap.size) (hg : 0 < n₀)
    (hc : w.cell? ⟨Bn, 0, none⟩ = some (.int .u64 v)) (hT : TabAt w) :
    SeqStopsK Fence.wide n Tryd.prog 56 #[.pointer (some ⟨Bn, 0, none⟩)] (fun x : Nat => #[Value.int .i64 x]) (Below n₀) (SetAll v) (SetPart v) 64 w := fun l J Jx W hW _ _ hY h0 =>
  set1_in n hn l Bn n₀ v hv J Jx hY W ((hW.cell (p := ⟨Bn, 0, none⟩) hBn).trans hc) (hT.below (Nat.lt_of_lt_of_le hg hn₀) hW) hg h0

set_option maxRecDepth 100000 in
set_option maxHeartbeats 2000000 in
theorem fits_in (v : Nat) (n : Int) (w : World) (hv : v < 2 ^ 64) (hT : TabAt w) (hg : 0 < w.heap.size) :
    CallsIn Fence.wide 3 Tryd.prog 46 #[.int .u64 v, .int .i64 n] w fun e W' => e = .returned (.bool (fitsB v n)) ∧ Below w.heap.size w W' := by
  refine callsIn_of_wp_marks Tryd.func46 rfl trivial ?_ rfl
  simp only [Tryd.ntmps46, List.size_toArray, List.length_cons, List.length_nil, Nat.reduceAdd, Nat.reduceSub, Array.replicate_succ, Array.replicate_zero, List.push_toArray, List.append_toArray, List.nil_append, List.cons_append]
  gi_wp2_with (refine ⟨trivial, ?_⟩; gi_at_call 53; refine (set_in _ _ _).mono ?_; rintro e w' ⟨rfl, rfl⟩)
  have c0 := cell_fresh w (.int .i64 n) 3
  have c1 := cell_fresh (w.alloc (.cells #[.int .i64 n] 3)) (.bool false) 4
  have c2 := cell_fresh ((w.alloc (.cells #[.int .i64 n] 3)).alloc (.cells #[.bool false] 4)) (.int .u64 v) 32
  simp only [World.size_alloc] at c1 c2
  have hB0 : Below w.heap.size w (((w.alloc (.cells #[.int .i64 n] 3)).alloc (.cells #[.bool false] 4)).alloc (.cells #[.int .u64 v] 32)) := (((Below.refl _ w).alloc (Nat.le_refl _) _).alloc (by simp) _).alloc (by simp; omega) _
  refine wpIn_rangeFunc_ownF rfl (by omega) (gf := 56) (lb := #[.pointer (some ⟨w.heap.size + 1 + 1, 0, none⟩)]) rfl trivial (enters_of Tryd.func56 (by kernel_rfl) rfl)
    (set_stops (3 - 1) (by omega) (w.heap.size + 1 + 1) w.heap.size v hv _ (by simp) (by simp; omega) hg c2.1 (hT.below hg hB0)) belowK_t (belowK_b (by simp; omega)) (Below.refl _ _) (fun _ => rfl)
    (fun pre W => (AllLt n pre ∧ W.cell? ⟨w.heap.size, 0, none⟩ = some (.int .i64 n) ∧ W.cell? ⟨w.heap.size + 1, 0, none⟩ = some (.bool false) ∧ W.frozen? ⟨w.heap.size + 1, 0, none⟩ = false) ∧ Below w.heap.size w W)
    (fun c pre W => (c = .ret ∧ SomeGe n pre ∧ W.cell? ⟨w.heap.size + 1, 0, none⟩ = some (.bool false)) ∧ Below w.heap.size w W)
    (OwnFrom.and (Own.from (fun s A B row hs hg hr => ⟨hs.1, cell_kept hs.2.1 hg hr, cell_kept hs.2.2.1 hg hr, (frozen_kept hs.2.2.1 hg hr).trans hs.2.2.2⟩) _) (ownFrom_below (Nat.le_refl _) (by simp; omega)))
    (fun c => OwnFrom.and (Own.from (fun s A B row hs hg hr => ⟨hs.1, hs.2.1, cell_kept hs.2.2 hg hr⟩) _) (ownFrom_below (Nat.le_refl _) (by simp; omega)))
    ⟨⟨(fun k hk => by cases hk), cell_more _ (cell_more _ c0.1), cell_more _ c1.1, frozen_more _ c1.1 c1.2⟩, hB0⟩
    (fun x => { tmps := #[.int .u64 v, .int .i64 n, undef, .pointer (some ⟨w.heap.size, 0, none⟩), .pointer (some ⟨w.heap.size + 1, 0, none⟩), .int .i64 x, .int .u64 v, .func (.func 56) #[] #[.pointer (some ⟨w.heap.size + 1 + 1, 0, none⟩)], .int .i64 x, undef, undef, undef], defers := [] }) ?assign ?body ?done ?stop
  case assign =>
    intro l x W K hK
    gi_wp2
    exact hK
  case body =>
    rintro l pre x W ⟨⟨hp, hcw, hcr, hfr⟩, hB⟩ _
    gi_wp2
    · have hx : n ≤ (x : Int) := by assumption
      exact ⟨KeepsOthers.setCell _ _ _, ⟨rfl, ⟨x, by simp, hx⟩, World.cell?_setCell_same' _ _ _ (by rw [hcr]; rfl)⟩, hB.setCell (p := ⟨w.heap.size + 1, 0, none⟩) (by simp) _⟩
    · have hx : (x : Int) < n := by first | assumption | omega
      exact ⟨KeepsOthers.refl _, Below.refl _ _, ⟨hp.snoc hx, hcw, hcr, hfr⟩, hB⟩
  case done =>
    rintro D ys W hD hall ⟨⟨hlt, _, hcr, hfr⟩, hB⟩ hK
    gi_wp2
    have hK' := (KeepsOthers.setCell W ⟨w.heap.size + 1, 0, none⟩ (.bool true)).same D _ hK rfl
    refine ⟨by simp, .inl ⟨_, _, rfl, run_takeDeferred hK', ?_⟩⟩
    have hc5 := cell_kept (World.cell?_setCell_same' W ⟨w.heap.size + 1, 0, none⟩ (.bool true) (by rw [hcr]; rfl)) (grownBy_putObj' _ D (.deferred none)) (fun r e => by cases e; exact ⟨_, hK', rfl⟩)
    refine ⟨.bool true, ?_, by rw [fits_of_all hall hlt], (hB.setCell (p := ⟨w.heap.size + 1, 0, none⟩) (by simp) _).trans (belowK_b (w := w) (Nat.le_refl _) _ D _ _ (by simp at hD; omega) hK' rfl rfl)⟩
    simp [results, Tryd.f46, go_sem, hc5]
  case stop =>
    rintro D c pre W hD hpre ⟨⟨rfl, hin, hcr⟩, hB⟩ hK
    gi_wp2
    refine ⟨by simp, .inl ⟨_, _, rfl, run_takeDeferred hK, ?_⟩⟩
    have hc5 := cell_kept hcr (grownBy_putObj' _ D (.deferred none)) (fun r e => by cases e; exact ⟨_, hK, rfl⟩)
    refine ⟨.bool false, ?_, by rw [fits_of_some hpre hin], hB.trans (belowK_b (w := w) (Nat.le_refl _) W D _ _ (by simp at hD; omega) hK rfl rfl)⟩
    simp [results, Tryd.f46, go_sem, hc5]

theorem fits_any (v : Nat) (n : Int) (w : World) (hv : v < 2 ^ 64) (hT : TabAt w) (hg : 0 < w.heap.size) :
    Calls Tryd.prog 46 #[.int .u64 v, .int .i64 n] w fun e W' => e = .returned (.bool (fitsB v n)) ∧ Below w.heap.size w W' :=
  callsIn_wide.1 (fits_in v n w hv hT hg)
end CX
end Go.Proofs.YtplanbihejodoaaDoor
