/- carve.Carve: the pieces, gathered by a range over a function. -/
import Derived.Test.YtenbnclalcgdkaaRights
import Derived.Test.YtenbnclalcgdkaaFrame
import Derived.Lib.Hide
import Derived.RangeFuncWrites
import Derived.RangeFuncBox
import Derived.RangeFuncLeaves
import Derived.Shelf.Abstract
import Derived.OwnWalkIn
import Derived.TacticsInMore
import Derived.LoopNIn
import Derived.LoopIn
import Derived.Maps.AppendAt
namespace Go.Proofs.Ytenbnclalcgdkaa
set_option linter.unusedVariables false
open Go.ChangeShapes Go.WideShapes Go.ChangeAt Go.RowKit Go.Shelf
attribute [local go_sem] Oper.semAt_some

/-- The first frames of k pieces. -/
def firsts (m e : Int) (k : Nat) : List Int := (List.range k).map fun i : Nat => m + (i : Int) * e
theorem firsts_succ (m e : Int) (k : Nat) : firsts m e (k + 1) = firsts m e k ++ [m + k * e] := by simp [firsts, List.range_succ]
theorem firsts_len (m e : Int) (k : Nat) : (firsts m e k).length = k := by simp [firsts]
/-- The three boxes from B on are as they were. -/
def KpB (B : Nat) (X Y : World) : Prop := ∀ k, B ≤ k → k < B + 3 → Y.heap[k]? = X.heap[k]?
theorem kpB_t {B : Nat} {X Y Z : World} (h : KpB B X Y) (k : KpB B Y Z) : KpB B X Z := fun j h1 h2 => (k j h1 h2).trans (h j h1 h2)
theorem boxed_kp {B b : Nat} {X Y : World} {t : TypeId} {v : Value} (h : KpB B X Y) (hv : Boxed X b t v) (h1 : B ≤ b) (h2 : b < B + 3) : Boxed Y b t v := (h b h1 h2).trans hv

set_option maxRecDepth 100000 in
set_option maxHeartbeats 1000000 in
theorem piece1_in (n : Nat) (hn : 1 ≤ n) (l B : Nat) (m e : Int) (c : Nat) (m0 : 0 ≤ m) (m1 : m ≤ 64) (e0 : 1 ≤ e) (e1 : e ≤ 64) (c1 : c ≤ 4) (J Jx : List Int → World → Prop)
    (hY : ∀ pre x W, J pre W → pre.length < 4 → YieldAt Fence.wide (n - 1) Try.prog l #[.int .i64 x] W fun e W' =>
      (e = .returned (.bool true) ∧ J (pre ++ [x]) W' ∧ KpB B W W') ∨ (e = .returned (.bool false) ∧ Jx (pre ++ [x]) W'))
    (W : World) (hm : Boxed W B 3 (.int .i64 m)) (he : Boxed W (B + 1) 3 (.int .i64 e)) (hc : Boxed W (B + 2) 3 (.int .i64 c)) (h0 : J [] W) :
    CallsIn Fence.wide n Try.prog 33 #[.func (.yield l) #[] #[], .pointer (some ⟨B + 2, 0, none⟩), .pointer (some ⟨B, 0, none⟩), .pointer (some ⟨B + 1, 0, none⟩)] W fun e' W' => (∃ v, e' = .returned v) ∧
      ((∃ ys, ys = firsts m e c ∧ J ys W') ∨ (∃ pre, True ∧ Jx pre W')) := by
  have hm0 := hm.cell; have he0 := he.cell; have hc0 := hc.cell
  refine callsIn_of_wp Try.func33 rfl trivial ?_ rfl
  simp only [Try.ntmps33, List.size_toArray, List.length_cons, List.length_nil, Nat.reduceAdd, Nat.reduceSub, Array.replicate_succ, Array.replicate_zero, List.push_toArray, List.append_toArray, List.nil_append, List.cons_append]
  gi_wp2
  gi_loopw [7] (fun i wr => ∃ k : Nat, k ≤ c ∧ i = .int .i64 k ∧ Boxed wr B 3 (.int .i64 m) ∧ Boxed wr (B + 1) 3 (.int .i64 e) ∧ J (firsts m e k) wr) (fun i wr => c - (intOf i).toNat)
  case atStart => exact ⟨0, by omega, rfl, hm, he, h0⟩
  case round =>
    obtain ⟨k, hk, rfl, hm', he', hJ⟩ := hrel
    clear hm he hc hm0 he0 hc0 h0
    by_cases hlt : k < c
    · have hm0 := hm'.cell; have he0 := he'.cell
      have hke : 0 ≤ (k : Int) * e ∧ (k : Int) * e ≤ 256 := by
        refine ⟨Int.mul_nonneg (by omega) (by omega), ?_⟩
        have := Int.mul_le_mul (a := (k : Int)) (b := e) (c := 4) (d := 64) (by omega) e1 (by omega) (by decide)
        simpa using this
      obtain ⟨hke0, hke1⟩ := hke
      have hfs := firsts_succ m e k
      obtain ⟨fn, tmps, assign, body, hy, hR⟩ := hY (firsts m e k) (m + k * e) wr hJ (by rw [firsts_len]; omega)
      gi_wp2
      refine hR.mono ?_
      rintro e' W3 (⟨rfl, hJ3, hk3⟩ | ⟨rfl, hJx3⟩)
      · gi_wp2
        go_roundw
        case rel => exact ⟨k + 1, by omega, by go_num, boxed_kp hk3 hm' (by omega) (by omega), boxed_kp hk3 he' (by omega) (by omega), by rw [hfs]; exact hJ3⟩
        case measure => simp [intOf]; omega
      · gi_wp2
        refine bodyPost_ret (results_none rfl _ _ _) rfl ?_
        exact ⟨⟨_, rfl⟩, .inr ⟨_, trivial, hJx3⟩⟩
    · obtain rfl : k = c := by omega
      gi_wp2
      go_end0
      exact ⟨⟨_, rfl⟩, .inl ⟨_, rfl, hJ⟩⟩
theorem pieces_in (n : Nat) (m e c : Int) (w : World) :
    CallsIn Fence.wide n Try.prog 29 #[.int .i64 m, .int .i64 e, .int .i64 c] w fun e' w' => e' = .returned (.func (.func 33) #[] #[.pointer (some ⟨w.heap.size + 2, 0, none⟩), .pointer (some ⟨w.heap.size, 0, none⟩), .pointer (some ⟨w.heap.size + 1, 0, none⟩)]) ∧
      w' = ((w.alloc (.cells #[.int .i64 m] 3)).alloc (.cells #[.int .i64 e] 3)).alloc (.cells #[.int .i64 c] 3) := by
  refine callsIn_of_wp Try.func29 rfl trivial ?_ rfl
  simp only [Try.ntmps29, List.size_toArray, List.length_cons, List.length_nil, Nat.reduceAdd, Nat.reduceSub, Array.replicate_succ, Array.replicate_zero, List.push_toArray, List.append_toArray, List.nil_append, List.cons_append]
  gi_wp2
  go_ret
  exact ⟨rfl, rfl⟩
end Go.Proofs.Ytenbnclalcgdkaa
