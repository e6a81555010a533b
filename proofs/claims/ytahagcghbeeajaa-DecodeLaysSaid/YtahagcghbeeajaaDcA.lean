/- package decode: every put; every list of forms; the iterator over a call's words. -/
import Derived.Test.YtahagcghbeeajaaDc5
import Derived.Test.YtahagcghbeeajaaDc6
import Derived.Test.YtahagcghbeeajaaDc7
import Derived.Test.YtahagcghbeeajaaDc8
import Derived.Test.YtahagcghbeeajaaDc9
import Derived.RangeFuncFrom
import Derived.RangeFuncLeaves
import Derived.RangeFuncStops
import Derived.LoopNIn
import Derived.LoopIn
import Derived.OwnWalkIn
import Derived.TacticsInMore
namespace Go.Proofs.Ytahagcghbeeajaa
set_option linter.unusedVariables false
set_option linter.unusedSimpArgs false
open Go.ChangeShapes Go.WideShapes Go.ChangeAt Go.RowKit Go.Shelf

def framesN (k s : Int) : Int :=
  if k = 1 then (if 1 ≤ s ∧ s ≤ 64 then s else 0)
  else if k = 2 then (if s = 1 ∨ s = 2 then 1 else if s = 3 then 2 else if s = 4 then 4 else 0)
  else if (k = 3 ∨ k = 4 ∨ k = 5 ∨ k = 6 ∨ k = 8 ∨ k = 9) ∧ s = 0 then 1 else 0
set_option maxHeartbeats 1000000 in
theorem kframes_any (k s : Int) (w : World) : Calls Try.prog 15 #[.int .i64 k, .int .i64 s] w fun e w' => e = .returned (.int .i64 (framesN k s)) ∧ w = w' := by
  go_enter Try.func15, Try.ntmps15
  go_wp2
  all_goals go_ret
  all_goals refine ⟨ret_int ?_, rfl⟩
  all_goals (simp only [beq_iff_eq, beq_eq_false_iff_ne, ne_eq] at *)
  all_goals unfold framesN
  all_goals first
    | (repeat' split) <;> omega
    | (obtain rfl | rfl : s = 3 ∨ s = 4 := by omega
       all_goals (subst k; decide +kernel))
theorem put_any (w : World) (q : Nat) (o : Nat → Int) (x : Int) (to : Nat) (ht : to < 12) (h : OrdAt w q o) :
    Calls Try.prog 17 #[.pointer (some ⟨q, 0, none⟩), .int .i64 to, .int .u64 x] w fun e w' => e = .returned (.tuple #[]) ∧ OrdAt w' q (putF to x o) ∧ OneOnly q w w' := by
  obtain rfl | rfl | rfl | rfl | rfl | rfl | rfl | rfl | rfl | rfl | rfl | rfl : to = 0 ∨ to = 1 ∨ to = 2 ∨ to = 3 ∨ to = 4 ∨ to = 5 ∨ to = 6 ∨ to = 7 ∨ to = 8 ∨ to = 9 ∨ to = 10 ∨ to = 11 := by omega
  · exact put_0 w q o x h
  · exact put_1 w q o x h
  · exact put_2 w q o x h
  · exact put_3 w q o x h
  · exact put_4 w q o x h
  · exact put_5 w q o x h
  · exact put_6 w q o x h
  · exact put_7 w q o x h
  · exact put_8 w q o x h
  · exact put_9 w q o x h
  · exact put_10 w q o x h
  · exact put_11 w q o x h
theorem forms_some (op : Int) (n : Nat) (L : List Frm) (hn : op = n) (h : formsL n = some L) (w : World) : Calls Try.prog 14 #[.int .u64 op] w fun e w' => ∃ v, e = .returned v ∧ FormsAt w' v L ∧ Below w.heap.size w w' := by
  subst hn
  unfold formsL at h
  split at h
  all_goals first
    | cases h; done
    | skip
  · cases h; exact forms_1 w
  · cases h; exact forms_2 w
  · cases h; exact forms_3 w
  · cases h; exact forms_4 w
  · cases h; exact forms_5 w
  · cases h; exact forms_6 w
  · cases h; exact forms_7 w
  · cases h; exact forms_8 w
  · cases h; exact forms_9 w
  · cases h; exact forms_10 w
  · cases h; exact forms_11 w
  · cases h; exact forms_12 w
  · cases h; exact forms_13 w
  · cases h; exact forms_14 w
  · cases h; exact forms_15 w
  · cases h; exact forms_16 w
  · cases h; exact forms_17 w
  · cases h; exact forms_18 w
  · cases h; exact forms_19 w
  · cases h; exact forms_20 w
  · cases h; exact forms_21 w
  · cases h; exact forms_22 w
  · cases h; exact forms_23 w
theorem forms_no (op : Int) (n : Nat) (hn : op = n) (h : formsL n = none) (w : World) : Calls Try.prog 14 #[.int .u64 op] w fun e w' => e = .returned (.slice none 0 0) ∧ Below w.heap.size w w' := by
  refine forms_none op (by omega) ?_ w
  subst hn
  rcases Nat.lt_or_ge n 24 with h24 | h24
  · rcases Nat.eq_zero_or_pos n with rfl | h0
    · exact .inl rfl
    · have : ∀ n < 24, 0 < n → formsL n ≠ none := by decide
      exact absurd h (this n h24 h0)
  · exact .inr (by omega)
def fmAt (L : List Frm) (i : Nat) : Frm := L[i]?.getD (0, 0, 0)
abbrev encW (a : Nat → Int) (L : List Frm) (x : Fin 6) : Array Value := #[.int .u64 (a x.1), .agg #[.int .i64 (fmAt L x.1).1, .int .u64 (fmAt L x.1).2.1, .int .u64 (fmAt L x.1).2.2]]
def callA (op : Int) (a : Nat → Int) : Array Value := #[.int .u64 op, .int .u64 (a 0), .int .u64 (a 1), .int .u64 (a 2), .int .u64 (a 3), .int .u64 (a 4), .int .u64 (a 5)]
abbrev CallAt (w : World) (p : Nat) (op : Int) (a : Nat → Int) : Prop := w.heap[p]? = some (.cells (callA op a) 25 (0, 0))
def KpW (p s q : Nat) (W W' : World) : Prop := W'.heap[p]? = W.heap[p]? ∧ W'.heap[s]? = W.heap[s]? ∧ W'.heap[q]? = W.heap[q]? ∧ W.heap.size ≤ W'.heap.size
theorem KpW.trans {p s q : Nat} {A B C : World} (h : KpW p s q A B) (k : KpW p s q B C) : KpW p s q A C := ⟨k.1.trans h.1, k.2.1.trans h.2.1, k.2.2.1.trans h.2.2.1, Nat.le_trans h.2.2.2 k.2.2.2⟩
theorem words_in (n : Nat) (op : Int) (a : Nat → Int) (v : Value) (w : World) (hv : ∃ q l c, v = .slice (some ⟨q, 0, none⟩) l c) :
    CallsIn Fence.wide n Try.prog 16 #[.agg (callA op a), v] w fun e w' => e = .returned (.func (.func 23) #[] #[.pointer (some ⟨w.heap.size, 0, none⟩), .pointer (some ⟨w.heap.size + 1, 0, none⟩)]) ∧ w' = (w.alloc (.cells (callA op a) 25)).alloc (.cells #[v] 46) := by
  obtain ⟨q, l, c, rfl⟩ := hv
  unfold callA
  refine callsIn_of_wp Try.func16 rfl trivial ?_ rfl
  simp only [Try.ntmps16, List.size_toArray, List.length_cons, List.length_nil, Nat.reduceAdd, Nat.reduceSub, Array.replicate_succ, Array.replicate_zero, List.push_toArray, List.append_toArray, List.nil_append, List.cons_append]
  gi_wp2
  go_ret
  exact ⟨rfl, rfl⟩
theorem idx6 (a : Nat → Int) (k : Nat) (hk : k < 6) : ∀ w, (Instr.index 23 (.agg #[.int .u64 (a 0), .int .u64 (a 1), .int .u64 (a 2), .int .u64 (a 3), .int .u64 (a 4), .int .u64 (a 5)]) (.int .i64 k)).run Try.prog w = .ok (.int .u64 (a k)) w := by
  intro w
  obtain rfl | rfl | rfl | rfl | rfl | rfl : k = 0 ∨ k = 1 ∨ k = 2 ∨ k = 3 ∨ k = 4 ∨ k = 5 := by omega
  all_goals kernel_rfl
/-- The first k words. -/
def fst6 (k : Nat) : List (Fin 6) := (List.finRange 6).take k
theorem fst6_succ : ∀ k (h : k < 6), fst6 (k + 1) = fst6 k ++ [⟨k, h⟩] := by decide
theorem fst6_len : ∀ k, k ≤ 6 → (fst6 k).length = k := fun k h => by unfold fst6; simp; omega
set_option maxHeartbeats 1000000 in
theorem words1_seq (n p s q c : Nat) (op : Int) (a : Nat → Int) (L : List Frm) (w0 : World) (hp : CallAt w0 p op a) (hs : w0.cell? ⟨s, 0, none⟩ = some (.slice (some ⟨q, 0, none⟩) L.length c)) (hq : ∀ i f, L[i]? = some f → w0.cell? ⟨q, 3 * i, none⟩ = some (.int .i64 f.1) ∧ w0.cell? ⟨q, 3 * i + 1, none⟩ = some (.int .u64 f.2.1) ∧ w0.cell? ⟨q, 3 * i + 2, none⟩ = some (.int .u64 f.2.2)) (hs1 : s < w0.heap.size) (hq1 : q < w0.heap.size) :
    SeqStopsK Fence.wide (n + 1) Try.prog 23 #[.pointer (some ⟨p, 0, none⟩), .pointer (some ⟨s, 0, none⟩)] (encW a L) (KpW p s q) (fun xs => xs = fst6 6) (fun pre => ∃ k, ∃ h : k < 6, pre = fst6 k ++ [⟨k, h⟩]) 6 w0 := by
  intro l J Jx W hB hAb hAx hY h0
  have hp1 : p < w0.heap.size := (Array.getElem?_eq_some_iff.1 hp).1
  have hK0 : KpW p s q w0 W := ⟨hB.block p hp1, hB.block s hs1, hB.block q hq1, hB.size⟩
  have HY := Lib.hid hY
  have HP := Lib.hid hp
  have HS := Lib.hid hs
  have HQ := Lib.hid hq
  have HAb := Lib.hid hAb
  have hc0 := hK0.1.trans hp
  have hca : ∀ j, W.cell? ⟨p, j, none⟩ = (callA op a)[j]? := fun j => row_cell hc0 j
  have e1 : W.cell? ⟨p, 1, none⟩ = some (.int .u64 (a 0)) := hca 1
  have e2 : W.cell? ⟨p, 2, none⟩ = some (.int .u64 (a 1)) := hca 2
  have e3 : W.cell? ⟨p, 3, none⟩ = some (.int .u64 (a 2)) := hca 3
  have e4 : W.cell? ⟨p, 4, none⟩ = some (.int .u64 (a 3)) := hca 4
  have e5 : W.cell? ⟨p, 5, none⟩ = some (.int .u64 (a 4)) := hca 5
  have e6 : W.cell? ⟨p, 6, none⟩ = some (.int .u64 (a 5)) := hca 6
  clear hY hAb hAx hB hp hs hq hc0 hca
  refine callsIn_of_wp Try.func23 rfl trivial ?_ rfl
  simp only [Try.ntmps23, List.size_toArray, List.length_cons, List.length_nil, Nat.reduceAdd, Nat.reduceSub, Array.replicate_succ, Array.replicate_zero, List.push_toArray, List.append_toArray, List.nil_append, List.cons_append]
  gi_wp2
  clear e1 e2 e3 e4 e5 e6
  gi_loopw [9] (fun i wr => ∃ k : Nat, k ≤ 6 ∧ i = .int .i64 k ∧ J (fst6 k) wr ∧ KpW p s q w0 wr) (fun i _ => 6 - (intOf i).toNat)
  case atStart => exact ⟨0, by omega, rfl, h0, hK0⟩
  case round =>
    obtain ⟨k, hk, rfl, hJ, hK⟩ := hrel
    have cs : wr.cell? ⟨s, 0, none⟩ = some (.slice (some ⟨q, 0, none⟩) L.length c) := (cell_of_block hK.2.1).trans HS.out
    by_cases hlt : k < 6
    · have hlt' : (k : Int) < 6 := by omega
      have hs := fst6_succ k hlt
      have HSS := Lib.hid hs
      clear hs
      have fin : ∀ W', J (fst6 k ++ [⟨k, hlt⟩]) W' → KpW p s q w0 W' → ∃ k1 : Nat, k1 ≤ 6 ∧ Value.int .i64 ((k : Int) + 1) = .int .i64 k1 ∧ J (fst6 k1) W' ∧ KpW p s q w0 W' := fun W' h1 h2 => ⟨k + 1, by omega, by go_num, by rw [HSS.out]; exact h1, h2⟩
      have FIN := Lib.hid fin
      clear fin
      have al : ∀ o : Obj, KpW p s q w0 (wr.alloc o) := fun o => hK.trans ⟨Below.heap_alloc _ _ _ (Nat.lt_of_lt_of_le (Array.getElem?_eq_some_iff.1 HP.out).1 hK.2.2.2), Below.heap_alloc _ _ _ (Nat.lt_of_lt_of_le hs1 hK.2.2.2), Below.heap_alloc _ _ _ (Nat.lt_of_lt_of_le hq1 hK.2.2.2), by simp⟩
      have AL := Lib.hid al
      have jl : ∀ o : Obj, J (fst6 k) (wr.alloc o) := fun o => HAb.out _ _ _ none hJ (World.grownBy_alloc wr o none) (fun r e => by cases e)
      clear al
      by_cases hL : k < L.length
      · have hL' : (k : Int) < (L.length : Int) := by omega
        obtain ⟨f, hf⟩ : ∃ f, L[k]? = some f := ⟨L[k], List.getElem?_eq_getElem hL⟩
        have hfm : fmAt L k = f := by unfold fmAt; rw [hf]; rfl
        obtain ⟨q0, q1, q2⟩ := HQ.out k f hf
        rw [Nat.mul_comm 3 k] at q0 q1 q2
        have d0 := (cell_of_block hK.2.2.1).trans q0
        have d1 := (cell_of_block hK.2.2.1).trans q1
        have d2 := (cell_of_block hK.2.2.1).trans q2
        obtain ⟨fn, tmps, assign, body, hy, hR⟩ := HY.out _ (⟨k, hlt⟩ : Fin 6) _ (jl (.cells #[.int .i64 f.1, .int .u64 f.2.1, .int .u64 f.2.2] 53)) (by rw [fst6_len k hk]; exact hlt)
        (try dsimp only at hy)
        (try dsimp only at hR)
        rw [show encW a L ⟨k, hlt⟩ = #[.int .u64 (a k), .agg #[.int .i64 f.1, .int .u64 f.2.1, .int .u64 f.2.2]] from by show #[_, _] = _; rw [hfm]] at hy
        have HR := Lib.hid hR
        have hks := hK.2.2.2
        have hix := idx6 a k hlt
        clear hR hJ hK jl q0 q1 q2 hf hfm hL
        obtain ⟨f0, f1, f2⟩ := f
        (try dsimp only at d0 d1 d2)
        have hq3 : q < wr.heap.size := by omega
        have hs3 : s < wr.heap.size := by omega
        obtain ⟨N, hN⟩ : ∃ N, L.length = N := ⟨_, rfl⟩
        rw [hN] at hL' cs
        have i0 : (0 : Int) ≤ k := by omega
        gi_wp2
        refine HR.out.mono ?_
        rintro e W' (⟨rfl, hJ', hK'⟩ | ⟨rfl, hJx⟩)
        · gi_wp2
          go_roundw
          case rel => exact FIN.out _ hJ' ((AL.out _).trans hK')
          case measure => simp [intOf]; omega
        · gi_wp2
          first
            | refine bodyPost_ret (results_none rfl _ _ _) rfl ?_
            | go_end0
          exact ⟨⟨_, rfl⟩, .inr ⟨_, ⟨k, hlt, rfl⟩, hJx⟩⟩
      · have hL' : ¬ ((k : Int) < (L.length : Int)) := by omega
        have hf : L[k]? = none := List.getElem?_eq_none (by omega)
        have hfm : fmAt L k = (0, 0, 0) := by unfold fmAt; rw [hf]; rfl
        obtain ⟨fn, tmps, assign, body, hy, hR⟩ := HY.out _ (⟨k, hlt⟩ : Fin 6) _ (jl (.cells #[.int .i64 0, .int .u64 0, .int .u64 0] 53)) (by rw [fst6_len k hk]; exact hlt)
        (try dsimp only at hy)
        (try dsimp only at hR)
        rw [show encW a L ⟨k, hlt⟩ = #[.int .u64 (a k), .agg #[.int .i64 0, .int .u64 0, .int .u64 0]] from by show #[_, _] = _; rw [hfm]; rfl] at hy
        have HR := Lib.hid hR
        have hks := hK.2.2.2
        have hix := idx6 a k hlt
        clear hR hJ hK jl hf hfm hL
        have hs3 : s < wr.heap.size := by omega
        obtain ⟨N, hN⟩ : ∃ N, L.length = N := ⟨_, rfl⟩
        rw [hN] at hL' cs
        have i0 : (0 : Int) ≤ k := by omega
        gi_wp2
        refine HR.out.mono ?_
        rintro e W' (⟨rfl, hJ', hK'⟩ | ⟨rfl, hJx⟩)
        · gi_wp2
          go_roundw
          case rel => exact FIN.out _ hJ' ((AL.out _).trans hK')
          case measure => simp [intOf]; omega
        · gi_wp2
          first
            | refine bodyPost_ret (results_none rfl _ _ _) rfl ?_
            | go_end0
          exact ⟨⟨_, rfl⟩, .inr ⟨_, ⟨k, hlt, rfl⟩, hJx⟩⟩
    · obtain rfl : k = 6 := by omega
      gi_wp2
      go_end0
      exact ⟨⟨_, rfl⟩, .inl ⟨_, rfl, hJ⟩⟩
end Go.Proofs.Ytahagcghbeeajaa
