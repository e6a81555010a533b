/- package cores: Prefetch, Evict, DropPage. -/
import Derived.Test.YtedapbliebiblaaCoM
import Derived.Test.YtedapbliebiblaaWa2
import Derived.RangeFuncFrom
import Derived.RangeFuncBound
import Derived.RangeFuncCalls
import Derived.RangeFuncLeaves
namespace Go.Proofs.Ytedapbliebiblaa
set_option linter.unusedVariables false
set_option linter.unusedSimpArgs false
open Go.ChangeShapes Go.WideShapes Go.ChangeAt Go.RowKit Go.Shelf

theorem cpref_ok (w : World) (b g n c k : Nat) (R Q : Nat → Int) (T : Nat → Nat) (S : Nat → TS) (mb mg mn mc : Nat) (m : Nat → Int) (p : Int) (h : CoresAt w b g n c R Q T S) (hk : k < n) (hM : MemAt w mb mg mn mc m) (hr : R k ≠ -1) (p0 : 0 ≤ p) (p1 : p < 512) :
    Calls Try.prog 22 #[.pointer (some ⟨b, 0, none⟩), .int .i64 k, .pointer (some ⟨mb, 0, none⟩), .int .i64 p] w fun e w' => e = .returned (.bool ((transF mn m (R k) (Q k) p (S k)).1.2.2 == 0 && !(transF mn m (R k) (Q k) p (S k)).1.2.1)) ∧ CoresAt w' b g n c R Q T (setT S k (transF mn m (R k) (Q k) p (S k)).2) ∧ TlbOnly (T k) w w' := by
  obtain ⟨⟨⟨x, hit, cd⟩, s'⟩, hz⟩ : ∃ z, transF mn m (R k) (Q k) p (S k) = z := ⟨_, rfl⟩
  have HC := Lib.hid (ctrans_ok w b g n c k R Q T S mb mg mn mc m p h hk hM hr p0 p1)
  rw [hz] at HC
  rw [hz]
  clear hz h hM hr
  by_cases hc : cd = 0
  · subst hc
    cases hit
    all_goals
      go_enter Try.func22, Try.ntmps22
      go_wp2_with (go_at_call 24; refine HC.out.mono ?_; rintro e w1 ⟨rfl, hc1, ho1⟩)
      go_ret
      exact ⟨rfl, hc1.call (bal (Below.refl _ _) _), ho1.trans (TlbOnly.of_below (bal (Below.refl _ _) _))⟩
  · have hz : (cd == 0) = false := beq_eq_false_iff_ne.2 hc
    clear hc
    go_enter Try.func22, Try.ntmps22
    go_wp2_with (go_at_call 24; refine HC.out.mono ?_; rintro e w1 ⟨rfl, hc1, ho1⟩)
    go_ret
    exact ⟨ret_bool (by simp [hz]), hc1.call (bal (Below.refl _ _) _), ho1.trans (TlbOnly.of_below (bal (Below.refl _ _) _))⟩
theorem cevict_ok (w : World) (b g n c k : Nat) (R Q : Nat → Int) (T : Nat → Nat) (S : Nat → TS) (i j : Int) (h : CoresAt w b g n c R Q T S) (hk : k < n) :
    Calls Try.prog 23 #[.pointer (some ⟨b, 0, none⟩), .int .i64 k, .int .i64 i, .int .i64 j] w fun e w' => e = .returned (.bool (evictS (S k) i j).2) ∧ CoresAt w' b g n c R Q T (setT S k (evictS (S k) i j).1) ∧ TlbOnly (T k) w w' := by
  have H := Lib.hid h
  have c2 := (h.row k hk).2.2
  clear h
  go_enter Try.func23, Try.ntmps23
  go_wp2_with (first
    | (go_at_call 42; refine (get_ok _ b g n c k R Q T S H.out hk).mono ?_; rintro e w1 ⟨rfl, rfl⟩)
    | (go_at_call 45; refine (tevict_any _ (T k) (S k) i j (H.out.tlb k hk) (Good.ok (H.out.good k hk))).mono ?_; rintro e w2 ⟨rfl, ht2, ho2⟩))
  go_ret
  exact ⟨rfl, H.out.put hk ht2 (good_evict (H.out.good k hk) i j) ho2, ho2⟩
/-- What a drop does over the cores of a list. -/
def dropL {n : Nat} (S : Nat → TS) (out : TransX → Bool) (pre : List (Fin n)) : (Nat → TS) × Nat := pre.foldl (fun s x => (setT s.1 x.1 (dropF (s.1 x.1) out (fullP (s.1 x.1) 8)).1, s.2 + (dropF (s.1 x.1) out (fullP (s.1 x.1) 8)).2)) (S, 0)
theorem dropL_snoc {n : Nat} (S : Nat → TS) (out : TransX → Bool) (pre : List (Fin n)) (x : Fin n) : dropL S out (pre ++ [x]) = (setT (dropL S out pre).1 x.1 (dropF ((dropL S out pre).1 x.1) out (fullP ((dropL S out pre).1 x.1) 8)).1, (dropL S out pre).2 + (dropF ((dropL S out pre).1 x.1) out (fullP ((dropL S out pre).1 x.1) 8)).2) := by
  unfold dropL; rw [List.foldl_append]; rfl
theorem dropL_at {n : Nat} (S : Nat → TS) (out : TransX → Bool) : ∀ k, k ≤ n → ∀ i, (dropL S out (frs n k)).1 i = if i < k then (dropF (S i) out (fullP (S i) 8)).1 else S i
  | 0, _, i => by simp [frs, dropL]
  | k + 1, hk, i => by
    have ih := dropL_at (n := n) S out k (by omega)
    rw [frs_succ (l0 := n) (k := k) (by omega), dropL_snoc]
    simp only [setT]
    by_cases e : i = k
    · subst e
      rw [if_pos rfl, ih, if_neg (Nat.lt_irrefl _), if_pos (Nat.lt_succ_self _)]
    · rw [if_neg e, ih]
      by_cases h : i < k
      · rw [if_pos h, if_pos (by omega)]
      · rw [if_neg h, if_neg (by omega)]
theorem clen_hd (w : World) (b g n c : Nat) (hd : w.cell? ⟨b, 0, none⟩ = some (.slice (some ⟨g, 0, none⟩) n c)) :
    Calls Try.prog 29 #[.pointer (some ⟨b, 0, none⟩)] w fun e w' => e = .returned (.int .i64 n) ∧ w = w' := by
  go_enter Try.func29, Try.ntmps29
  go_wp2
  go_ret
  exact ⟨rfl, rfl⟩
/-- What the iterator over the caches finds again. -/
def KpC (p b g : Nat) (W W' : World) : Prop := W'.heap[p]? = W.heap[p]? ∧ W'.heap[b]? = W.heap[b]? ∧ W'.heap[g]? = W.heap[g]? ∧ W.heap.size ≤ W'.heap.size
theorem KpC.trans {p b g : Nat} {A B C : World} (h : KpC p b g A B) (k : KpC p b g B C) : KpC p b g A C := ⟨k.1.trans h.1, k.2.1.trans h.2.1, k.2.2.1.trans h.2.2.1, Nat.le_trans h.2.2.2 k.2.2.2⟩
section
attribute [local go_sem] Oper.semAt_some
set_option maxHeartbeats 1000000 in
theorem caches1_seq (q p b g n c : Nat) (R Q : Nat → Int) (T : Nat → Nat) (S : Nat → TS) (w0 : World) (hp : w0.cell? ⟨p, 0, none⟩ = some (.pointer (some ⟨b, 0, none⟩))) (hp1 : p < w0.heap.size) (hC : CoresAt w0 b g n c R Q T S) :
    SeqStopsK Fence.wide (q + 1) Try.prog 55 #[.pointer (some ⟨p, 0, none⟩)] (fun x : Fin n => #[.pointer (some ⟨T x.1, 0, none⟩)]) (KpC p b g) (fun xs => xs = frs n n) (fun pre => True) 3 w0 := by
  intro l J Jx W hB hAb hAx hY h0
  have hK0 : KpC p b g w0 W := ⟨hB.block p hp1, hB.block b hC.lb, hB.block g hC.lg, hB.size⟩
  have HY := Lib.hid hY
  have HP := Lib.hid hp
  have HHD := Lib.hid hC.hd
  have HROW := Lib.hid hC.row
  have hn3 := hC.n3
  have hWp : W.cell? ⟨p, 0, none⟩ = some (.pointer (some ⟨b, 0, none⟩)) := (cell_of_block hK0.1).trans hp
  have hWb : W.cell? ⟨b, 0, none⟩ = some (.slice (some ⟨g, 0, none⟩) n c) := (cell_of_block hK0.2.1).trans hC.hd
  have HWB := Lib.hid hWb
  clear hY hAb hAx hB hp hC hWb
  refine callsIn_of_wp Try.func55 rfl trivial ?_ rfl
  simp only [Try.ntmps55, List.size_toArray, List.length_cons, List.length_nil, Nat.reduceAdd, Nat.reduceSub, Array.replicate_succ, Array.replicate_zero, List.push_toArray, List.append_toArray, List.nil_append, List.cons_append]
  gi_wp2_with (refine ⟨trivial, ?_⟩; gi_at_call 29; refine (callsIn_wide.2 (clen_hd _ b g n c HWB.out)).mono ?_; rintro e w1 ⟨rfl, rfl⟩)
  clear hWp
  gi_loopw [6] (fun i wr => ∃ k : Nat, k ≤ n ∧ i = .int .i64 k ∧ J (frs n k) wr ∧ KpC p b g w0 wr) (fun i _ => n - (intOf i).toNat)
  case atStart => exact ⟨0, by omega, rfl, h0, hK0⟩
  case round =>
    obtain ⟨k, hk, rfl, hJ, hK⟩ := hrel
    have hbp : wr.cell? ⟨p, 0, none⟩ = some (.pointer (some ⟨b, 0, none⟩)) := (cell_of_block hK.1).trans HP.out
    have hbh : wr.cell? ⟨b, 0, none⟩ = some (.slice (some ⟨g, 0, none⟩) n c) := (cell_of_block hK.2.1).trans HHD.out
    by_cases hlt : k < n
    · have hlt' : (k : Int) < n := by omega
      have hrow : wr.cell? ⟨g, k * 3 + 2, none⟩ = some (.pointer (some ⟨T k, 0, none⟩)) := (cell_of_block hK.2.2.1).trans (HROW.out k hlt).2.2
      have hs := frs_succ hlt
      have HS := Lib.hid hs
      clear hs
      obtain ⟨fn, tmps, assign, body, hy, hR⟩ := HY.out _ (⟨k, hlt⟩ : Fin n) wr hJ (by rw [frs_len hk]; omega)
      (try dsimp only at hy)
      have HR := Lib.hid hR
      clear hR
      gi_wp2
      refine HR.out.mono ?_
      rintro e W' (⟨rfl, hJ', hK'⟩ | ⟨rfl, hJx⟩)
      · gi_wp2
        go_roundw
        case rel => exact ⟨k + 1, by omega, by go_num, by rw [HS.out]; exact hJ', hK.trans hK'⟩
        case measure => simp [intOf]; omega
      · gi_wp2
        first
          | refine bodyPost_ret (results_none rfl _ _ _) rfl ?_
          | go_end0
        exact ⟨⟨_, rfl⟩, .inr ⟨_, trivial, hJx⟩⟩
    · obtain rfl : k = n := by omega
      gi_wp2
      go_end0
      exact ⟨⟨_, rfl⟩, .inl ⟨_, rfl, hJ⟩⟩
end
end Go.Proofs.Ytedapbliebiblaa
