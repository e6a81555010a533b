/- package cores: Set, Len, Prefetch; of none; awake. -/
import Derived.Test.YtedapbliebiblaaCo5
namespace Go.Proofs.Ytedapbliebiblaa
set_option linter.unusedVariables false
set_option linter.unusedSimpArgs false
open Go.ChangeShapes Go.WideShapes Go.ChangeAt Go.RowKit Go.Shelf

theorem CoresAt.setRegs {w : World} {b g n c k : Nat} {R Q : Nat → Int} {T : Nat → Nat} {S : Nat → TS} (h : CoresAt w b g n c R Q T S) (hk : k < n) {r s : Int} (hr : RegOk r s) :
    CoresAt ((w.setCell ⟨g, k * 3, none⟩ (.int .i64 r)).setCell ⟨g, k * 3 + 1, none⟩ (.int .i64 s)) b g n c (setR R k r) (setR Q k s) T S := by
  refine ⟨?_, fun i hi => ?_, fun j => ?_, fun i hi => ?_, h.good, fun i hi => ?_, h.dist, h.off, h.ne, by simpa using h.lb, by simpa using h.lg, h.n1, h.n3, h.cap⟩
  · rw [World.cell?_setCell_other, World.cell?_setCell_other, h.hd]
    all_goals (intro e; simp only [Addr.mk.injEq] at e; exact h.ne e.1.symm)
  · obtain ⟨a0, a1, a2⟩ := h.row i hi
    unfold setR
    by_cases e : i = k
    · subst e
      simp only [if_true]
      refine ⟨?_, ?_, ?_⟩ <;> simp [go_sem, a0, a1, a2]
    · simp only [if_neg e]
      refine ⟨?_, ?_, ?_⟩
      all_goals
        rw [World.cell?_setCell_other, World.cell?_setCell_other]
        · assumption
        all_goals (intro e2; simp only [Addr.mk.injEq, true_and, and_true] at e2; omega)
  · simp [go_sem, h.free j]
  · have hg := (h.off i hi).2
    exact (h.tlb i hi).of_block (by simp) (by rw [Go.heap_setCell_other _ _ _ _ hg, Go.heap_setCell_other _ _ _ _ hg])
  · unfold setR
    split
    · exact hr
    · exact h.regs i hi
theorem cset_some (w : World) (b g n c k : Nat) (R Q : Nat → Int) (T : Nat → Nat) (S : Nat → TS) (r s : Int) (h : CoresAt w b g n c R Q T S) (hk : k < n) (r0 : 0 ≤ r) (r1 : r < 64) (s1 : 1 ≤ s) :
    Calls Try.prog 19 #[.pointer (some ⟨b, 0, none⟩), .int .i64 k, .int .i64 r, .int .i64 s] w fun e w' => e = .returned (.int .i64 0) ∧ CoresAt w' b g n c (setR R k r) (setR Q k s) T S ∧ BlkOnly g w w' := by
  have H := Lib.hid h
  obtain ⟨c0, c1, -⟩ := h.row k hk
  have hf := h.free
  have e1 : (r == -1) = false := beq_eq_false_iff_ne.2 (by omega)
  clear h
  go_enter Try.func19, Try.ntmps19
  go_wp2_with (first
    | (go_at_call 42; refine (get_ok _ b g n c k R Q T S H.out hk).mono ?_; rintro e w1 ⟨rfl, rfl⟩))
  go_ret
  exact ⟨rfl, H.out.setRegs hk (.inr ⟨r0, r1, s1⟩), ((BlkOnly.refl g w).set _ _).set _ _⟩
theorem clen_ok (w : World) (b g n c : Nat) (R Q : Nat → Int) (T : Nat → Nat) (S : Nat → TS) (h : CoresAt w b g n c R Q T S) :
    Calls Try.prog 29 #[.pointer (some ⟨b, 0, none⟩)] w fun e w' => e = .returned (.int .i64 n) ∧ w = w' := by
  have hd := h.hd
  clear h
  go_enter Try.func29, Try.ntmps29
  go_wp2
  go_ret
  exact ⟨rfl, rfl⟩
theorem clen_nil (w : World) : Calls Try.prog 29 #[.pointer none] w fun e w' => e = .returned (.int .i64 0) ∧ w = w' := by
  go_enter Try.func29, Try.ntmps29
  go_wp2
  go_ret
  exact ⟨rfl, rfl⟩
theorem cset_nil (w : World) (k r s : Int) : Calls Try.prog 19 #[.pointer none, .int .i64 k, .int .i64 r, .int .i64 s] w fun e w' => e = .returned (.int .i64 1) ∧ w = w' := by
  go_enter Try.func19, Try.ntmps19
  go_wp2_with (first
    | (go_at_call 42; refine (get_nil _ k).mono ?_; rintro e w1 ⟨rfl, rfl⟩))
  go_ret
  exact ⟨rfl, rfl⟩
theorem cregs_nil (w : World) (k : Int) : Calls Try.prog 28 #[.pointer none, .int .i64 k] w fun e w' => e = .returned (.tuple #[.int .i64 0, .int .i64 0, .int .i64 1]) ∧ w = w' := by
  go_enter Try.func28, Try.ntmps28
  go_wp2_with (first
    | (go_at_call 42; refine (get_nil _ k).mono ?_; rintro e w1 ⟨rfl, rfl⟩))
  exact bodyPost_ret (v := .tuple #[.int .i64 0, .int .i64 0, .int .i64 1]) (by simp [results, Try.results28, go_sem]) rfl ⟨rfl, rfl⟩
theorem ctrans_nil (w : World) (k p : Int) (m : Addr) : Calls Try.prog 24 #[.pointer none, .int .i64 k, .pointer (some m), .int .i64 p] w fun e w' => e = .returned (.tuple #[trX zT, .bool false, .int .i64 1]) ∧ Below w.heap.size w w' := by
  go_enter Try.func24, Try.ntmps24
  go_wp2_with (first
    | (go_at_call 42; refine (get_nil _ k).mono ?_; rintro e w1 ⟨rfl, rfl⟩))
  exact bodyPost_ret (v := .tuple #[trX zT, .bool false, .int .i64 1]) (by simp [results, Try.results24, go_sem]) rfl ⟨rfl, bal (Below.refl _ _) _⟩
theorem cpref_nil (w : World) (k p : Int) (m : Addr) : Calls Try.prog 22 #[.pointer none, .int .i64 k, .pointer (some m), .int .i64 p] w fun e w' => e = .returned (.bool false) ∧ Below w.heap.size w w' := by
  go_enter Try.func22, Try.ntmps22
  go_wp2_with (first
    | (go_at_call 24; refine (ctrans_nil _ k p m).mono ?_; rintro e w1 ⟨rfl, hb1⟩))
  go_ret
  exact ⟨rfl, bal hb1 _⟩
theorem cevict_nil (w : World) (k i j : Int) : Calls Try.prog 23 #[.pointer none, .int .i64 k, .int .i64 i, .int .i64 j] w fun e w' => e = .returned (.bool false) ∧ w = w' := by
  go_enter Try.func23, Try.ntmps23
  go_wp2_with (first
    | (go_at_call 42; refine (get_nil _ k).mono ?_; rintro e w1 ⟨rfl, rfl⟩))
  go_ret
  exact ⟨rfl, rfl⟩
theorem call_nil (w : World) (k : Int) : Calls Try.prog 26 #[.pointer none, .int .i64 k] w fun e w' => e = .returned (.slice none 0 0) ∧ w = w' := by
  go_enter Try.func26, Try.ntmps26
  go_wp2_with (first
    | (go_at_call 42; refine (get_nil _ k).mono ?_; rintro e w1 ⟨rfl, rfl⟩))
  go_ret
  exact ⟨rfl, rfl⟩
section
attribute [local go_sem] Oper.semAt_some
theorem caches_in (n : Nat) (p : Option Addr) (w : World) :
    CallsIn Fence.wide n Try.prog 43 #[.pointer p] w fun e w' => e = .returned (.func (.func 55) #[] #[.pointer (some ⟨w.heap.size, 0, none⟩)]) ∧ w' = w.alloc (.cells #[.pointer p] 25) := by
  refine callsIn_of_wp Try.func43 rfl trivial ?_ rfl
  simp only [Try.ntmps43, List.size_toArray, List.length_cons, List.length_nil, Nat.reduceAdd, Nat.reduceSub, Array.replicate_succ, Array.replicate_zero, List.push_toArray, List.append_toArray, List.nil_append, List.cons_append]
  gi_wp2
  go_ret
  exact ⟨rfl, rfl⟩
theorem caches1_nil (n : Nat) (l Bn : Nat) (w : World) (hc : w.cell? ⟨Bn, 0, none⟩ = some (.pointer none)) :
    CallsIn Fence.wide (n + 1) Try.prog 55 (#[.func (.yield l) #[] #[]] ++ #[.pointer (some ⟨Bn, 0, none⟩)]) w fun e w' => (∃ v, e = .returned v) ∧ w' = w := by
  refine callsIn_of_wp Try.func55 rfl trivial ?_ rfl
  simp only [Try.ntmps55, List.size_toArray, List.length_cons, List.length_nil, Nat.reduceAdd, Nat.reduceSub, Array.replicate_succ, Array.replicate_zero, List.push_toArray, List.append_toArray, List.nil_append, List.cons_append]
  gi_wp2_with (refine ⟨trivial, ?_⟩; gi_at_call 29; refine (callsIn_wide.2 (clen_nil _)).mono ?_; rintro e w1 ⟨rfl, rfl⟩)
  gi_loopw [6] (fun i wr => i = .int .i64 0 ∧ wr = w) (fun i _ => 0)
  case atStart => exact ⟨rfl, rfl⟩
  case round =>
    obtain ⟨rfl, rfl⟩ := hrel
    gi_wp2
    go_end0
    exact ⟨⟨_, rfl⟩, rfl⟩
set_option maxRecDepth 100000 in
theorem cdropP_nil (w : World) (a c : Int) :
    CallsIn Fence.wide 3 Try.prog 21 #[.pointer none, .int .i64 a, .int .i64 c] w fun e W' => e = .returned (.int .i64 0) ∧ Below w.heap.size w W' := by
  refine callsIn_of_wp_marks Try.func21 rfl trivial ?_ rfl
  simp only [Try.ntmps21, List.size_toArray, List.length_cons, List.length_nil, Nat.reduceAdd, Nat.reduceSub, Array.replicate_succ, Array.replicate_zero, List.push_toArray, List.append_toArray, List.nil_append, List.cons_append]
  gi_wp2_with (refine ⟨trivial, ?_⟩; gi_at_call 43; refine (caches_in _ _ _).mono ?_; rintro e w' ⟨rfl, rfl⟩)
  refine wpIn_range_none rfl (by decide) (gf := 55) (lb := #[.pointer (some ⟨w.heap.size + 1 + 1 + 1, 0, none⟩)]) rfl trivial (enters_of Try.func55 (by kernel_rfl) rfl) ?hcall ?hdone
  case hcall =>
    intro l W hW
    refine caches1_nil 1 l _ W ?_
    rw [hW.cell (p := ⟨w.heap.size + 1 + 1 + 1, 0, none⟩) (by first | (simp; done) | (simp; omega))]
    go_simp
  case hdone =>
  rintro D W hD hB hK
  have hn : W.cell? ⟨w.heap.size + 1 + 1, 0, none⟩ = some (.int .i64 0) := by
    rw [hB.cell (p := ⟨w.heap.size + 1 + 1, 0, none⟩) (by first | (simp; done) | (simp; omega))]
    go_simp
  gi_wp2
  refine ⟨by simp, .inl ⟨_, _, rfl, run_takeDeferred hK, ?_⟩⟩
  exact ⟨_, results_tmp rfl _ _ _, rfl, (bal (bal (bal (bal (Below.refl _ w) _) _) _) _).trans ((hB.mono (by simp; omega)).trans (belowK_b (w := w) (Nat.le_refl _) W D _ _ (by simp at hD; omega) hK rfl rfl))⟩
set_option maxRecDepth 100000 in
theorem cdropS_nil (w : World) (a : Int) :
    CallsIn Fence.wide 3 Try.prog 27 #[.pointer none, .int .i64 a] w fun e W' => e = .returned (.int .i64 0) ∧ Below w.heap.size w W' := by
  refine callsIn_of_wp_marks Try.func27 rfl trivial ?_ rfl
  simp only [Try.ntmps27, List.size_toArray, List.length_cons, List.length_nil, Nat.reduceAdd, Nat.reduceSub, Array.replicate_succ, Array.replicate_zero, List.push_toArray, List.append_toArray, List.nil_append, List.cons_append]
  gi_wp2_with (refine ⟨trivial, ?_⟩; gi_at_call 43; refine (caches_in _ _ _).mono ?_; rintro e w' ⟨rfl, rfl⟩)
  refine wpIn_range_none rfl (by decide) (gf := 55) (lb := #[.pointer (some ⟨w.heap.size + 1 + 1, 0, none⟩)]) rfl trivial (enters_of Try.func55 (by kernel_rfl) rfl) ?hcall ?hdone
  case hcall =>
    intro l W hW
    refine caches1_nil 1 l _ W ?_
    rw [hW.cell (p := ⟨w.heap.size + 1 + 1, 0, none⟩) (by first | (simp; done) | (simp; omega))]
    go_simp
  case hdone =>
  rintro D W hD hB hK
  have hn : W.cell? ⟨w.heap.size + 1, 0, none⟩ = some (.int .i64 0) := by
    rw [hB.cell (p := ⟨w.heap.size + 1, 0, none⟩) (by first | (simp; done) | (simp; omega))]
    go_simp
  gi_wp2
  refine ⟨by simp, .inl ⟨_, _, rfl, run_takeDeferred hK, ?_⟩⟩
  exact ⟨_, results_tmp rfl _ _ _, rfl, (bal (bal (bal (Below.refl _ w) _) _) _).trans ((hB.mono (by simp; omega)).trans (belowK_b (w := w) (Nat.le_refl _) W D _ _ (by simp at hD; omega) hK rfl rfl))⟩
end
end Go.Proofs.Ytedapbliebiblaa
