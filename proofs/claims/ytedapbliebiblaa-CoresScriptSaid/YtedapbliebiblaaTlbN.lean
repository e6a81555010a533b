/- package tlb at no cache. -/
import Derived.Test.YtedapbliebiblaaNil
import Derived.Outline
namespace Go.Proofs.Ytedapbliebiblaa
set_option linter.unusedVariables false
open Go.RowKit Go.Shelf
attribute [local go_sem] Oper.semAt_some
theorem each_in (n : Nat) (p : Option Addr) (w : World) :
    CallsIn Fence.wide n Try.prog 66 #[.pointer p] w fun e w' => e = .returned (.func (.func 79) #[] #[.pointer (some ⟨w.heap.size, 0, none⟩)]) ∧ w' = w.alloc (.cells #[.pointer p] 75) := by
  refine callsIn_of_wp Try.func66 rfl trivial ?_ rfl
  simp only [Try.ntmps66, List.size_toArray, List.length_cons, List.length_nil, Nat.reduceAdd, Nat.reduceSub, Array.replicate_succ, Array.replicate_zero, List.push_toArray, List.append_toArray, List.nil_append, List.cons_append]
  gi_wp2
  go_ret
  exact ⟨rfl, rfl⟩
theorem each1_nil (n : Nat) (l Bn : Nat) (w : World) (hc : w.cell? ⟨Bn, 0, none⟩ = some (.pointer none)) :
    CallsIn Fence.wide n Try.prog 79 (#[.func (.yield l) #[] #[]] ++ #[.pointer (some ⟨Bn, 0, none⟩)]) w fun e w' => (∃ v, e = .returned v) ∧ w' = w := by
  refine callsIn_of_wp Try.func79 rfl trivial ?_ rfl
  simp only [Try.ntmps79, List.size_toArray, List.length_cons, List.length_nil, Nat.reduceAdd, Nat.reduceSub, Array.replicate_succ, Array.replicate_zero, List.push_toArray, List.append_toArray, List.nil_append, List.cons_append]
  gi_wp2
  refine bodyPost_ret (results_none rfl _ _ _) rfl ⟨⟨_, rfl⟩, rfl⟩
set_option maxRecDepth 100000 in
theorem drop_nil (f : Fn) (fl : Array Value) (w : World) :
    CallsIn Fence.wide 3 Try.prog 56 #[.pointer none, .func f #[] fl] w fun e W' => e = .returned (.int .i64 0) ∧ Below w.heap.size w W' := by
  refine callsIn_of_wp_marks Try.func56 rfl trivial ?_ rfl
  simp only [Try.ntmps56, List.size_toArray, List.length_cons, List.length_nil, Nat.reduceAdd, Nat.reduceSub, Array.replicate_succ, Array.replicate_zero, List.push_toArray, List.append_toArray, List.nil_append, List.cons_append]
  gi_wp2_with (refine ⟨trivial, ?_⟩; gi_at_call 66; refine (each_in _ _ _).mono ?_; rintro e w' ⟨rfl, rfl⟩)
  refine wpIn_range_none rfl (by decide) (gf := 79) (lb := #[.pointer (some ⟨w.heap.size + 1 + 1, 0, none⟩)]) rfl trivial (enters_of Try.func79 (by kernel_rfl) rfl) ?hcall ?hdone
  case hcall =>
    intro l W hW
    refine each1_nil _ l _ W ?_
    rw [hW.cell (p := ⟨w.heap.size + 1 + 1, 0, none⟩) (by first | (simp; done) | (simp; omega))]
    go_simp
  case hdone =>
  rintro D W hD hB hK
  have hn : W.cell? ⟨w.heap.size + 1, 0, none⟩ = some (.int .i64 0) := by
    rw [hB.cell (p := ⟨w.heap.size + 1, 0, none⟩) (by first | (simp; done) | (simp; omega))]
    go_simp
  gi_wp2
  refine ⟨by simp, .inl ⟨_, _, rfl, run_takeDeferred hK, ?_⟩⟩
  exact ⟨_, results_tmp rfl _ _ _, rfl, ((((Below.refl _ w).alloc (Nat.le_refl _) _).alloc (by simp) _).alloc (by simp; omega) _).trans ((hB.mono (by simp; omega)).trans (belowK_b (w := w) (Nat.le_refl _) W D _ _ (by simp at hD; omega) hK rfl rfl))⟩
theorem drop_any (f : Fn) (fl : Array Value) (w : World) : Calls Try.prog 56 #[.pointer none, .func f #[] fl] w fun e W' => e = .returned (.int .i64 0) ∧ Below w.heap.size w W' :=
  callsIn_wide.1 (drop_nil f fl w)
set_option maxRecDepth 100000 in
theorem all_nil (w : World) :
    CallsIn Fence.wide 3 Try.prog 49 #[.pointer none] w fun e W' => e = .returned (.slice none 0 0) ∧ Below w.heap.size w W' := by
  refine callsIn_of_wp_marks Try.func49 rfl trivial ?_ rfl
  simp only [Try.ntmps49, List.size_toArray, List.length_cons, List.length_nil, Nat.reduceAdd, Nat.reduceSub, Array.replicate_succ, Array.replicate_zero, List.push_toArray, List.append_toArray, List.nil_append, List.cons_append]
  gi_wp2_with (refine ⟨trivial, ?_⟩; gi_at_call 66; refine (each_in _ _ _).mono ?_; rintro e w' ⟨rfl, rfl⟩)
  refine wpIn_range_none rfl (by decide) (gf := 79) (lb := #[.pointer (some ⟨w.heap.size + 1, 0, none⟩)]) rfl trivial (enters_of Try.func79 (by kernel_rfl) rfl) ?hcall ?hdone
  case hcall =>
    intro l W hW
    refine each1_nil _ l _ W ?_
    rw [hW.cell (p := ⟨w.heap.size + 1, 0, none⟩) (by first | (simp; done) | (simp; omega))]
    go_simp
  case hdone =>
  rintro D W hD hB hK
  have hn : W.cell? ⟨w.heap.size, 0, none⟩ = some (.slice none 0 0) := by
    rw [hB.cell (p := ⟨w.heap.size, 0, none⟩) (by first | (simp; done) | (simp; omega))]
    go_simp
  gi_wp2
  refine ⟨by simp, .inl ⟨_, _, rfl, run_takeDeferred hK, ?_⟩⟩
  exact ⟨_, results_tmp rfl _ _ _, rfl, (((Below.refl _ w).alloc (Nat.le_refl _) _).alloc (by simp) _).trans ((hB.mono (by simp; omega)).trans (belowK_b (w := w) (Nat.le_refl _) W D _ _ (by simp at hD; omega) hK rfl rfl))⟩
theorem all_any (w : World) : Calls Try.prog 49 #[.pointer none] w fun e W' => e = .returned (.slice none 0 0) ∧ Below w.heap.size w W' :=
  callsIn_wide.1 (all_nil w)
end Go.Proofs.Ytedapbliebiblaa
