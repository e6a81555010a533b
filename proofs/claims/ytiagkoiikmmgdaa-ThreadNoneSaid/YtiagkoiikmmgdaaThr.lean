/- The records of threads: what a table of none and of one answers. -/
import Derived.Test.YtiagkoiikmmgdaaNil
import Derived.Test.YtiagkoiikmmgdaaCells
import Derived.Lib.Hide
import Derived.LoopN
import Derived.Laws.Rows
namespace Go.Proofs.Ytiagkoiikmmgdaa
set_option linter.unusedVariables false
set_option linter.unusedSimpArgs false
open Go.ChangeShapes Go.WideShapes Go.ChangeAt Go.RowKit Go.Shelf

section
variable {P : Program} {ops : Array Oper} {rest : List Oper} {o : Oper} {a : Act} {w : World} {Q : Exit → Act → World → Prop}
/-- A load of a struct whose cells are known, as one operation. -/
theorem wp_load_list {K : Act → World → Prop} (ty : TypeId) (x : Operand) (ho : o.op = .load ty x) (p : Addr) (hx : a.eval x = .pointer (some p)) (cs : List Value) (hc : ∀ j v, cs[j]? = some v → w.cell? (p.add j) = some v)
    (d : TypeDesc) (hu : P.underlying ty = some d) (hd : (match d with | .struct _ | .array _ _ => true | _ => false) = true) (hi : (P.info? ty).map (·.size) = some cs.length)
    (h : K (a.put o.dst (.agg cs.toArray)) w) : o.wp P a w K Q := by
  have hl : (loadCells p cs.length).run P w = .ok cs.toArray w := run_loadCells_list (P := P) w p cs hc
  have hrun : (loadVar ty p).run P w = .ok (.agg cs.toArray) w := by
    cases hq : P.info? ty with
    | none => simp [hq] at hi
    | some i =>
      have hs : i.size = cs.length := by simpa [hq] using hi
      have hagg : (isAgg ty).run P w = .ok true w := by
        unfold isAgg
        rw [Sem.run_bind, run_underlying hu w]
        cases d <;> simp_all
      simp [loadVar, Sem.run_bind, hagg, sizeOf, typeInfo, hq, hs, hl]
  unfold Oper.wp execOp
  simp only [ho, hx, Instr.loadAt, Instr.sureAddr, Sem.run_bind, Sem.run_pure, Result.andThen_ok, hrun]
  exact h
theorem wpList_load_list (hw : Region.wanted o (yielded ops a.tmps) = true) (ty : TypeId) (x : Operand) (ho : o.op = .load ty x) (p : Addr) (hx : a.eval x = .pointer (some p)) (cs : List Value) (hc : ∀ j v, cs[j]? = some v → w.cell? (p.add j) = some v)
    (d : TypeDesc) (hu : P.underlying ty = some d) (hd : (match d with | .struct _ | .array _ _ => true | _ => false) = true) (hi : (P.info? ty).map (·.size) = some cs.length)
    (h : wpList P ops Q rest (a.put o.dst (.agg cs.toArray)) w) : wpList P ops Q (o :: rest) a w :=
  wpList_step fun K hK => by
    rw [hw, if_pos rfl]
    exact wp_load_list ty x ho p hx cs hc d hu hd hi (hK _ _ h)
end
theorem add_cells {w : World} {g : Nat} {cs : List Value} (h : ∀ j v, cs[j]? = some v → w.cell? ⟨g, j, none⟩ = some v) : ∀ j v, cs[j]? = some v → w.cell? ((⟨g, 0, none⟩ : Addr).add j) = some v := by
  intro j v hj
  have : ((⟨g, 0, none⟩ : Addr).add j) = ⟨g, j, none⟩ := by unfold Addr.add; split <;> simp_all
  rw [this]
  exact h j v hj
abbrev u0 : Value := .int .u64 0
abbrev i0' : Value := .int .i64 0
abbrev b0 : Value := .bool false
abbrev thrV (t g : Int) : Value := .agg #[.int .i64 4, .int .i64 t, i0', u0, u0, u0, u0, u0, b0, i0', i0', u0, u0, u0, u0, u0, .int .i64 g, .int .i64 g, b0, b0, b0, b0, u0, u0]
abbrev rowV : Value := .agg #[.int .i64 4, .int .i64 4, i0', i0', u0, u0, u0, u0, u0, b0, i0', i0', u0, u0, u0, u0, u0, .int .i64 4096, .int .i64 4096, b0, b0, b0, b0, u0, u0]
def row25 : List Value := [.int .i64 4, .int .i64 4, i0', i0', u0, u0, u0, u0, u0, b0, i0', i0', u0, u0, u0, u0, u0, .int .i64 4096, .int .i64 4096, b0, b0, b0, b0, u0, u0]
theorem cmp1 (w : World) : Calls Try.prog 37 #[rowV, .int .i64 4] w fun e w' => e = .returned (.int .i64 0) ∧ Below w.heap.size w w' := by
  go_enter Try.func37, Try.ntmps37
  go_wp2_with go_in
  go_ret
  exact ⟨by simp, bal (Below.refl _ _) _⟩
theorem bsf_none (w : World) (c : Int) (k : Int) (f : Value) : Calls Try.prog 36 #[.slice none 0 0, .int .i64 k, f] w fun e w' => e = .returned (.tuple #[.int .i64 0, .bool false]) ∧ w = w' := by
  go_enter Try.func36, Try.ntmps36
  go_wp2
  refine wp_loop_rounds 1 ?_
  rw [rounds_succ]
  go_wp2
  go_ret2
  exact ⟨by simp, rfl⟩
set_option maxRecDepth 100000 in
set_option maxHeartbeats 2000000 in
theorem bsf_one (w : World) (g c : Nat) (hg : g < w.heap.size) (hc : ∀ j v, row25[j]? = some v → w.cell? ⟨g, j, none⟩ = some v) : Calls Try.prog 36 #[.slice (some ⟨g, 0, none⟩) 1 c, .int .i64 4, .func (.func 37) #[] #[]] w fun e w' => e = .returned (.tuple #[.int .i64 0, .bool true]) ∧ Below w.heap.size w w' := by
  have HC := Lib.hid hc
  clear hc
  go_enter Try.func36, Try.ntmps36
  go_wp2
  refine wp_loop_rounds 2 ?_
  rw [rounds_succ]
  go_wp2_with (first | (refine wpList_load_list (by first | rfl | simp [Region.wanted, yielded]) 73 _ rfl ⟨g, 0, none⟩ rfl row25 (add_cells HC.out) _ Try.underlying73 rfl (by kernel_rfl) ?_) | (go_at_call 37; refine (cmp1 _).mono ?_; rintro e w1 ⟨rfl, hb1⟩; have hz1 : w.heap.size ≤ w1.heap.size := hb1.size))
  have hc1 : ∀ j v, row25[j]? = some v → w1.cell? ⟨g, j, none⟩ = some v := fun j v hj => (hb1.cell (p := ⟨g, j, none⟩) hg).trans (HC.out j v hj)
  have HC1 := Lib.hid hc1
  clear hc1
  rw [rounds_succ]
  go_wp2_with (first | (refine wpList_load_list (by first | rfl | simp [Region.wanted, yielded]) 73 _ rfl ⟨g, 0, none⟩ rfl row25 (add_cells HC1.out) _ Try.underlying73 rfl (by kernel_rfl) ?_) | (go_at_call 37; refine (cmp1 _).mono ?_; rintro e w2 ⟨rfl, hb2⟩))
  go_ret2
  exact ⟨by simp, hb1.trans (hb2.mono hz1)⟩
set_option maxHeartbeats 2000000 in
theorem find_empty (w : World) (b : Nat) (k : Int) (hb : b < w.heap.size) (hc : w.cell? ⟨b, 0, none⟩ = some (.slice none 0 0)) : Calls Try.prog 31 #[.pointer (some ⟨b, 0, none⟩), .int .i64 k] w fun e w' => e = .returned (.tuple #[.int .i64 0, .bool false]) ∧ w = w' := by
  go_enter Try.func31, Try.ntmps31
  go_wp2_with (go_at_call 36; refine (bsf_none _ 0 _ _).mono ?_; rintro e w1 ⟨rfl, rfl⟩)
  go_ret2
  exact ⟨by simp, rfl⟩
set_option maxHeartbeats 2000000 in
theorem find_one (w : World) (b g c : Nat) (hb : b < w.heap.size) (hg : g < w.heap.size) (hc : w.cell? ⟨b, 0, none⟩ = some (.slice (some ⟨g, 0, none⟩) 1 c)) (hr : ∀ j v, row25[j]? = some v → w.cell? ⟨g, j, none⟩ = some v) : Calls Try.prog 31 #[.pointer (some ⟨b, 0, none⟩), .int .i64 4] w fun e w' => e = .returned (.tuple #[.int .i64 0, .bool true]) ∧ Below w.heap.size w w' := by
  have HR := Lib.hid hr
  clear hr
  go_enter Try.func31, Try.ntmps31
  go_wp2_with (go_at_call 36; refine (bsf_one _ g c hg HR.out).mono ?_; rintro e w1 ⟨rfl, hb1⟩)
  go_ret2
  exact ⟨by simp, hb1⟩
set_option maxHeartbeats 2000000 in
theorem get_one (w : World) (b g c : Nat) (hb : b < w.heap.size) (hg : g < w.heap.size) (hc : w.cell? ⟨b, 0, none⟩ = some (.slice (some ⟨g, 0, none⟩) 1 c)) (hr : ∀ j v, row25[j]? = some v → w.cell? ⟨g, j, none⟩ = some v) : Calls Try.prog 28 #[.pointer (some ⟨b, 0, none⟩), .int .i64 4] w fun e w' => e = .returned (.tuple #[.pointer (some ⟨g, 1, none⟩), .bool true]) ∧ Below w.heap.size w w' := by
  have HR := Lib.hid hr
  clear hr
  go_enter Try.func28, Try.ntmps28
  go_wp2_with (go_at_call 31; refine (find_one _ b g c hb hg hc HR.out).mono ?_; rintro e w1 ⟨rfl, hb1⟩; obtain ⟨hc1, hf1⟩ := bcell hb1; have hz1 : w.heap.size ≤ w1.heap.size := hb1.size)
  go_ret2
  exact ⟨by simp, hb1⟩
end Go.Proofs.Ytiagkoiikmmgdaa
