/- The law SlotsNone. -/
import Derived.Test.YtplanbihejodoaaDoorSlo9
import Derived.Deep.MidRow
import Derived.Laws.Rows
namespace Go.Proofs.YtplanbihejodoaaDoor
set_option linter.unusedVariables false
set_option linter.unusedSimpArgs false
open Go.ChangeShapes Go.WideShapes Go.ChangeAt Go.RowKit Go.Shelf

section
variable {P : Program} {ops : Array Oper} {rest : List Oper} {o : Oper} {a : Act} {w : World} {Q : Exit → Act → World → Prop}
/-- A load of a struct whose cells are known, as one operation. -/
theorem wp_load_list {K : Act → World → Prop} (ty : TypeId) (x : Operand) (ho : o.op = .load ty x) (p : Addr) (hx : a.eval x = .pointer (some p)) (cs : List Value) (hc : ∀ j v, cs[j]? = some v → w.cell? (p.add j) = some v)
    (d : TypeDesc) (hu : P.underlying ty = some d) (hd : (match d with | .struct _ | .array _ _ => true | _ => false) = true) (hi : (P.info? ty).map (·.size) = some cs.length)
    (h : K (a.put o.dst (.agg cs.toArray)) w) : o.wp P a w K Q := by
  have hl : (loadCells p cs.length).run P w = .ok cs.toArray w := run_loadCells_list (P := P) w p cs hc
  have hrun : (loadVar ty p).run P w = .ok (.agg cs.toArray) w := by
    cases hq : P.info? ty with
    | none => simp [hq] at hi
    | some i =>
      have hs : i.size = cs.length := by simpa [hq] using hi
      have hagg : (isAgg ty).run P w = .ok true w := by
        unfold isAgg
        rw [Sem.run_bind, run_underlying hu w]
        cases d <;> simp_all
      simp [loadVar, Sem.run_bind, hagg, sizeOf, typeInfo, hq, hs, hl]
  unfold Oper.wp execOp
  simp only [ho, hx, Instr.loadAt, Instr.sureAddr, Sem.run_bind, Sem.run_pure, Result.andThen_ok, hrun]
  exact h
theorem wpList_load_list (hw : Region.wanted o (yielded ops a.tmps) = true) (ty : TypeId) (x : Operand) (ho : o.op = .load ty x) (p : Addr) (hx : a.eval x = .pointer (some p)) (cs : List Value) (hc : ∀ j v, cs[j]? = some v → w.cell? (p.add j) = some v)
    (d : TypeDesc) (hu : P.underlying ty = some d) (hd : (match d with | .struct _ | .array _ _ => true | _ => false) = true) (hi : (P.info? ty).map (·.size) = some cs.length)
    (h : wpList P ops Q rest (a.put o.dst (.agg cs.toArray)) w) : wpList P ops Q (o :: rest) a w :=
  wpList_step fun K hK => by
    rw [hw, if_pos rfl]
    exact wp_load_list ty x ho p hx cs hc d hu hd hi (hK _ _ h)
end
theorem box_on {a b : World} {k : Nat} {o : Obj} (h : a.heap[k]? = some o) (hb : Below a.heap.size a b) : b.heap[k]? = some o := (hb.block k (Array.getElem?_eq_some_iff.1 h).1).trans h
structure ActS where
  v0 : Value
  v1 : Value
  s : Int
  i : Int
  ts : List Value
  hl : ts.length = 8
abbrev ActS.val (x : ActS) : Value := .agg (x.v0 :: x.v1 :: .int .i64 x.s :: .int .i64 x.i :: x.ts).toArray
theorem act_types : (Tryd.prog.cellTypes Tryd.prog.depth 36).map (fun ts => (ts.length, ts[2]?, ts[3]?)) = some (12, some 3, some 3) := by kernel_rfl
set_option maxRecDepth 100000 in
theorem open_t36 {W : World} {base : Nat} {v : Value} (hv : Value.okWide Tryd.prog W .any base 36 v) : ∃ x : ActS, v = x.val ∧ True := by
  have ht := act_types
  cases hts : Tryd.prog.cellTypes Tryd.prog.depth 36 with
  | none => rw [hts] at ht; cases ht
  | some ts =>
    rw [hts] at ht
    simp only [Option.map_some, Option.some.injEq, Prod.mk.injEq] at ht
    obtain ⟨cs, rfl, hl, hc⟩ := agg_cells (ts := ts) Tryd.underlying36 hts (by rw [ht.1]; kernel_rfl) hv
    obtain ⟨v0, e0, o0⟩ := hc 2 _ ht.2.1
    obtain ⟨a, rfl, b0⟩ := cell_i64 Tryd.underlying3 o0
    obtain ⟨v1, e1, o1⟩ := hc 3 _ ht.2.2
    obtain ⟨b, rfl, b1⟩ := cell_i64 Tryd.underlying3 o1
    match cs, hl with
    | c0 :: c1 :: c2 :: c3 :: cs, hl =>
      cases e0
      cases e1
      exact ⟨⟨c0, c1, a, b, cs, by simpa [ht.1] using hl⟩, rfl, trivial⟩
    | [], hl => simp [ht.1] at hl
    | [c0], hl => simp [ht.1] at hl
    | [c0, c1], hl => simp [ht.1] at hl
    | [c0, c1, c2], hl => simp [ht.1] at hl
abbrev zval_t36 : Value := .agg #[.int .i64 0, .int .i64 0, .int .i64 0, .int .i64 0, .int .i64 0, .int .i64 0, .int .i64 0, .int .u64 0, .int .i64 0, .int .i64 0, .int .i64 0, .int .i64 0]
abbrev zdat_t36 {H : Type} : DataW H := .agg [.lit (.int .i64 0), .lit (.int .i64 0), .agg [.lit (.int .i64 0), .lit (.int .i64 0)], .agg [.lit (.int .i64 0), .lit (.int .i64 0), .lit (.int .i64 0), .lit (.int .u64 0), .lit (.int .i64 0), .lit (.int .i64 0), .lit (.int .i64 0), .lit (.int .i64 0)]]
theorem box_tail (w : World) (k : Nat) (v0 v1 v2 v3 : Value) (ts : List Value) (t : TypeId) (h : w.heap[k]? = some (.cells (v0 :: v1 :: v2 :: v3 :: ts).toArray t (0, 0))) : ∀ j v, ts[j]? = some v → w.cell? ((⟨k, 4, none⟩ : Addr).add j) = some v := by
  intro j v hj
  rw [Addr.add_mid]
  refine (cell_of_row _ _ (4 + j) _ _ _ h).trans ?_
  rw [show 4 + j = j + 1 + 1 + 1 + 1 by omega]
  simpa using hj
set_option maxRecDepth 100000 in
set_option maxHeartbeats 1000000 in
theorem slotsNone_in (v0 v1 : Value) (s i : Int) (ts : List Value) (hl : ts.length = 8) (W : World) :
    Calls Tryd.prog 5 #[.agg (v0 :: v1 :: Value.int .i64 s :: Value.int .i64 i :: ts).toArray] W fun e w' => e = .returned (.bool true) ∧ Below W.heap.size W w' := by
  have hq := eqCz
  have HL := Lib.hid hl
  have hi : (Tryd.prog.info? 34).map (·.size) = some ts.length := by rw [hl]; kernel_rfl
  have HI := Lib.hid hi
  clear hl hi
  have B0 : Below W.heap.size W (W.alloc (.cells (v0 :: v1 :: Value.int .i64 s :: Value.int .i64 i :: ts).toArray 36)) := bal (Below.refl _ _) _
  have hblk := World.alloc_heap_new W (.cells (v0 :: v1 :: Value.int .i64 s :: Value.int .i64 i :: ts).toArray 36)
  go_enter Tryd.func5, Tryd.ntmps5
  have HBK := Lib.hid hblk
  have HB0 := Lib.hid B0
  clear hblk B0
  go_wp2_with (first
    | (go_at_call 13; refine (sget_nil _ s i).mono ?_; rintro e w1 ⟨rfl, hb1⟩; have HB1 := Lib.hid hb1; have HK1 := Lib.hid (box_on HBK.out hb1); have hz1 : W.heap.size < w1.heap.size := (by have := hb1.size; simp at this; omega); clear hb1)
    | (go_at_call 9; refine (sadd_nil _ _ _).mono ?_; rintro e wa ⟨rfl, rfl⟩)
    | (go_at_call 11; refine (sdrop_nil _ _).mono ?_; rintro e w2 ⟨rfl, hb2⟩; have HB2 := Lib.hid hb2; have HK2 := Lib.hid (box_on ((Below.heap_alloc _ _ _ hz1).trans HK1.out) hb2); have y2 := cell_of_row _ _ 2 _ _ _ HK2.out; have y3 := cell_of_row _ _ 3 _ _ _ HK2.out; clear hb2)
    | (refine wpList_load_list (by first | rfl | simp [Region.wanted, yielded]) 34 (.tmp 34) rfl ⟨W.heap.size, 4, none⟩ rfl ts (box_tail _ _ _ _ _ _ ts _ HK2.out) _ Tryd.underlying34 rfl HI.out ?_)
    | (go_at_call 15; refine (sset_nil _ s i _).mono ?_; rintro e w3 ⟨rfl, hb3⟩)
    | (go_at_call 17; refine (ssize_nil _ _).mono ?_; rintro e wb ⟨rfl, rfl⟩)
    | (go_at_call 19; refine (used_any _).mono ?_; rintro e w4 ⟨rfl, hb4⟩)
    | (go_at_call 6; refine (awake15 _).mono ?_; rintro e w5 ⟨rfl, hb5⟩))
  go_ret
  exact ⟨by simp, bgo (bgo (bgo (bgo (bal (bgo HB0.out HB1.out) _) HB2.out) hb3) hb4) hb5⟩
theorem walk_slotsNone {W : World} (x : ActS) (_ : True) (hL : LaidV_laid_math_bits_deBruijn64tab W) :
    Calls Tryd.prog 5 #[x.val] W fun e w' => e = .returned (.bool true) ∧ Below W.heap.size W w' := slotsNone_in x.v0 x.v1 x.s x.i x.ts x.hl W
end Go.Proofs.YtplanbihejodoaaDoor
