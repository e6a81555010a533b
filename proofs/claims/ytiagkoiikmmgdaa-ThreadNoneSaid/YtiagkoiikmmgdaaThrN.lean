/- The law ThreadNone. -/
import Derived.Test.YtiagkoiikmmgdaaThr10
namespace Go.Proofs.Ytiagkoiikmmgdaa
set_option linter.unusedVariables false
set_option linter.unusedSimpArgs false
open Go.ChangeShapes Go.WideShapes Go.ChangeAt Go.RowKit Go.Shelf

abbrev z24l : List Value := [.int .i64 0, .int .i64 0, .int .i64 0, .int .u64 0, .int .u64 0, .int .u64 0, .int .u64 0, .int .u64 0, .bool false, .int .i64 0, .int .i64 0, .int .u64 0, .int .u64 0, .int .u64 0, .int .u64 0, .int .u64 0, .int .i64 0, .int .i64 0, .bool false, .bool false, .bool false, .bool false, .int .u64 0, .int .u64 0]
abbrev z24a : Array Value := #[.int .i64 0, .int .i64 0, .int .i64 0, .int .u64 0, .int .u64 0, .int .u64 0, .int .u64 0, .int .u64 0, .bool false, .int .i64 0, .int .i64 0, .int .u64 0, .int .u64 0, .int .u64 0, .int .u64 0, .int .u64 0, .int .i64 0, .int .i64 0, .bool false, .bool false, .bool false, .bool false, .int .u64 0, .int .u64 0]
theorem z24a_one : z24a.all (·.oneCell') = true := by decide +kernel
theorem newZ (W : World) (cs : Array Value) (t : TypeId) : ∀ j v, z24l[j]? = some v → ((W.alloc (.cells cs t)).setRow W.heap.size z24a).cell? ((⟨W.heap.size, 0, none⟩ : Addr).add j) = some v :=
  add_cells fun j v hj => (cell_of_row _ _ j z24a t (0, 0) (setRow_heap _ _ _ _ _ _ (World.alloc_heap_new W _))).trans (by simpa using hj)
theorem eqZ : ∀ w, (binOp .eql 35 (.agg z24a) (.agg z24a)).run Try.prog w = .ok (.bool true) w := fun _ => by kernel_rfl
theorem box_on {a b : World} {k : Nat} {o : Obj} (h : a.heap[k]? = some o) (hb : Below a.heap.size a b) : b.heap[k]? = some o := (hb.block k (Array.getElem?_eq_some_iff.1 h).1).trans h
theorem box_row {a : World} {k : Nat} {o o' : Obj} {cs : Array Value} (hz : k < a.heap.size) (h : a.heap[k]? = some o) : ((a.alloc o').setRow a.heap.size cs).heap[k]? = some o :=
  (setRow_other _ _ _ _ (by omega)).trans ((Below.heap_alloc _ _ _ hz).trans h)
section
attribute [-go_sem] loadVar
set_option maxRecDepth 100000 in
set_option maxHeartbeats 1000000 in
theorem tget_nil (w : World) (id : Int) :
    Calls Try.prog 17 #[.pointer none, .int .i64 id] w fun e w' => e = .returned (.tuple #[.agg z24a, .bool false]) ∧ Below w.heap.size w w' := by
  go_enter Try.func17, Try.ntmps17
  go_wp2_with (refine wpList_store_row rfl 35 _ _ rfl w.heap.size z24a rfl rfl _ _ (World.alloc_heap_new w _) (by kernel_rfl) rfl z24a_one ?_)
  have hl : (loadVar 35 ⟨w.heap.size, 0, none⟩).run Try.prog ((w.alloc (.cells z24a 35)).setRow w.heap.size z24a) = .ok (.agg z24a) ((w.alloc (.cells z24a 35)).setRow w.heap.size z24a) := run_loadVar_row _ _ _ _ _ _ _ (setRow_heap _ _ _ _ _ _ (World.alloc_heap_new w _)) Try.underlying35 rfl (by kernel_rfl)
  exact bodyPost_ret (v := .tuple #[.agg z24a, .bool false]) (by simp [results, Try.results17, go_sem, asAddr, hl]) rfl ⟨rfl, belowRow (bal (Below.refl _ _) _) (Nat.le_refl _) _⟩
end
theorem tadd_nil (w : World) (id : Int) : Calls Try.prog 9 #[.pointer none, .int .i64 id] w fun e w' => e = .returned (.int .i64 1) ∧ w = w' := by
  go_enter Try.func9, Try.ntmps9
  go_wp2
  go_ret
  exact ⟨rfl, rfl⟩
theorem tdrop_nil (w : World) (id : Int) : Calls Try.prog 11 #[.pointer none, .int .i64 id] w fun e w' => e = .returned (.int .i64 1) ∧ w = w' := by
  go_enter Try.func11, Try.ntmps11
  go_wp2
  go_ret
  exact ⟨rfl, rfl⟩
theorem tset_nil (w : World) (ts : Array Value) : Calls Try.prog 13 #[.pointer none, .agg ts] w fun e w' => e = .returned (.int .i64 1) ∧ Below w.heap.size w w' := by
  go_enter Try.func13, Try.ntmps13
  go_wp2
  go_ret
  exact ⟨rfl, bal (Below.refl _ _) _⟩
structure ActT where
  d : Int
  id : Int
  ts : List Value
  hl : ts.length = 24
abbrev ActT.val (x : ActT) : Value := .agg (.int .i64 x.d :: .int .i64 x.id :: x.ts).toArray
theorem act_types : (Try.prog.cellTypes Try.prog.depth 37).map (fun ts => (ts.length, ts[0]?, ts[1]?)) = some (26, some 3, some 3) := by kernel_rfl
theorem open_t37 {W : World} {base : Nat} {v : Value} (hv : Value.okWide Try.prog W .any base 37 v) : ∃ x : ActT, v = x.val ∧ True := by
  have ht := act_types
  cases hts : Try.prog.cellTypes Try.prog.depth 37 with
  | none => rw [hts] at ht; cases ht
  | some ts =>
    rw [hts] at ht
    simp only [Option.map_some, Option.some.injEq, Prod.mk.injEq] at ht
    obtain ⟨cs, rfl, hl, hc⟩ := agg_cells (ts := ts) Try.underlying37 hts (by rw [ht.1]; kernel_rfl) hv
    obtain ⟨v0, e0, o0⟩ := hc 0 _ ht.2.1
    obtain ⟨a, rfl, b0⟩ := cell_i64 Try.underlying3 o0
    obtain ⟨v1, e1, o1⟩ := hc 1 _ ht.2.2
    obtain ⟨b, rfl, b1⟩ := cell_i64 Try.underlying3 o1
    match cs, hl with
    | c0 :: c1 :: cs, hl =>
      cases e0
      cases e1
      exact ⟨⟨a, b, cs, by simpa [ht.1] using hl⟩, rfl, trivial⟩
    | [], hl => simp [ht.1] at hl
    | [c0], hl => simp [ht.1] at hl
abbrev zval_t37 : Value := .agg #[.int .i64 0, .int .i64 0, .int .i64 0, .int .i64 0, .int .i64 0, .int .u64 0, .int .u64 0, .int .u64 0, .int .u64 0, .int .u64 0, .bool false, .int .i64 0, .int .i64 0, .int .u64 0, .int .u64 0, .int .u64 0, .int .u64 0, .int .u64 0, .int .i64 0, .int .i64 0, .bool false, .bool false, .bool false, .bool false, .int .u64 0, .int .u64 0]
theorem box_tail (W w : World) (d id : Int) (ts : List Value) (t : TypeId) (h : w.heap[W.heap.size]? = some (.cells (.int .i64 d :: .int .i64 id :: ts).toArray t (0, 0))) : ∀ j v, ts[j]? = some v → w.cell? ((⟨W.heap.size, 2, none⟩ : Addr).add j) = some v := by
  intro j v hj
  rw [Addr.add_mid]
  refine (cell_of_row _ _ (2 + j) _ _ _ h).trans ?_
  rw [show 2 + j = j + 1 + 1 by omega]
  simpa using hj
set_option maxRecDepth 100000 in
set_option maxHeartbeats 2000000 in
theorem threadNone_in (d id : Int) (ts : List Value) (hl : ts.length = 24) (W : World) :
    Calls Try.prog 5 #[.agg (Value.int .i64 d :: Value.int .i64 id :: ts).toArray] W fun e w' => e = .returned (.bool true) ∧ Below W.heap.size W w' := by
  have hq := eqZ
  have HL := Lib.hid hl
  have hi : (Try.prog.info? 35).map (·.size) = some ts.length := by rw [hl]; kernel_rfl
  have HI := Lib.hid hi
  clear hl hi
  have B0 : Below W.heap.size W (W.alloc (.cells (.int .i64 d :: .int .i64 id :: ts).toArray 37)) := bal (Below.refl _ _) _
  have hblk := World.alloc_heap_new W (.cells (.int .i64 d :: .int .i64 id :: ts).toArray 37)
  go_enter Try.func5, Try.ntmps5
  have HBK := Lib.hid hblk
  have HB0 := Lib.hid B0
  clear hblk B0
  go_wp2_with (first
    | (go_at_call 17; refine (tget_nil _ _).mono ?_; rintro e w1 ⟨rfl, hb1⟩; have HB1 := Lib.hid hb1; have hk2 := Lib.hid (box_on HBK.out hb1); have hz1 : W.heap.size < w1.heap.size := (by have := hb1.size; simp at this; omega); clear hb1)
    | (refine wpList_store_row rfl 35 _ _ rfl w1.heap.size z24a rfl rfl _ _ (World.alloc_heap_new w1 _) (by kernel_rfl) rfl z24a_one ?_)
    | (refine wpList_load_list (by first | rfl | simp [Region.wanted, yielded]) 35 (.tmp 4) rfl ⟨w1.heap.size, 0, none⟩ rfl z24l (newZ w1 _ _) _ Try.underlying35 rfl (by kernel_rfl) ?_)
    | (go_at_call 9; refine (tadd_nil _ _).mono ?_; rintro e wa ⟨rfl, rfl⟩)
    | (go_at_call 11; refine (tdrop_nil _ _).mono ?_; rintro e wa ⟨rfl, rfl⟩)
    | (refine wpList_load_list (by first | rfl | simp [Region.wanted, yielded]) 35 (.tmp 32) rfl ⟨W.heap.size, 2, none⟩ rfl ts (box_tail W _ d id ts _ (box_row hz1 hk2.out)) _ Try.underlying35 rfl HI.out ?_)
    | (go_at_call 13; refine (tset_nil _ _).mono ?_; rintro e w3 ⟨rfl, hb3⟩; have hk3 := box_on (box_row hz1 hk2.out) hb3; have c3 := cell_of_row _ _ 1 _ _ _ hk3; have hz3 : W.heap.size < w3.heap.size := (by have := hb3.size; simp at this; omega); clear hk3)
    | (go_at_call 20; refine (serverN_any _ _).mono ?_; rintro e w4 ⟨rfl, hb4⟩)
    | (go_at_call 19; refine (allN_any _).mono ?_; rintro e w5 ⟨rfl, hb5⟩)
    | (go_at_call 6; refine (awake20 _).mono ?_; rintro e w6 ⟨rfl, hb6⟩))
  go_ret
  exact ⟨by simp, bgo (bgo (bgo (bgo (bgo (bgo HB0.out HB1.out) (belowRow (bal (Below.refl _ _) _) (Nat.le_refl _) _)) hb3) hb4) hb5) hb6⟩
theorem walk_threadNone (x : ActT) (_ : True) (W : World) :
    Calls Try.prog 5 #[x.val] W fun e w' => e = .returned (.bool true) ∧ Below W.heap.size W w' := threadNone_in x.d x.id x.ts x.hl W
end Go.Proofs.Ytiagkoiikmmgdaa
