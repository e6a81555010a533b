/- Records of threads compared; package thread beside a world that it leaves; awake. -/
import Derived.Test.YtiagkoiikmmgdaaTh7
import Derived.ChangeKeysEq
namespace Go.Proofs.Ytiagkoiikmmgdaa
set_option linter.unusedVariables false
set_option linter.unusedSimpArgs false
open Go.ChangeShapes Go.WideShapes Go.ChangeAt Go.RowKit Go.Shelf
open TabT

theorem eq4 (a b c d a' b' c' d' : Int) (w : World) : (Op.equalIn 9999 31 (.agg #[.int .u64 a, .int .u64 b, .int .u64 c, .int .u64 d]) (.agg #[.int .u64 a', .int .u64 b', .int .u64 c', .int .u64 d'])).run Try.prog w = .ok (a == a' && (b == b' && (c == c' && d == d'))) w := by
  obtain ⟨i, hi⟩ : ∃ i, Try.prog.info? 30 = some i := Option.isSome_iff_exists.1 (by kernel_rfl)
  have hc : Try.prog.cellsOf 30 = 1 := by kernel_rfl
  rw [run_equalIn_array (P := Try.prog) w 9998 _ _ Try.underlying31 hi]
  simp [Op.eqItems, hc, go_sem, List.range, List.range.loop]
  repeat (split <;> simp_all)
attribute [local go_sem] eq4
set_option maxHeartbeats 1000000 in
set_option maxRecDepth 100000 in
theorem eqT (x : Th) (w : World) : (binOp .eql 35 (.agg x.cells.toArray) (.agg x.cells.toArray)).run Try.prog w = .ok (.bool true) w := by
  unfold Th.cells
  go_simp
theorem neq_of_eqlT (t : TypeId) (xs ys : Array Value) (w : World) (b : Bool) (hg : Try.prog.eqGuardType 10000 t = false) (h : (binOp .eql t (.agg xs) (.agg ys)).run Try.prog w = .ok (.bool b) w) : (binOp .neq t (.agg xs) (.agg ys)).run Try.prog w = .ok (.bool (!b)) w := by
  rw [run_eql_struct] at h
  rw [run_neq_struct]
  cases hr : (Op.equalIn 10000 t (.agg xs) (.agg ys)).run Try.prog w with
  | ok r w1 =>
    rw [hr] at h
    simp only [Result.andThen_ok] at h ⊢
    cases h
    rfl
  | halt c w1 =>
    rw [hr] at h
    cases h
theorem neT (x : Th) (w : World) : (binOp .neq 35 (.agg x.cells.toArray) (.agg x.cells.toArray)).run Try.prog w = .ok (.bool false) w :=
  neq_of_eqlT _ _ _ w true (by kernel_rfl) (eqT x w)
/-- Package thread's object, made since W. -/
def StT (W w : World) (b : Nat) (L : List Th) : Prop := ∃ base v, ThrAt w b base v L ∧ W.heap.size ≤ b ∧ Below W.heap.size W w
theorem StT.call {W w w' : World} {b : Nat} {L : List Th} (h : StT W w b L) (hb : Below w.heap.size w w') : StT W w' b L := by
  obtain ⟨base, v, hA, h1, h2⟩ := h
  exact ⟨base, v, hA.call hb, h1, h2.trans (hb.mono h2.size)⟩
theorem StT.below {W w : World} {b : Nat} {L : List Th} (h : StT W w b L) : Below W.heap.size W w := h.choose_spec.choose_spec.2.2
theorem StT.lt {W w : World} {b : Nat} {L : List Th} (h : StT W w b L) : b < w.heap.size := h.choose_spec.choose_spec.1.lt
theorem StT.asc {W w : World} {b : Nat} {L : List Th} (h : StT W w b L) : Asc (rowsH L) := h.choose_spec.choose_spec.1.asc
theorem StT.act {W w w' : World} {b base : Nat} {v v' : Value} {L L' : List Th} (hA : ThrAt w b base v L) (h1 : W.heap.size ≤ b) (h2 : Below W.heap.size W w) (hA' : ThrAt w' b base v' L') (hO : Only w w' b 0 v v') : StT W w' b L' :=
  ⟨base, v', hA', h1, h2.trans ⟨hO.os, hO.tape, hO.output, hO.size, fun k hk => hO.block k (by have := h2.size; omega) (by omega) (fun e => by have := (TabAt.own hA e).1; have := hA.ne; omega)⟩⟩
theorem StT.new {W w' : World} (h : ThrAt w' W.heap.size (W.heap.size + 1) (.slice none 0 0) []) (hb : Below W.heap.size W w') : StT W w' W.heap.size [] := ⟨_, _, h, Nat.le_refl _, hb⟩
theorem StT.add {W w : World} {b : Nat} {L : List Th} (h : StT W w b L) (hl : L.length < 1000000) (id : Int) :
    Calls Try.prog 9 #[.pointer (some ⟨b, 0, none⟩), .int .i64 id] w fun e w' => e = .returned (.int .i64 (addTR L id)) ∧ StT W w' b (addTL L id) := by
  obtain ⟨base, v, hA, h1, h2⟩ := h
  exact (tadd_any w b base v L id hA hl).mono fun e w' ⟨he, v', hA', hO⟩ => ⟨he, StT.act hA h1 h2 hA' hO⟩
theorem StT.drop {W w : World} {b : Nat} {L : List Th} (h : StT W w b L) (id : Int) :
    Calls Try.prog 11 #[.pointer (some ⟨b, 0, none⟩), .int .i64 id] w fun e w' => e = .returned (.int .i64 (dropTR L id)) ∧ StT W w' b (dropTL L id) := by
  obtain ⟨base, v, hA, h1, h2⟩ := h
  exact (tdrop_any w b base v L id hA).mono fun e w' ⟨he, v', hA', hO⟩ => ⟨he, StT.act hA h1 h2 hA' hO⟩
theorem StT.set {W w : World} {b : Nat} {L : List Th} (h : StT W w b L) (x : Th) :
    Calls Try.prog 13 #[.pointer (some ⟨b, 0, none⟩), .agg x.cells.toArray] w fun e w' => e = .returned (.int .i64 (setTR L x)) ∧ StT W w' b (setTL L x) := by
  obtain ⟨base, v, hA, h1, h2⟩ := h
  exact (tset_any w b base v L x hA).mono fun e w' ⟨he, hA', hO⟩ => ⟨he, StT.act hA h1 h2 hA' hO⟩
theorem StT.get {W w : World} {b : Nat} {L : List Th} (h : StT W w b L) (id : Int) :
    Calls Try.prog 17 #[.pointer (some ⟨b, 0, none⟩), .int .i64 id] w fun e w' => e = .returned (.tuple #[.agg (obT (getT L id)).cells.toArray, .bool (getT L id).isSome]) ∧ Below w.heap.size w w' := by
  obtain ⟨base, v, hA, h1, h2⟩ := h
  exact tget_any w b base v L id hA
theorem StT.all {W w : World} {b : Nat} {L : List Th} (h : StT W w b L) (hl : L.length < 1000000) :
    Calls Try.prog 19 #[.pointer (some ⟨b, 0, none⟩)] w fun e w' => ∃ r, e = .returned r ∧ w'.ownsRow w.heap.size 35 24 r L.length (thsC L) ∧ Below w.heap.size w w' := by
  obtain ⟨base, v, hA, h1, h2⟩ := h
  exact tall_any w b base v L hA hl
theorem StT.srv {W w : World} {b : Nat} {L : List Th} (h : StT W w b L) (hl : L.length < 1000000) (id : Int) :
    Calls Try.prog 20 #[.pointer (some ⟨b, 0, none⟩), .int .i64 id] w fun e w' => e = .returned (.int .i64 (srvT L id)) ∧ Below w.heap.size w w' := by
  obtain ⟨base, v, hA, h1, h2⟩ := h
  exact tserver_any w b base v L id hA hl
def nineT : Th := { zeroT with id := 4, st := 9 }
theorem eqThr : ∀ w, (binOp .eql 35 (.agg (newT 4).cells.toArray) (.agg #[.int .i64 4, .int .i64 0, .int .i64 0, .int .u64 0, .int .u64 0, .int .u64 0, .int .u64 0, .int .u64 0, .bool false, .int .i64 0, .int .i64 0, .int .u64 0, .int .u64 0, .int .u64 0, .int .u64 0, .int .u64 0, .int .i64 4096, .int .i64 4096, .bool false, .bool false, .bool false, .bool false, .int .u64 0, .int .u64 0])).run Try.prog w = .ok (.bool true) w := fun _ => by kernel_rfl
theorem box_new (w : World) (x : Th) (t : TypeId) (zs : Array Value) : ((w.alloc (.cells zs t)).setRow w.heap.size x.cells.toArray).heap[w.heap.size]? = some (.cells x.cells.toArray t (0, 0)) := setRow_heap _ _ _ _ _ _ (heap_alloc_new w _)
attribute [-go_sem] loadVar
set_option maxRecDepth 100000 in
set_option maxHeartbeats 1000000 in
theorem awake20 (W : World) : Calls Try.prog 6 #[] W fun e w' => e = .returned (.bool true) ∧ Below W.heap.size W w' := by
  have hq := eqThr
  have r1 : addTR [] 4 = 0 := by decide
  have l1 : addTL [] 4 = [newT 4] := rfl
  have r2 : getT [newT 4] 4 = some (newT 4) := rfl
  have r3 : setTR [newT 4] nineT = 2 := by decide
  have R1 := Lib.hid r1
  have L1 := Lib.hid l1
  have R2 := Lib.hid r2
  have R3 := Lib.hid r3
  clear r1 l1 r2 r3
  have hset : ∀ w b, StT W w b [newT 4] → Calls Try.prog 13 #[.pointer (some ⟨b, 0, none⟩), .agg #[.int .i64 4, .int .i64 9, .int .i64 0, .int .u64 0, .int .u64 0, .int .u64 0, .int .u64 0, .int .u64 0, .bool false, .int .i64 0, .int .i64 0, .int .u64 0, .int .u64 0, .int .u64 0, .int .u64 0, .int .u64 0, .int .i64 0, .int .i64 0, .bool false, .bool false, .bool false, .bool false, .int .u64 0, .int .u64 0]] w fun e w' => e = .returned (.int .i64 2) ∧ Below W.heap.size W w' := fun w b h => by
    have := h.set nineT
    rw [R3.out] at this
    exact this.mono fun e w' ⟨he, hs⟩ => ⟨he, hs.below⟩
  have HSET := Lib.hid hset
  clear hset
  go_enter Try.func6, Try.ntmps6
  go_wp2_with (first
    | (go_at_call 7; refine (tnew_any _).mono ?_; rintro e w1 ⟨rfl, ha1, hb1⟩; have HA1 := Lib.hid (StT.new ha1 hb1); clear ha1)
    | (go_at_call 9; refine (HA1.out.add (by decide) 4).mono ?_; rw [R1.out, L1.out]; rintro e w2 ⟨rfl, ha2⟩; have HA2 := Lib.hid ha2; clear ha2)
    | (go_at_call 17; refine (HA2.out.get 4).mono ?_; rw [R2.out]; simp only [obT, Option.getD_some, Option.isSome_some]; rintro e w3 ⟨rfl, hb3⟩; have HA3 := Lib.hid (HA2.out.call hb3); have hbx := box_new w3 (newT 4))
    | (refine wpList_store_row rfl 35 _ _ rfl w3.heap.size (newT 4).cells.toArray rfl rfl _ _ (heap_alloc_new w3 _) (by kernel_rfl) rfl (th_one' _) ?_)
    | (refine wpList_load_list (by first | rfl | simp [Region.wanted, yielded]) 35 (.tmp 2) rfl ⟨w3.heap.size, 0, none⟩ rfl (newT 4).cells (add_cellsT (fun j v hj => (cell_cur (cur := (newT 4).cells) (hbx _ _) j).trans hj)) _ Try.underlying35 rfl (by kernel_rfl) ?_)
    | (go_at_call 13; refine (HSET.out _ _ (HA3.out.call (below_row (bal (Below.refl _ _) _) (Nat.le_refl _) _))).mono ?_; rintro e w4 ⟨rfl, hb4⟩))
  go_ret
  exact ⟨by simp, hb4⟩
end Go.Proofs.Ytiagkoiikmmgdaa
