/- package decode: Decode, where the forms stand. -/
import Derived.Test.YtahagcghbeeajaaDcB
import Derived.RangeFuncNested
import Derived.Sort.CutIn
namespace Go.Proofs.Ytahagcghbeeajaa
set_option linter.unusedVariables false
set_option linter.unusedSimpArgs false
open Go.ChangeShapes Go.WideShapes Go.ChangeAt Go.RowKit Go.Shelf

attribute [local go_sem] Oper.semAt_some
theorem wpIn_scope_wide {n : Nat} {P : Program} {c : Code} {Q : Exit → Act → World → Prop} {a : Act} {w : World} (h : c.wpIn Fence.wide n P (Exit.noGoto Q) a w) : (Code.scope c).wpIn Fence.wide n P Q a w :=
  wpIn_wide.2 (wp_scope_straight (wpIn_wide.1 h))
theorem lit_o0 (n : Int) : (#[.int .i64 (wrap64 n), .int .i64 0, .int .i64 0, .int .i64 0, .int .i64 0, .int .i64 0, .int .i64 0, .int .u64 0, .int .u64 0, .int .u64 0, .int .u64 0, .int .u64 0] : Array Value) = ordA (o0 n) := by
  simp [ordA, o0, up]
theorem lit_o1 : (#[.int .i64 1, .int .i64 0, .int .i64 0, .int .i64 0, .int .i64 0, .int .i64 0, .int .i64 0, .int .u64 0, .int .u64 0, .int .u64 0, .int .u64 0, .int .u64 0] : Array Value) = ordA (o0 1) := by
  simp [ordA, o0, up, wrap64]
theorem two_boxes (w1 w2 : World) (o : Nat → Int) (S1 : Nat) (hS1 : w1.heap.size = S1) (hw2 : w2 = ((w1.alloc (.cells (ordA o) 29)).alloc (.cells #[.int .i64 0] 30))) : Below w1.heap.size w1 w2 ∧ w2.heap.size = S1 + 2 ∧ OrdAt w2 S1 o ∧ w2.heap[S1 + 1]? = some (.cells #[.int .i64 0] 30 (0, 0)) := by
  subst hS1
  have e := World.size_alloc w1 (.cells (ordA o) 29)
  have h := World.alloc_heap_new (w1.alloc (.cells (ordA o) 29)) (.cells #[.int .i64 0] 30)
  rw [e] at h
  refine ⟨hw2 ▸ bal (bal (Below.refl _ _) _) _, ?_, ?_, ?_⟩
  · rw [hw2, World.size_alloc, e]
  · rw [hw2]; exact alloc_old (ord_new w1 o) (by rw [e]; omega)
  · rw [hw2]; exact h
theorem call_new (w : World) (n : Int) (a : Nat → Int) : CallAt (w.alloc (.cells (callA n a) 25)) w.heap.size n a := World.alloc_heap_new w _
theorem CallAt.call {w w' : World} {q : Nat} {n : Int} {a : Nat → Int} (h : CallAt w q n a) (k : Below w.heap.size w w') : CallAt w' q n a := (k.block q (Array.getElem?_eq_some_iff.1 h).1).trans h
set_option maxRecDepth 100000 in
set_option maxHeartbeats 2000000 in
theorem decode_ret0 (a : Nat → Int) (w : World) (hk : framesN (wrap64 (a 1)) (wrap64 (a 2)) = 0) :
    Calls Try.prog 7 #[.agg (callA 1 a)] w fun e w' => e = .returned (.tuple #[ordV zO, .int .i64 2]) ∧ Below w.heap.size w w' := by
  obtain ⟨L, hL⟩ : ∃ L, formsL 1 = some L := ⟨_, rfl⟩
  have HF := fun w => forms_some 1 1 L rfl hL w
  have HF1 := Lib.hid HF
  have HK := Lib.hid hk
  clear HF hL hk
  have hz := zeroOrd
  have hq := fun w q l c => Go.Lib.run_eql_slice_nil (P := Try.prog) w 46 53 (some ⟨q, 0, none⟩) l c 0 0 Try.underlying46
  have hc0 : (callA 1 a)[0]? = some (.int .u64 1) := rfl
  go_enter Try.func7, Try.ntmps7
  go_wp2
  go_step3
  go_wp2_with (first
    | (go_at_call 14; refine (HF1.out _).mono ?_; rintro e w1 ⟨v, rfl, ⟨q, c, rfl, hlc, hql, hqc⟩, hb1⟩; have ho := (ord_new (w.alloc (.cells (callA 1 a) 25)) zO).call hb1; rw [World.size_alloc] at ho; have HO := Lib.hid ho; have HB := Lib.hid hb1; have hca := ((call_new w 1 a).call (bal (Below.refl _ _) _)).call hb1; obtain ⟨c0, c1, c2, c3, c4, c5, c6⟩ := hca.cells; clear ho hb1 hca hlc hql hqc)
    | (go_at_call 15; refine (kframes_any _ _ _).mono ?_; rw [HK.out]; rintro e w2 ⟨rfl, rfl⟩)
    | (refine wpList_store_mid rfl 29 _ _ rfl (w.heap.size + 1) 0 (ordA zO) rfl rfl HO.out.there (by kernel_rfl) (by kernel_rfl) ?_))
  have hbb : Below w.heap.size w w1 := bgo (bal (bal (Below.refl _ _) _) _) HB.out
  obtain ⟨ho2, hon⟩ := ord_put zO HO.out
  have hb2 := hbb.trans (hon.below (by omega) hbb.size)
  clear hon
  generalize w1.setCells (w.heap.size + 1) 0 (ordA zO).toList = w2 at *
  obtain ⟨d0, d1, d2, d3, d4, d5, d6, d7, d8, d9, d10, d11⟩ := ho2.cells
  rw [Exit.noGoto_ret]
  refine bodyPost_ret (v := .tuple #[ordV zO, .int .i64 2]) (by simp [results, Try.results7, go_sem, ordA, d0, d1, d2, d3, d4, d5, d6, d7, d8, d9, d10, d11]) rfl ⟨rfl, hb2⟩
theorem heap_putObj_ne {W : World} {l k : Nat} {o : Obj} (h : k ≠ l) : (W.putObj l o).heap[k]? = W.heap[k]? := by
  simp [World.putObj, Array.getElem?_setIfInBounds, h.symm]
/-- Two blocks, b and the next, alone may be turned. -/
structure Two (b : Nat) (w w' : World) : Prop where
  os : w'.os = w.os
  tape : w'.tape = w.tape
  output : w'.output = w.output
  size : w.heap.size ≤ w'.heap.size
  block : ∀ k, k < w.heap.size → k ≠ b → k ≠ b + 1 → w'.heap[k]? = w.heap[k]?
theorem Two.refl (b : Nat) (w : World) : Two b w w := ⟨rfl, rfl, rfl, Nat.le_refl _, fun _ _ _ _ => rfl⟩
theorem Two.trans {b : Nat} {u v x : World} (h : Two b u v) (k : Two b v x) : Two b u x := ⟨k.os.trans h.os, k.tape.trans h.tape, k.output.trans h.output, Nat.le_trans h.size k.size, fun i hi h1 h2 => (k.block i (Nat.lt_of_lt_of_le hi h.size) h1 h2).trans (h.block i hi h1 h2)⟩
theorem Two.of_below {b : Nat} {u v : World} (h : Below u.heap.size u v) : Two b u v := ⟨h.os, h.tape, h.output, h.size, fun k hk _ _ => h.block k hk⟩
theorem Two.of_one {b : Nat} {u v : World} (h : OneOnly b u v) : Two b u v := ⟨h.os, h.tape, h.output, h.size, fun k hk h1 _ => h.block k hk h1⟩
theorem Two.set2 {b : Nat} {u v : World} (h : Two b u v) (j : Nat) (x : Value) : Two b u (v.setCell ⟨b + 1, j, none⟩ x) :=
  ⟨h.os, h.tape, h.output, by simpa using h.size, fun k hk h1 h2 => (Go.heap_setCell_other _ _ _ _ (by simpa using h2)).trans (h.block k hk h1 h2)⟩
theorem Two.grown {b : Nat} {u v x : World} {row : Option Nat} (h : Two b u v) (hg : v.grownBy x row) (hr : ∀ r, row = some r → u.heap.size ≤ r) : Two b u x :=
  ⟨hg.os.trans h.os, hg.tape.trans h.tape, hg.output.trans h.output, Nat.le_trans h.size hg.size, fun k hk h1 h2 => (hg.block k (Nat.lt_of_lt_of_le hk h.size) (fun e => by have := hr k e.symm; omega)).trans (h.block k hk h1 h2)⟩
theorem Two.below {b D : Nat} {u v : World} (h : Two b u v) (hD : D ≤ b) (hs : D ≤ u.heap.size) : Below D u v := ⟨h.os, h.tape, h.output, h.size, fun k hk => h.block k (by omega) (by omega) (by omega)⟩
theorem Two.keeps {b B : Nat} {u v : World} (h : Two b u v) (hB : b + 1 < B) : KeepsFrom B u v := ⟨h.size, fun k o hk ho _ => (h.block k (Array.getElem?_eq_some_iff.1 ho).1 (by omega) (by omega)).trans ho⟩
theorem Two.kpw {b p s q : Nat} {u v : World} (h : Two b u v) (h1 : p < u.heap.size) (h2 : s < u.heap.size) (h3 : q < u.heap.size) (e1 : p ≠ b ∧ p ≠ b + 1) (e2 : s ≠ b ∧ s ≠ b + 1) (e3 : q ≠ b ∧ q ≠ b + 1) : KpW p s q u v :=
  ⟨h.block p h1 e1.1 e1.2, h.block s h2 e2.1 e2.2, h.block q h3 e3.1 e3.2, h.size⟩
theorem forms_lt (n : Nat) (L : List Frm) (h : formsL n = some L) : ∀ i < 6, (fmAt L i).1 < 12 := by
  unfold formsL at h
  split at h
  all_goals first
    | (cases h; done)
    | (cases h; decide)
theorem ord_range {w : World} {q : Nat} {o : Nat → Int} (h : OrdAt w q o) : w.rangeAt q 0 (ordA o).toList := by
  intro j v hv
  rw [Nat.zero_add, row_cell h]
  simpa using hv
theorem ord_one (o : Nat → Int) : (ordA o).all (·.oneCell') = true := by
  kernel_rfl
abbrev CodeAt (w : World) (b : Nat) (c : Int) : Prop := w.heap[b]? = some (.cells #[.int .i64 c] 30 (0, 0))
structure DecI (wA : World) (b : Nat) (n : Int) (L : List Frm) (a : Nat → Int) (pre : List (Fin 6)) (W : World) : Prop where
  ord : OrdAt W b (runL n L a pre).1
  code : CodeAt W (b + 1) (runL n L a pre).2
  no : ∀ y ∈ pre, stopD L a y.1 = false
  but : Two b wA W
structure DecX (wA : World) (b : Nat) (L : List Frm) (a : Nat → Int) (c : Code) (pre : List (Fin 6)) (W : World) : Prop where
  c : c = .exit 0
  yes : ∃ y ∈ pre, stopD L a y.1 = true
  code : CodeAt W (b + 1) 2
  but : Two b wA W
theorem grown_blk {A C : World} {row : Option Nat} {b B : Nat} (hg : A.grownBy C row) (hr : ∀ r, row = some r → B ≤ r ∧ ∃ o : Obj, A.heap[r]? = some o ∧ o.isCells = false) (hb : b < A.heap.size) (hB : b < B) : C.heap[b]? = A.heap[b]? :=
  hg.block b hb (fun e => by have := (hr b e.symm).1; omega)
theorem DecI.from {wA : World} {b : Nat} {n : Int} {L : List Frm} {a : Nat → Int} (hb : b + 1 < wA.heap.size) : OwnFrom wA.heap.size (DecI wA b n L a) := by
  intro s A C row h hg hr
  exact ⟨(grown_blk hg hr (Nat.lt_of_lt_of_le (by omega) h.but.size) (by omega)).trans h.ord, (grown_blk hg hr (Nat.lt_of_lt_of_le (by omega) h.but.size) (by omega)).trans h.code, h.no, h.but.grown hg (fun r e => (hr r e).1)⟩
theorem DecX.from {wA : World} {b : Nat} {L : List Frm} {a : Nat → Int} (hb : b + 1 < wA.heap.size) (c : Code) : OwnFrom wA.heap.size (DecX wA b L a c) := by
  intro s A C row h hg hr
  exact ⟨h.c, h.yes, (grown_blk hg hr (Nat.lt_of_lt_of_le (by omega) h.but.size) (by omega)).trans h.code, h.but.grown hg (fun r e => (hr r e).1)⟩
/-- The loop's variable in its box. -/
abbrev FrmBox (W : World) (d : Nat) (f : Frm) : Prop := W.heap[d]? = some (.cells #[.int .i64 f.1, .int .u64 f.2.1, .int .u64 f.2.2] 53 (0, 0))
theorem code_set {W : World} {b : Nat} {x : Int} (y : Int) (h : CodeAt W b x) : CodeAt (W.setCell ⟨b, 0, none⟩ (.int .i64 y)) b y := by
  have := Go.heap_setCell_same W b 0 _ _ (.int .i64 y) h
  exact this
theorem runL_snoc (n : Int) (L : List Frm) (a : Nat → Int) (pre : List (Fin 6)) (x : Fin 6) : runL n L a (pre ++ [x]) = stepD L a (runL n L a pre) x.1 := by
  unfold runL
  rw [List.foldl_append]
  rfl
set_option maxRecDepth 100000 in
set_option maxHeartbeats 2000000 in
theorem decode_inn (n : Nat) (a : Nat → Int) (L : List Frm) (w : World) (hL : formsL n = some L) (hn : ¬ n = 1) :
    CallsIn Fence.wide 3 Try.prog 7 #[.agg (callA n a)] w fun e w' => e = .returned (.tuple #[ordV (decM n a).1, .int .i64 (decM n a).2]) ∧ Below w.heap.size w w' := by
  have HF := fun w => forms_some n n L rfl hL w
  have HF1 := Lib.hid HF
  clear HF
  have hn1 : ((n : Int) == 1) = false := beq_eq_false_iff_ne.2 (by omega)
  have hz : ∀ w, (zeroValue 29).run Try.prog w = .ok (.agg #[.int .i64 0, .int .i64 0, .int .i64 0, .int .i64 0, .int .i64 0, .int .i64 0, .int .i64 0, .int .u64 0, .int .u64 0, .int .u64 0, .int .u64 0, .int .u64 0]) w := zeroOrd
  have hq := fun w q l c => Go.Lib.run_eql_slice_nil (P := Try.prog) w 46 53 (some ⟨q, 0, none⟩) l c 0 0 Try.underlying46
  have hc0 : (callA n a)[0]? = some (.int .u64 n) := rfl
  refine callsIn_of_wp_marks Try.func7 rfl trivial ?_ rfl
  simp only [Try.ntmps7, List.size_toArray, List.length_cons, List.length_nil, Nat.reduceAdd, Nat.reduceSub, Array.replicate_succ, Array.replicate_zero, List.push_toArray, List.append_toArray, List.nil_append, List.cons_append]
  gi_wp2
  refine wpIn_scope_wide ?_
  gi_wp2_with (refine ⟨trivial, ?_⟩; first
    | (gi_at_call 14; refine (callsIn_wide.2 (HF1.out _)).mono ?_; rintro e w1 ⟨v, rfl, ⟨q, c, rfl, hlc, hql, hqc⟩, hb1⟩; have ho := (ord_new (w.alloc (.cells (callA n a) 25)) zO).call hb1; rw [World.size_alloc] at ho; have HO := Lib.hid ho; have HB := Lib.hid hb1; have hca := ((call_new w n a).call (bal (Below.refl _ _) _)).call hb1; obtain ⟨c0, c1, c2, c3, c4, c5, c6⟩ := hca.cells; have HCA := Lib.hid hca; have HQC := Lib.hid hqc; clear ho hb1 hca hqc))
  refine ⟨trivial, ?_⟩
  gi_wp2
  rw [lit_o0]
  have hbw : Below w.heap.size w w1 := bgo (bal (bal (Below.refl _ _) _) _) HB.out
  have hsz1 : w.heap.size + 2 ≤ w1.heap.size := by have := HB.out.size; simpa using this
  obtain ⟨S1, hS1⟩ : ∃ S, w1.heap.size = S := ⟨_, rfl⟩
  obtain ⟨w2, hw2⟩ : ∃ x, x = ((w1.alloc (.cells (ordA (o0 n)) 29)).alloc (.cells #[.int .i64 0] 30)) := ⟨_, rfl⟩
  rw [← hw2]
  obtain ⟨b12, s2, o2, k2⟩ := two_boxes w1 w2 (o0 n) S1 hS1 hw2
  have ca2 := HCA.out.call b12
  have fo2 : ∀ i f, L[i]? = some f → w2.cell? ⟨q, 3 * i, none⟩ = some (.int .i64 f.1) ∧ w2.cell? ⟨q, 3 * i + 1, none⟩ = some (.int .u64 f.2.1) ∧ w2.cell? ⟨q, 3 * i + 2, none⟩ = some (.int .u64 f.2.2) := fun i f h => by
    obtain ⟨x, y, z⟩ := HQC.out i f h
    have e : w2.heap[q]? = w1.heap[q]? := b12.block q hql
    exact ⟨(cell_of_block e).trans x, (cell_of_block e).trans y, (cell_of_block e).trans z⟩
  have HFO := Lib.hid fo2
  have ho2 := (HO.out.call b12)
  have HO2 := Lib.hid ho2
  have B2 : Below w.heap.size w w2 := hbw.trans (b12.mono (by omega))
  clear c0 c1 c2 c3 c4 c5 c6 ho2 fo2 hw2 HQC HB HO hbw HF1
  obtain ⟨c0, c1, c2, c3, c4, c5, c6⟩ := ca2.cells
  have HCA2 := Lib.hid ca2
  clear HCA ca2
  rw [hS1] at b12 hsz1 hql ⊢
  refine wpIn_label ?_
  gi_wp2_with (refine ⟨trivial, ?_⟩; first
    | (gi_at_call 16; refine (words_in _ n a _ _ ⟨_, _, _, rfl⟩).mono ?_; rintro e w3 ⟨rfl, rfl⟩))
  obtain ⟨wA, hwA⟩ : ∃ x, x = (w2.alloc (.cells (callA n a) 25)).alloc (.cells #[.slice (some ⟨q, 0, none⟩) L.length c] 46) := ⟨_, rfl⟩
  rw [← hwA]
  have hsA : wA.heap.size = S1 + 4 := by rw [hwA, World.size_alloc, World.size_alloc, s2]
  have hBA : Below w2.heap.size w2 wA := hwA ▸ bal (bal (Below.refl _ _) _) _
  have hp : CallAt wA (S1 + 2) n a := by rw [hwA, ← s2]; exact alloc_old (call_new w2 n a) (by simp)
  have hs : wA.heap[S1 + 2 + 1]? = some (.cells #[.slice (some ⟨q, 0, none⟩) L.length c] 46 (0, 0)) := by
    have e := World.size_alloc w2 (.cells (callA n a) 25)
    have h := World.alloc_heap_new (w2.alloc (.cells (callA n a) 25)) (.cells #[.slice (some ⟨q, 0, none⟩) L.length c] 46)
    rw [e, s2] at h
    rw [hwA]; exact h
  have hsc : wA.cell? ⟨S1 + 2 + 1, 0, none⟩ = some (.slice (some ⟨q, 0, none⟩) L.length c) := by rw [row_cell hs]; rfl
  have hqA : ∀ i f, L[i]? = some f → wA.cell? ⟨q, 3 * i, none⟩ = some (.int .i64 f.1) ∧ wA.cell? ⟨q, 3 * i + 1, none⟩ = some (.int .u64 f.2.1) ∧ wA.cell? ⟨q, 3 * i + 2, none⟩ = some (.int .u64 f.2.2) := fun i f h => by
    obtain ⟨x, y, z⟩ := HFO.out i f h
    have e : wA.heap[q]? = w2.heap[q]? := hBA.block q (by omega)
    exact ⟨(cell_of_block e).trans x, (cell_of_block e).trans y, (cell_of_block e).trans z⟩
  have oA : OrdAt wA S1 (o0 n) := o2.call hBA
  have kA : CodeAt wA (S1 + 1) 0 := (hBA.block _ (by omega)).trans k2
  have cA : CallAt wA w.heap.size n a := HCA2.out.call hBA
  have rA : OrdAt wA (w.heap.size + 1) zO := HO2.out.call hBA
  have HRA := Lib.hid rA
  have BA : Below w.heap.size w wA := B2.trans (hBA.mono (by omega))
  have HBA := Lib.hid BA
  have hlt := forms_lt n L hL
  have HLT := Lib.hid hlt
  clear hwA HFO HO2 HCA2 c0 c1 c2 c3 c4 c5 c6 hq o2 k2 hBA cA rA BA hs hlt hc0 hz
  refine wpIn_rangeFunc_ownH (α := Fin 6) rfl (by decide) (gf := 23) (lb := #[.pointer (some ⟨S1 + 2, 0, none⟩), .pointer (some ⟨S1 + 2 + 1, 0, none⟩)]) rfl trivial (enters_of Try.func23 (by kernel_rfl) rfl)
    (encs := encW a L) (Kp := KpW (S1 + 2) (S1 + 2 + 1) q) (S := fun xs => xs = fst6 6) (Sp := fun pre => ∃ k, ∃ h : k < 6, pre = fst6 k ++ [⟨k, h⟩]) (N := 6) (w0 := wA) (words1_seq 1 (S1 + 2) (S1 + 2 + 1) q c n a L wA hp hsc hqA (by omega) (by omega))
    (fun h k => h.trans k) ?hKb (Below.refl _ _) (fun _ => rfl) (DecI wA S1 n L a) (DecX wA S1 L a) (DecI.from (by omega)) (fun c => DecX.from (by omega) c) ⟨oA, kA, (fun _ h => absurd h List.not_mem_nil), Two.refl _ _⟩
    (fun x a' W => ∃ d, a' = { tmps := #[.agg (callA n a), .pointer (some ⟨w.heap.size, 0, none⟩), .pointer (some ⟨w.heap.size + 1, 0, none⟩), .int .i64 0, .slice (some ⟨q, 0, none⟩) L.length c, .pointer (some ⟨S1, 0, none⟩), .pointer (some ⟨S1 + 1, 0, none⟩), .int .u64 (a x.1), .pointer (some ⟨d, 0, none⟩), .pointer (some ⟨w.heap.size, 0, none⟩), .int .u64 n, .slice (some ⟨q, 0, none⟩) L.length c, .slice (some ⟨q, 0, none⟩) L.length c, .bool false, undef, .pointer (some ⟨w.heap.size, 0, none⟩), .int .u64 n, .bool false, .bool false, undef, undef, undef, undef, undef, undef, undef, undef, undef, undef, .bool false, undef, .pointer (some ⟨w.heap.size, 0, none⟩), .int .u64 n, .int .i64 (wrap64 n), .agg (ordA (o0 n)), .agg (callA n a), .slice (some ⟨q, 0, none⟩) L.length c, .func (.func 23) #[] #[.pointer (some ⟨S1 + 2, 0, none⟩), .pointer (some ⟨S1 + 2 + 1, 0, none⟩)], .int .u64 (a x.1), .agg #[.int .i64 (fmAt L x.1).1, .int .u64 (fmAt L x.1).2.1, .int .u64 (fmAt L x.1).2.2], undef, undef, undef, undef, undef, undef, undef, undef, undef, undef, undef, undef, undef, undef, undef, undef, undef, undef, undef, undef, undef, undef, undef, undef, undef, undef, undef, undef], defers := [] } ∧ FrmBox W d (fmAt L x.1) ∧ S1 + 4 ≤ d) ?hAx
    ?hassign ?hbody ?hdone ?hstop
  case hKb =>
    intro W l o o' hl ho _ _
    exact ⟨heap_putObj_ne (by omega), heap_putObj_ne (by omega), heap_putObj_ne (by omega), by simp⟩
  case hAx =>
    rintro x a' _ A C row ⟨d, h1, h2, h3⟩ hg hr
    refine ⟨d, h1, (hg.block d (Array.getElem?_eq_some_iff.1 h2).1 (fun e => ?_)).trans h2, h3⟩
    obtain ⟨-, o, ho, hc⟩ := hr d e.symm
    rw [show A.heap[d]? = _ from h2] at ho
    cases ho
    cases hc
  case hassign =>
    intro l pre x W K hI hK
    clear hL
    gi_wp2
    have tw : Two S1 W (W.alloc (.cells #[.int .i64 (fmAt L x.1).1, .int .u64 (fmAt L x.1).2.1, .int .u64 (fmAt L x.1).2.2] 53)) := Two.of_below (bal (Below.refl _ _) _)
    have hz := hI.but.size
    exact hK _ _ (tw.keeps (by omega)) (tw.kpw (by omega) (by omega) (by omega) (by omega) (by omega) (by omega)) ⟨alloc_old hI.ord (by omega), alloc_old hI.code (by omega), hI.no, hI.but.trans tw⟩ ⟨W.heap.size, rfl, World.alloc_heap_new _ _, by omega⟩
  case hbody =>
    rintro l pre x a' W hl hr hI ⟨d, rfl, hd, hd4⟩ hlen
    have hz := hI.but.size
    have hft := HLT.out x.1 x.2
    have hko := row_cell hI.code 0
    have hkf := frozen_of_row W (S1 + 1) 0 _ _ hI.code
    have hdl : d < W.heap.size := (Array.getElem?_eq_some_iff.1 hd).1
    have e0 := row_cell hd 0
    have e1 := row_cell hd 1
    have e2 := row_cell hd 2
    have HI := Lib.hid hI
    have hsn := runL_snoc n L a pre x
    unfold stepD at hsn
    have hso : stopD L a x.1 = decide ((fmAt L x.1).1 = 0 ∧ a x.1 ≠ 0) := rfl
    have hno : stopD L a x.1 = false → ∀ y ∈ pre ++ [x], stopD L a y.1 = false := fun h y hy => by
      rcases List.mem_append.1 hy with hy | hy
      · exact HI.out.no y hy
      · rw [List.mem_singleton] at hy
        rw [hy]; exact h
    obtain ⟨⟨f0, f1, f2⟩, hf⟩ : ∃ z, fmAt L x.1 = z := ⟨_, rfl⟩
    rw [hf] at hft hsn hso e0 e1 e2 ⊢
    obtain ⟨v, hv⟩ : ∃ v, a x.1 = v := ⟨_, rfl⟩
    rw [hv] at hsn hso ⊢
    have HSN := Lib.hid hsn
    have HNO := Lib.hid hno
    have HSO := Lib.hid hso
    clear hI hsn hso hno hd hf hv hL
    simp only [List.getElem?_toArray, List.getElem?_cons_zero, List.getElem?_cons_succ] at e0 e1 e2 hko
    have fin : ∀ (c : Int) (W' : World), stopD L a x.1 = false → CodeAt W' (S1 + 1) c → ∀ o, OrdAt W' S1 o → runL n L a (pre ++ [x]) = (o, c) → Two S1 W W' → KeepsFrom (S1 + 4) W W' ∧ KpW (S1 + 2) (S1 + 2 + 1) q W W' ∧ DecI wA S1 n L a (pre ++ [x]) W' := fun c W' h1 h2 o h3 h4 h5 =>
      ⟨h5.keeps (by omega), h5.kpw (by omega) (by omega) (by omega) (by omega) (by omega) (by omega), ⟨by rw [h4]; exact h3, by rw [h4]; exact h2, HNO.out h1, HI.out.but.trans h5⟩⟩
    have finA : ∀ (c : Int) (W' : World), stopD L a x.1 = false → CodeAt W' (S1 + 1) c → ∀ o, OrdAt W' S1 o → runL n L a (pre ++ [x]) = (o, c) → Two S1 W W' → KeepsFrom wA.heap.size W W' ∧ KpW (S1 + 2) (S1 + 2 + 1) q W W' ∧ DecI wA S1 n L a (pre ++ [x]) W' := fun c W' h1 h2 o h3 h4 h5 => by
      rw [hsA]; exact fin c W' h1 h2 o h3 h4 h5
    have FIN := Lib.hid fin
    have FINA := Lib.hid finA
    clear fin finA
    by_cases hst : f0 = 0 ∧ v ≠ 0
    · obtain ⟨rfl, hv0⟩ := hst
      have hb : (v != 0) = true := bne_iff_ne.2 hv0
      gi_wp2
      have tw := (Two.refl S1 W).set2 0 (.int .i64 2)
      exact ⟨tw.keeps (by omega), rfl, ⟨x, List.mem_append_right _ List.mem_cons_self, by rw [HSO.out]; simp [hv0]⟩, code_set 2 HI.out.code, HI.out.but.trans tw⟩
    · have hs0 : stopD L a x.1 = false := by rw [HSO.out]; exact decide_eq_false hst
      have HS0 := Lib.hid hs0
      clear hs0
      have hcs : (f0 = 0 ∧ v = 0) ∨ ¬ f0 = 0 := by omega
      clear hst
      rcases hcs with ⟨rfl, rfl⟩ | hf0
      · skip
        by_cases hlo : 0 < f1
        · gi_wp2
          exact FIN.out 3 _ HS0.out (code_set 3 HI.out.code) _ (((OneOnly.refl (q := S1 + 1)).set 0 _).block S1 HI.out.ord.lt (by omega) |>.trans HI.out.ord) (by rw [HSN.out, if_pos (.inl hlo)]) ((Two.refl S1 W).set2 0 _)
        · by_cases hhi : f2 < 0
          · gi_wp2
            exact FIN.out 3 _ HS0.out (code_set 3 HI.out.code) _ (((OneOnly.refl (q := S1 + 1)).set 0 _).block S1 HI.out.ord.lt (by omega) |>.trans HI.out.ord) (by rw [HSN.out, if_pos (.inr hhi)]) ((Two.refl S1 W).set2 0 _)
          · gi_wp2_with (refine ⟨trivial, ?_⟩; first
              | (gi_at_call 17; refine (callsIn_wide.2 (put_0 _ S1 _ _ HI.out.ord)).mono ?_; rintro e w3 ⟨rfl, ho3, hn3⟩))
            exact FINA.out _ _ HS0.out ((hn3.block (S1 + 1) (by omega) (by omega)).trans HI.out.code) _ ho3 (by rw [HSN.out, if_neg (by omega)]) (Two.of_one hn3)
      · have hb0 : ((f0 : Int) == 0) = false := beq_eq_false_iff_ne.2 (by omega)
        by_cases hlo : v < f1
        · gi_wp2
          exact FIN.out 3 _ HS0.out (code_set 3 HI.out.code) _ (((OneOnly.refl (q := S1 + 1)).set 0 _).block S1 HI.out.ord.lt (by omega) |>.trans HI.out.ord) (by rw [HSN.out, if_pos (.inl hlo)]) ((Two.refl S1 W).set2 0 _)
        · by_cases hhi : f2 < v
          · gi_wp2
            exact FIN.out 3 _ HS0.out (code_set 3 HI.out.code) _ (((OneOnly.refl (q := S1 + 1)).set 0 _).block S1 HI.out.ord.lt (by omega) |>.trans HI.out.ord) (by rw [HSN.out, if_pos (.inr hhi)]) ((Two.refl S1 W).set2 0 _)
          · gi_wp2_with (refine ⟨trivial, ?_⟩; first
              | (gi_at_call 17; refine (callsIn_wide.2 (put_any _ S1 _ _ f0 hft HI.out.ord)).mono ?_; rintro e w3 ⟨rfl, ho3, hn3⟩))
            exact FINA.out _ _ HS0.out ((hn3.block (S1 + 1) (by omega) (by omega)).trans HI.out.code) _ ho3 (by rw [HSN.out, if_neg (by omega)]) (Two.of_one hn3)
  case hdone =>
    rintro D xs W hD rfl hI hK
    have hz := hI.but.size
    have hko := row_cell hI.code 0
    have ht2 : OrdAt W (w.heap.size + 1) zO := (hI.but.block _ (by omega) (by omega) (by omega)).trans HRA.out
    have hany : (fst6 6).any (fun x => stopD L a x.1) = false := List.any_eq_false.2 (fun x hx => by rw [hI.no x hx]; exact Bool.false_ne_true)
    have hbw : Below w.heap.size w W := HBA.out.trans (hI.but.below (by omega) (by omega))
    have HBW := Lib.hid hbw
    have HI := Lib.hid hI
    have HANY := Lib.hid hany
    have HT2 := Lib.hid ht2
    have hmn : decM n a = if (runL n L a (fst6 6)).2 = 0 then ((runL n L a (fst6 6)).1, 0) else (zO, (runL n L a (fst6 6)).2) := by
      unfold decM
      rw [hL]
      show (if _ then _ else _) = _
      rw [if_neg (fun h => hn h.1), if_neg (by rw [HANY.out]; exact Bool.false_ne_true)]
    obtain ⟨⟨o, cd⟩, hrl⟩ : ∃ z, runL n L a (fst6 6) = z := ⟨_, rfl⟩
    have hor := hI.ord
    rw [hrl] at hko hor hmn
    simp only [List.getElem?_toArray, List.getElem?_cons_zero] at hko
    have HOR := Lib.hid hor
    have HMN := Lib.hid hmn
    clear hany hbw ht2 hmn hor hI hrl hL
    by_cases hcd : cd = 0
    · subst hcd
      have HM2 : Hid (decM n a = (o, 0)) := Lib.hid (HMN.out.trans (if_pos rfl))
      gi_upto_region 17 with fail
      refine wpIn_wide.2 ?_
      go_wp2_with (first
        | (refine wpList_load_mid rfl 29 _ rfl S1 0 rfl (ordA o).toList _ (ord_range HOR.out) Try.underlying29 rfl (by kernel_rfl) ?_)
        | (refine wpList_store_mid rfl 29 _ _ rfl (w.heap.size + 1) 0 (ordA o) rfl rfl HT2.out.there (by kernel_rfl) (ord_one o) ?_))
      obtain ⟨ho2, hon⟩ := ord_put o HT2.out
      have hD4 : S1 + 4 ≤ D := by omega
      have hDl : D < W.heap.size := (Array.getElem?_eq_some_iff.1 hK).1
      have hK2 := (hon.block D hDl (by omega)).trans hK
      have hb2 := HBW.out.trans (hon.below (by omega) HBW.out.size)
      clear hon hK
      generalize W.setCells (w.heap.size + 1) 0 (ordA o).toList = W3 at *
      gi_wp2
      (try rw [Exit.noGoto_ret])
      refine ⟨by simp, .inl ⟨_, _, rfl, run_takeDeferred (w := W3) hK2, ?_⟩⟩
      have ho3 : ∀ ob, OrdAt (W3.putObj D ob) (w.heap.size + 1) o := fun ob => (heap_putObj_ne (by omega)).trans ho2
      have hc3 := fun ob => (ho3 ob).cells
      have y0 := fun ob => (hc3 ob).1
      have y1 := fun ob => (hc3 ob).2.1
      have y2 := fun ob => (hc3 ob).2.2.1
      have y3 := fun ob => (hc3 ob).2.2.2.1
      have y4 := fun ob => (hc3 ob).2.2.2.2.1
      have y5 := fun ob => (hc3 ob).2.2.2.2.2.1
      have y6 := fun ob => (hc3 ob).2.2.2.2.2.2.1
      have y7 := fun ob => (hc3 ob).2.2.2.2.2.2.2.1
      have y8 := fun ob => (hc3 ob).2.2.2.2.2.2.2.2.1
      have y9 := fun ob => (hc3 ob).2.2.2.2.2.2.2.2.2.1
      have y10 := fun ob => (hc3 ob).2.2.2.2.2.2.2.2.2.2.1
      have y11 := fun ob => (hc3 ob).2.2.2.2.2.2.2.2.2.2.2
      clear ho3 hc3
      refine ⟨.tuple #[ordV o, .int .i64 0], ?_, by rw [HM2.out], ⟨hb2.os, hb2.tape, hb2.output, by simpa using hb2.size, fun k hk => (heap_putObj_ne (by omega)).trans (hb2.block k hk)⟩⟩
      simp [results, Try.results7, go_sem, ordA, y0, y1, y2, y3, y4, y5, y6, y7, y8, y9, y10, y11]
    · have HM2 : Hid (decM n a = (zO, cd)) := Lib.hid (HMN.out.trans (if_neg hcd))
      have HCB : Hid ((cd == 0) = false) := Lib.hid (beq_eq_false_iff_ne.2 hcd)
      have hcb : (cd == 0) = false := HCB.out
      have hzz : ∀ w, (zeroValue 29).run Try.prog w = .ok (.agg #[.int .i64 0, .int .i64 0, .int .i64 0, .int .i64 0, .int .i64 0, .int .i64 0, .int .i64 0, .int .u64 0, .int .u64 0, .int .u64 0, .int .u64 0, .int .u64 0]) w := zeroOrd
      obtain ⟨x0, x1, x2, x3, x4, x5, x6, x7, x8, x9, x10, x11⟩ := HT2.out.cells
      have hfr := HT2.out.free
      gi_upto_region 16 with fail
      refine wpIn_wide.2 ?_
      go_region
      clear x0 x1 x2 x3 x4 x5 x6 x7 x8 x9 x10 x11 hfr hzz
      obtain ⟨ho2, hon⟩ := ord_put zO HT2.out
      have hD4 : S1 + 4 ≤ D := by omega
      have hDl : D < W.heap.size := (Array.getElem?_eq_some_iff.1 hK).1
      have hK2 := (hon.block D hDl (by omega)).trans hK
      have hb2 := HBW.out.trans (hon.below (by omega) HBW.out.size)
      clear hon hK
      change Exit.then _ _ Exit.normal _ ((W.setCells (w.heap.size + 1) 0 (ordA zO).toList).drew)
      generalize W.setCells (w.heap.size + 1) 0 (ordA zO).toList = W3 at *
      gi_wp2
      (try rw [Exit.noGoto_ret])
      refine ⟨by simp, .inl ⟨_, _, rfl, run_takeDeferred (w := W3.drew) hK2, ?_⟩⟩
      have ho3 : ∀ ob, OrdAt (W3.drew.putObj D ob) (w.heap.size + 1) zO := fun ob => (heap_putObj_ne (by omega)).trans ho2
      have hc3 := fun ob => (ho3 ob).cells
      have y0 := fun ob => (hc3 ob).1
      have y1 := fun ob => (hc3 ob).2.1
      have y2 := fun ob => (hc3 ob).2.2.1
      have y3 := fun ob => (hc3 ob).2.2.2.1
      have y4 := fun ob => (hc3 ob).2.2.2.2.1
      have y5 := fun ob => (hc3 ob).2.2.2.2.2.1
      have y6 := fun ob => (hc3 ob).2.2.2.2.2.2.1
      have y7 := fun ob => (hc3 ob).2.2.2.2.2.2.2.1
      have y8 := fun ob => (hc3 ob).2.2.2.2.2.2.2.2.1
      have y9 := fun ob => (hc3 ob).2.2.2.2.2.2.2.2.2.1
      have y10 := fun ob => (hc3 ob).2.2.2.2.2.2.2.2.2.2.1
      have y11 := fun ob => (hc3 ob).2.2.2.2.2.2.2.2.2.2.2
      clear ho3 hc3
      refine ⟨.tuple #[ordV zO, .int .i64 cd], ?_, by rw [HM2.out], ⟨hb2.os, hb2.tape, hb2.output, by simpa using hb2.size, fun k hk => (heap_putObj_ne (by omega)).trans (hb2.block k hk)⟩⟩
      simp [results, Try.results7, go_sem, ordA, y0, y1, y2, y3, y4, y5, y6, y7, y8, y9, y10, y11]
  case hstop =>
    rintro D cx pre W hD ⟨k, hk6, hpre⟩ hX hK
    have hz := hX.but.size
    have hko := row_cell hX.code 0
    have ht2 : OrdAt W (w.heap.size + 1) zO := (hX.but.block _ (by omega) (by omega) (by omega)).trans HRA.out
    have hbw : Below w.heap.size w W := HBA.out.trans (hX.but.below (by omega) (by omega))
    have hany : (fst6 6).any (fun x => stopD L a x.1) = true := by
      obtain ⟨y, -, hy⟩ := hX.yes
      exact List.any_eq_true.2 ⟨y, List.mem_finRange y, hy⟩
    have hmn : decM n a = (zO, 2) := by
      unfold decM
      rw [hL]
      show (if _ then _ else _) = _
      rw [if_neg (fun h => hn h.1), if_pos hany]
    obtain rfl := hX.c
    simp only [List.getElem?_toArray, List.getElem?_cons_zero] at hko
    have HBW := Lib.hid hbw
    have HT2 := Lib.hid ht2
    have HM2 := Lib.hid hmn
    have HCB : Hid (((2 : Int) == 0) = false) := Lib.hid (by decide)
    clear hany hbw ht2 hmn hX hL hpre
    have hcb : ((2 : Int) == 0) = false := HCB.out
    have hzz : ∀ w, (zeroValue 29).run Try.prog w = .ok (.agg #[.int .i64 0, .int .i64 0, .int .i64 0, .int .i64 0, .int .i64 0, .int .i64 0, .int .i64 0, .int .u64 0, .int .u64 0, .int .u64 0, .int .u64 0, .int .u64 0]) w := zeroOrd
    obtain ⟨x0, x1, x2, x3, x4, x5, x6, x7, x8, x9, x10, x11⟩ := HT2.out.cells
    have hfr := HT2.out.free
    gi_upto_region 16 with fail
    refine wpIn_wide.2 ?_
    go_region
    clear x0 x1 x2 x3 x4 x5 x6 x7 x8 x9 x10 x11 hfr hzz
    obtain ⟨ho2, hon⟩ := ord_put zO HT2.out
    have hD4 : S1 + 4 ≤ D := by omega
    have hDl : D < W.heap.size := (Array.getElem?_eq_some_iff.1 hK).1
    have hK2 := (hon.block D hDl (by omega)).trans hK
    have hb2 := HBW.out.trans (hon.below (by omega) HBW.out.size)
    clear hon hK
    change Exit.then _ _ Exit.normal _ ((W.setCells (w.heap.size + 1) 0 (ordA zO).toList).drew)
    generalize W.setCells (w.heap.size + 1) 0 (ordA zO).toList = W3 at *
    gi_wp2
    (try rw [Exit.noGoto_ret])
    refine ⟨by simp, .inl ⟨_, _, rfl, run_takeDeferred (w := W3.drew) hK2, ?_⟩⟩
    have ho3 : ∀ ob, OrdAt (W3.drew.putObj D ob) (w.heap.size + 1) zO := fun ob => (heap_putObj_ne (by omega)).trans ho2
    have hc3 := fun ob => (ho3 ob).cells
    have y0 := fun ob => (hc3 ob).1
    have y1 := fun ob => (hc3 ob).2.1
    have y2 := fun ob => (hc3 ob).2.2.1
    have y3 := fun ob => (hc3 ob).2.2.2.1
    have y4 := fun ob => (hc3 ob).2.2.2.2.1
    have y5 := fun ob => (hc3 ob).2.2.2.2.2.1
    have y6 := fun ob => (hc3 ob).2.2.2.2.2.2.1
    have y7 := fun ob => (hc3 ob).2.2.2.2.2.2.2.1
    have y8 := fun ob => (hc3 ob).2.2.2.2.2.2.2.2.1
    have y9 := fun ob => (hc3 ob).2.2.2.2.2.2.2.2.2.1
    have y10 := fun ob => (hc3 ob).2.2.2.2.2.2.2.2.2.2.1
    have y11 := fun ob => (hc3 ob).2.2.2.2.2.2.2.2.2.2.2
    clear ho3 hc3
    refine ⟨.tuple #[ordV zO, .int .i64 2], ?_, by rw [HM2.out], ⟨hb2.os, hb2.tape, hb2.output, by simpa using hb2.size, fun k hk => (heap_putObj_ne (by omega)).trans (hb2.block k hk)⟩⟩
    simp [results, Try.results7, go_sem, ordA, y0, y1, y2, y3, y4, y5, y6, y7, y8, y9, y10, y11]
end Go.Proofs.Ytahagcghbeeajaa
