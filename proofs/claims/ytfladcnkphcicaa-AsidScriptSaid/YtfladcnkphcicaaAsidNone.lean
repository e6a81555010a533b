/- The law AsidNone. -/
import Derived.Test.YtfladcnkphcicaaAsidT
import Derived.Test.YtfladcnkphcicaaCells
namespace Go.Proofs.Ytfladcnkphcicaa
set_option linter.unusedVariables false
set_option linter.unusedSimpArgs false
open Go.ChangeShapes Go.WideShapes Go.ChangeAt Go.RowKit Go.Shelf
attribute [local go_sem] Oper.semAt_some
set_option maxRecDepth 100000 in
set_option maxHeartbeats 1000000 in
theorem of_nil (w : World) (r : Int) :
    CallsIn Fence.wide 3 Try.prog 17 #[.pointer none, .int .i64 r] w fun e W' => e = .returned (.tuple #[.int .i64 0, .int .i64 0, .bool false]) ∧ Below w.heap.size w W' := by
  refine callsIn_of_wp_marks Try.func17 rfl trivial ?_ rfl
  simp only [Try.ntmps17, List.size_toArray, List.length_cons, List.length_nil, Nat.reduceAdd, Nat.reduceSub, Array.replicate_succ, Array.replicate_zero, List.push_toArray, List.append_toArray, List.nil_append, List.cons_append]
  gi_wp2_with (refine ⟨trivial, ?_⟩; gi_at_call 26; refine (assigned_in _ _ _).mono ?_; rintro e w' ⟨rfl, rfl⟩)
  refine wpIn_range_none rfl (by decide) (gf := 28) (lb := #[.pointer (some ⟨w.heap.size + 1 + 1 + 1 + 1, 0, none⟩)]) rfl trivial (enters_of Try.func28 (by kernel_rfl) rfl) ?hcall ?hdone
  case hcall =>
    intro l W hW
    refine assigned1_nil _ l _ W ?_
    rw [hW.cell (p := ⟨w.heap.size + 1 + 1 + 1 + 1, 0, none⟩) (by first | (simp; done) | (simp; omega))]
    go_simp
  case hdone =>
    rintro D W hD hB hK
    simp only [World.size_alloc] at hD
    have d0 : W.cell? ⟨w.heap.size + 1, 0, none⟩ = some (.int .i64 0) := (hB.cell (p := ⟨w.heap.size + 1, 0, none⟩) (by first | (simp; done) | (simp; omega))).trans (by go_simp)
    have d1 : W.cell? ⟨w.heap.size + 2, 0, none⟩ = some (.int .i64 0) := (hB.cell (p := ⟨w.heap.size + 2, 0, none⟩) (by first | (simp; done) | (simp; omega))).trans (by go_simp)
    have d2 : W.cell? ⟨w.heap.size + 3, 0, none⟩ = some (.bool false) := (hB.cell (p := ⟨w.heap.size + 3, 0, none⟩) (by first | (simp; done) | (simp; omega))).trans (by go_simp)
    have f0 : W.frozen? ⟨w.heap.size + 1, 0, none⟩ = false := (hB.frozen (p := ⟨w.heap.size + 1, 0, none⟩) (by first | (simp; done) | (simp; omega))).trans (by go_simp)
    have f1 : W.frozen? ⟨w.heap.size + 2, 0, none⟩ = false := (hB.frozen (p := ⟨w.heap.size + 2, 0, none⟩) (by first | (simp; done) | (simp; omega))).trans (by go_simp)
    have f2 : W.frozen? ⟨w.heap.size + 3, 0, none⟩ = false := (hB.frozen (p := ⟨w.heap.size + 3, 0, none⟩) (by first | (simp; done) | (simp; omega))).trans (by go_simp)
    have BI : Below w.heap.size w W := (bal (bal (bal (bal (bal (Below.refl _ _) _) _) _) _) _).trans (hB.mono (by simp; omega))
    have hsw := hB.size
    simp only [World.size_alloc] at hsw
    clear hB
    gi_wp2
    have q0 : (((W.setCell ⟨w.heap.size + 1, 0, none⟩ (.int .i64 0)).setCell ⟨w.heap.size + 1 + 1, 0, none⟩ (.int .i64 0)).setCell ⟨w.heap.size + 1 + 1 + 1, 0, none⟩ (.bool false)).cell? ⟨w.heap.size + 1, 0, none⟩ = some (.int .i64 0) := by go_simp
    have q1 : (((W.setCell ⟨w.heap.size + 1, 0, none⟩ (.int .i64 0)).setCell ⟨w.heap.size + 1 + 1, 0, none⟩ (.int .i64 0)).setCell ⟨w.heap.size + 1 + 1 + 1, 0, none⟩ (.bool false)).cell? ⟨w.heap.size + 1 + 1, 0, none⟩ = some (.int .i64 0) := by go_simp
    have q2 : (((W.setCell ⟨w.heap.size + 1, 0, none⟩ (.int .i64 0)).setCell ⟨w.heap.size + 1 + 1, 0, none⟩ (.int .i64 0)).setCell ⟨w.heap.size + 1 + 1 + 1, 0, none⟩ (.bool false)).cell? ⟨w.heap.size + 1 + 1 + 1, 0, none⟩ = some (.bool false) := by go_simp
    have hKU : (((W.setCell ⟨w.heap.size + 1, 0, none⟩ (.int .i64 0)).setCell ⟨w.heap.size + 1 + 1, 0, none⟩ (.int .i64 0)).setCell ⟨w.heap.size + 1 + 1 + 1, 0, none⟩ (.bool false)).heap[D]? = some (.deferred (some [])) := by
      rw [Go.heap_setCell_other _ _ _ _ (by simp; omega), Go.heap_setCell_other _ _ _ _ (by simp; omega), Go.heap_setCell_other _ _ _ _ (by simp; omega)]
      exact hK
    have BU : Below w.heap.size w (((W.setCell ⟨w.heap.size + 1, 0, none⟩ (.int .i64 0)).setCell ⟨w.heap.size + 1 + 1, 0, none⟩ (.int .i64 0)).setCell ⟨w.heap.size + 1 + 1 + 1, 0, none⟩ (.bool false)) := by
      (repeat (first | with_reducible exact BI | with_reducible refine Below.setCell ?_ (by simp; try omega) _))
    obtain ⟨U, hU⟩ : ∃ U, U = (((W.setCell ⟨w.heap.size + 1, 0, none⟩ (.int .i64 0)).setCell ⟨w.heap.size + 1 + 1, 0, none⟩ (.int .i64 0)).setCell ⟨w.heap.size + 1 + 1 + 1, 0, none⟩ (.bool false)) := ⟨_, rfl⟩
    rw [← hU] at q0 q1 q2 hKU BU ⊢
    clear hU d0 d1 d2 f0 f1 f2
    refine ⟨by simp, .inl ⟨_, _, rfl, run_takeDeferred hKU, ?_⟩⟩
    have g0 : (U.putObj D (.deferred none)).cell? ⟨w.heap.size + 1, 0, none⟩ = some (.int .i64 0) := (cell_of_block (heap_putObj_ne (by omega))).trans q0
    have g1 : (U.putObj D (.deferred none)).cell? ⟨w.heap.size + 1 + 1, 0, none⟩ = some (.int .i64 0) := (cell_of_block (heap_putObj_ne (by omega))).trans q1
    have g2 : (U.putObj D (.deferred none)).cell? ⟨w.heap.size + 1 + 1 + 1, 0, none⟩ = some (.bool false) := (cell_of_block (heap_putObj_ne (by omega))).trans q2
    exact ⟨.tuple #[.int .i64 0, .int .i64 0, .bool false], by simp [results, Try.results17, go_sem, g0, g1, g2], rfl, BU.trans (belowK_b (w := w) (Nat.le_refl _) U D _ _ (by omega) hKU rfl rfl)⟩
set_option maxRecDepth 100000 in
set_option maxHeartbeats 1000000 in
theorem root_nil (w : World) (r : Int) :
    CallsIn Fence.wide 3 Try.prog 19 #[.pointer none, .int .i64 r] w fun e W' => e = .returned (.tuple #[.int .i64 0, .int .i64 0, .bool false]) ∧ Below w.heap.size w W' := by
  refine callsIn_of_wp_marks Try.func19 rfl trivial ?_ rfl
  simp only [Try.ntmps19, List.size_toArray, List.length_cons, List.length_nil, Nat.reduceAdd, Nat.reduceSub, Array.replicate_succ, Array.replicate_zero, List.push_toArray, List.append_toArray, List.nil_append, List.cons_append]
  gi_wp2_with (refine ⟨trivial, ?_⟩; gi_at_call 26; refine (assigned_in _ _ _).mono ?_; rintro e w' ⟨rfl, rfl⟩)
  refine wpIn_range_none rfl (by decide) (gf := 28) (lb := #[.pointer (some ⟨w.heap.size + 1 + 1 + 1 + 1, 0, none⟩)]) rfl trivial (enters_of Try.func28 (by kernel_rfl) rfl) ?hcall ?hdone
  case hcall =>
    intro l W hW
    refine assigned1_nil _ l _ W ?_
    rw [hW.cell (p := ⟨w.heap.size + 1 + 1 + 1 + 1, 0, none⟩) (by first | (simp; done) | (simp; omega))]
    go_simp
  case hdone =>
    rintro D W hD hB hK
    simp only [World.size_alloc] at hD
    have d0 : W.cell? ⟨w.heap.size + 1, 0, none⟩ = some (.int .i64 0) := (hB.cell (p := ⟨w.heap.size + 1, 0, none⟩) (by first | (simp; done) | (simp; omega))).trans (by go_simp)
    have d1 : W.cell? ⟨w.heap.size + 2, 0, none⟩ = some (.int .i64 0) := (hB.cell (p := ⟨w.heap.size + 2, 0, none⟩) (by first | (simp; done) | (simp; omega))).trans (by go_simp)
    have d2 : W.cell? ⟨w.heap.size + 3, 0, none⟩ = some (.bool false) := (hB.cell (p := ⟨w.heap.size + 3, 0, none⟩) (by first | (simp; done) | (simp; omega))).trans (by go_simp)
    have f0 : W.frozen? ⟨w.heap.size + 1, 0, none⟩ = false := (hB.frozen (p := ⟨w.heap.size + 1, 0, none⟩) (by first | (simp; done) | (simp; omega))).trans (by go_simp)
    have f1 : W.frozen? ⟨w.heap.size + 2, 0, none⟩ = false := (hB.frozen (p := ⟨w.heap.size + 2, 0, none⟩) (by first | (simp; done) | (simp; omega))).trans (by go_simp)
    have f2 : W.frozen? ⟨w.heap.size + 3, 0, none⟩ = false := (hB.frozen (p := ⟨w.heap.size + 3, 0, none⟩) (by first | (simp; done) | (simp; omega))).trans (by go_simp)
    have BI : Below w.heap.size w W := (bal (bal (bal (bal (bal (Below.refl _ _) _) _) _) _) _).trans (hB.mono (by simp; omega))
    have hsw := hB.size
    simp only [World.size_alloc] at hsw
    clear hB
    gi_wp2
    have q0 : (((W.setCell ⟨w.heap.size + 1, 0, none⟩ (.int .i64 0)).setCell ⟨w.heap.size + 1 + 1, 0, none⟩ (.int .i64 0)).setCell ⟨w.heap.size + 1 + 1 + 1, 0, none⟩ (.bool false)).cell? ⟨w.heap.size + 1, 0, none⟩ = some (.int .i64 0) := by go_simp
    have q1 : (((W.setCell ⟨w.heap.size + 1, 0, none⟩ (.int .i64 0)).setCell ⟨w.heap.size + 1 + 1, 0, none⟩ (.int .i64 0)).setCell ⟨w.heap.size + 1 + 1 + 1, 0, none⟩ (.bool false)).cell? ⟨w.heap.size + 1 + 1, 0, none⟩ = some (.int .i64 0) := by go_simp
    have q2 : (((W.setCell ⟨w.heap.size + 1, 0, none⟩ (.int .i64 0)).setCell ⟨w.heap.size + 1 + 1, 0, none⟩ (.int .i64 0)).setCell ⟨w.heap.size + 1 + 1 + 1, 0, none⟩ (.bool false)).cell? ⟨w.heap.size + 1 + 1 + 1, 0, none⟩ = some (.bool false) := by go_simp
    have hKU : (((W.setCell ⟨w.heap.size + 1, 0, none⟩ (.int .i64 0)).setCell ⟨w.heap.size + 1 + 1, 0, none⟩ (.int .i64 0)).setCell ⟨w.heap.size + 1 + 1 + 1, 0, none⟩ (.bool false)).heap[D]? = some (.deferred (some [])) := by
      rw [Go.heap_setCell_other _ _ _ _ (by simp; omega), Go.heap_setCell_other _ _ _ _ (by simp; omega), Go.heap_setCell_other _ _ _ _ (by simp; omega)]
      exact hK
    have BU : Below w.heap.size w (((W.setCell ⟨w.heap.size + 1, 0, none⟩ (.int .i64 0)).setCell ⟨w.heap.size + 1 + 1, 0, none⟩ (.int .i64 0)).setCell ⟨w.heap.size + 1 + 1 + 1, 0, none⟩ (.bool false)) := by
      (repeat (first | with_reducible exact BI | with_reducible refine Below.setCell ?_ (by simp; try omega) _))
    obtain ⟨U, hU⟩ : ∃ U, U = (((W.setCell ⟨w.heap.size + 1, 0, none⟩ (.int .i64 0)).setCell ⟨w.heap.size + 1 + 1, 0, none⟩ (.int .i64 0)).setCell ⟨w.heap.size + 1 + 1 + 1, 0, none⟩ (.bool false)) := ⟨_, rfl⟩
    rw [← hU] at q0 q1 q2 hKU BU ⊢
    clear hU d0 d1 d2 f0 f1 f2
    refine ⟨by simp, .inl ⟨_, _, rfl, run_takeDeferred hKU, ?_⟩⟩
    have g0 : (U.putObj D (.deferred none)).cell? ⟨w.heap.size + 1, 0, none⟩ = some (.int .i64 0) := (cell_of_block (heap_putObj_ne (by omega))).trans q0
    have g1 : (U.putObj D (.deferred none)).cell? ⟨w.heap.size + 1 + 1, 0, none⟩ = some (.int .i64 0) := (cell_of_block (heap_putObj_ne (by omega))).trans q1
    have g2 : (U.putObj D (.deferred none)).cell? ⟨w.heap.size + 1 + 1 + 1, 0, none⟩ = some (.bool false) := (cell_of_block (heap_putObj_ne (by omega))).trans q2
    exact ⟨.tuple #[.int .i64 0, .int .i64 0, .bool false], by simp [results, Try.results19, go_sem, g0, g1, g2], rfl, BU.trans (belowK_b (w := w) (Nat.le_refl _) U D _ _ (by omega) hKU rfl rfl)⟩
theorem onil_any (w : World) (r : Int) : Calls Try.prog 17 #[.pointer none, .int .i64 r] w fun e W' => e = .returned (.tuple #[.int .i64 0, .int .i64 0, .bool false]) ∧ Below w.heap.size w W' := callsIn_wide.1 (of_nil w r)
theorem rnil_any (w : World) (r : Int) : Calls Try.prog 19 #[.pointer none, .int .i64 r] w fun e W' => e = .returned (.tuple #[.int .i64 0, .int .i64 0, .bool false]) ∧ Below w.heap.size w W' := callsIn_wide.1 (root_nil w r)
theorem addPool_nil (w : World) (o : Int) : Calls Try.prog 6 #[.pointer none, .int .i64 o] w fun e w' => e = .returned (.tuple #[.int .i64 0, .int .i64 1]) ∧ w = w' := by
  go_enter Try.func6, Try.ntmps6
  go_wp2
  go_ret2
  exact ⟨rfl, rfl⟩
theorem unassign_nil (w : World) (o : Int) : Calls Try.prog 15 #[.pointer none, .int .i64 o] w fun e w' => e = .returned (.tuple #[.int .i64 0, .int .i64 1]) ∧ w = w' := by
  go_enter Try.func15, Try.ntmps15
  go_wp2
  go_ret2
  exact ⟨rfl, rfl⟩
set_option maxRecDepth 100000 in
theorem dropPool_nil (w : World) (o : Int) : Calls Try.prog 9 #[.pointer none, .int .i64 o] w fun e w' => e = .returned (.tuple #[.slice none 0 0, .int .i64 1]) ∧ Below w.heap.size w w' := by
  go_enter Try.func9, Try.ntmps9
  go_wp2
  refine bodyPost_ret (v := .tuple #[.slice none 0 0, .int .i64 1]) (by simp [results, Try.results9, go_sem]) rfl ⟨rfl, (by repeat (first | exact Below.refl _ _ | refine bal ?_ _))⟩
set_option maxRecDepth 100000 in
theorem assign_nil (w : World) (p r : Int) : Calls Try.prog 13 #[.pointer none, .int .i64 p, .int .i64 r] w fun e w' => e = .returned (.tuple #[.int .i64 0, .int .i64 0, .int .i64 1]) ∧ Below w.heap.size w w' := by
  go_enter Try.func13, Try.ntmps13
  go_wp2
  go_step3
  go_wp2
  (try rw [Exit.noGoto_ret])
  refine bodyPost_ret (v := .tuple #[.int .i64 0, .int .i64 0, .int .i64 1]) (by simp [results, Try.results13, go_sem]) rfl ⟨rfl, (by repeat (first | exact Below.refl _ _ | refine bal ?_ _))⟩
/-- Eight places without a pool. -/
def poolZ : Array Value := #[.int .i64 0, .bool false, .int .i64 0, .int .i64 0, .int .i64 0, .int .i64 0, .int .i64 0, .int .i64 0, .int .i64 0, .int .i64 0, .int .i64 0, .bool false, .int .i64 0, .int .i64 0, .int .i64 0, .int .i64 0, .int .i64 0, .int .i64 0, .int .i64 0, .int .i64 0, .int .i64 0, .bool false, .int .i64 0, .int .i64 0, .int .i64 0, .int .i64 0, .int .i64 0, .int .i64 0, .int .i64 0, .int .i64 0, .int .i64 0, .bool false, .int .i64 0, .int .i64 0, .int .i64 0, .int .i64 0, .int .i64 0, .int .i64 0, .int .i64 0, .int .i64 0, .int .i64 0, .bool false, .int .i64 0, .int .i64 0, .int .i64 0, .int .i64 0, .int .i64 0, .int .i64 0, .int .i64 0, .int .i64 0, .int .i64 0, .bool false, .int .i64 0, .int .i64 0, .int .i64 0, .int .i64 0, .int .i64 0, .int .i64 0, .int .i64 0, .int .i64 0, .int .i64 0, .bool false, .int .i64 0, .int .i64 0, .int .i64 0, .int .i64 0, .int .i64 0, .int .i64 0, .int .i64 0, .int .i64 0, .int .i64 0, .bool false, .int .i64 0, .int .i64 0, .int .i64 0, .int .i64 0, .int .i64 0, .int .i64 0, .int .i64 0, .int .i64 0]
theorem poolZ_size : poolZ.size = 80 := by rfl
theorem poolZ_one : poolZ.all (·.oneCell') = true := by decide +kernel
theorem zeroPools : ∀ w, (zeroValue 30).run Try.prog w = .ok (.agg poolZ) w := fun _ => by kernel_rfl
theorem setRow_other (w : World) (g k : Nat) (cs : Array Value) (h : k ≠ g) : (w.setRow g cs).heap[k]? = w.heap[k]? := by
  simp only [World.setRow, Array.getElem?_modify]
  rw [if_neg (fun e => h e.symm)]
theorem belowRow {B g : Nat} {w0 w : World} (hb : Below B w0 w) (hg : B ≤ g) (cs : Array Value) : Below B w0 (w.setRow g cs) :=
  ⟨hb.os, hb.tape, hb.output, by simp; exact hb.size, fun k hk => (setRow_other w g k cs (by omega)).trans (hb.block k hk)⟩
set_option maxRecDepth 100000 in
set_option maxHeartbeats 1000000 in
theorem pools_nil (w : World) : Calls Try.prog 21 #[.pointer none] w fun e w' => e = .returned (.agg poolZ) ∧ Below w.heap.size w w' := by
  have hz := zeroPools
  have h1 : ((w.alloc (.cells poolZ 30)).alloc (.cells poolZ 30)).heap[w.heap.size + 1]? = some (.cells poolZ 30 (0, 0)) := by
    have := World.alloc_heap_new (w.alloc (.cells poolZ 30)) (.cells poolZ 30)
    rwa [World.size_alloc] at this
  have h0 : ((w.alloc (.cells poolZ 30)).alloc (.cells poolZ 30)).heap[w.heap.size]? = some (.cells poolZ 30 (0, 0)) :=
    (Below.heap_alloc _ _ _ (by simp)).trans (World.alloc_heap_new w _)
  have H1 := Lib.hid h1
  have H0 := Lib.hid h0
  clear h1 h0
  go_enter Try.func21, Try.ntmps21
  go_wp2_with (first
    | (refine wpList_load_row rfl 30 (.tmp 3) rfl (w.heap.size + 1) rfl _ _ _ _ H1.out Try.underlying30 rfl (by kernel_rfl) ?_)
    | (refine wpList_store_row rfl 30 (.tmp 2) _ rfl w.heap.size poolZ rfl rfl _ _ H0.out (by kernel_rfl) rfl poolZ_one ?_))
  exact bodyPost_ret (results_cell_row (by rfl) _ _ w.heap.size _ poolZ _ _ rfl (setRow_heap _ _ _ _ _ _ H0.out) Try.underlying30 rfl (by kernel_rfl)) rfl ⟨rfl, belowRow (bal (bal (Below.refl _ _) _) _) (Nat.le_refl _) _⟩
structure ActA where
  d : Int
  a : Int
  b : Int
abbrev ActA.val (x : ActA) : Value := .agg #[.int .i64 x.d, .int .i64 x.a, .int .i64 x.b]
theorem open_t35 {W : World} {base : Nat} {v : Value} (hv : Value.okWide Try.prog W .any base 35 v) : ∃ x : ActA, v = x.val ∧ True := by
  obtain ⟨cs, rfl, hl, hc⟩ := agg_cells (ts := [3, 3, 3]) Try.underlying35 (by kernel_rfl) (by kernel_rfl) hv
  obtain ⟨v0, e0, o0⟩ := hc 0 _ rfl
  obtain ⟨a, rfl, b0⟩ := cell_i64 Try.underlying3 o0
  obtain ⟨v1, e1, o1⟩ := hc 1 _ rfl
  obtain ⟨b, rfl, b1⟩ := cell_i64 Try.underlying3 o1
  obtain ⟨v2, e2, o2⟩ := hc 2 _ rfl
  obtain ⟨c, rfl, b2⟩ := cell_i64 Try.underlying3 o2
  match cs, hl with
  | [c0, c1, c2], _ =>
    cases e0
    cases e1
    cases e2
    exact ⟨⟨a, b, c⟩, rfl, trivial⟩
abbrev zval_t35 : Value := .agg #[.int .i64 0, .int .i64 0, .int .i64 0]
abbrev zdat_t35 {H : Type} : DataW H := .agg [.lit (.int .i64 0), .lit (.int .i64 0), .lit (.int .i64 0)]
theorem aw1 : (addF po0 0 5).1 = (0, 0) := by decide +kernel
theorem aw2 : (assignF (addF po0 0 5).2.1 N0 5 9).1 = (1, 1, 0) := by decide +kernel
theorem aw3 : rootR (assignF (addF po0 0 5).2.1 N0 5 9).2 1 = (9, 1, true) := by decide +kernel
set_option maxHeartbeats 1000000 in
theorem awake19 (W : World) : Calls Try.prog 4 #[] W fun e w' => e = .returned (.bool true) ∧ Below W.heap.size W w' := by
  obtain ⟨P1, hP1⟩ : ∃ p, (addF po0 0 5).2 = p := ⟨_, rfl⟩
  have h1 := aw1
  have h2 := aw2
  have h3 := aw3
  obtain ⟨N1, hN1⟩ : ∃ n, (assignF (addF po0 0 5).2.1 N0 5 9).2 = n := ⟨_, rfl⟩
  rw [hN1] at h3
  have H1 := Lib.hid h1
  have H2 := Lib.hid h2
  have H3 := Lib.hid h3
  have HN := Lib.hid hN1
  clear h1 h2 h3 hN1 hP1
  go_enter Try.func4, Try.ntmps4
  go_wp2_with (first
    | (go_at_call 5; refine (new_any _).mono ?_; rintro e w1 ⟨rfl, ha1, hb1⟩; have hl1 := ha1.lt)
    | (go_at_call 6; refine (addPool_any _ W.heap.size po0 0 N0 5 ha1 (by decide) (by decide)).mono ?_; rw [H1.out]; rintro e w2 ⟨rfl, ha2, ho2⟩)
    | (go_at_call 13; refine (assign_any _ W.heap.size _ _ N0 5 9 ha2 ok_N0).mono ?_; rw [H2.out, HN.out]; rintro e w3 ⟨rfl, ha3, ho3⟩)
    | (go_at_call 19; refine (root_any _ W.heap.size _ _ N1 1 ha3).mono ?_; rw [H3.out]; rintro e w4 ⟨rfl, hb4⟩))
  go_ret
  exact ⟨rfl, (hb1.trans ((ho2.trans ho3).below (Nat.le_refl _) hl1)).trans (hb4.mono (by have := hb1.size; have := ho2.size; have := ho3.size; omega))⟩
end Go.Proofs.Ytfladcnkphcicaa
