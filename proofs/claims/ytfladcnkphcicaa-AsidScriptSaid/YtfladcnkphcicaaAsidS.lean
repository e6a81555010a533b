/- package asid: Assign. -/
import Derived.Test.YtfladcnkphcicaaAsidO
import Derived.BigFrameIn
import Derived.WalkMore
namespace Go.Proofs.Ytfladcnkphcicaa
set_option linter.unusedVariables false
set_option linter.unusedSimpArgs false
open Go.ChangeShapes Go.WideShapes Go.ChangeAt Go.RowKit Go.Shelf
attribute [local go_sem] Oper.semAt_some
/-- May a number be given? -/
def condA (N : Nums) (n : Nat) : Bool := n != 0 && (N n).1 == 0 && decide ((n : Int) + 32 * (N n).2.2 ≤ 16777215)
def stepN (N : Nums) (n : Nat) (root : Int) : Nums := fun m => if m = n then (root, n + 32 * (N n).2.2, (N n).2.2 + 1) else N m
def takeF (N : Nums) (pl : Nat) (root : Int) : (Int × Int × Int) × Nums := match (List.range 4).find? (fun i => condA N (pl * 4 + i)) with
  | some i => (((pl : Int) * 4 + i, (pl : Int) * 4 + i + 32 * (N (pl * 4 + i)).2.2, 0), stepN N (pl * 4 + i) root)
  | none => ((0, 0, 11), N)
theorem take_yes {N : Nums} {pl : Nat} {root : Int} {k : Nat} (hk : k < 4) (h : condA N (pl * 4 + k) = true) (hb : ∀ j, j < k → condA N (pl * 4 + j) = false) : takeF N pl root = (((pl : Int) * 4 + k, (pl : Int) * 4 + k + 32 * (N (pl * 4 + k)).2.2, 0), stepN N (pl * 4 + k) root) := by
  unfold takeF
  rw [find_range (q := fun i => condA N (pl * 4 + i)) hk h hb]
theorem take_no {N : Nums} {pl : Nat} {root : Int} (h : ∀ j, j < 4 → condA N (pl * 4 + j) = false) : takeF N pl root = ((0, 0, 11), N) := by
  unfold takeF
  rw [find_range_none (q := fun i => condA N (pl * 4 + i)) h]
def NumsOk (N : Nums) : Prop := ∀ n, n < 32 → 0 ≤ (N n).2.2 ∧ (N n).2.2 ≤ 524288
theorem ok_step {N : Nums} (h : NumsOk N) {n : Nat} {root : Int} (hc : condA N n = true) : NumsOk (stepN N n root) := by
  intro m hm
  unfold stepN
  split
  · rename_i e
    subst e
    have := h m hm
    unfold condA at hc
    simp only [Bool.and_eq_true, decide_eq_true_eq] at hc
    have h2 := hc.2
    refine ⟨?_, ?_⟩ <;> simp only <;> omega
  · exact h m hm
theorem ok_take {N : Nums} (h : NumsOk N) (pl : Nat) (root : Int) : NumsOk (takeF N pl root).2 := by
  unfold takeF
  split
  · rename_i i hi
    have := List.find?_some hi
    exact ok_step h this
  · exact h
/-- One block is turned. -/
structure BlkOnly (b : Nat) (w w' : World) : Prop where
  os : w'.os = w.os
  tape : w'.tape = w.tape
  output : w'.output = w.output
  size : w.heap.size ≤ w'.heap.size
  block : ∀ k, k < w.heap.size → k ≠ b → w'.heap[k]? = w.heap[k]?
theorem BlkOnly.refl (b : Nat) (w : World) : BlkOnly b w w := ⟨rfl, rfl, rfl, Nat.le_refl _, fun _ _ _ => rfl⟩
theorem BlkOnly.of_below {b : Nat} {w w' : World} (h : Below w.heap.size w w') : BlkOnly b w w' := ⟨h.os, h.tape, h.output, h.size, fun k hk _ => h.block k hk⟩
theorem BlkOnly.trans {b : Nat} {a c d : World} (h : BlkOnly b a c) (k : BlkOnly b c d) : BlkOnly b a d := ⟨k.os.trans h.os, k.tape.trans h.tape, k.output.trans h.output, Nat.le_trans h.size k.size, fun i hi hj => (k.block i (Nat.lt_of_lt_of_le hi h.size) hj).trans (h.block i hi hj)⟩
theorem BlkOnly.below {b B : Nat} {w w' : World} (h : BlkOnly b w w') (hB : B ≤ b) (hb : b < w.heap.size) : Below B w w' := ⟨h.os, h.tape, h.output, h.size, fun k hk => h.block k (by omega) (by omega)⟩
theorem BlkOnly.call {b : Nat} {w d e : World} (h : BlkOnly b w d) (k : Below d.heap.size d e) : BlkOnly b w e := h.trans (BlkOnly.of_below k)
theorem BlkOnly.drew {b : Nat} {a d : World} (h : BlkOnly b a d) : BlkOnly b a d.drew := ⟨h.os, h.tape, h.output, h.size, h.block⟩
theorem BlkOnly.set {b : Nat} {a c : World} (h : BlkOnly b a c) (i : Nat) (v : Value) : BlkOnly b a (c.setCell ⟨b, i, none⟩ v) :=
  ⟨h.os, h.tape, h.output, by simpa using h.size, fun k hk hn => (Go.heap_setCell_other _ _ _ _ hn).trans (h.block k hk hn)⟩
theorem asid_set {w : World} {b n : Nat} {po : Nat → Int} {tk : Int} {N : Nums} (h : AsidAt w b po tk N) (hn : n < 32) (x y z : Int) :
    AsidAt (((w.setCell ⟨b, 9 + n * 3, none⟩ (.int .i64 x)).setCell ⟨b, 9 + n * 3 + 1, none⟩ (.int .i64 y)).setCell ⟨b, 9 + n * 3 + 2, none⟩ (.int .i64 z)) b po tk (fun m => if m = n then (x, y, z) else N m) := by
  refine ⟨fun i hi => ?_, ?_, fun m hm => ?_, fun j => ?_, ?_⟩
  · rw [World.cell?_setCell_other, World.cell?_setCell_other, World.cell?_setCell_other, h.pool i hi]
    all_goals (intro e; simp only [Addr.mk.injEq, true_and, and_true] at e; omega)
  · rw [World.cell?_setCell_other, World.cell?_setCell_other, World.cell?_setCell_other, h.taken]
    all_goals (intro e; simp only [Addr.mk.injEq, true_and, and_true] at e; omega)
  · obtain ⟨c0, c1, c2⟩ := h.num m hm
    obtain ⟨d0, d1, d2⟩ := h.num n hn
    by_cases e : m = n
    · subst e
      simp only [if_true]
      refine ⟨?_, ?_, ?_⟩ <;> simp [go_sem, c0, c1, c2]
    · rw [if_neg e]
      refine ⟨?_, ?_, ?_⟩
      · rw [World.cell?_setCell_other, World.cell?_setCell_other, World.cell?_setCell_other, c0]
        all_goals (intro e; simp only [Addr.mk.injEq, true_and, and_true] at e; omega)
      · rw [World.cell?_setCell_other, World.cell?_setCell_other, World.cell?_setCell_other, c1]
        all_goals (intro e; simp only [Addr.mk.injEq, true_and, and_true] at e; omega)
      · rw [World.cell?_setCell_other, World.cell?_setCell_other, World.cell?_setCell_other, c2]
        all_goals (intro e; simp only [Addr.mk.injEq, true_and, and_true] at e; omega)
  · simp [go_sem, h.free j]
  · simpa using h.lt
theorem AsidAt.far {w : World} {b : Nat} {po : Nat → Int} {tk : Int} {N : Nums} (h : AsidAt w b po tk N) {a : Addr} (ha : b ≠ a.block) (v : Value) : AsidAt (w.setCell a v) b po tk N := h.of_block (by simp) (Go.heap_setCell_other _ _ _ _ ha)
theorem env3 {A W : World} (h : W.os = A.os ∧ W.tape = A.tape ∧ W.output = A.output) (a : Addr) (v : Value) : (W.setCell a v).os = A.os ∧ (W.setCell a v).tape = A.tape ∧ (W.setCell a v).output = A.output := h
theorem BlkOnly.put {b : Nat} {w d : World} (h : BlkOnly b w d) {D : Nat} {o : Obj} (hD : w.heap.size ≤ D) : BlkOnly b w (d.putObj D o) := ⟨h.os, h.tape, h.output, by simpa using h.size, fun k hk hn => (heap_putObj_ne (by omega)).trans (h.block k hk hn)⟩
/-- What stands there when a number is given. -/
structure AssIx (wA : World) (B b pl : Nat) (po : Nat → Int) (tk : Int) (N : Nums) (root : Int) (c : Code) (pre : List (Fin 4)) (W : World) : Prop where
  c : c = .exit 0
  at_ : ∃ p x, pre = p ++ [x] ∧ (∀ y ∈ p, condA N (pl * 4 + y.1) = false) ∧ condA N (pl * 4 + x.1) = true ∧ AsidAt W b po tk (stepN N (pl * 4 + x.1) root) ∧ W.cell? ⟨B, 0, none⟩ = some (.int .i64 ((pl : Int) * 4 + x.1)) ∧ W.cell? ⟨B + 1, 0, none⟩ = some (.int .i64 ((pl : Int) * 4 + x.1 + 32 * (N (pl * 4 + x.1)).2.2)) ∧ W.cell? ⟨B + 2, 0, none⟩ = some (.int .i64 0)
  size : wA.heap.size ≤ W.heap.size
  keep : W.os = wA.os ∧ W.tape = wA.tape ∧ W.output = wA.output ∧ ∀ k, k < wA.heap.size → k ≠ b → k ≠ B → k ≠ B + 1 → k ≠ B + 2 → W.heap[k]? = wA.heap[k]?
theorem AssIx.from {wA : World} {B b pl : Nat} {po : Nat → Int} {tk : Int} {N : Nums} {root : Int} (hb : b < wA.heap.size) (hB : B + 2 < wA.heap.size) (c : Code) : OwnFrom wA.heap.size (AssIx wA B b pl po tk N root c) := by
  intro s A C row h hg hr
  have e : ∀ k, k < wA.heap.size → C.heap[k]? = A.heap[k]? := fun k hk => hg.block k (Nat.lt_of_lt_of_le hk h.size) (fun e => by have := (hr k e.symm).1; omega)
  obtain ⟨p, x, h1, h2, h3, h4, h5, h6, h7⟩ := h.at_
  refine ⟨h.c, ⟨p, x, h1, h2, h3, h4.of_block hg.size (e b hb), (cell_of_block (e _ (by omega))).trans h5, (cell_of_block (e _ (by omega))).trans h6, (cell_of_block (e _ (by omega))).trans h7⟩, Nat.le_trans h.size hg.size, hg.os.trans h.keep.1, hg.tape.trans h.keep.2.1, hg.output.trans h.keep.2.2.1, fun k hk a1 a2 a3 a4 => (e k hk).trans (h.keep.2.2.2 k hk a1 a2 a3 a4)⟩
theorem wpIn_scope_wide {n : Nat} {P : Program} {c : Code} {Q : Exit → Act → World → Prop} {a : Act} {w : World} (h : c.wpIn Fence.wide n P (Exit.noGoto Q) a w) : (Code.scope c).wpIn Fence.wide n P Q a w :=
  wpIn_wide.2 (wp_scope_straight (wpIn_wide.1 h))
set_option maxRecDepth 100000 in
set_option maxHeartbeats 2000000 in
theorem assign_in (w : World) (b pl : Nat) (po : Nat → Int) (tk : Int) (N : Nums) (pool root : Int) (hA : AsidAt w b po tk N) (hN : NumsOk N) (hpl : pl < 8) (hp : placeF po pool = ((pl : Int), true)) (hr : 1 ≤ root) (ho : ofR N root = (0, 0, false)) :
    CallsIn Fence.wide 3 Try.prog 13 #[.pointer (some ⟨b, 0, none⟩), .int .i64 pool, .int .i64 root] w fun e W' => e = .returned (.tuple #[.int .i64 (takeF N pl root).1.1, .int .i64 (takeF N pl root).1.2.1, .int .i64 (takeF N pl root).1.2.2]) ∧ AsidAt W' b po tk (takeF N pl root).2 ∧ BlkOnly b w W' := by
  have HA := Lib.hid hA
  have HP := Lib.hid hp
  have HO := Lib.hid ho
  have HN := Lib.hid hN
  have hb := hA.lt
  clear hA hp ho hN
  refine callsIn_of_wp_marks Try.func13 rfl trivial ?_ rfl
  simp only [Try.ntmps13, List.size_toArray, List.length_cons, List.length_nil, Nat.reduceAdd, Nat.reduceSub, Array.replicate_succ, Array.replicate_zero, List.push_toArray, List.append_toArray, List.nil_append, List.cons_append]
  gi_wp2
  refine wpIn_scope_wide ?_
  gi_wp2_with (refine ⟨trivial, ?_⟩; first
    | (gi_at_call 22; refine (callsIn_wide.2 (place_any _ b po tk N pool (HA.out.call (bal (Below.refl _ _) _)))).mono ?_; rw [HP.out]; rintro e w1 ⟨rfl, rfl⟩)
    | (gi_at_call 17; refine (callsIn_wide.2 (of_any _ b po tk N root (HA.out.call (bal (Below.refl _ _) _)))).mono ?_; rw [HO.out]; rintro e w2 ⟨rfl, hb2⟩; obtain ⟨hc2, hf2⟩ := bcell hb2; have hz2 : w.heap.size < w2.heap.size := (by have := hb2.size; simp at this; omega))
    | (gi_at_call 24; refine (ofit_in _ _ _ _).mono ?_; rintro e w3 ⟨rfl, rfl⟩))
  refine wpIn_label ?_
  gi_wp2_with (refine ⟨trivial, ?_⟩; first
    | (gi_at_call 24; refine (ofit_in _ _ _ _).mono ?_; rintro e w3 ⟨rfl, rfl⟩))
  obtain ⟨wA, hwA⟩ : ∃ x, x = ((((w2.alloc (.cells #[.int .i64 0] 3)).alloc (.cells #[.int .i64 0] 3)).alloc (.cells #[.int .i64 11] 36)).alloc (.cells #[.pointer (some ⟨b, 0, none⟩)] 24)).alloc (.cells #[.int .i64 pl] 3) := ⟨_, rfl⟩
  rw [← hwA]
  have hsz : wA.heap.size = w2.heap.size + 5 := by rw [hwA]; simp
  have hB2 : Below w2.heap.size w2 wA := hwA ▸ bal (bal (bal (bal (bal (Below.refl _ _) _) _) _) _) _
  have hBw : Below w.heap.size w wA := (bgo (bal (Below.refl _ _) _) hb2).trans (hB2.mono (Nat.le_of_lt hz2))
  have e0 : wA.cell? ⟨w2.heap.size, 0, none⟩ = some (.int .i64 0) ∧ wA.frozen? ⟨w2.heap.size, 0, none⟩ = false := by constructor <;> (rw [hwA]; go_simp; try rfl)
  have e1 : wA.cell? ⟨w2.heap.size + 1, 0, none⟩ = some (.int .i64 0) ∧ wA.frozen? ⟨w2.heap.size + 1, 0, none⟩ = false := by constructor <;> (rw [hwA]; go_simp; try rfl)
  have e2 : wA.cell? ⟨w2.heap.size + 2, 0, none⟩ = some (.int .i64 11) ∧ wA.frozen? ⟨w2.heap.size + 2, 0, none⟩ = false := by constructor <;> (rw [hwA]; go_simp; try rfl)
  have e3 : wA.cell? ⟨w2.heap.size + 3, 0, none⟩ = some (.pointer (some ⟨b, 0, none⟩)) := by rw [hwA]; go_simp
  have e4 : wA.cell? ⟨w2.heap.size + 4, 0, none⟩ = some (.int .i64 pl) := by rw [hwA]; go_simp
  have hra : wA.cell? ⟨w.heap.size, 0, none⟩ = some (.int .i64 root) := (hB2.cell (p := ⟨w.heap.size, 0, none⟩) hz2).trans ((hc2 _ _ (by simp)).trans (by simp))
  have hA1 := HA.out.call hBw
  clear hwA hc2 hf2
  refine wpIn_rangeFunc_ownF (α := Fin 4) rfl (by decide) (gf := 27) (lb := #[.pointer (some ⟨w2.heap.size + 1 + 1 + 1 + 1, 0, none⟩), .pointer (some ⟨w2.heap.size + 1 + 1 + 1, 0, none⟩)]) rfl trivial (enters_of Try.func27 (by kernel_rfl) rfl)
    (encs := encO b pl) (Kp := KpO (w2.heap.size + 4) (w2.heap.size + 3)) (S := fun xs => xs = fst4 4) (Sp := fun pre => ∃ k, ∃ h : k < 4, pre = fst4 k ++ [⟨k, h⟩]) (N := 4) (w0 := wA) (of1_seq 1 b pl (w2.heap.size + 4) (w2.heap.size + 3) wA hpl e4 e3 (by omega) (by omega))
    (fun h k => h.trans k) ?hKb (Below.refl _ _) (fun _ => rfl) (fun pre W => Below wA.heap.size wA W ∧ ∀ y ∈ pre, condA N (pl * 4 + y.1) = false) (AssIx wA w2.heap.size b pl po tk N root) (OwnFrom.and (ownFrom_below (Nat.le_refl _) (Nat.le_refl _)) (fun _ _ _ _ h _ _ => h)) (fun c => AssIx.from (by omega) (by omega) c) ⟨Below.refl _ _, fun _ h => by cases h⟩
    (fun x => { tmps := #[.pointer (some ⟨b, 0, none⟩), .int .i64 pool, .int .i64 root, undef, undef, .pointer (some ⟨w.heap.size, 0, none⟩), .int .i64 0, .int .i64 0, .int .i64 0, .int .i64 pl, .bool true, .int .i64 0, .int .i64 0, .bool false, .pointer (some ⟨w2.heap.size, 0, none⟩), .pointer (some ⟨w2.heap.size + 1, 0, none⟩), .pointer (some ⟨w2.heap.size + 1 + 1, 0, none⟩), .int .i64 ((pl : Int) * 4 + x.1), .pointer (some ⟨b, 9 + (pl * 4 + x.1) * 3, none⟩), undef, .pointer (some ⟨b, 0, none⟩), .bool false, .tuple #[.int .i64 pl, .bool true], .pointer (some ⟨b, 0, none⟩), .int .i64 pool, .tuple #[.int .i64 pl, .bool true], .int .i64 pl, .bool true, .bool true, .bool false, .bool false, .int .i64 root, .bool (decide (root < 1)), .bool (decide (root < 1)), .tuple #[.int .i64 0, .int .i64 0, .bool false], .pointer (some ⟨b, 0, none⟩), .int .i64 root, .tuple #[.int .i64 0, .int .i64 0, .bool false], .int .i64 0, .int .i64 0, .bool false, .bool false, .pointer (some ⟨b, 0, none⟩), .int .i64 pl, .func (.func 27) #[] #[.pointer (some ⟨w2.heap.size + 1 + 1 + 1 + 1, 0, none⟩), .pointer (some ⟨w2.heap.size + 1 + 1 + 1, 0, none⟩)], .int .i64 ((pl : Int) * 4 + x.1), .pointer (some ⟨b, 9 + (pl * 4 + x.1) * 3, none⟩), undef, undef, undef, undef, undef, undef, undef, undef, undef, undef, undef, undef, undef, undef, undef, undef, undef, undef, undef, undef, undef, undef, undef, undef, undef, undef, undef, undef, undef, undef, undef, undef, undef, undef, undef, undef, undef, undef, undef, undef], defers := [] }) ?hassign ?hbody ?hdone ?hstop
  case hKb =>
    intro W l o o' hl ho _ _
    exact ⟨heap_putObj_ne (by omega), heap_putObj_ne (by omega), by simp⟩
  case hassign =>
    intro l x W K hK
    gi_wp2
    exact hK
  case hbody =>
    rintro l pre x W ⟨hBW, hpre⟩ hlen
    have hx4 := x.2
    have hn32 : pl * 4 + x.1 < 32 := by omega
    have hAW := hA1.call hBW
    obtain ⟨c0, c1, c2⟩ := hAW.num (pl * 4 + x.1) hn32
    obtain ⟨t0, t1⟩ := HN.out (pl * 4 + x.1) hn32
    have hf := hAW.free
    have cr : W.cell? ⟨w.heap.size, 0, none⟩ = some (.int .i64 root) := (hBW.cell (p := ⟨w.heap.size, 0, none⟩) (by simp; omega)).trans hra
    have d0 : W.cell? ⟨w2.heap.size, 0, none⟩ = some (.int .i64 0) := (hBW.cell (p := ⟨w2.heap.size, 0, none⟩) (by simp; omega)).trans e0.1
    have d1 : W.cell? ⟨w2.heap.size + 1, 0, none⟩ = some (.int .i64 0) := (hBW.cell (p := ⟨w2.heap.size + 1, 0, none⟩) (by simp; omega)).trans e1.1
    have d2 : W.cell? ⟨w2.heap.size + 2, 0, none⟩ = some (.int .i64 11) := (hBW.cell (p := ⟨w2.heap.size + 2, 0, none⟩) (by simp; omega)).trans e2.1
    have f0 : W.frozen? ⟨w2.heap.size, 0, none⟩ = false := (hBW.frozen (p := ⟨w2.heap.size, 0, none⟩) (by simp; omega)).trans e0.2
    have f1 : W.frozen? ⟨w2.heap.size + 1, 0, none⟩ = false := (hBW.frozen (p := ⟨w2.heap.size + 1, 0, none⟩) (by simp; omega)).trans e1.2
    have f2 : W.frozen? ⟨w2.heap.size + 2, 0, none⟩ = false := (hBW.frozen (p := ⟨w2.heap.size + 2, 0, none⟩) (by simp; omega)).trans e2.2
    have hx4' : (x.1 : Int) < 4 := by omega
    have hpl' : (pl : Int) < 8 := by omega
    have HAW := Lib.hid hAW
    have HPRE := Lib.hid hpre
    have hpb : b < w.heap.size := hb
    clear hAW hpre
    have no : condA N (pl * 4 + x.1) = false → KeepsOthers W W ∧ KpO (w2.heap.size + 4) (w2.heap.size + 3) W W ∧ Below wA.heap.size wA W ∧ ∀ y ∈ pre ++ [x], condA N (pl * 4 + y.1) = false := fun hc => ⟨KeepsOthers.refl _, ⟨rfl, rfl, Nat.le_refl _⟩, hBW, fun y hy => by
      rcases List.mem_append.1 hy with hy | hy
      · exact HPRE.out y hy
      · rw [List.mem_singleton] at hy
        rw [hy]; exact hc⟩
    have NO := Lib.hid no
    clear no
    obtain ⟨t, ht⟩ : ∃ t, (N (pl * 4 + x.1)).2.2 = t := ⟨_, rfl⟩
    obtain ⟨r0, hr0⟩ : ∃ r, (N (pl * 4 + x.1)).1 = r := ⟨_, rfl⟩
    have HT := Lib.hid ht
    have HR0 := Lib.hid hr0
    rw [ht] at c2 t0 t1
    rw [hr0] at c0
    clear ht hr0
    obtain ⟨nI, hnI⟩ : ∃ n, (pl : Int) * 4 + x.1 = n := ⟨_, rfl⟩
    have hn0 : 0 ≤ nI := by omega
    have hn1 : nI < 32 := by omega
    have hnN : ((pl * 4 + x.1 : Nat) : Int) = nI := by omega
    have HNI := Lib.hid hnI
    have HNN := Lib.hid hnN
    dsimp only
    rw [hnI]
    by_cases hz : pl * 4 + x.1 = 0
    · have z1 : (nI == 0) = true := beq_iff_eq.2 (by omega)
      clear hnI hnN
      have hc : condA N (pl * 4 + x.1) = false := by simp [condA, hz]
      have HC := Lib.hid hc
      clear hc hz
      gi_wp2
      exact NO.out HC.out
    · have z1 : (nI == 0) = false := beq_eq_false_iff_ne.2 (by omega)
      clear hnI hnN
      by_cases hr : r0 = 0
      rotate_left
      · have hc : condA N (pl * 4 + x.1) = false := by simp [condA, HR0.out, hr]
        have HC := Lib.hid hc
        clear hc hz
        gi_wp2
        exact NO.out HC.out
      · subst hr
        by_cases hb2 : 16777215 < nI + 32 * t
        · have hc : condA N (pl * 4 + x.1) = false := by unfold condA; rw [HNN.out, HT.out, decide_eq_false (by omega)]; simp
          have HC := Lib.hid hc
          clear hc hz
          gi_wp2
          exact NO.out HC.out
        · have hc : condA N (pl * 4 + x.1) = true := by
            unfold condA
            rw [HNN.out, HT.out, HR0.out, decide_eq_true (by omega), show (pl * 4 + x.1 != 0) = true from bne_iff_ne.2 hz]
            rfl
          have HC := Lib.hid hc
          clear hc hz
          gi_wp2
          refine ⟨?_, rfl, ⟨pre, x, rfl, HPRE.out, HC.out, ?_, ?_, ?_, ?_⟩, ?_, ?_⟩
          · (repeat (first | with_reducible exact KeepsOthers.refl _ | with_reducible refine KeepsOthers.step_drew ?_ | with_reducible refine KeepsOthers.step_set ?_ _ _))
          · have e : stepN N (pl * 4 + x.1) root = fun m => if m = pl * 4 + x.1 then (root, nI + 32 * t, t + 1) else N m := by
              unfold stepN
              rw [HNN.out, HT.out]
            rw [e]
            exact (((asid_set HAW.out hn32 root (nI + 32 * t) (t + 1)).far (by simp; omega) _).far (by simp; omega) _).far (by simp; omega) _
          · rw [HNI.out]; go_simp
          · rw [HNI.out, HT.out]; go_simp
          · go_simp
          · have := hBW.size; simpa using this
          · have E := env3 (env3 (env3 (env3 (env3 (env3 (W := W) (A := wA) ⟨hBW.os, hBW.tape, hBW.output⟩ ⟨b, 9 + (pl * 4 + x.1) * 3, none⟩ (.int .i64 root)) ⟨b, 9 + (pl * 4 + x.1) * 3 + 1, none⟩ (.int .i64 (nI + 32 * t))) ⟨b, 9 + (pl * 4 + x.1) * 3 + 2, none⟩ (.int .i64 (t + 1))) ⟨w2.heap.size, 0, none⟩ (.int .i64 nI)) ⟨w2.heap.size + 1, 0, none⟩ (.int .i64 (nI + 32 * t))) ⟨w2.heap.size + 1 + 1, 0, none⟩ (.int .i64 0)
            refine ⟨E.1, E.2.1, E.2.2, fun k hk k1 k2 k3 k4 => ?_⟩
            rw [Go.heap_setCell_other _ _ _ _ (by simp; omega), Go.heap_setCell_other _ _ _ _ (by simp; omega), Go.heap_setCell_other _ _ _ _ (by simp; omega), Go.heap_setCell_other _ _ _ _ (by simp; omega), Go.heap_setCell_other _ _ _ _ (by simp; omega), Go.heap_setCell_other _ _ _ _ (by simp; omega)]
            exact hBW.block k hk
  case hdone =>
    rintro D xs W hD rfl ⟨hBW, hpre⟩ hK
    have d0 : W.cell? ⟨w2.heap.size, 0, none⟩ = some (.int .i64 0) := (hBW.cell (p := ⟨w2.heap.size, 0, none⟩) (by simp; omega)).trans e0.1
    have d1 : W.cell? ⟨w2.heap.size + 1, 0, none⟩ = some (.int .i64 0) := (hBW.cell (p := ⟨w2.heap.size + 1, 0, none⟩) (by simp; omega)).trans e1.1
    have d2 : W.cell? ⟨w2.heap.size + 2, 0, none⟩ = some (.int .i64 11) := (hBW.cell (p := ⟨w2.heap.size + 2, 0, none⟩) (by simp; omega)).trans e2.1
    have hAW := hA1.call hBW
    have htk : takeF N pl root = ((0, 0, 11), N) := take_no fun j hj => hpre ⟨j, hj⟩ ((fst4_mem 4 _).2 hj)
    have HTK := Lib.hid htk
    have HAW := Lib.hid hAW
    have BO := Lib.hid ((BlkOnly.of_below (b := b) hBw).call hBW)
    clear htk hAW hpre
    gi_wp2
    gi_region
    all_goals
      gi_wp2
      rw [Exit.noGoto_ret]
      refine ⟨by simp, .inl ⟨_, _, rfl, run_takeDeferred hK, ?_⟩⟩
      exact ⟨_, results_tmp3 rfl _ _ _, (by rw [HTK.out]; rfl), (by rw [HTK.out]; exact HAW.out.of_block (by simp) (heap_putObj_ne (by omega))), BO.out.drew.put (by have := hBw.size; omega)⟩
  case hstop =>
    rintro D c pre W hD ⟨k, hk, hpre⟩ ⟨rfl, ⟨p, x, h1, h2, h3, h4, h5, h6, h7⟩, hsz2, ho1, ho2, ho3, ho4⟩ hK
    obtain ⟨rfl, hx⟩ := List.append_inj' (h1.symm.trans hpre) rfl
    obtain rfl : x = ⟨k, hk⟩ := by simpa using hx
    have htk := take_yes (root := root) hk h3 (fun j hj => h2 ⟨j, by omega⟩ ((fst4_mem k _).2 hj))
    have HTK := Lib.hid htk
    have HAW := Lib.hid h4
    have BO : Hid (BlkOnly b w W) := Lib.hid ⟨ho1.trans hBw.os, ho2.trans hBw.tape, ho3.trans hBw.output, Nat.le_trans hBw.size hsz2, fun j hj hne => (ho4 j (by omega) hne (by omega) (by omega) (by omega)).trans (hBw.block j hj)⟩
    simp only at h5 h6 h7
    clear htk h4 h2 h3 ho1 ho2 ho3 ho4
    gi_wp2
    gi_region
    all_goals
      gi_wp2
      rw [Exit.noGoto_ret]
      refine ⟨by simp, .inl ⟨_, _, rfl, run_takeDeferred hK, ?_⟩⟩
      exact ⟨_, results_tmp3 rfl _ _ _, (by rw [HTK.out]; rfl), (by rw [HTK.out]; exact HAW.out.of_block (by simp) (heap_putObj_ne (by omega))), BO.out.drew.put (by have := hBw.size; omega)⟩
end Go.Proofs.Ytfladcnkphcicaa
