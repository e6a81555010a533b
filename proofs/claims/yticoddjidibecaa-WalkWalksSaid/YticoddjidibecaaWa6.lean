/- package walk: Depth, over whatever At tells. -/
import Derived.Test.YticoddjidibecaaWa4
namespace Go.Proofs.Yticoddjidibecaa
set_option linter.unusedVariables false
set_option linter.unusedSimpArgs false
open Go.ChangeShapes Go.WideShapes Go.ChangeAt Go.RowKit Go.Shelf
attribute [local go_sem] Oper.semAt_some

/-- The greatest level to which all codes are 0. -/
def depthN (A : Int → Int × Int) : Int := if (A 1).2 ≠ 0 then 0 else if (A 2).2 ≠ 0 then 1 else if (A 3).2 ≠ 0 then 2 else 3
def lastL (pre : List (Fin 3)) : Int := pre.foldl (fun _ x => (x.1 : Int) + 1) 0
theorem lastL_snoc (pre : List (Fin 3)) (x : Fin 3) : lastL (pre ++ [x]) = (x.1 : Int) + 1 := by unfold lastL; rw [List.foldl_append]; rfl
/-- One block may be other. -/
structure But1 (B : Nat) (wA W : World) : Prop where
  os : W.os = wA.os
  tape : W.tape = wA.tape
  output : W.output = wA.output
  size : wA.heap.size ≤ W.heap.size
  block : ∀ k, k < wA.heap.size → k ≠ B → W.heap[k]? = wA.heap[k]?
theorem But1.refl (B : Nat) (w : World) : But1 B w w := ⟨rfl, rfl, rfl, Nat.le_refl _, fun _ _ _ => rfl⟩
theorem But1.call {B : Nat} {a b c : World} (h : But1 B a b) (k : Below b.heap.size b c) : But1 B a c := ⟨k.os.trans h.os, k.tape.trans h.tape, k.output.trans h.output, Nat.le_trans h.size k.size, fun i hi h1 => (k.block i (Nat.lt_of_lt_of_le hi h.size)).trans (h.block i hi h1)⟩
theorem But1.set {B j : Nat} {a b : World} (h : But1 B a b) (v : Value) : But1 B a (b.setCell ⟨B, j, none⟩ v) :=
  ⟨h.os, h.tape, h.output, by simpa using h.size, fun k hk h1 => (Go.heap_setCell_other _ _ _ _ h1).trans (h.block k hk h1)⟩
theorem But1.grown {B : Nat} {a b c : World} {row : Option Nat} (h : But1 B a b) (hg : b.grownBy c row) (hr : ∀ r, row = some r → a.heap.size ≤ r) : But1 B a c :=
  ⟨hg.os.trans h.os, hg.tape.trans h.tape, hg.output.trans h.output, Nat.le_trans h.size hg.size, fun k hk h1 => (hg.block k (Nat.lt_of_lt_of_le hk h.size) (fun e => by have := hr k e.symm; omega)).trans (h.block k hk h1)⟩
theorem But1.below {B D : Nat} {a b : World} (h : But1 B a b) (hD : D ≤ B) (hs : D ≤ a.heap.size) : Below D a b := ⟨h.os, h.tape, h.output, h.size, fun k hk => h.block k (by omega) (by omega)⟩
structure DepI (wA : World) (B : Nat) (A : Int → Int × Int) (pre : List (Fin 3)) (W : World) : Prop where
  cell : W.cell? ⟨B, 0, none⟩ = some (.int .i64 (lastL pre))
  free : W.frozen? ⟨B, 0, none⟩ = false
  ok : ∀ y ∈ pre, (A ((y.1 : Int) + 1)).2 = 0
  but : But1 B wA W
structure DepX (wA : World) (B : Nat) (A : Int → Int × Int) (c : Code) (pre : List (Fin 3)) (W : World) : Prop where
  c : c = .exit 0
  at_ : ∃ q x, pre = q ++ [x] ∧ W.cell? ⟨B, 0, none⟩ = some (.int .i64 (lastL q)) ∧ (∀ y ∈ q, (A ((y.1 : Int) + 1)).2 = 0) ∧ (A ((x.1 : Int) + 1)).2 ≠ 0
  but : But1 B wA W
theorem DepI.from {wA : World} {B : Nat} {A : Int → Int × Int} (hB : B < wA.heap.size) : OwnFrom wA.heap.size (DepI wA B A) := by
  intro s X C row h hg hr
  have e : ∀ k, k < wA.heap.size → C.heap[k]? = X.heap[k]? := fun k hk => hg.block k (Nat.lt_of_lt_of_le hk h.but.size) (fun e => by have := (hr k e.symm).1; omega)
  exact ⟨(cell_of_block (e _ hB)).trans h.cell, (frozen_of_block (e _ hB)).trans h.free, h.ok, h.but.grown hg (fun r e => (hr r e).1)⟩
theorem DepX.from {wA : World} {B : Nat} {A : Int → Int × Int} (hB : B < wA.heap.size) (c : Code) : OwnFrom wA.heap.size (DepX wA B A c) := by
  intro s X C row h hg hr
  have e : ∀ k, k < wA.heap.size → C.heap[k]? = X.heap[k]? := fun k hk => hg.block k (Nat.lt_of_lt_of_le hk h.but.size) (fun e => by have := (hr k e.symm).1; omega)
  obtain ⟨q, x, h1, h2, h3, h4⟩ := h.at_
  exact ⟨h.c, ⟨q, x, h1, (cell_of_block (e _ hB)).trans h2, h3, h4⟩, h.but.grown hg (fun r e => (hr r e).1)⟩
theorem mem3 : ∀ k, k ≤ 3 → ∀ y : Fin 3, y.1 < k → y ∈ frs 3 k := by decide
theorem last3 : ∀ k, k ≤ 3 → lastL (frs 3 k) = k := by decide
set_option maxRecDepth 100000 in
set_option maxHeartbeats 2000000 in
theorem depth_in (w : World) (mp : Option Addr) (r p : Int) (A : Int → Int × Int)
    (hA : ∀ W l, Below w.heap.size w W → 1 ≤ l → l ≤ 3 → Calls Try.prog 9 #[.pointer mp, .int .i64 r, .int .i64 p, .int .i64 l] W fun e w' => e = .returned (.tuple #[.int .u64 (A l).1, .int .i64 (A l).2]) ∧ Below W.heap.size W w') :
    CallsIn Fence.wide 3 Try.prog 12 #[.pointer mp, .int .i64 r, .int .i64 p] w fun e w' => e = .returned (.int .i64 (depthN A)) ∧ Below w.heap.size w w' := by
  have HA := Lib.hid hA
  clear hA
  refine callsIn_of_wp_marks Try.func12 rfl trivial ?_ rfl
  simp only [Try.ntmps12, List.size_toArray, List.length_cons, List.length_nil, Nat.reduceAdd, Nat.reduceSub, Array.replicate_succ, Array.replicate_zero, List.push_toArray, List.append_toArray, List.nil_append, List.cons_append]
  gi_wp2_with (refine ⟨trivial, ?_⟩; first
    | (gi_at_call 26; refine (levels_in _ _ _ _).mono ?_; rintro e w3 ⟨rfl, rfl⟩))
  obtain ⟨wA, hwA⟩ : ∃ x, x = ((((((w.alloc (.cells #[.pointer mp] 24)).alloc (.cells #[.int .i64 r] 3)).alloc (.cells #[.int .i64 p] 3)).alloc (.cells #[.int .i64 0] 3)).alloc (.cells #[.int .i64 p] 3)).alloc (.cells #[.int .i64 3] 3)) := ⟨_, rfl⟩
  rw [← hwA]
  have hsz : wA.heap.size = w.heap.size + 6 := by rw [hwA]; simp
  have hBw : Below w.heap.size w wA := hwA ▸ bal (bal (bal (bal (bal (bal (Below.refl _ _) _) _) _) _) _) _
  have e0 : wA.cell? ⟨w.heap.size, 0, none⟩ = some (.pointer mp) := by rw [hwA]; go_simp
  have e1 : wA.cell? ⟨w.heap.size + 1, 0, none⟩ = some (.int .i64 r) := by rw [hwA]; go_simp
  have e2 : wA.cell? ⟨w.heap.size + 2, 0, none⟩ = some (.int .i64 p) := by rw [hwA]; go_simp
  have e3 : wA.cell? ⟨w.heap.size + 3, 0, none⟩ = some (.int .i64 0) ∧ wA.frozen? ⟨w.heap.size + 3, 0, none⟩ = false := by constructor <;> (rw [hwA]; go_simp; try rfl)
  have e4 : wA.cell? ⟨w.heap.size + 4, 0, none⟩ = some (.int .i64 p) := by rw [hwA]; go_simp
  have e5 : wA.cell? ⟨w.heap.size + 5, 0, none⟩ = some (.int .i64 ((3 : Nat) : Int)) := by rw [hwA]; go_simp; try rfl
  clear hwA
  refine wpIn_rangeFunc_ownF (α := Fin 3) rfl (by decide) (gf := 37) (lb := #[.pointer (some ⟨w.heap.size + 1 + 1 + 1 + 1 + 1, 0, none⟩), .pointer (some ⟨w.heap.size + 1 + 1 + 1 + 1, 0, none⟩)]) rfl trivial (enters_of Try.func37 (by kernel_rfl) rfl)
    (encs := encL p 3) (Kp := KpL (w.heap.size + 4) (w.heap.size + 5)) (S := fun xs => xs = frs 3 3) (Sp := fun pre => ∃ k, ∃ h : k < 3, pre = frs 3 k ++ [⟨k, h⟩]) (N := 3) (w0 := wA) (levels1_seq 1 (w.heap.size + 4) (w.heap.size + 5) 3 p (Nat.le_refl _) wA e4 e5 (by omega) (by omega))
    (fun h k => h.trans k) ?hKb (Below.refl _ _) (fun _ => rfl) (DepI wA (w.heap.size + 3) A) (DepX wA (w.heap.size + 3) A) (DepI.from (by omega)) (fun c => DepX.from (by omega) c) ⟨e3.1, e3.2, (fun _ h => by cases h), But1.refl _ _⟩
    (fun x => { tmps := #[.pointer mp, .int .i64 r, .int .i64 p, .pointer (some ⟨w.heap.size, 0, none⟩), .pointer (some ⟨w.heap.size + 1, 0, none⟩), .pointer (some ⟨w.heap.size + 1 + 1, 0, none⟩), .int .i64 0, .pointer (some ⟨w.heap.size + 1 + 1 + 1, 0, none⟩), .int .i64 ((x.1 : Int) + 1), undef, undef, .int .i64 p, .func (.func 37) #[] #[.pointer (some ⟨w.heap.size + 1 + 1 + 1 + 1 + 1, 0, none⟩), .pointer (some ⟨w.heap.size + 1 + 1 + 1 + 1, 0, none⟩)], .int .i64 ((x.1 : Int) + 1), .int .i64 (idxV p ((x.1 : Int) + 1)), undef, undef, undef, undef, undef, undef, undef, undef, undef, undef, undef, undef], defers := [] }) ?hassign ?hbody ?hdone ?hstop
  case hKb =>
    intro W l o o' hl ho _ _
    exact ⟨heap_putObj_ne (by omega), heap_putObj_ne (by omega), by simp⟩
  case hassign =>
    intro l x W K hK
    gi_wp2
    exact hK
  case hbody =>
    rintro l pre x W ⟨c3, f3, hok, hB⟩ hlen
    have hx := x.2
    have hsW : w.heap.size + 5 < W.heap.size := by have := hB.size; omega
    have c0 : W.cell? ⟨w.heap.size, 0, none⟩ = some (.pointer mp) := (cell_of_block (hB.block _ (by omega) (by omega))).trans e0
    have c1 : W.cell? ⟨w.heap.size + 1, 0, none⟩ = some (.int .i64 r) := (cell_of_block (hB.block _ (by omega) (by omega))).trans e1
    have c2 : W.cell? ⟨w.heap.size + 2, 0, none⟩ = some (.int .i64 p) := (cell_of_block (hB.block _ (by omega) (by omega))).trans e2
    have hBW : Below w.heap.size w W := hBw.trans (hB.below (by omega) (by omega))
    have HC := Lib.hid (HA.out W ((x.1 : Int) + 1) hBW (by omega) (by omega))
    have HB := Lib.hid hB
    have HOK := Lib.hid hok
    obtain ⟨⟨a, cd⟩, hac⟩ : ∃ z, A ((x.1 : Int) + 1) = z := ⟨_, rfl⟩
    have HAC := Lib.hid hac
    clear hB hok hac hBW e0 e1 e2 e3 e4 e5
    by_cases hz : cd = 0
    · subst hz
      gi_wp2_with (refine ⟨trivial, ?_⟩; gi_at_call 9; refine (callsIn_wide.2 HC.out).mono ?_; rw [HAC.out]; rintro e w1 ⟨rfl, hb1⟩; obtain ⟨hc1, hf1⟩ := bcell hb1; have k3 : w1.cell? ⟨w.heap.size + 3, 0, none⟩ = some (.int .i64 (lastL pre)) := ((hc1 _ _ (by omega)).trans c3); have kf3 : w1.frozen? ⟨w.heap.size + 3, 0, none⟩ = false := ((hf1 _ _ (by omega)).trans f3); have hs1 := hb1.size)
      refine ⟨KeepsOthers.step_set (KeepsOthers.step_below (KeepsOthers.refl _) hb1) _ _, ⟨?_, ?_, ?_⟩, ?_, ?_, ?_, ?_⟩
      · exact (Go.heap_setCell_other _ _ _ _ (by simp)).trans (hb1.block _ (by omega))
      · exact (Go.heap_setCell_other _ _ _ _ (by simp)).trans (hb1.block _ (by omega))
      · simpa using hs1
      · rw [lastL_snoc]; simp [go_sem, k3]
      · simp [go_sem, kf3]
      · intro y hy
        rcases List.mem_append.1 hy with hy | hy
        · exact HOK.out y hy
        · rw [List.mem_singleton] at hy
          rw [hy, HAC.out]
      · exact (HB.out.call hb1).set _
    · have hz' : (cd == 0) = false := beq_eq_false_iff_ne.2 hz
      have HZ := Lib.hid hz
      clear hz
      gi_wp2_with (refine ⟨trivial, ?_⟩; gi_at_call 9; refine (callsIn_wide.2 HC.out).mono ?_; rw [HAC.out]; rintro e w1 ⟨rfl, hb1⟩; obtain ⟨hc1, hf1⟩ := bcell hb1; have k3 : w1.cell? ⟨w.heap.size + 3, 0, none⟩ = some (.int .i64 (lastL pre)) := ((hc1 _ _ (by omega)).trans c3))
      exact ⟨KeepsOthers.step_below (KeepsOthers.refl _) hb1, rfl, ⟨pre, x, rfl, k3, HOK.out, by rw [HAC.out]; exact HZ.out⟩, HB.out.call hb1⟩
  case hdone =>
    rintro D xs W hD rfl ⟨c3, f3, hok, hB⟩ hK
    have hd : depthN A = 3 := by
      unfold depthN
      have h0 := hok ⟨0, by decide⟩ (mem3 3 (by decide) _ (by decide))
      have h1 := hok ⟨1, by decide⟩ (mem3 3 (by decide) _ (by decide))
      have h2 := hok ⟨2, by decide⟩ (mem3 3 (by decide) _ (by decide))
      simp at h0 h1 h2
      simp [h0, h1, h2]
    rw [show lastL (frs 3 3) = 3 from last3 3 (by decide)] at c3
    have HD := Lib.hid hd
    have HBW := Lib.hid (hBw.trans (hB.below (by omega) (by omega)))
    clear hd hok hB e0 e1 e2 e3 e4 e5 hBw
    gi_wp2
    refine ⟨by simp, .inl ⟨_, _, rfl, run_takeDeferred hK, ?_⟩⟩
    exact ⟨_, results_tmp rfl _ _ _, (by rw [HD.out]; rfl), ⟨HBW.out.os, HBW.out.tape, HBW.out.output, by simpa using HBW.out.size, fun k hk => (heap_putObj_ne (by omega)).trans (HBW.out.block k hk)⟩⟩
  case hstop =>
    rintro D c pre W hD ⟨k, hk, hpre⟩ ⟨rfl, ⟨q, x, h1, c3, hok, hne⟩, hB⟩ hK
    obtain ⟨rfl, hx⟩ := List.append_inj' (h1.symm.trans hpre) rfl
    obtain rfl : x = ⟨k, hk⟩ := by simpa using hx
    rw [last3 k (by omega)] at c3
    have hd : depthN A = k := by
      have h0 : ∀ j, j < k → (A ((j : Int) + 1)).2 = 0 := fun j hj => hok ⟨j, by omega⟩ (mem3 k (by omega) _ hj)
      simp only at hne
      unfold depthN
      obtain rfl | rfl | rfl : k = 0 ∨ k = 1 ∨ k = 2 := by omega
      · simp at hne
        simp [hne]
      · have a0 := h0 0 (by decide)
        simp at hne a0
        simp [hne, a0]
      · have a0 := h0 0 (by decide)
        have a1 := h0 1 (by decide)
        simp at hne a0 a1
        simp [hne, a0, a1]
    have HD := Lib.hid hd
    have HBW := Lib.hid (hBw.trans (hB.below (by omega) (by omega)))
    clear hd hok hne hB e0 e1 e2 e3 e4 e5 hBw
    gi_wp2
    refine ⟨by simp, .inl ⟨_, _, rfl, run_takeDeferred hK, ?_⟩⟩
    exact ⟨_, results_tmp rfl _ _ _, (by rw [HD.out]; rfl), ⟨HBW.out.os, HBW.out.tape, HBW.out.output, by simpa using HBW.out.size, fun k hk => (heap_putObj_ne (by omega)).trans (HBW.out.block k hk)⟩⟩
end Go.Proofs.Yticoddjidibecaa
