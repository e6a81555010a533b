/- package walk: At. -/
import Derived.Test.YtgfidbjhihignaaWa2
import Derived.RangeFuncNested
import Derived.RangeFuncBound
import Derived.RangeFuncCalls
import Derived.RangeFuncFrom
import Derived.RangeFuncLeaves
namespace Go.Proofs.Ytgfidbjhihignaa
set_option linter.unusedVariables false
set_option linter.unusedSimpArgs false
open Go.ChangeShapes Go.WideShapes Go.ChangeAt Go.RowKit Go.Shelf
attribute [local go_sem] Oper.semAt_some
/-- Where the descent ends: so many levels are left, on level l, at table t. -/
def descF (n : Nat) (m : Nat → Int) (p : Int) : Nat → Nat → Nat → Int × Int
  | 0, l, t => (64 * (t : Int) + 8 * indexN p l, 0)
  | left + 1, l, t => if nextC n (m (8 * t + (indexN p l).toNat)).toNat = 0 then descF n m p left (l + 1) ((m (8 * t + (indexN p l).toNat)).toNat / 256 % 64) else (0, nextC n (m (8 * t + (indexN p l).toNat)).toNat)
/-- The entry's word that level x + 1 reads in table t. -/
def wordT (m : Nat → Int) (p : Int) (t x : Nat) : Nat := (m (8 * t + (indexN p ((x : Int) + 1)).toNat)).toNat
/-- The levels that were passed, and the table that they lead to. -/
inductive PathL (n : Nat) (m : Nat → Int) (p : Int) (r L : Nat) : List (Fin L) → Nat → Prop
  | nil : PathL n m p r L [] r
  | snoc {pre : List (Fin L)} {t : Nat} {x : Fin L} : PathL n m p r L pre t → nextC n (wordT m p t x.1) = 0 → x.1 + 1 ≠ L → PathL n m p r L (pre ++ [x]) (wordT m p t x.1 / 256 % 64)
theorem PathL.nil_inv {n : Nat} {m : Nat → Int} {p : Int} {r L : Nat} {q : List (Fin L)} {t : Nat} (h : PathL n m p r L q t) (e : q = []) : t = r := by
  cases h with
  | nil => rfl
  | snoc _ _ _ => simp at e
theorem PathL.snoc_inv {n : Nat} {m : Nat → Int} {p : Int} {r L : Nat} {q : List (Fin L)} {t : Nat} (h : PathL n m p r L q t) {pre : List (Fin L)} {x : Fin L} (e : q = pre ++ [x]) : ∃ t', PathL n m p r L pre t' ∧ nextC n (wordT m p t' x.1) = 0 ∧ x.1 + 1 ≠ L ∧ t = wordT m p t' x.1 / 256 % 64 := by
  cases h with
  | nil => simp at e
  | snoc h1 h2 h3 =>
    obtain ⟨rfl, e2⟩ := List.append_inj' e rfl
    obtain rfl : _ = x := by simpa using e2
    exact ⟨_, h1, h2, h3, rfl⟩
theorem desc_path {n : Nat} {m : Nat → Int} {p : Int} {r L : Nat} : ∀ (k t : Nat), k < L → PathL n m p r L (frs L k) t → descF n m p (L - 1) 1 r = descF n m p (L - 1 - k) (k + 1) t := by
  intro k
  induction k with
  | zero =>
    intro t hk h
    obtain rfl := h.nil_inv (by simp [frs])
    rfl
  | succ k ih =>
    intro t hk h
    rw [frs_succ (by omega)] at h
    obtain ⟨t', h1, h2, h3, rfl⟩ := h.snoc_inv rfl
    rw [ih t' (by omega) h1]
    obtain ⟨j, hj⟩ : ∃ j, L - 1 - k = j + 1 := ⟨L - 1 - k - 1, by omega⟩
    have hj2 : L - 1 - (k + 1) = j := by omega
    rw [hj, hj2]
    show (if nextC n (wordT m p t' k) = 0 then _ else _) = _
    rw [if_pos h2]
    rfl
/-- Where the loop is left, at level x + 1 and table t. -/
def leftF (n : Nat) (m : Nat → Int) (p : Int) (L t x : Nat) : Int × Int := if x + 1 = L then (64 * (t : Int) + 8 * indexN p ((x : Int) + 1), 0) else (0, nextC n (wordT m p t x))
theorem desc_left {n : Nat} {m : Nat → Int} {p : Int} {r L : Nat} {k t : Nat} (hk : k < L) (h : PathL n m p r L (frs L k) t) (hc : k + 1 ≠ L → nextC n (wordT m p t k) ≠ 0) : leftF n m p L t k = descF n m p (L - 1) 1 r := by
  rw [desc_path k t hk h]
  unfold leftF
  by_cases e : k + 1 = L
  · rw [if_pos e, show L - 1 - k = 0 by omega]
    rfl
  · rw [if_neg e]
    obtain ⟨j, hj⟩ : ∃ j, L - 1 - k = j + 1 := ⟨L - 1 - k - 1, by omega⟩
    rw [hj]
    show _ = (if nextC n (wordT m p t k) = 0 then _ else _)
    rw [if_neg (hc e)]
    rfl
/-- What stays beside the three boxes from B on. -/
structure But3 (B : Nat) (wA W : World) : Prop where
  os : W.os = wA.os
  tape : W.tape = wA.tape
  output : W.output = wA.output
  size : wA.heap.size ≤ W.heap.size
  block : ∀ k, k < wA.heap.size → k ≠ B → k ≠ B + 1 → k ≠ B + 2 → W.heap[k]? = wA.heap[k]?
theorem But3.refl (B : Nat) (w : World) : But3 B w w := ⟨rfl, rfl, rfl, Nat.le_refl _, fun _ _ _ _ _ => rfl⟩
theorem But3.call {B : Nat} {a b c : World} (h : But3 B a b) (k : Below b.heap.size b c) : But3 B a c := ⟨k.os.trans h.os, k.tape.trans h.tape, k.output.trans h.output, Nat.le_trans h.size k.size, fun i hi h1 h2 h3 => (k.block i (Nat.lt_of_lt_of_le hi h.size)).trans (h.block i hi h1 h2 h3)⟩
theorem But3.set {B d j : Nat} {a b : World} (h : But3 B a b) (hd : d = B ∨ d = B + 1 ∨ d = B + 2) (v : Value) : But3 B a (b.setCell ⟨d, j, none⟩ v) :=
  ⟨h.os, h.tape, h.output, by simpa using h.size, fun k hk h1 h2 h3 => (Go.heap_setCell_other _ _ _ _ (by simp; omega)).trans (h.block k hk h1 h2 h3)⟩
theorem But3.grown {B : Nat} {a b c : World} {row : Option Nat} (h : But3 B a b) (hg : b.grownBy c row) (hr : ∀ r, row = some r → a.heap.size ≤ r) : But3 B a c :=
  ⟨hg.os.trans h.os, hg.tape.trans h.tape, hg.output.trans h.output, Nat.le_trans h.size hg.size, fun k hk h1 h2 h3 => (hg.block k (Nat.lt_of_lt_of_le hk h.size) (fun e => by have := hr k e.symm; omega)).trans (h.block k hk h1 h2 h3)⟩
theorem But3.below {B D : Nat} {a b : World} (h : But3 B a b) (hD : D ≤ B) (hs : D ≤ a.heap.size) : Below D a b := ⟨h.os, h.tape, h.output, h.size, fun k hk => h.block k (by omega) (by omega) (by omega) (by omega)⟩
theorem But3.mem {B b g n c : Nat} {m : Nat → Int} {a d : World} (h : But3 B a d) (hA : MemAt a b g n c m) (h1 : b < B) (h2 : g < B) : MemAt d b g n c m := hA.of_blocks h.size (h.block b hA.lb (by omega) (by omega) (by omega)) (h.block g hA.lg (by omega) (by omega) (by omega))
structure Open3 (B : Nat) (W : World) : Prop where
  f0 : W.frozen? ⟨B, 0, none⟩ = false
  f1 : W.frozen? ⟨B + 1, 0, none⟩ = false
  f2 : W.frozen? ⟨B + 2, 0, none⟩ = false
/-- What holds where a round goes on. -/
structure AtI (wA : World) (B n : Nat) (m : Nat → Int) (p : Int) (r L : Nat) (pre : List (Fin L)) (W : World) : Prop where
  at_ : ∃ t : Nat, PathL n m p r L pre t ∧ t < n ∧ W.cell? ⟨B, 0, none⟩ = some (.int .i64 t)
  addr : ∃ a, W.cell? ⟨B + 1, 0, none⟩ = some (.int .u64 a)
  code : W.cell? ⟨B + 2, 0, none⟩ = some (.int .i64 0)
  open3 : Open3 B W
  but : But3 B wA W
/-- What holds where the loop is left. -/
structure AtX (wA : World) (B n : Nat) (m : Nat → Int) (p : Int) (r L : Nat) (c : Code) (pre : List (Fin L)) (W : World) : Prop where
  c : c = .exit 0
  at_ : ∃ q x t, pre = q ++ [x] ∧ PathL n m p r L q t ∧ (x.1 + 1 ≠ L → nextC n (wordT m p t x.1) ≠ 0) ∧ W.cell? ⟨B + 1, 0, none⟩ = some (.int .u64 (leftF n m p L t x.1).1) ∧ W.cell? ⟨B + 2, 0, none⟩ = some (.int .i64 (leftF n m p L t x.1).2)
  but : But3 B wA W
theorem keep3 {B : Nat} {W w1 : World} {v x y : Value} (hb : Below (W.setCell ⟨B + 1, 0, none⟩ v).heap.size (W.setCell ⟨B + 1, 0, none⟩ v) w1) (hs : B + 4 < W.heap.size) (c0 : W.cell? ⟨B, 0, none⟩ = some x) {a : Value} (c1 : W.cell? ⟨B + 1, 0, none⟩ = some a) (c2 : W.cell? ⟨B + 2, 0, none⟩ = some y) (ho : Open3 B W) :
    w1.cell? ⟨B, 0, none⟩ = some x ∧ w1.cell? ⟨B + 1, 0, none⟩ = some v ∧ w1.cell? ⟨B + 2, 0, none⟩ = some y ∧ w1.frozen? ⟨B, 0, none⟩ = false ∧ w1.frozen? ⟨B + 1, 0, none⟩ = false ∧ w1.frozen? ⟨B + 2, 0, none⟩ = false ∧ B + 4 < w1.heap.size := by
  obtain ⟨hc, hf⟩ := bcell hb
  have e : (W.setCell ⟨B + 1, 0, none⟩ v).heap.size = W.heap.size := by simp
  refine ⟨?_, ?_, ?_, ?_, ?_, ?_, ?_⟩
  · rw [hc _ _ (by rw [e]; omega), World.cell?_setCell_other, c0]
    intro e; simp only [Addr.mk.injEq] at e; omega
  · rw [hc _ _ (by rw [e]; omega)]; simp [go_sem, c1]
  · rw [hc _ _ (by rw [e]; omega), World.cell?_setCell_other, c2]
    intro e; simp only [Addr.mk.injEq] at e; omega
  · rw [hf _ _ (by rw [e]; omega)]; simp [go_sem, ho.f0]
  · rw [hf _ _ (by rw [e]; omega)]; simp [go_sem, ho.f1]
  · rw [hf _ _ (by rw [e]; omega)]; simp [go_sem, ho.f2]
  · have := hb.size; rw [e] at this; omega
theorem next_lt {n x : Nat} (h : nextC n x = 0) : x / 256 % 64 < n := by
  unfold nextC at h
  split at h
  · rename_i h0
    unfold entC at h0
    split at h0
    · split at h0
      · split at h0
        · assumption
        · cases h0
      · cases h0
    · cases h0
  · rename_i h0
    exact absurd h h0
theorem AtI.from {wA : World} {B n : Nat} {m : Nat → Int} {p : Int} {r L : Nat} (hB : B + 2 < wA.heap.size) : OwnFrom wA.heap.size (AtI wA B n m p r L) := by
  intro s A C row h hg hr
  have e : ∀ k, k < wA.heap.size → C.heap[k]? = A.heap[k]? := fun k hk => hg.block k (Nat.lt_of_lt_of_le hk h.but.size) (fun e => by have := (hr k e.symm).1; omega)
  obtain ⟨t, h1, h2, h3⟩ := h.at_
  obtain ⟨a, ha⟩ := h.addr
  exact ⟨⟨t, h1, h2, (cell_of_block (e _ (by omega))).trans h3⟩, ⟨a, (cell_of_block (e _ (by omega))).trans ha⟩, (cell_of_block (e _ (by omega))).trans h.code, ⟨(frozen_of_block (e _ (by omega))).trans h.open3.f0, (frozen_of_block (e _ (by omega))).trans h.open3.f1, (frozen_of_block (e _ (by omega))).trans h.open3.f2⟩, h.but.grown hg (fun r e => (hr r e).1)⟩
theorem AtX.from {wA : World} {B n : Nat} {m : Nat → Int} {p : Int} {r L : Nat} (hB : B + 2 < wA.heap.size) (c : Code) : OwnFrom wA.heap.size (AtX wA B n m p r L c) := by
  intro s A C row h hg hr
  have e : ∀ k, k < wA.heap.size → C.heap[k]? = A.heap[k]? := fun k hk => hg.block k (Nat.lt_of_lt_of_le hk h.but.size) (fun e => by have := (hr k e.symm).1; omega)
  obtain ⟨q, x, t, h1, h2, h3, h4, h5⟩ := h.at_
  exact ⟨h.c, ⟨q, x, t, h1, h2, h3, (cell_of_block (e _ (by omega))).trans h4, (cell_of_block (e _ (by omega))).trans h5⟩, h.but.grown hg (fun r e => (hr r e).1)⟩
theorem wpIn_scope_wide {n : Nat} {P : Program} {c : Code} {Q : Exit → Act → World → Prop} {a : Act} {w : World} (h : c.wpIn Fence.wide n P (Exit.noGoto Q) a w) : (Code.scope c).wpIn Fence.wide n P Q a w :=
  wpIn_wide.2 (wp_scope_straight (wpIn_wide.1 h))
set_option maxRecDepth 100000 in
set_option maxHeartbeats 2000000 in
theorem at_in (w : World) (b g n c : Nat) (m : Nat → Int) (r L : Nat) (p : Int) (hM : MemAt w b g n c m) (hr : r < n) (p0 : 0 ≤ p) (p1 : p < 512) (l1 : 1 ≤ L) (l3 : L ≤ 3) :
    CallsIn Fence.wide 3 Try.prog 65 #[.pointer (some ⟨b, 0, none⟩), .int .i64 r, .int .i64 p, .int .i64 L] w fun e w' => e = .returned (.tuple #[.int .u64 (descF n m p (L - 1) 1 r).1, .int .i64 (descF n m p (L - 1) 1 r).2]) ∧ Below w.heap.size w w' := by
  have HM := Lib.hid hM
  have hb := hM.lb
  have hr' : (r : Int) < n := by omega
  have l1' : 1 ≤ (L : Int) := by omega
  have l3' : (L : Int) ≤ 3 := by omega
  have hix : 0 ≤ idxV p L := by
    unfold idxV
    rw [if_pos ⟨p0, p1⟩]
    exact (indexN_bd p L p0 p1).1
  have HL1 := Lib.hid l1
  have HL3 := Lib.hid l3
  have HR := Lib.hid hr
  clear hM l1 l3 hr
  refine callsIn_of_wp_marks Try.func65 rfl trivial ?_ rfl
  simp only [Try.ntmps65, List.size_toArray, List.length_cons, List.length_nil, Nat.reduceAdd, Nat.reduceSub, Array.replicate_succ, Array.replicate_zero, List.push_toArray, List.append_toArray, List.nil_append, List.cons_append]
  gi_wp2
  refine wpIn_scope_wide ?_
  gi_wp2_with (refine ⟨trivial, ?_⟩; first
    | (gi_at_call 32; refine (callsIn_wide.2 (frames_any _ b g n c m (HM.out.call (bal (bal (Below.refl _ _) _) _)))).mono ?_; rintro e w1 ⟨rfl, rfl⟩)
    | (gi_at_call 47; refine (callsIn_wide.2 (index_gen p L _ (by omega) (by omega))).mono ?_; rintro e w2 ⟨rfl, q, rfl⟩)
    | (gi_at_call 71; refine (levels_in _ _ _ _).mono ?_; rintro e w3 ⟨rfl, rfl⟩))
  refine wpIn_label ?_
  gi_wp2_with (refine ⟨trivial, ?_⟩; first
    | (gi_at_call 71; refine (levels_in _ _ _ _).mono ?_; rintro e w3 ⟨rfl, rfl⟩))
  obtain ⟨wA, hwA⟩ : ∃ x, x = (((((((w.alloc (.cells #[.pointer (some ⟨b, 0, none⟩)] 25)).alloc (.cells #[.int .i64 L] 3)).drewN q).alloc (.cells #[.int .i64 r] 3)).alloc (.cells #[.int .u64 0] 30)).alloc (.cells #[.int .i64 0] 34)).alloc (.cells #[.int .i64 p] 3)).alloc (.cells #[.int .i64 L] 3) := ⟨_, rfl⟩
  rw [← hwA]
  have hsz : wA.heap.size = w.heap.size + 7 := by rw [hwA]; simp
  have hBw : Below w.heap.size w wA := hwA ▸ bal (bal (bal (bal (bal (below_drewN (bal (bal (Below.refl _ _) _) _) q) _) _) _) _) _
  have e0 : wA.cell? ⟨w.heap.size + 2, 0, none⟩ = some (.int .i64 r) ∧ wA.frozen? ⟨w.heap.size + 2, 0, none⟩ = false := by constructor <;> (rw [hwA]; go_simp; try rfl)
  have e1 : wA.cell? ⟨w.heap.size + 3, 0, none⟩ = some (.int .u64 0) ∧ wA.frozen? ⟨w.heap.size + 3, 0, none⟩ = false := by constructor <;> (rw [hwA]; go_simp; try rfl)
  have e2 : wA.cell? ⟨w.heap.size + 4, 0, none⟩ = some (.int .i64 0) ∧ wA.frozen? ⟨w.heap.size + 4, 0, none⟩ = false := by constructor <;> (rw [hwA]; go_simp; try rfl)
  have e3 : wA.cell? ⟨w.heap.size + 5, 0, none⟩ = some (.int .i64 p) := by rw [hwA]; go_simp
  have e4 : wA.cell? ⟨w.heap.size + 6, 0, none⟩ = some (.int .i64 L) := by rw [hwA]; go_simp
  have e5 : wA.cell? ⟨w.heap.size, 0, none⟩ = some (.pointer (some ⟨b, 0, none⟩)) := by rw [hwA]; go_simp
  have e6 : wA.cell? ⟨w.heap.size + 1, 0, none⟩ = some (.int .i64 L) := by rw [hwA]; go_simp
  have hA1 := HM.out.call hBw
  have HA1 := Lib.hid hA1
  have hM64 : n ≤ 64 := HM.out.n64
  have hg1 := HM.out.lg
  clear hwA
  refine wpIn_rangeFunc_ownF (α := Fin L) rfl (by decide) (gf := 76) (lb := #[.pointer (some ⟨w.heap.size + 1 + 1 + 1 + 1 + 1 + 1, 0, none⟩), .pointer (some ⟨w.heap.size + 1 + 1 + 1 + 1 + 1, 0, none⟩)]) rfl trivial (enters_of Try.func76 (by kernel_rfl) rfl)
    (encs := encL p L) (Kp := KpL (w.heap.size + 5) (w.heap.size + 6)) (S := fun xs => xs = frs L L) (Sp := fun pre => ∃ k, ∃ h : k < L, pre = frs L k ++ [⟨k, h⟩]) (N := 3) (w0 := wA) (levels1_seq 1 (w.heap.size + 5) (w.heap.size + 6) L p HL3.out wA e3 e4 (by omega) (by omega))
    (fun h k => h.trans k) ?hKb (Below.refl _ _) (fun _ => rfl) (AtI wA (w.heap.size + 2) n m p r L) (AtX wA (w.heap.size + 2) n m p r L) (AtI.from (by omega)) (fun c => AtX.from (by omega) c) ⟨⟨r, .nil, HR.out, e0.1⟩, ⟨0, e1.1⟩, e2.1, ⟨e0.2, e1.2, e2.2⟩, But3.refl _ _⟩
    (fun x => { tmps := #[.pointer (some ⟨b, 0, none⟩), .int .i64 r, .int .i64 p, .int .i64 L, .pointer (some ⟨w.heap.size, 0, none⟩), undef, undef, .pointer (some ⟨w.heap.size + 1, 0, none⟩), .int .u64 0, .int .i64 0, .pointer (some ⟨w.heap.size + 1 + 1, 0, none⟩), .pointer (some ⟨w.heap.size + 1 + 1 + 1, 0, none⟩), .pointer (some ⟨w.heap.size + 1 + 1 + 1 + 1, 0, none⟩), .int .i64 ((x.1 : Int) + 1), .int .i64 (idxV p ((x.1 : Int) + 1)), .pointer (some ⟨b, 0, none⟩), .bool false, .int .i64 r, .bool (decide ((r : Int) < 0)), .bool (decide ((r : Int) < 0)), .int .i64 r, .pointer (some ⟨b, 0, none⟩), .int .i64 n, .bool false, .bool (decide ((r : Int) < 0)), .bool (decide ((r : Int) < 0)), .int .i64 p, .int .i64 L, .int .i64 (idxV p L), .bool (decide (idxV p L < 0)), .bool (decide ((r : Int) < 0) || decide (idxV p L < 0)), .int .i64 r, .int .i64 p, .int .i64 L, .func (.func 76) #[] #[.pointer (some ⟨w.heap.size + 1 + 1 + 1 + 1 + 1 + 1, 0, none⟩), .pointer (some ⟨w.heap.size + 1 + 1 + 1 + 1 + 1, 0, none⟩)], .int .i64 ((x.1 : Int) + 1), .int .i64 (idxV p ((x.1 : Int) + 1)), undef, undef, undef, undef, undef, undef, undef, undef, undef, undef, undef, undef, undef, undef, undef, undef, undef, undef, undef], defers := [] }) ?hassign ?hbody ?hdone ?hstop
  case hKb =>
    intro W l o o' hl ho _ _
    exact ⟨heap_putObj_ne (by omega), heap_putObj_ne (by omega), by simp⟩
  case hassign =>
    intro l x W K hK
    gi_wp2
    exact hK
  case hbody =>
    rintro l pre x W ⟨⟨t, hP, ht, c0⟩, ⟨a, c1⟩, c2, hO, hB⟩ hlen
    have hx := x.2
    have hsW : w.heap.size + 2 + 4 < W.heap.size := by have := hB.size; omega
    have hMW := hB.mem hA1 (by omega) (by omega)
    have cm : W.cell? ⟨w.heap.size, 0, none⟩ = some (.pointer (some ⟨b, 0, none⟩)) := (cell_of_block (hB.block _ (by omega) (by omega) (by omega) (by omega))).trans e5
    have cL : W.cell? ⟨w.heap.size + 1, 0, none⟩ = some (.int .i64 L) := (cell_of_block (hB.block _ (by omega) (by omega) (by omega) (by omega))).trans e6
    have g3 : W.heap[w.heap.size + 5]? = wA.heap[w.heap.size + 5]? := hB.block _ (by omega) (by omega) (by omega) (by omega)
    obtain ⟨f0, f1, f2⟩ := hO
    have hO : Hid (Open3 (w.heap.size + 2) W) := Lib.hid ⟨f0, f1, f2⟩
    obtain ⟨i0, i1⟩ := indexN_bd p ((x.1 : Int) + 1) p0 p1
    obtain ⟨i, hi⟩ : ∃ i, indexN p ((x.1 : Int) + 1) = i := ⟨_, rfl⟩
    have hiv : idxV p ((x.1 : Int) + 1) = i := by unfold idxV; rw [if_pos ⟨p0, p1⟩, hi]
    rw [hi] at i0 i1
    have hwt : wordT m p t x.1 = (m (8 * t + i.toNat)).toNat := by unfold wordT; rw [hi]
    have hlf : ∀ e, x.1 + 1 = L → e = 64 * (t : Int) + 8 * i → leftF n m p L t x.1 = (e, 0) := fun e h h2 => by unfold leftF; rw [if_pos h, hi, h2]
    have hlg : x.1 + 1 ≠ L → leftF n m p L t x.1 = (0, nextC n (wordT m p t x.1)) := fun h => by unfold leftF; rw [if_neg h]
    have HLF := Lib.hid hlf
    have HLG := Lib.hid hlg
    have HWT := Lib.hid hwt
    have HPP := Lib.hid hP
    have HB := Lib.hid hB
    have HMW := Lib.hid hMW
    have ht64 : (t : Int) < 64 := by have := hM64; omega
    have hk : 8 * t + i.toNat < 8 * n := by omega
    have HK := Lib.hid hk
    clear hlf hlg hwt hP hB hMW e0 e1 e2 e3 e4 e5 e6 hA1 hk
    dsimp only
    rw [hiv]
    clear hi hiv
    by_cases hxL : x.1 + 1 = L
    · have hxL' : (((x.1 : Int) + 1) == (L : Int)) = true := beq_iff_eq.2 (by omega)
      have HXL := Lib.hid hxL
      clear hxL
      gi_wp2
      refine ⟨?_, rfl, ⟨pre, x, t, rfl, HPP.out, fun e => absurd HXL.out e, ?_, ?_⟩, ?_⟩
      · exact KeepsOthers.step_set (KeepsOthers.refl _) _ _
      · rw [HLF.out _ HXL.out rfl]
        simp [go_sem, c1]
        try omega
      · rw [HLF.out _ HXL.out rfl]
        simp [go_sem, c2]
      · exact HB.out.set (.inr (.inl rfl)) _
    · have hxL' : (((x.1 : Int) + 1) == (L : Int)) = false := beq_eq_false_iff_ne.2 (by omega)
      have HXL := Lib.hid hxL
      clear hxL
      by_cases hc : nextC n (wordT m p t x.1) = 0
      · have HC := Lib.hid hc
        have HC2 : Hid (nextC n (m (8 * t + i.toNat)).toNat = 0) := Lib.hid (by rw [← HWT.out]; exact hc)
        obtain ⟨f, hf⟩ : ∃ f : Int, (((m (8 * t + i.toNat)).toNat / 256 % 64 : Nat) : Int) = f := ⟨_, rfl⟩
        have HF := Lib.hid hf
        clear hc hf
        gi_wp2_with (refine ⟨trivial, ?_⟩; gi_at_call 72; refine (callsIn_wide.2 (next_ok _ b g n c m (8 * t + i.toNat) _ ((HB.out.set (.inr (.inl rfl)) _).mem HA1.out (by omega) (by omega)) HK.out (by omega) HC2.out)).mono ?_; rw [HF.out]; rintro e w1 ⟨rfl, hb1⟩; obtain ⟨k0, k1, k2, kf0, kf1, kf2, hs1⟩ := keep3 (B := w.heap.size + 2) hb1 hsW c0 c1 c2 hO.out)
        have HB1 := Lib.hid ((HB.out.set (.inr (.inl rfl)) _).call hb1)
        have hfn := HF.out
        refine ⟨?_, ?_, ?_⟩
        · exact KeepsOthers.step_set (KeepsOthers.step_set (KeepsOthers.step_below (KeepsOthers.step_set (KeepsOthers.refl _) _ _) hb1) _ _) _ _
        · have h2 := (HB1.out.set (d := w.heap.size + 2) (j := 0) (.inl rfl) (.int .i64 f)).set (d := w.heap.size + 2 + 2) (j := 0) (.inr (.inr rfl)) (.int .i64 0)
          exact ⟨(h2.block _ (by omega) (by omega) (by omega) (by omega)).trans (HB.out.block _ (by omega) (by omega) (by omega) (by omega)).symm, (h2.block _ (by omega) (by omega) (by omega) (by omega)).trans (HB.out.block _ (by omega) (by omega) (by omega) (by omega)).symm, by have := hb1.size; simp at this ⊢; omega⟩
        · obtain ⟨av, hav⟩ : ∃ av, w1.cell? ⟨w.heap.size + 2 + 1, 0, none⟩ = some (.int .u64 av) := ⟨_, k1⟩
          refine ⟨⟨_, .snoc HPP.out HC.out HXL.out, ?_, ?_⟩, ⟨av, ?_⟩, ?_, ⟨?_, ?_, ?_⟩, ?_⟩
          · rw [HWT.out]; exact next_lt HC2.out
          · rw [HWT.out, HF.out]; simp [go_sem, k0]
          · simp [go_sem, hav]
          · simp [go_sem, k2]
          · simp [go_sem, kf0]
          · simp [go_sem, kf1]
          · simp [go_sem, kf2]
          · exact (HB1.out.set (d := w.heap.size + 2) (j := 0) (.inl rfl) (.int .i64 f)).set (d := w.heap.size + 2 + 2) (j := 0) (.inr (.inr rfl)) (.int .i64 0)
      · obtain ⟨cd, hcd⟩ : ∃ cd, nextC n (wordT m p t x.1) = cd := ⟨_, rfl⟩
        rw [hcd] at hc
        have HC2 : Hid (nextC n (m (8 * t + i.toNat)).toNat = cd) := Lib.hid (by rw [← HWT.out]; exact hcd)
        have hcz : (cd == 0) = false := beq_eq_false_iff_ne.2 hc
        have HC := Lib.hid hc
        have HCD := Lib.hid hcd
        clear hc hcd
        gi_wp2_with (refine ⟨trivial, ?_⟩; gi_at_call 72; refine (callsIn_wide.2 (next_no _ b g n c m (8 * t + i.toNat) _ ((HB.out.set (.inr (.inl rfl)) _).mem HA1.out (by omega) (by omega)) HK.out (by omega) cd HC2.out HC.out)).mono ?_; rintro e w1 ⟨rfl, hb1⟩; obtain ⟨k0, k1, k2, kf0, kf1, kf2, hs1⟩ := keep3 (B := w.heap.size + 2) hb1 hsW c0 c1 c2 hO.out)
        refine ⟨?_, rfl, ⟨pre, x, t, rfl, HPP.out, fun _ => by rw [HCD.out]; exact HC.out, ?_, ?_⟩, ?_⟩
        · exact KeepsOthers.step_set (KeepsOthers.step_set (KeepsOthers.step_set (KeepsOthers.step_below (KeepsOthers.step_set (KeepsOthers.refl _) _ _) hb1) _ _) _ _) _ _
        · rw [HLG.out HXL.out]; simp [go_sem, k1]
        · rw [HLG.out HXL.out, HCD.out]; simp [go_sem, k2]
        · exact (((HB.out.set (.inr (.inl rfl)) _).call hb1).set (d := w.heap.size + 2) (j := 0) (.inl rfl) (.int .i64 0)).set (d := w.heap.size + 2 + 2) (j := 0) (.inr (.inr rfl)) (.int .i64 cd) |>.set (d := w.heap.size + 2 + 1) (j := 0) (.inr (.inl rfl)) (.int .u64 0)
  case hdone =>
    rintro D xs W hD rfl ⟨⟨t, hP, ht, c0⟩, -, -, -, -⟩ hK
    have hl1 := HL1.out
    obtain ⟨k, hk⟩ : ∃ k, L = k + 1 := ⟨L - 1, by omega⟩
    have e : frs L L = frs L k ++ [⟨k, by omega⟩] := by
      have := frs_succ (l0 := L) (k := k) (by omega)
      rw [← this]; congr 1
    rw [e] at hP
    obtain ⟨t', -, -, h3, -⟩ := hP.snoc_inv rfl
    exact absurd hk.symm h3
  case hstop =>
    rintro D c pre W hD ⟨k, hk, hpre⟩ ⟨rfl, ⟨q, x, t, h1, h2, h3, h4, h5⟩, hB⟩ hK
    obtain ⟨rfl, hx⟩ := List.append_inj' (h1.symm.trans hpre) rfl
    obtain rfl : x = ⟨k, hk⟩ := by simpa using hx
    have hd := desc_left hk h2 h3
    simp only at h4 h5
    rw [hd] at h4 h5
    obtain ⟨⟨ra, rc⟩, hrr⟩ : ∃ z, descF n m p (L - 1) 1 r = z := ⟨_, rfl⟩
    rw [hrr] at h4 h5
    have HRR := Lib.hid hrr
    have HBW := Lib.hid (hBw.trans (hB.below (by omega) (by omega)))
    simp only at h4 h5
    clear h1 h2 h3 hd hrr hB e0 e1 e2 e3 e4 e5 e6 hA1 hBw
    gi_wp2
    gi_region
    all_goals
      gi_wp2
      rw [Exit.noGoto_ret]
      refine ⟨by simp, .inl ⟨_, _, rfl, run_takeDeferred hK, ?_⟩⟩
      exact ⟨_, results_tmp2 rfl _ _ _, (by rw [HRR.out]; rfl), ⟨HBW.out.os, HBW.out.tape, HBW.out.output, by simpa using HBW.out.size, fun k hk => (heap_putObj_ne (by omega)).trans (HBW.out.block k hk)⟩⟩
end Go.Proofs.Ytgfidbjhihignaa
