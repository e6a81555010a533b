/- chapter 19: the own answer's block, and what is known of the numbers. No walk in this text. -/
import Derived.Test.YtfladcnkphcicaaAsidF
namespace Go.Proofs.Ytfladcnkphcicaa
set_option linter.unusedVariables false
set_option linter.unusedSimpArgs false
open Go.ChangeShapes Go.WideShapes Go.ChangeAt Go.RowKit Go.Shelf
/-- Is a place's pool gone. -/
def deadB (po : Nat → Int) (tk : Int) (p : Nat) : Bool := decide ((p : Int) < tk) && decide (po p = 0)
/-- The own answer's cells. -/
def rcF (po : Nat → Int) (tk : Int) (N : Nums) (j : Nat) : Value :=
  if j < 80 then (if j % 10 = 0 then .int .i64 (po (j / 10)) else if j % 10 = 1 then .bool (deadB po tk (j / 10)) else if j % 10 < 6 then .int .i64 (N (j / 10 * 4 + (j % 10 - 2))).1 else .int .i64 (N (j / 10 * 4 + (j % 10 - 6))).2.1)
  else .int .i64 (N (j - 80)).2.2
def cellsF (n : Nat) (f : Nat → Value) : Array Value := ((List.range n).map f).toArray
theorem cellsF_get (n : Nat) (f : Nat → Value) (j : Nat) (h : j < n) : (cellsF n f)[j]? = some (f j) := by unfold cellsF; simp [h]
theorem cellsF_size (n : Nat) (f : Nat → Value) : (cellsF n f).size = n := by unfold cellsF; simp
theorem cellsF_set (n : Nat) (f : Nat → Value) (j : Nat) (v : Value) : (cellsF n f).setIfInBounds j v = cellsF n (fun i => if i = j then v else f i) := by
  apply Array.ext'
  apply List.ext_getElem?
  intro i
  by_cases hi : i < n
  · by_cases e : i = j
    · subst e; simp [cellsF, hi, List.getElem?_set]
    · simp [cellsF, hi, List.getElem?_set, Ne.symm e, e]
  · simp [cellsF, List.getElem?_set, hi]
theorem cellsF_congr (n : Nat) (f g : Nat → Value) (h : ∀ j, j < n → f j = g j) : cellsF n f = cellsF n g := by
  unfold cellsF
  congr 1
  exact List.map_congr_left (fun j hj => h j (List.mem_range.1 hj))
structure RefAt (w : World) (b : Nat) (po : Nat → Int) (tk : Int) (N : Nums) : Prop where
  row : w.heap[b]? = some (.cells (cellsF 112 (rcF po tk N)) 33 (0, 0))
theorem RefAt.lt {w : World} {b : Nat} {po : Nat → Int} {tk : Int} {N : Nums} (h : RefAt w b po tk N) : b < w.heap.size := (Array.getElem?_eq_some_iff.1 h.row).1
theorem RefAt.of_block {w w' : World} {b : Nat} {po : Nat → Int} {tk : Int} {N : Nums} (h : RefAt w b po tk N) (e : w'.heap[b]? = w.heap[b]?) : RefAt w' b po tk N := ⟨e.trans h.row⟩
theorem RefAt.call {w w' : World} {b : Nat} {po : Nat → Int} {tk : Int} {N : Nums} (h : RefAt w b po tk N) (hb : Below w.heap.size w w') : RefAt w' b po tk N := h.of_block (hb.block b h.lt)
theorem row_cellF {w : World} {b n j : Nat} {f : Nat → Value} {T : TypeId} (h : w.heap[b]? = some (.cells (cellsF n f) T (0, 0))) (hj : j < n) : w.cell? ⟨b, j, none⟩ = some (f j) := by
  unfold World.cell?
  simp only [h]
  exact cellsF_get n f j hj
theorem RefAt.cell {w : World} {b : Nat} {po : Nat → Int} {tk : Int} {N : Nums} (h : RefAt w b po tk N) {j : Nat} (hj : j < 112) : w.cell? ⟨b, j, none⟩ = some (rcF po tk N j) := row_cellF h.row hj
theorem RefAt.free {w : World} {b : Nat} {po : Nat → Int} {tk : Int} {N : Nums} (h : RefAt w b po tk N) (j : Nat) : w.frozen? ⟨b, j, none⟩ = false := by simp [World.frozen?, h.row]
theorem rc_obj (po : Nat → Int) (tk : Int) (N : Nums) {p : Nat} (hp : p < 8) : rcF po tk N (p * 10) = .int .i64 (po p) := by
  unfold rcF
  rw [if_pos (by omega), if_pos (by omega), show p * 10 / 10 = p by omega]
theorem rc_dead (po : Nat → Int) (tk : Int) (N : Nums) {p : Nat} (hp : p < 8) : rcF po tk N (p * 10 + 1) = .bool (deadB po tk p) := by
  unfold rcF
  rw [if_pos (by omega), if_neg (by omega), if_pos (by omega), show (p * 10 + 1) / 10 = p by omega]
theorem rc_root (po : Nat → Int) (tk : Int) (N : Nums) {p i : Nat} (hp : p < 8) (hi : i < 4) : rcF po tk N (p * 10 + 2 + i) = .int .i64 (N (p * 4 + i)).1 := by
  unfold rcF
  rw [if_pos (by omega), if_neg (by omega), if_neg (by omega), if_pos (by omega), show (p * 10 + 2 + i) / 10 = p by omega, show (p * 10 + 2 + i) % 10 - 2 = i by omega]
theorem rc_ser (po : Nat → Int) (tk : Int) (N : Nums) {p i : Nat} (hp : p < 8) (hi : i < 4) : rcF po tk N (p * 10 + 6 + i) = .int .i64 (N (p * 4 + i)).2.1 := by
  unfold rcF
  rw [if_pos (by omega), if_neg (by omega), if_neg (by omega), if_neg (by omega), show (p * 10 + 6 + i) / 10 = p by omega, show (p * 10 + 6 + i) % 10 - 6 = i by omega]
theorem rc_given (po : Nat → Int) (tk : Int) (N : Nums) {n : Nat} (hn : n < 32) : rcF po tk N (80 + n) = .int .i64 (N n).2.2 := by
  unfold rcF
  rw [if_neg (by omega), show 80 + n - 80 = n by omega]
/-- What is always so. -/
structure Inv (po : Nat → Int) (tk : Int) (N : Nums) : Prop where
  t0 : 0 ≤ tk
  t8 : tk ≤ 8
  far : ∀ p : Nat, p < 8 → tk ≤ (p : Int) → po p = 0
  ser : ∀ n, n < 32 → ((N n).1 = 0 ↔ (N n).2.1 = 0)
  ok : NumsOk N
  own : ∀ n, n < 32 → po (n / 4) = 0 → (N n).1 = 0
theorem inv_0 : Inv po0 0 N0 := ⟨by decide, by decide, fun _ _ _ => rfl, fun _ _ => ⟨fun _ => rfl, fun _ => rfl⟩, ok_N0, fun _ _ _ => rfl⟩
theorem place_some {po : Nat → Int} {obj : Int} {p : Nat} (h : placeF po obj = ((p : Int), true)) (hp : p < 8) : po p = obj ∧ obj ≠ 0 := by
  unfold placeF at h
  split at h
  · rename_i k hk
    have hkq := List.find?_some hk
    simp only [Prod.mk.injEq, and_true] at h
    have : k = p := by omega
    subst this
    unfold placeP at hkq
    simpa using hkq
  · simp at h
theorem free_same (N : Nums) (n m : Nat) (h : m ≠ n) : freeN N n m = N m := by unfold freeN; rw [if_neg h]
theorem free_at (N : Nums) (n : Nat) : freeN N n n = (0, 0, (N n).2.2) := by unfold freeN; rw [if_pos rfl]
theorem inv_free {po : Nat → Int} {tk : Int} {N : Nums} (h : Inv po tk N) (n : Nat) : Inv po tk (freeN N n) := by
  refine ⟨h.t0, h.t8, h.far, fun m hm => ?_, ok_free h.ok n, fun m hm hp => ?_⟩
  · by_cases e : m = n
    · subst e; rw [free_at]
    · rw [free_same _ _ _ e]; exact h.ser m hm
  · by_cases e : m = n
    · subst e; rw [free_at]
    · rw [free_same _ _ _ e]; exact h.own m hm hp
theorem inv_step {po : Nat → Int} {tk : Int} {N : Nums} (h : Inv po tk N) {n : Nat} {root : Int} (hr : 1 ≤ root) (hc : condA N n = true) (hp : po (n / 4) ≠ 0) (hn : n < 32) : Inv po tk (stepN N n root) := by
  have hok := ok_step h.ok (root := root) hc
  have hn0 : n ≠ 0 := by unfold condA at hc; simp at hc; exact hc.1.1
  have ht := (h.ok n hn).1
  refine ⟨h.t0, h.t8, h.far, fun m hm => ?_, hok, fun m hm hq => ?_⟩
  · unfold stepN
    by_cases e : m = n
    · subst e
      rw [if_pos rfl]
      constructor
      · intro q; simp only at q; omega
      · intro q; simp only at q; omega
    · rw [if_neg e]; exact h.ser m hm
  · unfold stepN
    by_cases e : m = n
    · subst e; exact absurd hq hp
    · rw [if_neg e]; exact h.own m hm hq
theorem inv_take {po : Nat → Int} {tk : Int} {N : Nums} (h : Inv po tk N) {pl : Nat} {root : Int} (hr : 1 ≤ root) (hp : po pl ≠ 0) (hpl : pl < 8) : Inv po tk (takeF N pl root).2 := by
  unfold takeF
  split
  · rename_i i hi
    have hq := List.find?_some hi
    have hm := List.mem_range.1 (List.mem_of_find?_eq_some hi)
    exact inv_step h hr hq (by rw [show (pl * 4 + i) / 4 = pl by omega]; exact hp) (by omega)
  · exact h
theorem inv_assign {po : Nat → Int} {tk : Int} {N : Nums} (h : Inv po tk N) (pool root : Int) : Inv po tk (assignF po N pool root).2 := by
  unfold assignF
  rcases place_in po pool with ⟨p, hp, hpe⟩ | hpe
  · rw [hpe]
    have hps := place_some hpe hp
    split
    · exact h
    · rename_i hc
      split
      · exact h
      · simp only [Int.toNat_natCast]
        refine inv_take h ?_ (by rw [hps.1]; exact hps.2) hp
        simp at hc
        omega
  · rw [hpe]
    simp
    exact h
end Go.Proofs.Ytfladcnkphcicaa
