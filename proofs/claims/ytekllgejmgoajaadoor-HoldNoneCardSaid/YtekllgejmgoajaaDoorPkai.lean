import Derived.Test.YtekllgejmgoajaaDoorPkah
import Derived.Test.YtekllgejmgoajaaDoorRows
import Derived.Test.YtekllgejmgoajaaDoorFrame
import Derived.WalkKit
import Derived.ProofKit
import Derived.WalkSmall
import Derived.Lib.Hide
namespace Go.Proofs.YtekllgejmgoajaaDoor
set_option linter.unusedVariables false
set_option linter.unusedSimpArgs false
set_option maxRecDepth 100000
set_option maxHeartbeats 8000000
open Lib (hid)
section
open Go.ChangeShapes Go.WideShapes Go.ChangeAt Go.RowKit Go.Shelf
namespace TabS
theorem SlotsAt.place {w : World} {b base : Nat} {tv : Value} {L : List Sn} (h : SlotsAt w b base tv L) {k : Nat} {x : Sn} (hk : L[k]? = some x) :
  ∃ g c, tv = .slice (some ⟨g, 0, none⟩) L.length c ∧ g < w.heap.size ∧ w.cell? ⟨g, k * 2, none⟩ = some (.int .i64 x.id) ∧ w.cell? ⟨g, k * 2 + 1, none⟩ = some x.v := by
 rcases h.tab.form with ⟨_, h2⟩ | ⟨g, c, h1, hg, _, _, _, hr⟩
 ·have := (lgs hk).1
  have h3 := rowsS_len L
  rw [h2] at h3
  simp at h3
  omega
 ·have hrk : (rowsS L)[k]? = some (rowS x) := by rw [rowsS_get, hk]; rfl
  refine ⟨g, c, by rw [h1, rowsS_len], hg, ?_, ?_⟩
  ·have := hr k 0 (rowS x) (.int .i64 x.id) hrk rfl
   simpa using this
  ·exact hr k 1 (rowS x) x.v hrk rfl
theorem place_eq (g n c p : Nat) : placeV (.slice (some ⟨g, 0, none⟩) n c) p true = .pointer (some ⟨g, p * 2 + 1, none⟩) := rfl
theorem sat_none (w : World) (b base : Nat) (tv : Value) (L : List Sn) (id ix : Int) (h : SlotsAt w b base tv L) (hh : hasS L id = false) :
  Calls Tryd.prog 44 #[.pointer (some ⟨b, 0, none⟩), .agg #[.int .i64 id, .int .i64 ix]] w fun e w' => e = .returned (.tuple #[.pointer none, .int .i64 3]) ∧ Below w.heap.size w w' := by
 have HH := Lib.hid (show hasR (rowsS L) id = false from hh)
 clear hh
 have H := Lib.hid h
 clear h
 go_enter Tryd.func44, Tryd.ntmps44
 go_wp2
 obtain ⟨w1, hw1⟩ : ∃ y, y = w.alloc (.cells #[.int .i64 id, .int .i64 ix] 23) := ⟨_, rfl⟩
 rw [← hw1]
 have x0 : w1.cell? ⟨w.heap.size, 0, none⟩ = some (.int .i64 id) := by rw [hw1]; simp [go_sem]
 have x1 : w1.cell? ⟨w.heap.size, 1, none⟩ = some (.int .i64 ix) := by rw [hw1]; simp [go_sem]
 have xs : w.heap.size < w1.heap.size := by rw [hw1]; simp
 have B1 : Below w.heap.size w w1 := hw1 ▸ bal (Below.refl _ _) _
 have H1 := H.out.call B1
 clear hw1
 have R0 := Lib.hid (fun v (hw : KeptQ w1.heap.size w1 v) => (hw.1.cell (p := ⟨w.heap.size, 0, none⟩) xs).trans x0)
 have RG := Lib.hid (fun v (hw : KeptQ w1.heap.size w1 v) => get_any v b 0 base _ (rowsS L) id (H1.call hw.1).tab)
 refine wp_region_keptQ w1.heap.size w1 (by kernel_rfl) (by kernel_rfl) (KeptQ.refl (Nat.le_refl _)) ?_
 repeat (first
  | go_big_quiet_skip
  | (go_big_quiet_want; first
   | (refine quietQ_load_cell 3 _ rfl ⟨w.heap.size, 0, none⟩ rfl _ R0.out _ Tryd.underlying3 rfl ?_; simp only [Act.put, List.setIfInBounds_toArray, List.set_cons_zero, List.set_cons_succ]; go_big_quiet_on)
   | (go_big_quiet_op; first
    | go_big_quiet_on
    | (refine ⟨_, fun _ _ => rfl, ?_⟩; go_big_quiet_on)
    | go_big_quiet_call ((intro hw; go_at_call 56; refine (RG.out _ hw).mono ?_; rw [HH.out]; rintro e w7 ⟨rfl, hb7⟩; exact ⟨rfl, hw.call hb7⟩)))))
 refine wpQuiet_nil ?_
 intro w2 hw2
 have y1 := (hw2.1.cell (p := ⟨w.heap.size, 1, none⟩) xs).trans x1
 have B2 := hw2.below (m := w.heap.size) (by omega) B1
 clear R0 RG hw2 x0 x1 H1
 go_wp2
 go_quiet (fail)
 go_wp2
 go_ret2
 exact ⟨rfl, below_drewN B2 _⟩
theorem sat_low (w : World) (b base : Nat) (tv : Value) (L : List Sn) (id ix : Int) (x : Sn) (h : SlotsAt w b base tv L) (hx : L[posS L id]? = some x) (hid : x.id = id) (hi : ix < 0) :
  Calls Tryd.prog 44 #[.pointer (some ⟨b, 0, none⟩), .agg #[.int .i64 id, .int .i64 ix]] w fun e w' => e = .returned (.tuple #[.pointer none, .int .i64 3]) ∧ Below w.heap.size w w' := by
 have hh : hasS L id = true := (hasS_at h).2 ⟨x, hx, hid⟩
 obtain ⟨p, hp⟩ : ∃ p, posR (rowsS L) id = p := ⟨_, rfl⟩
 have HH := Lib.hid (show hasR (rowsS L) id = true from hh)
 have HP := Lib.hid hp
 obtain ⟨g, c, rfl, hg, -, c1⟩ := h.place hx
 rw [show posS L id = p from hp] at c1
 obtain ⟨gx, hgx⟩ : ∃ y, y = x.g := ⟨_, rfl⟩
 obtain ⟨n, hn⟩ : ∃ y, y = x.l.length := ⟨_, rfl⟩
 rw [show x.v = .slice (some ⟨gx, 0, none⟩) n n by rw [hgx, hn]] at c1
 have hd : decide (ix < 0) = true := decide_eq_true hi
 clear hh hp hx hid hgx hn
 have H := Lib.hid h
 clear h
 go_enter Tryd.func44, Tryd.ntmps44
 go_wp2
 obtain ⟨w1, hw1⟩ : ∃ y, y = w.alloc (.cells #[.int .i64 id, .int .i64 ix] 23) := ⟨_, rfl⟩
 rw [← hw1]
 have x0 : w1.cell? ⟨w.heap.size, 0, none⟩ = some (.int .i64 id) := by rw [hw1]; simp [go_sem]
 have x1 : w1.cell? ⟨w.heap.size, 1, none⟩ = some (.int .i64 ix) := by rw [hw1]; simp [go_sem]
 have xs : w.heap.size < w1.heap.size := by rw [hw1]; simp
 have B1 : Below w.heap.size w w1 := hw1 ▸ bal (Below.refl _ _) _
 have H1 := H.out.call B1
 have c2 := (B1.cell (p := ⟨g, p * 2 + 1, none⟩) hg).trans c1
 have hg1 : g < w1.heap.size := Nat.lt_of_lt_of_le hg B1.size
 clear hw1
 have R0 := Lib.hid (fun v (hw : KeptQ w1.heap.size w1 v) => (hw.1.cell (p := ⟨w.heap.size, 0, none⟩) xs).trans x0)
 have RG := Lib.hid (fun v (hw : KeptQ w1.heap.size w1 v) => get_any v b 0 base _ (rowsS L) id (H1.call hw.1).tab)
 refine wp_region_keptQ w1.heap.size w1 (by kernel_rfl) (by kernel_rfl) (KeptQ.refl (Nat.le_refl _)) ?_
 repeat (first
  | go_big_quiet_skip
  | (go_big_quiet_want; first
   | (refine quietQ_load_cell 3 _ rfl ⟨w.heap.size, 0, none⟩ rfl _ R0.out _ Tryd.underlying3 rfl ?_; simp only [Act.put, List.setIfInBounds_toArray, List.set_cons_zero, List.set_cons_succ]; go_big_quiet_on)
   | (go_big_quiet_op; first
    | go_big_quiet_on
    | (refine ⟨_, fun _ _ => rfl, ?_⟩; go_big_quiet_on)
    | go_big_quiet_call ((intro hw; go_at_call 56; refine (RG.out _ hw).mono ?_; rw [HH.out, HP.out, place_eq]; rintro e w7 ⟨rfl, hb7⟩; exact ⟨rfl, hw.call hb7⟩)))))
 refine wpQuiet_nil ?_
 intro w2 hw2
 have y1 := (hw2.1.cell (p := ⟨w.heap.size, 1, none⟩) xs).trans x1
 have y2 := (hw2.1.cell (p := ⟨g, p * 2 + 1, none⟩) hg1).trans c2
 clear c1 c2
 have B2 := hw2.below (m := w.heap.size) (by omega) B1
 clear R0 RG hw2 x0 x1 H1
 go_wp2
 go_quiet (fail)
 go_wp2
 go_ret2
 exact ⟨rfl, below_drewN B2 _⟩
theorem sat_high (w : World) (b base : Nat) (tv : Value) (L : List Sn) (id ix : Int) (x : Sn) (h : SlotsAt w b base tv L) (hx : L[posS L id]? = some x) (hid : x.id = id) (hi : (x.l.length : Int) ≤ ix) :
  Calls Tryd.prog 44 #[.pointer (some ⟨b, 0, none⟩), .agg #[.int .i64 id, .int .i64 ix]] w fun e w' => e = .returned (.tuple #[.pointer none, .int .i64 3]) ∧ Below w.heap.size w w' := by
 have hh : hasS L id = true := (hasS_at h).2 ⟨x, hx, hid⟩
 obtain ⟨p, hp⟩ : ∃ p, posR (rowsS L) id = p := ⟨_, rfl⟩
 have HH := Lib.hid (show hasR (rowsS L) id = true from hh)
 have HP := Lib.hid hp
 obtain ⟨g, c, rfl, hg, -, c1⟩ := h.place hx
 rw [show posS L id = p from hp] at c1
 obtain ⟨gx, hgx⟩ : ∃ y, y = x.g := ⟨_, rfl⟩
 obtain ⟨n, hn⟩ : ∃ y, y = x.l.length := ⟨_, rfl⟩
 rw [show x.v = .slice (some ⟨gx, 0, none⟩) n n by rw [hgx, hn]] at c1
 rw [← hn] at hi; have hd : decide (ix < 0) = false := decide_eq_false (by omega); have hd2 : decide ((n : Int) ≤ ix) = true := decide_eq_true hi
 clear hh hp hx hid hgx hn
 have H := Lib.hid h
 clear h
 go_enter Tryd.func44, Tryd.ntmps44
 go_wp2
 obtain ⟨w1, hw1⟩ : ∃ y, y = w.alloc (.cells #[.int .i64 id, .int .i64 ix] 23) := ⟨_, rfl⟩
 rw [← hw1]
 have x0 : w1.cell? ⟨w.heap.size, 0, none⟩ = some (.int .i64 id) := by rw [hw1]; simp [go_sem]
 have x1 : w1.cell? ⟨w.heap.size, 1, none⟩ = some (.int .i64 ix) := by rw [hw1]; simp [go_sem]
 have xs : w.heap.size < w1.heap.size := by rw [hw1]; simp
 have B1 : Below w.heap.size w w1 := hw1 ▸ bal (Below.refl _ _) _
 have H1 := H.out.call B1
 have c2 := (B1.cell (p := ⟨g, p * 2 + 1, none⟩) hg).trans c1
 have hg1 : g < w1.heap.size := Nat.lt_of_lt_of_le hg B1.size
 clear hw1
 have R0 := Lib.hid (fun v (hw : KeptQ w1.heap.size w1 v) => (hw.1.cell (p := ⟨w.heap.size, 0, none⟩) xs).trans x0)
 have RG := Lib.hid (fun v (hw : KeptQ w1.heap.size w1 v) => get_any v b 0 base _ (rowsS L) id (H1.call hw.1).tab)
 refine wp_region_keptQ w1.heap.size w1 (by kernel_rfl) (by kernel_rfl) (KeptQ.refl (Nat.le_refl _)) ?_
 repeat (first
  | go_big_quiet_skip
  | (go_big_quiet_want; first
   | (refine quietQ_load_cell 3 _ rfl ⟨w.heap.size, 0, none⟩ rfl _ R0.out _ Tryd.underlying3 rfl ?_; simp only [Act.put, List.setIfInBounds_toArray, List.set_cons_zero, List.set_cons_succ]; go_big_quiet_on)
   | (go_big_quiet_op; first
    | go_big_quiet_on
    | (refine ⟨_, fun _ _ => rfl, ?_⟩; go_big_quiet_on)
    | go_big_quiet_call ((intro hw; go_at_call 56; refine (RG.out _ hw).mono ?_; rw [HH.out, HP.out, place_eq]; rintro e w7 ⟨rfl, hb7⟩; exact ⟨rfl, hw.call hb7⟩)))))
 refine wpQuiet_nil ?_
 intro w2 hw2
 have y1 := (hw2.1.cell (p := ⟨w.heap.size, 1, none⟩) xs).trans x1
 have y2 := (hw2.1.cell (p := ⟨g, p * 2 + 1, none⟩) hg1).trans c2
 clear c1 c2
 have B2 := hw2.below (m := w.heap.size) (by omega) B1
 clear R0 RG hw2 x0 x1 H1
 go_wp2
 go_quiet (fail)
 go_wp2
 go_ret2
 exact ⟨rfl, below_drewN B2 _⟩
theorem sat_yes (w : World) (b base : Nat) (tv : Value) (L : List Sn) (id : Int) (i : Nat) (x : Sn) (h : SlotsAt w b base tv L) (hx : L[posS L id]? = some x) (hid : x.id = id) (hi : i < x.l.length) :
  Calls Tryd.prog 44 #[.pointer (some ⟨b, 0, none⟩), .agg #[.int .i64 id, .int .i64 i]] w fun e w' => e = .returned (.tuple #[.pointer (some ⟨x.g, i * 8, none⟩), .int .i64 0]) ∧ Below w.heap.size w w' := by
 have hh : hasS L id = true := (hasS_at h).2 ⟨x, hx, hid⟩
 obtain ⟨p, hp⟩ : ∃ p, posR (rowsS L) id = p := ⟨_, rfl⟩
 have HH := Lib.hid (show hasR (rowsS L) id = true from hh)
 have HP := Lib.hid hp
 obtain ⟨g, c, rfl, hg, -, c1⟩ := h.place hx
 rw [show posS L id = p from hp] at c1
 obtain ⟨gx, hgx⟩ : ∃ y, y = x.g := ⟨_, rfl⟩
 obtain ⟨n, hn⟩ : ∃ y, y = x.l.length := ⟨_, rfl⟩
 rw [show x.v = .slice (some ⟨gx, 0, none⟩) n n by rw [hgx, hn]] at c1
 have hn16 : n ≤ 16 := hn ▸ h.bd x (List.mem_of_getElem? hx); rw [← hn] at hi; rw [← hgx]; have hiI : (i : Int) < n := (by omega); have hd : decide ((i : Int) < 0) = false := decide_eq_false (by omega); have hd2 : decide ((n : Int) ≤ i) = false := decide_eq_false (by omega)
 clear hh hp hx hid hgx hn
 have H := Lib.hid h
 clear h
 go_enter Tryd.func44, Tryd.ntmps44
 go_wp2
 obtain ⟨w1, hw1⟩ : ∃ y, y = w.alloc (.cells #[.int .i64 id, .int .i64 i] 23) := ⟨_, rfl⟩
 rw [← hw1]
 have x0 : w1.cell? ⟨w.heap.size, 0, none⟩ = some (.int .i64 id) := by rw [hw1]; simp [go_sem]
 have x1 : w1.cell? ⟨w.heap.size, 1, none⟩ = some (.int .i64 i) := by rw [hw1]; simp [go_sem]
 have xs : w.heap.size < w1.heap.size := by rw [hw1]; simp
 have B1 : Below w.heap.size w w1 := hw1 ▸ bal (Below.refl _ _) _
 have H1 := H.out.call B1
 have c2 := (B1.cell (p := ⟨g, p * 2 + 1, none⟩) hg).trans c1
 have hg1 : g < w1.heap.size := Nat.lt_of_lt_of_le hg B1.size
 clear hw1
 have R0 := Lib.hid (fun v (hw : KeptQ w1.heap.size w1 v) => (hw.1.cell (p := ⟨w.heap.size, 0, none⟩) xs).trans x0)
 have RG := Lib.hid (fun v (hw : KeptQ w1.heap.size w1 v) => get_any v b 0 base _ (rowsS L) id (H1.call hw.1).tab)
 refine wp_region_keptQ w1.heap.size w1 (by kernel_rfl) (by kernel_rfl) (KeptQ.refl (Nat.le_refl _)) ?_
 repeat (first
  | go_big_quiet_skip
  | (go_big_quiet_want; first
   | (refine quietQ_load_cell 3 _ rfl ⟨w.heap.size, 0, none⟩ rfl _ R0.out _ Tryd.underlying3 rfl ?_; simp only [Act.put, List.setIfInBounds_toArray, List.set_cons_zero, List.set_cons_succ]; go_big_quiet_on)
   | (go_big_quiet_op; first
    | go_big_quiet_on
    | (refine ⟨_, fun _ _ => rfl, ?_⟩; go_big_quiet_on)
    | go_big_quiet_call ((intro hw; go_at_call 56; refine (RG.out _ hw).mono ?_; rw [HH.out, HP.out, place_eq]; rintro e w7 ⟨rfl, hb7⟩; exact ⟨rfl, hw.call hb7⟩)))))
 refine wpQuiet_nil ?_
 intro w2 hw2
 have y1 := (hw2.1.cell (p := ⟨w.heap.size, 1, none⟩) xs).trans x1
 have y2 := (hw2.1.cell (p := ⟨g, p * 2 + 1, none⟩) hg1).trans c2
 clear c1 c2
 have B2 := hw2.below (m := w.heap.size) (by omega) B1
 clear R0 RG hw2 x0 x1 H1
 go_wp2
 go_quiet (fail)
 go_wp2
 go_quiet (fail)
 go_wp2
 go_ret2
 exact ⟨by simp, below_drewN (below_drewN B2 _) _⟩
end TabS
end
section
open Go.ChangeShapes Go.WideShapes Go.ChangeAt Go.RowKit Go.Shelf
theorem bs' {w W : World} (h : Below w.heap.size w W) (k j : Nat) (v : Value) : Below w.heap.size w (W.setCell ⟨w.heap.size + k, j, none⟩ v) := h.setCell (p := ⟨w.heap.size + k, j, none⟩) (by simp) v
end
section
namespace CX
open Go.ChangeShapes Go.WideShapes Go.ChangeAt Go.RowKit
theorem ret_bool {a b : Bool} (h : a = b) : Ending.returned (.bool a) = .returned (.bool b) := by rw [h]
def mayB (r : Int) : Bool := decide (0 ≤ r ∧ r ≤ 7)
theorem mayB_mk {r : Int} (h : 0 ≤ r) (h' : r ≤ 7) : mayB r = true := decide_eq_true ⟨h, h'⟩
theorem may_any (r : Int) (w : World) : Calls Tryd.prog 50 #[.int .i64 r] w fun e w' => e = .returned (.bool (mayB r)) ∧ w = w' := by
 go_enter Tryd.func50, Tryd.ntmps50
 go_wp2
 all_goals go_ret
 all_goals refine ⟨ret_bool ?_, rfl⟩
 all_goals rw [Bool.eq_iff_iff]
 all_goals simp [mayB]
 all_goals omega
def maskN (a b : Int) : Int := bits BinOp.and IntKind.i64 a b
def hasB (r n : Int) : Bool := maskN r n == n
theorem has_any (a b : Int) (w : World) (h0 : 0 ≤ a) (h1 : a ≤ 7) (h2 : 0 ≤ b) (h3 : b ≤ 7) :
  Calls Tryd.prog 67 #[.int .i64 a, .int .i64 b] w fun e w' => e = .returned (.bool (hasB a b)) ∧ w = w' := by
 have m1 := mayB_mk h0 h1
 have m2 := mayB_mk h2 h3
 go_enter Tryd.func67, Tryd.ntmps67
 go_wp2_with (go_at_call 50; refine (may_any _ _).mono ?_; rintro e w' ⟨rfl, rfl⟩)
 go_ret
 exact ⟨rfl, rfl⟩
def partN (r m : Int) (k : Nat) : Int := (if 0 < k ∧ hasB m 1 = true ∧ hasB r 1 = true then 1 else 0) + (if 1 < k ∧ hasB m 2 = true ∧ hasB r 2 = true then 2 else 0) + (if 2 < k ∧ hasB m 4 = true ∧ hasB r 4 = true then 4 else 0)
theorem part_key : ∀ r : Nat, r < 8 → ∀ m : Nat, m < 8 → partN r m 3 = maskN r m := by decide +kernel
theorem part_mask {r m : Int} (h0 : 0 ≤ r) (h1 : r ≤ 7) (h2 : 0 ≤ m) (h3 : m ≤ 7) : partN r m 3 = maskN r m := by
 obtain ⟨a, rfl⟩ := Int.eq_ofNat_of_zero_le h0
 obtain ⟨b, rfl⟩ := Int.eq_ofNat_of_zero_le h2
 exact part_key a (by omega) b (by omega)
end CX
end
end Go.Proofs.YtekllgejmgoajaaDoor
