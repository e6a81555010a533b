/- package tlb: find, empty and fill of a set, as functions of its two ways and its turn. -/
import Derived.Test.YtgfidbjhihignaaTlbA
import Derived.RegionTactic
namespace Go.Proofs.Ytgfidbjhihignaa
set_option linter.unusedVariables false
set_option linter.unusedSimpArgs false
open Go.ChangeShapes Go.WideShapes Go.ChangeAt Go.RowKit

instance : DecidableEq TransX := fun x y => decidable_of_iff (x.s = y.s ∧ x.p = y.p ∧ x.f = y.f ∧ x.r = y.r ∧ x.w = y.w) (by cases x; cases y; simp)
abbrev zT : TransX := ⟨0, 0, 0, false, false⟩
/-- What a call on a set keeps: every other block, and every cell but the eleven of this set. -/
structure SetOnly (b o : Nat) (w w' : World) : Prop where
  os : w'.os = w.os
  tape : w'.tape = w.tape
  output : w'.output = w.output
  size : w.heap.size ≤ w'.heap.size
  block : ∀ k, k < w.heap.size → k ≠ b → w'.heap[k]? = w.heap[k]?
  cell : ∀ j : Nat, b < w.heap.size → ¬ (o ≤ j ∧ j < o + 11) → w'.cell? ⟨b, j, none⟩ = w.cell? ⟨b, j, none⟩
  frozen : ∀ j : Nat, b < w.heap.size → w'.frozen? ⟨b, j, none⟩ = w.frozen? ⟨b, j, none⟩
theorem SetOnly.refl (b o : Nat) (w : World) : SetOnly b o w w := ⟨rfl, rfl, rfl, Nat.le_refl _, fun _ _ _ => rfl, fun _ _ _ => rfl, fun _ _ => rfl⟩
theorem SetOnly.below {b o : Nat} {w w' : World} (h : Below w.heap.size w w') : SetOnly b o w w' := ⟨h.os, h.tape, h.output, h.size, fun k hk _ => h.block k hk, fun j hk _ => h.cell (p := ⟨b, j, none⟩) hk, fun j hk => h.frozen (p := ⟨b, j, none⟩) hk⟩
theorem SetOnly.trans {b o : Nat} {a c d : World} (h : SetOnly b o a c) (k : SetOnly b o c d) : SetOnly b o a d :=
  ⟨k.os.trans h.os, k.tape.trans h.tape, k.output.trans h.output, Nat.le_trans h.size k.size, fun i hi hj => (k.block i (Nat.lt_of_lt_of_le hi h.size) hj).trans (h.block i hi hj),
    fun j hb hj => (k.cell j (Nat.lt_of_lt_of_le hb h.size) hj).trans (h.cell j hb hj), fun j hb => (k.frozen j (Nat.lt_of_lt_of_le hb h.size)).trans (h.frozen j hb)⟩
theorem SetOnly.set {b o : Nat} {a c : World} (h : SetOnly b o a c) (i : Nat) (v : Value) (h0 : o ≤ i) (h1 : i < o + 11) : SetOnly b o a (c.setCell ⟨b, i, none⟩ v) := by
  refine ⟨h.os, h.tape, h.output, by simp; exact h.size, fun k hk hj => (heap_setCell_other c ⟨b, i, none⟩ k v hj).trans (h.block k hk hj), fun j hb hj => ?_, fun j hb => (World.frozen?_setCell ..).trans (h.frozen j hb)⟩
  have hne : (⟨b, i, none⟩ : Addr) ≠ ⟨b, j, none⟩ := by
    intro e
    have e' := congrArg Addr.off e
    simp only at e'
    omega
  rw [World.cell?_setCell_other (h := hne)]
  exact h.cell j hb hj
theorem SetOnly.drew {b o : Nat} {a c : World} (h : SetOnly b o a c) : SetOnly b o a c.drew := ⟨h.os, h.tape, h.output, h.size, h.block, h.cell, h.frozen⟩
theorem setAt.call {w w' : World} {b o : Nat} {x y : TransX} {due : Int} (h : setAt w b o x y due) (hb : b < w.heap.size) (k : Below w.heap.size w w') : setAt w' b o x y due := by
  obtain ⟨⟨c0, c1, c2, c3, c4⟩, ⟨c5, c6, c7, c8, c9⟩, c10⟩ := h
  have e : ∀ j, w'.cell? ⟨b, j, none⟩ = w.cell? ⟨b, j, none⟩ := fun j => k.cell (p := ⟨b, j, none⟩) hb
  exact ⟨⟨(e _).trans c0, (e _).trans c1, (e _).trans c2, (e _).trans c3, (e _).trans c4⟩, ⟨(e _).trans c5, (e _).trans c6, (e _).trans c7, (e _).trans c8, (e _).trans c9⟩, (e _).trans c10⟩
theorem setAt.drew {w : World} {b o : Nat} {x y : TransX} {due : Int} (h : setAt w b o x y due) : setAt w.drew b o x y due := h
/-- Where a set has a translation of a space and a page. -/
def findR (x y : TransX) (a c : Int) : Int × Bool := if x.s = a ∧ x.p = c then (0, true) else if y.s = a ∧ y.p = c then (1, true) else (0, false)
theorem find_any (w : World) (b o : Nat) (x y : TransX) (due a c : Int) (h : setAt w b o x y due) : Calls Try.prog 64 #[.pointer (some ⟨b, o, none⟩), .int .i64 a, .int .i64 c] w fun e w' => e = .returned (.tuple #[.int .i64 (findR x y a c).1, .bool (findR x y a c).2]) ∧ Below w.heap.size w w' := by
  obtain ⟨s, p, f, r, q⟩ := x
  obtain ⟨s', p', f', r', q'⟩ := y
  have ne {u v : Int} (h : u ≠ v) : (u == v) = false := beq_eq_false_iff_ne.2 h
  by_cases hs : s = a
  · by_cases hp : p = c
    · rw [show findR ⟨s, p, f, r, q⟩ ⟨s', p', f', r', q'⟩ a c = (0, true) by simp [findR, hs, hp]]
      exact find_0 w b o s p f r q s' p' f' r' q' due a c h hs.symm hp.symm
    · by_cases hs' : s' = a
      · by_cases hp' : p' = c
        · rw [show findR ⟨s, p, f, r, q⟩ ⟨s', p', f', r', q'⟩ a c = (1, true) by simp [findR, hs, hp, hs', hp']]
          exact find_11 w b o s p f r q s' p' f' r' q' due a c h hs (ne hp) hs'.symm hp'.symm
        · rw [show findR ⟨s, p, f, r, q⟩ ⟨s', p', f', r', q'⟩ a c = (0, false) by simp [findR, hs, hp, hs', hp']]
          exact find_n11 w b o s p f r q s' p' f' r' q' due a c h hs (ne hp) hs' (ne hp')
      · rw [show findR ⟨s, p, f, r, q⟩ ⟨s', p', f', r', q'⟩ a c = (0, false) by simp [findR, hs, hp, hs']]
        exact find_n10 w b o s p f r q s' p' f' r' q' due a c h hs (ne hp) (ne hs')
  · by_cases hs' : s' = a
    · by_cases hp' : p' = c
      · rw [show findR ⟨s, p, f, r, q⟩ ⟨s', p', f', r', q'⟩ a c = (1, true) by simp [findR, hs, hs', hp']]
        exact find_10 w b o s p f r q s' p' f' r' q' due a c h (ne hs) hs'.symm hp'.symm
      · rw [show findR ⟨s, p, f, r, q⟩ ⟨s', p', f', r', q'⟩ a c = (0, false) by simp [findR, hs, hs', hp']]
        exact find_n01 w b o s p f r q s' p' f' r' q' due a c h (ne hs) hs' (ne hp')
    · rw [show findR ⟨s, p, f, r, q⟩ ⟨s', p', f', r', q'⟩ a c = (0, false) by simp [findR, hs, hs']]
      exact find_n00 w b o s p f r q s' p' f' r' q' due a c h (ne hs) (ne hs')
/-- A way is empty, or has a space. -/
def OkT (x : TransX) : Prop := x = zT ∨ 1 ≤ x.s
def emptyR (x y : TransX) : Int × Bool := if x = zT then (0, true) else if y = zT then (1, true) else (0, false)
theorem empty_any (w : World) (b o : Nat) (x y : TransX) (due : Int) (h : setAt w b o x y due) (hx : OkT x) (hy : OkT y) : Calls Try.prog 74 #[.pointer (some ⟨b, o, none⟩)] w fun e w' => e = .returned (.tuple #[.int .i64 (emptyR x y).1, .bool (emptyR x y).2]) ∧ Below w.heap.size w w' := by
  have ne {u v : Int} (h : u ≠ v) : (u == v) = false := beq_eq_false_iff_ne.2 h
  have nz {t : TransX} (ht : 1 ≤ t.s) : t ≠ zT := fun e => by rw [e] at ht; exact absurd ht (by decide)
  rcases hx with rfl | hx
  · rw [show emptyR zT y = (0, true) by simp [emptyR]]
    obtain ⟨s', p', f', r', q'⟩ := y
    exact empty_0 w b o 0 0 0 false false s' p' f' r' q' due h rfl rfl rfl rfl rfl
  · have e0 := nz hx
    rcases hy with rfl | hy
    · rw [show emptyR x zT = (1, true) by simp [emptyR, e0]]
      obtain ⟨s, p, f, r, q⟩ := x
      exact empty_1 w b o s p f r q 0 0 0 false false due h (ne (by simp only at hx; omega)) rfl rfl rfl rfl rfl
    · have e1 := nz hy
      rw [show emptyR x y = (0, false) by simp [emptyR, e0, e1]]
      obtain ⟨s, p, f, r, q⟩ := x
      obtain ⟨s', p', f', r', q'⟩ := y
      exact empty_n w b o s p f r q s' p' f' r' q' due h (ne (by simp only at hx; omega)) (ne (by simp only at hy; omega))
theorem store0 {w : World} {b o : Nat} {x y : TransX} {due : Int} (h : setAt w b o x y due) (s p f : Int) (r q : Bool) : setAt ((((((w).setCell ⟨b, o, none⟩ (.int .i64 s)).setCell ⟨b, o + 1, none⟩ (.int .i64 p)).setCell ⟨b, o + 2, none⟩ (.int .i64 f)).setCell ⟨b, o + 3, none⟩ (.bool r)).setCell ⟨b, o + 4, none⟩ (.bool q)) b o (X s p f r q) y due := by
  obtain ⟨⟨c0, c1, c2, c3, c4⟩, ⟨c5, c6, c7, c8, c9⟩, c10⟩ := h
  refine ⟨⟨?_, ?_, ?_, ?_, ?_⟩, ⟨?_, ?_, ?_, ?_, ?_⟩, ?_⟩
  all_goals simp [go_sem, c0, c1, c2, c3, c4, c5, c6, c7, c8, c9, c10]
theorem only0 (w : World) (b o : Nat) (s p f : Int) (r q : Bool) : SetOnly b o w ((((((w).setCell ⟨b, o, none⟩ (.int .i64 s)).setCell ⟨b, o + 1, none⟩ (.int .i64 p)).setCell ⟨b, o + 2, none⟩ (.int .i64 f)).setCell ⟨b, o + 3, none⟩ (.bool r)).setCell ⟨b, o + 4, none⟩ (.bool q)) :=
  ((((((SetOnly.refl b o w).set _ _ (by omega) (by omega)).set _ _ (by omega) (by omega)).set _ _ (by omega) (by omega)).set _ _ (by omega) (by omega)).set _ _ (by omega) (by omega))
theorem store1 {w : World} {b o : Nat} {x y : TransX} {due : Int} (h : setAt w b o x y due) (s p f : Int) (r q : Bool) : setAt ((((((w).setCell ⟨b, o + 5, none⟩ (.int .i64 s)).setCell ⟨b, o + 6, none⟩ (.int .i64 p)).setCell ⟨b, o + 7, none⟩ (.int .i64 f)).setCell ⟨b, o + 8, none⟩ (.bool r)).setCell ⟨b, o + 9, none⟩ (.bool q)) b o x (X s p f r q) due := by
  obtain ⟨⟨c0, c1, c2, c3, c4⟩, ⟨c5, c6, c7, c8, c9⟩, c10⟩ := h
  refine ⟨⟨?_, ?_, ?_, ?_, ?_⟩, ⟨?_, ?_, ?_, ?_, ?_⟩, ?_⟩
  all_goals simp [go_sem, c0, c1, c2, c3, c4, c5, c6, c7, c8, c9, c10]
theorem only1 (w : World) (b o : Nat) (s p f : Int) (r q : Bool) : SetOnly b o w ((((((w).setCell ⟨b, o + 5, none⟩ (.int .i64 s)).setCell ⟨b, o + 6, none⟩ (.int .i64 p)).setCell ⟨b, o + 7, none⟩ (.int .i64 f)).setCell ⟨b, o + 8, none⟩ (.bool r)).setCell ⟨b, o + 9, none⟩ (.bool q)) :=
  ((((((SetOnly.refl b o w).set _ _ (by omega) (by omega)).set _ _ (by omega) (by omega)).set _ _ (by omega) (by omega)).set _ _ (by omega) (by omega)).set _ _ (by omega) (by omega))
theorem storeD {w : World} {b o : Nat} {x y : TransX} {due : Int} (h : setAt w b o x y due) (d : Int) : setAt (w.setCell ⟨b, o + 10, none⟩ (.int .i64 d)) b o x y d := by
  obtain ⟨⟨c0, c1, c2, c3, c4⟩, ⟨c5, c6, c7, c8, c9⟩, c10⟩ := h
  refine ⟨⟨?_, ?_, ?_, ?_, ?_⟩, ⟨?_, ?_, ?_, ?_, ?_⟩, ?_⟩
  all_goals simp [go_sem, c0, c1, c2, c3, c4, c5, c6, c7, c8, c9, c10]
/-- What fill makes of a set. -/
def fillR (x y : TransX) (due : Int) (t : TransX) : TransX × TransX × Int :=
  if (findR x y t.s t.p).2 = true then (if (findR x y t.s t.p).1 = 0 then (t, y, due) else (x, t, due))
  else if (emptyR x y).2 = true then (if (emptyR x y).1 = 0 then (t, y, due) else (x, t, due))
  else if due = 0 then (t, y, 1) else (x, t, 0)
set_option maxRecDepth 100000 in
set_option maxHeartbeats 1000000 in
theorem fill_f0 (w : World) (b o : Nat) (x y : TransX) (due : Int) (s p f : Int) (r q : Bool) (hb : b < w.heap.size) (h : setAt w b o x y due) (hz : ∀ j, w.frozen? ⟨b, j, none⟩ = false) (hf : findR x y s p = (0, true)) :
    Calls Try.prog 67 #[.pointer (some ⟨b, o, none⟩), trV s p f r q] w fun e w' => e = .returned (.tuple #[]) ∧ setAt w' b o (X s p f r q) y due ∧ SetOnly b o w w' := by
  have H := Lib.hid h
  have HZ := Lib.hid hz
  have HF := Lib.hid hf
  clear h hz hf
  go_enter Try.func67, Try.ntmps67
  go_wp2_with (first
    | (go_at_call 64; refine (find_any _ b o x y due s p (H.out.call hb (bal (Below.refl _ _) _))).mono ?_; rw [HF.out]; rintro e w3 ⟨rfl, hb1⟩; have hb4 : Below w.heap.size w w3 := (bgo (bal (Below.refl _ _) _) hb1); have hs1 : w.heap.size < w3.heap.size := (by have := hb1.size; simp at this; omega); obtain ⟨hc1, hf1⟩ := bcell hb1; have x0 : w3.cell? ⟨w.heap.size, 0, none⟩ = some (.int .i64 s) := ((hc1 _ _ (by simp)).trans (by simp)); have x1 : w3.cell? ⟨w.heap.size, 1, none⟩ = some (.int .i64 p) := ((hc1 _ _ (by simp)).trans (by simp)); have x2 : w3.cell? ⟨w.heap.size, 2, none⟩ = some (.int .i64 f) := ((hc1 _ _ (by simp)).trans (by simp)); have x3 : w3.cell? ⟨w.heap.size, 3, none⟩ = some (.bool r) := ((hc1 _ _ (by simp)).trans (by simp)); have x4 : w3.cell? ⟨w.heap.size, 4, none⟩ = some (.bool q) := ((hc1 _ _ (by simp)).trans (by simp)); clear hc1 hf1; have q3 := Lib.hid (H.out.call hb hb4); obtain ⟨⟨d0, d1, d2, d3, d4⟩, ⟨d5, d6, d7, d8, d9⟩, d10⟩ := q3.out; have z3 : ∀ j, w3.frozen? ⟨b, j, none⟩ = false := (fun j => (hb4.frozen (p := ⟨b, j, none⟩) hb).trans (HZ.out j))))
  go_region
  go_wp2
  go_end0
  refine ⟨rfl, ?_, ?_⟩
  · exact (store0 q3.out s p f r q).drew
  · exact ((SetOnly.below hb4).trans (only0 w3 b o s p f r q)).drew
set_option maxRecDepth 100000 in
set_option maxHeartbeats 1000000 in
theorem fill_e0 (w : World) (b o : Nat) (x y : TransX) (due : Int) (s p f : Int) (r q : Bool) (hb : b < w.heap.size) (h : setAt w b o x y due) (hz : ∀ j, w.frozen? ⟨b, j, none⟩ = false) (hf : findR x y s p = (0, false)) (hx : OkT x) (hy : OkT y) (he : emptyR x y = (0, true)) :
    Calls Try.prog 67 #[.pointer (some ⟨b, o, none⟩), trV s p f r q] w fun e w' => e = .returned (.tuple #[]) ∧ setAt w' b o (X s p f r q) y due ∧ SetOnly b o w w' := by
  have H := Lib.hid h
  have HZ := Lib.hid hz
  have HF := Lib.hid hf
  have HE := Lib.hid he
  clear he
  clear h hz hf
  go_enter Try.func67, Try.ntmps67
  go_wp2_with (first
    | (go_at_call 64; refine (find_any _ b o x y due s p (H.out.call hb (bal (Below.refl _ _) _))).mono ?_; rw [HF.out]; rintro e w3 ⟨rfl, hb1⟩; have hb4 : Below w.heap.size w w3 := (bgo (bal (Below.refl _ _) _) hb1); have hs1 : w.heap.size < w3.heap.size := (by have := hb1.size; simp at this; omega); obtain ⟨hc1, hf1⟩ := bcell hb1; have x0 : w3.cell? ⟨w.heap.size, 0, none⟩ = some (.int .i64 s) := ((hc1 _ _ (by simp)).trans (by simp)); have x1 : w3.cell? ⟨w.heap.size, 1, none⟩ = some (.int .i64 p) := ((hc1 _ _ (by simp)).trans (by simp)); have x2 : w3.cell? ⟨w.heap.size, 2, none⟩ = some (.int .i64 f) := ((hc1 _ _ (by simp)).trans (by simp)); have x3 : w3.cell? ⟨w.heap.size, 3, none⟩ = some (.bool r) := ((hc1 _ _ (by simp)).trans (by simp)); have x4 : w3.cell? ⟨w.heap.size, 4, none⟩ = some (.bool q) := ((hc1 _ _ (by simp)).trans (by simp)); clear hc1 hf1; have q3 := Lib.hid (H.out.call hb hb4); obtain ⟨⟨d0, d1, d2, d3, d4⟩, ⟨d5, d6, d7, d8, d9⟩, d10⟩ := q3.out; have z3 : ∀ j, w3.frozen? ⟨b, j, none⟩ = false := (fun j => (hb4.frozen (p := ⟨b, j, none⟩) hb).trans (HZ.out j)))
    | (go_at_call 74; refine (empty_any _ b o x y due q3.out hx hy).mono ?_; rw [HE.out]; rintro e w5 ⟨rfl, hb5⟩; have hb6 : Below w.heap.size w w5 := (bgo hb4 hb5); obtain ⟨hc1, hf1⟩ := bcell hb5; replace x0 := (hc1 _ _ hs1).trans x0; replace x1 := (hc1 _ _ hs1).trans x1; replace x2 := (hc1 _ _ hs1).trans x2; replace x3 := (hc1 _ _ hs1).trans x3; replace x4 := (hc1 _ _ hs1).trans x4; clear hc1 hf1 d0 d1 d2 d3 d4 d5 d6 d7 d8 d9 d10 z3; have q5 := Lib.hid (H.out.call hb hb6); obtain ⟨⟨d0, d1, d2, d3, d4⟩, ⟨d5, d6, d7, d8, d9⟩, d10⟩ := q5.out; have z5 : ∀ j, w5.frozen? ⟨b, j, none⟩ = false := (fun j => (hb6.frozen (p := ⟨b, j, none⟩) hb).trans (HZ.out j))))
  go_region
  go_wp2
  go_end0
  refine ⟨rfl, ?_, ?_⟩
  · exact (store0 q5.out s p f r q).drew
  · exact ((SetOnly.below hb6).trans (only0 w5 b o s p f r q)).drew
set_option maxRecDepth 100000 in
set_option maxHeartbeats 1000000 in
theorem fill_f1 (w : World) (b o : Nat) (x y : TransX) (due : Int) (s p f : Int) (r q : Bool) (hb : b < w.heap.size) (h : setAt w b o x y due) (hz : ∀ j, w.frozen? ⟨b, j, none⟩ = false) (hf : findR x y s p = (1, true)) :
    Calls Try.prog 67 #[.pointer (some ⟨b, o, none⟩), trV s p f r q] w fun e w' => e = .returned (.tuple #[]) ∧ setAt w' b o x (X s p f r q) due ∧ SetOnly b o w w' := by
  have H := Lib.hid h
  have HZ := Lib.hid hz
  have HF := Lib.hid hf
  clear h hz hf
  go_enter Try.func67, Try.ntmps67
  go_wp2_with (first
    | (go_at_call 64; refine (find_any _ b o x y due s p (H.out.call hb (bal (Below.refl _ _) _))).mono ?_; rw [HF.out]; rintro e w3 ⟨rfl, hb1⟩; have hb4 : Below w.heap.size w w3 := (bgo (bal (Below.refl _ _) _) hb1); have hs1 : w.heap.size < w3.heap.size := (by have := hb1.size; simp at this; omega); obtain ⟨hc1, hf1⟩ := bcell hb1; have x0 : w3.cell? ⟨w.heap.size, 0, none⟩ = some (.int .i64 s) := ((hc1 _ _ (by simp)).trans (by simp)); have x1 : w3.cell? ⟨w.heap.size, 1, none⟩ = some (.int .i64 p) := ((hc1 _ _ (by simp)).trans (by simp)); have x2 : w3.cell? ⟨w.heap.size, 2, none⟩ = some (.int .i64 f) := ((hc1 _ _ (by simp)).trans (by simp)); have x3 : w3.cell? ⟨w.heap.size, 3, none⟩ = some (.bool r) := ((hc1 _ _ (by simp)).trans (by simp)); have x4 : w3.cell? ⟨w.heap.size, 4, none⟩ = some (.bool q) := ((hc1 _ _ (by simp)).trans (by simp)); clear hc1 hf1; have q3 := Lib.hid (H.out.call hb hb4); obtain ⟨⟨d0, d1, d2, d3, d4⟩, ⟨d5, d6, d7, d8, d9⟩, d10⟩ := q3.out; have z3 : ∀ j, w3.frozen? ⟨b, j, none⟩ = false := (fun j => (hb4.frozen (p := ⟨b, j, none⟩) hb).trans (HZ.out j))))
  go_region
  go_wp2
  go_end0
  refine ⟨rfl, ?_, ?_⟩
  · exact (store1 q3.out s p f r q).drew
  · exact ((SetOnly.below hb4).trans (only1 w3 b o s p f r q)).drew
set_option maxRecDepth 100000 in
set_option maxHeartbeats 1000000 in
theorem fill_e1 (w : World) (b o : Nat) (x y : TransX) (due : Int) (s p f : Int) (r q : Bool) (hb : b < w.heap.size) (h : setAt w b o x y due) (hz : ∀ j, w.frozen? ⟨b, j, none⟩ = false) (hf : findR x y s p = (0, false)) (hx : OkT x) (hy : OkT y) (he : emptyR x y = (1, true)) :
    Calls Try.prog 67 #[.pointer (some ⟨b, o, none⟩), trV s p f r q] w fun e w' => e = .returned (.tuple #[]) ∧ setAt w' b o x (X s p f r q) due ∧ SetOnly b o w w' := by
  have H := Lib.hid h
  have HZ := Lib.hid hz
  have HF := Lib.hid hf
  have HE := Lib.hid he
  clear he
  clear h hz hf
  go_enter Try.func67, Try.ntmps67
  go_wp2_with (first
    | (go_at_call 64; refine (find_any _ b o x y due s p (H.out.call hb (bal (Below.refl _ _) _))).mono ?_; rw [HF.out]; rintro e w3 ⟨rfl, hb1⟩; have hb4 : Below w.heap.size w w3 := (bgo (bal (Below.refl _ _) _) hb1); have hs1 : w.heap.size < w3.heap.size := (by have := hb1.size; simp at this; omega); obtain ⟨hc1, hf1⟩ := bcell hb1; have x0 : w3.cell? ⟨w.heap.size, 0, none⟩ = some (.int .i64 s) := ((hc1 _ _ (by simp)).trans (by simp)); have x1 : w3.cell? ⟨w.heap.size, 1, none⟩ = some (.int .i64 p) := ((hc1 _ _ (by simp)).trans (by simp)); have x2 : w3.cell? ⟨w.heap.size, 2, none⟩ = some (.int .i64 f) := ((hc1 _ _ (by simp)).trans (by simp)); have x3 : w3.cell? ⟨w.heap.size, 3, none⟩ = some (.bool r) := ((hc1 _ _ (by simp)).trans (by simp)); have x4 : w3.cell? ⟨w.heap.size, 4, none⟩ = some (.bool q) := ((hc1 _ _ (by simp)).trans (by simp)); clear hc1 hf1; have q3 := Lib.hid (H.out.call hb hb4); obtain ⟨⟨d0, d1, d2, d3, d4⟩, ⟨d5, d6, d7, d8, d9⟩, d10⟩ := q3.out; have z3 : ∀ j, w3.frozen? ⟨b, j, none⟩ = false := (fun j => (hb4.frozen (p := ⟨b, j, none⟩) hb).trans (HZ.out j)))
    | (go_at_call 74; refine (empty_any _ b o x y due q3.out hx hy).mono ?_; rw [HE.out]; rintro e w5 ⟨rfl, hb5⟩; have hb6 : Below w.heap.size w w5 := (bgo hb4 hb5); obtain ⟨hc1, hf1⟩ := bcell hb5; replace x0 := (hc1 _ _ hs1).trans x0; replace x1 := (hc1 _ _ hs1).trans x1; replace x2 := (hc1 _ _ hs1).trans x2; replace x3 := (hc1 _ _ hs1).trans x3; replace x4 := (hc1 _ _ hs1).trans x4; clear hc1 hf1 d0 d1 d2 d3 d4 d5 d6 d7 d8 d9 d10 z3; have q5 := Lib.hid (H.out.call hb hb6); obtain ⟨⟨d0, d1, d2, d3, d4⟩, ⟨d5, d6, d7, d8, d9⟩, d10⟩ := q5.out; have z5 : ∀ j, w5.frozen? ⟨b, j, none⟩ = false := (fun j => (hb6.frozen (p := ⟨b, j, none⟩) hb).trans (HZ.out j))))
  go_region
  go_wp2
  go_end0
  refine ⟨rfl, ?_, ?_⟩
  · exact (store1 q5.out s p f r q).drew
  · exact ((SetOnly.below hb6).trans (only1 w5 b o s p f r q)).drew
set_option maxRecDepth 100000 in
set_option maxHeartbeats 1000000 in
theorem fill_d0 (w : World) (b o : Nat) (x y : TransX) (due : Int) (s p f : Int) (r q : Bool) (hb : b < w.heap.size) (h : setAt w b o x y due) (hz : ∀ j, w.frozen? ⟨b, j, none⟩ = false) (hf : findR x y s p = (0, false)) (hx : OkT x) (hy : OkT y) (he : emptyR x y = (0, false)) (hd : due = 0) :
    Calls Try.prog 67 #[.pointer (some ⟨b, o, none⟩), trV s p f r q] w fun e w' => e = .returned (.tuple #[]) ∧ setAt w' b o (X s p f r q) y 1 ∧ SetOnly b o w w' := by
  have H := Lib.hid h
  have HZ := Lib.hid hz
  have HF := Lib.hid hf
  have HE := Lib.hid he
  clear he
  subst hd
  clear h hz hf
  go_enter Try.func67, Try.ntmps67
  go_wp2_with (first
    | (go_at_call 64; refine (find_any _ b o x y _ s p (H.out.call hb (bal (Below.refl _ _) _))).mono ?_; rw [HF.out]; rintro e w3 ⟨rfl, hb1⟩; have hb4 : Below w.heap.size w w3 := (bgo (bal (Below.refl _ _) _) hb1); have hs1 : w.heap.size < w3.heap.size := (by have := hb1.size; simp at this; omega); obtain ⟨hc1, hf1⟩ := bcell hb1; have x0 : w3.cell? ⟨w.heap.size, 0, none⟩ = some (.int .i64 s) := ((hc1 _ _ (by simp)).trans (by simp)); have x1 : w3.cell? ⟨w.heap.size, 1, none⟩ = some (.int .i64 p) := ((hc1 _ _ (by simp)).trans (by simp)); have x2 : w3.cell? ⟨w.heap.size, 2, none⟩ = some (.int .i64 f) := ((hc1 _ _ (by simp)).trans (by simp)); have x3 : w3.cell? ⟨w.heap.size, 3, none⟩ = some (.bool r) := ((hc1 _ _ (by simp)).trans (by simp)); have x4 : w3.cell? ⟨w.heap.size, 4, none⟩ = some (.bool q) := ((hc1 _ _ (by simp)).trans (by simp)); clear hc1 hf1; have q3 := Lib.hid (H.out.call hb hb4); obtain ⟨⟨d0, d1, d2, d3, d4⟩, ⟨d5, d6, d7, d8, d9⟩, d10⟩ := q3.out; have z3 : ∀ j, w3.frozen? ⟨b, j, none⟩ = false := (fun j => (hb4.frozen (p := ⟨b, j, none⟩) hb).trans (HZ.out j)))
    | (go_at_call 74; refine (empty_any _ b o x y _ q3.out hx hy).mono ?_; rw [HE.out]; rintro e w5 ⟨rfl, hb5⟩; have hb6 : Below w.heap.size w w5 := (bgo hb4 hb5); obtain ⟨hc1, hf1⟩ := bcell hb5; replace x0 := (hc1 _ _ hs1).trans x0; replace x1 := (hc1 _ _ hs1).trans x1; replace x2 := (hc1 _ _ hs1).trans x2; replace x3 := (hc1 _ _ hs1).trans x3; replace x4 := (hc1 _ _ hs1).trans x4; clear hc1 hf1 d0 d1 d2 d3 d4 d5 d6 d7 d8 d9 d10 z3; have q5 := Lib.hid (H.out.call hb hb6); obtain ⟨⟨d0, d1, d2, d3, d4⟩, ⟨d5, d6, d7, d8, d9⟩, d10⟩ := q5.out; have z5 : ∀ j, w5.frozen? ⟨b, j, none⟩ = false := (fun j => (hb6.frozen (p := ⟨b, j, none⟩) hb).trans (HZ.out j))))
  go_region
  go_wp2
  go_end0
  refine ⟨rfl, ?_, ?_⟩
  · exact (store0 (storeD q5.out 1) s p f r q).drew
  · exact ((SetOnly.below hb6).trans (((SetOnly.refl b o w5).set (o + 10) (.int .i64 1) (by omega) (by omega)).trans (only0 _ b o s p f r q))).drew
set_option maxRecDepth 100000 in
set_option maxHeartbeats 1000000 in
theorem fill_d1 (w : World) (b o : Nat) (x y : TransX) (due : Int) (s p f : Int) (r q : Bool) (hb : b < w.heap.size) (h : setAt w b o x y due) (hz : ∀ j, w.frozen? ⟨b, j, none⟩ = false) (hf : findR x y s p = (0, false)) (hx : OkT x) (hy : OkT y) (he : emptyR x y = (0, false)) (hd : due = 1) :
    Calls Try.prog 67 #[.pointer (some ⟨b, o, none⟩), trV s p f r q] w fun e w' => e = .returned (.tuple #[]) ∧ setAt w' b o x (X s p f r q) 0 ∧ SetOnly b o w w' := by
  have H := Lib.hid h
  have HZ := Lib.hid hz
  have HF := Lib.hid hf
  have HE := Lib.hid he
  clear he
  subst hd
  clear h hz hf
  go_enter Try.func67, Try.ntmps67
  go_wp2_with (first
    | (go_at_call 64; refine (find_any _ b o x y _ s p (H.out.call hb (bal (Below.refl _ _) _))).mono ?_; rw [HF.out]; rintro e w3 ⟨rfl, hb1⟩; have hb4 : Below w.heap.size w w3 := (bgo (bal (Below.refl _ _) _) hb1); have hs1 : w.heap.size < w3.heap.size := (by have := hb1.size; simp at this; omega); obtain ⟨hc1, hf1⟩ := bcell hb1; have x0 : w3.cell? ⟨w.heap.size, 0, none⟩ = some (.int .i64 s) := ((hc1 _ _ (by simp)).trans (by simp)); have x1 : w3.cell? ⟨w.heap.size, 1, none⟩ = some (.int .i64 p) := ((hc1 _ _ (by simp)).trans (by simp)); have x2 : w3.cell? ⟨w.heap.size, 2, none⟩ = some (.int .i64 f) := ((hc1 _ _ (by simp)).trans (by simp)); have x3 : w3.cell? ⟨w.heap.size, 3, none⟩ = some (.bool r) := ((hc1 _ _ (by simp)).trans (by simp)); have x4 : w3.cell? ⟨w.heap.size, 4, none⟩ = some (.bool q) := ((hc1 _ _ (by simp)).trans (by simp)); clear hc1 hf1; have q3 := Lib.hid (H.out.call hb hb4); obtain ⟨⟨d0, d1, d2, d3, d4⟩, ⟨d5, d6, d7, d8, d9⟩, d10⟩ := q3.out; have z3 : ∀ j, w3.frozen? ⟨b, j, none⟩ = false := (fun j => (hb4.frozen (p := ⟨b, j, none⟩) hb).trans (HZ.out j)))
    | (go_at_call 74; refine (empty_any _ b o x y _ q3.out hx hy).mono ?_; rw [HE.out]; rintro e w5 ⟨rfl, hb5⟩; have hb6 : Below w.heap.size w w5 := (bgo hb4 hb5); obtain ⟨hc1, hf1⟩ := bcell hb5; replace x0 := (hc1 _ _ hs1).trans x0; replace x1 := (hc1 _ _ hs1).trans x1; replace x2 := (hc1 _ _ hs1).trans x2; replace x3 := (hc1 _ _ hs1).trans x3; replace x4 := (hc1 _ _ hs1).trans x4; clear hc1 hf1 d0 d1 d2 d3 d4 d5 d6 d7 d8 d9 d10 z3; have q5 := Lib.hid (H.out.call hb hb6); obtain ⟨⟨d0, d1, d2, d3, d4⟩, ⟨d5, d6, d7, d8, d9⟩, d10⟩ := q5.out; have z5 : ∀ j, w5.frozen? ⟨b, j, none⟩ = false := (fun j => (hb6.frozen (p := ⟨b, j, none⟩) hb).trans (HZ.out j))))
  go_region
  go_wp2
  go_end0
  refine ⟨rfl, ?_, ?_⟩
  · exact (store1 (storeD q5.out 0) s p f r q).drew
  · exact ((SetOnly.below hb6).trans (((SetOnly.refl b o w5).set (o + 10) (.int .i64 0) (by omega) (by omega)).trans (only1 _ b o s p f r q))).drew
theorem fill_any (w : World) (b o : Nat) (x y : TransX) (due : Int) (t : TransX) (hb : b < w.heap.size) (h : setAt w b o x y due) (hz : ∀ j, w.frozen? ⟨b, j, none⟩ = false) (hx : OkT x) (hy : OkT y) (hd : due = 0 ∨ due = 1) :
    Calls Try.prog 67 #[.pointer (some ⟨b, o, none⟩), trV t.s t.p t.f t.r t.w] w fun e w' => e = .returned (.tuple #[]) ∧ setAt w' b o (fillR x y due t).1 (fillR x y due t).2.1 (fillR x y due t).2.2 ∧ SetOnly b o w w' := by
  obtain ⟨s, p, f, r, q⟩ := t
  have hF : findR x y s p = (0, true) ∨ findR x y s p = (1, true) ∨ findR x y s p = (0, false) := by
    unfold findR
    split
    · exact .inl rfl
    · split
      · exact .inr (.inl rfl)
      · exact .inr (.inr rfl)
  have hE : emptyR x y = (0, true) ∨ emptyR x y = (1, true) ∨ emptyR x y = (0, false) := by
    unfold emptyR
    split
    · exact .inl rfl
    · split
      · exact .inr (.inl rfl)
      · exact .inr (.inr rfl)
  rcases hF with hf | hf | hf
  · rw [show fillR x y due ⟨s, p, f, r, q⟩ = (⟨s, p, f, r, q⟩, y, due) by simp [fillR, hf]]
    exact fill_f0 w b o x y due s p f r q hb h hz hf
  · rw [show fillR x y due ⟨s, p, f, r, q⟩ = (x, ⟨s, p, f, r, q⟩, due) by simp [fillR, hf]]
    exact fill_f1 w b o x y due s p f r q hb h hz hf
  · rcases hE with he | he | he
    · rw [show fillR x y due ⟨s, p, f, r, q⟩ = (⟨s, p, f, r, q⟩, y, due) by simp [fillR, hf, he]]
      exact fill_e0 w b o x y due s p f r q hb h hz hf hx hy he
    · rw [show fillR x y due ⟨s, p, f, r, q⟩ = (x, ⟨s, p, f, r, q⟩, due) by simp [fillR, hf, he]]
      exact fill_e1 w b o x y due s p f r q hb h hz hf hx hy he
    · rcases hd with rfl | rfl
      · rw [show fillR x y 0 ⟨s, p, f, r, q⟩ = (⟨s, p, f, r, q⟩, y, 1) by simp [fillR, hf, he]]
        exact fill_d0 w b o x y 0 s p f r q hb h hz hf hx hy he rfl
      · rw [show fillR x y 1 ⟨s, p, f, r, q⟩ = (x, ⟨s, p, f, r, q⟩, 0) by simp [fillR, hf, he]]
        exact fill_d1 w b o x y 1 s p f r q hb h hz hf hx hy he rfl
end Go.Proofs.Ytgfidbjhihignaa
