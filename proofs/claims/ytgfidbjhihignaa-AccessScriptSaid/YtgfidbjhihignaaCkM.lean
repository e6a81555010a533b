import Derived.Test.YtgfidbjhihignaaCoM
import Derived.Deep.RegionHeld3
import Derived.LoopTactic
import Derived.OwnWalk
import Derived.Test.YtgfidbjhihignaaApp
import Derived.Maps.AppendAt
namespace Go.Proofs.Ytgfidbjhihignaa
/- Chapter 6's own answer. -/
section
set_option linter.unusedVariables false
set_option linter.unusedSimpArgs false
open Go.ChangeShapes Go.WideShapes Go.ChangeAt Go.RowKit Go.Shelf

theorem TCells.below {w w' : World} {g i : Nat} {x : TransX} (h : TCells w g i x) (hk : Below w.heap.size w w') (hb : g < w.heap.size) : TCells w' g i x := by
  obtain ⟨c0, c1, c2, c3, c4⟩ := h
  have e : ∀ j, w'.cell? ⟨g, j, none⟩ = w.cell? ⟨g, j, none⟩ := fun j => hk.cell (p := ⟨g, j, none⟩) hb
  exact ⟨(e _).trans c0, (e _).trans c1, (e _).trans c2, (e _).trans c3, (e _).trans c4⟩
theorem TCells.only {b g i : Nat} {w w' : World} {x : TransX} (h : TCells w g i x) (ho : TlbOnly b w w') (h2 : g < w.heap.size) (hn : g ≠ b) : TCells w' g i x := by
  obtain ⟨c0, c1, c2, c3, c4⟩ := h
  exact ⟨ho.cell h2 hn c0, ho.cell h2 hn c1, ho.cell h2 hn c2, ho.cell h2 hn c3, ho.cell h2 hn c4⟩
theorem TCells.new (W : World) (x : TransX) (t : TypeId) : TCells (W.alloc (.cells #[.int .i64 x.s, .int .i64 x.p, .int .i64 x.f, .bool x.r, .bool x.w] t)) W.heap.size 0 x := by
  refine ⟨?_, ?_, ?_, ?_, ?_⟩ <;> simp [go_sem]
theorem TCells.box {W w1 w2 : World} {x : TransX} {t : TypeId} (h1 : Below (W.alloc (.cells #[.int .i64 x.s, .int .i64 x.p, .int .i64 x.f, .bool x.r, .bool x.w] t)).heap.size (W.alloc (.cells #[.int .i64 x.s, .int .i64 x.p, .int .i64 x.f, .bool x.r, .bool x.w] t)) w1) (h2 : Below w1.heap.size w1 w2) : TCells w2 W.heap.size 0 x :=
  (TCells.new W x t).below (bgo h1 h2) (by simp)
/-- Five cells at a place. -/
def WayC (w : World) (b o : Nat) (x : TransX) : Prop :=
  w.cell? ⟨b, o, none⟩ = some (.int .i64 x.s) ∧ w.cell? ⟨b, o + 1, none⟩ = some (.int .i64 x.p) ∧ w.cell? ⟨b, o + 2, none⟩ = some (.int .i64 x.f) ∧ w.cell? ⟨b, o + 3, none⟩ = some (.bool x.r) ∧ w.cell? ⟨b, o + 4, none⟩ = some (.bool x.w)
structure TRef (w : World) (b : Nat) (S : Nat → TransX × TransX × Int) : Prop where
  way : ∀ k j, k < 4 → j < 2 → WayC w b (k * 10 + j * 5) (wayP S (k, j))
  due : ∀ k, k < 4 → w.cell? ⟨b, 40 + k, none⟩ = some (.int .i64 (S k).2.2)
  free : ∀ j, w.frozen? ⟨b, j, none⟩ = false
  lt : b < w.heap.size
theorem TRef.of_block {W W' : World} {b : Nat} {S : Nat → TransX × TransX × Int} (h : TRef W b S) (hs : W.heap.size ≤ W'.heap.size) (e : W'.heap[b]? = W.heap[b]?) : TRef W' b S := by
  have q := fun j => cell_of_block (j := j) e
  refine ⟨fun k j hk hj => ?_, fun k hk => (q _).trans (h.due k hk), fun j => (frozen_of_block e).trans (h.free j), Nat.lt_of_lt_of_le h.lt hs⟩
  obtain ⟨c0, c1, c2, c3, c4⟩ := h.way k j hk hj
  exact ⟨(q _).trans c0, (q _).trans c1, (q _).trans c2, (q _).trans c3, (q _).trans c4⟩
theorem TRef.call {w w' : World} {b : Nat} {S : Nat → TransX × TransX × Int} (h : TRef w b S) (k : Below w.heap.size w w') : TRef w' b S := h.of_block k.size (k.block b h.lt)
theorem TRef.drew {w : World} {b : Nat} {S : Nat → TransX × TransX × Int} (h : TRef w b S) : TRef w.drew b S := h.of_block (Nat.le_refl _) rfl
/-- One way is another. -/
def putW (S : Nat → TransX × TransX × Int) (q : Nat × Nat) (x : TransX) : Nat → TransX × TransX × Int := if q.2 = 0 then setS S q.1 (x, (S q.1).2.1, (S q.1).2.2) else setS S q.1 ((S q.1).1, x, (S q.1).2.2)
theorem putW_way (S : Nat → TransX × TransX × Int) (q r : Nat × Nat) (x : TransX) (h1 : q.2 < 2) (h2 : r.2 < 2) : wayP (putW S q x) r = if r = q then x else wayP S r := by
  obtain ⟨a, c⟩ := q
  obtain ⟨k, j⟩ := r
  obtain rfl | rfl : c = 0 ∨ c = 1 := by simp only at h1; omega
  all_goals
    obtain rfl | rfl : j = 0 ∨ j = 1 := by simp only at h2; omega
    all_goals
      by_cases hk : k = a
      · subst hk; simp [putW, wayP, setS]
      · simp [putW, wayP, setS, hk]
theorem putW_due (S : Nat → TransX × TransX × Int) (q : Nat × Nat) (x : TransX) (k : Nat) : (putW S q x k).2.2 = (S k).2.2 := by
  unfold putW setS
  split <;> by_cases hk : k = q.1 <;> simp [hk]
theorem ref_put {w : World} {b k j : Nat} {S : Nat → TransX × TransX × Int} (h : TRef w b S) (hk : k < 4) (hj : j < 2) (x : TransX) :
    TRef (((((w.setCell ⟨b, k * 10 + j * 5, none⟩ (.int .i64 x.s)).setCell ⟨b, k * 10 + j * 5 + 1, none⟩ (.int .i64 x.p)).setCell ⟨b, k * 10 + j * 5 + 2, none⟩ (.int .i64 x.f)).setCell ⟨b, k * 10 + j * 5 + 3, none⟩ (.bool x.r)).setCell ⟨b, k * 10 + j * 5 + 4, none⟩ (.bool x.w)) b (putW S (k, j) x) := by
  refine ⟨fun k' j' hk' hj' => ?_, fun k' hk' => ?_, fun i => ?_, ?_⟩
  · obtain ⟨c0, c1, c2, c3, c4⟩ := h.way k' j' hk' hj'
    obtain ⟨d0, d1, d2, d3, d4⟩ := h.way k j hk hj
    rw [putW_way S (k, j) (k', j') x hj hj']
    by_cases e : (k', j') = (k, j)
    · rw [if_pos e]
      cases e
      refine ⟨?_, ?_, ?_, ?_, ?_⟩ <;> simp [go_sem, d0, d1, d2, d3, d4]
    · rw [if_neg e]
      have n : k' ≠ k ∨ j' ≠ j := by
        by_cases a : k' = k
        · exact .inr fun c => e (by rw [a, c])
        · exact .inl a
      refine ⟨?_, ?_, ?_, ?_, ?_⟩
      · rw [World.cell?_setCell_other, World.cell?_setCell_other, World.cell?_setCell_other, World.cell?_setCell_other, World.cell?_setCell_other, c0]
        all_goals (intro e; simp only [Addr.mk.injEq, true_and, and_true] at e; omega)
      · rw [World.cell?_setCell_other, World.cell?_setCell_other, World.cell?_setCell_other, World.cell?_setCell_other, World.cell?_setCell_other, c1]
        all_goals (intro e; simp only [Addr.mk.injEq, true_and, and_true] at e; omega)
      · rw [World.cell?_setCell_other, World.cell?_setCell_other, World.cell?_setCell_other, World.cell?_setCell_other, World.cell?_setCell_other, c2]
        all_goals (intro e; simp only [Addr.mk.injEq, true_and, and_true] at e; omega)
      · rw [World.cell?_setCell_other, World.cell?_setCell_other, World.cell?_setCell_other, World.cell?_setCell_other, World.cell?_setCell_other, c3]
        all_goals (intro e; simp only [Addr.mk.injEq, true_and, and_true] at e; omega)
      · rw [World.cell?_setCell_other, World.cell?_setCell_other, World.cell?_setCell_other, World.cell?_setCell_other, World.cell?_setCell_other, c4]
        all_goals (intro e; simp only [Addr.mk.injEq, true_and, and_true] at e; omega)
  · rw [putW_due, World.cell?_setCell_other, World.cell?_setCell_other, World.cell?_setCell_other, World.cell?_setCell_other, World.cell?_setCell_other, h.due k' hk']
    all_goals (intro e; simp only [Addr.mk.injEq, true_and, and_true] at e; omega)
  · simp [go_sem, h.free i]
  · simpa using h.lt
theorem only_put (w : World) (b o : Nat) (v0 v1 v2 v3 v4 : Value) : TlbOnly b w (((((w.setCell ⟨b, o, none⟩ v0).setCell ⟨b, o + 1, none⟩ v1).setCell ⟨b, o + 2, none⟩ v2).setCell ⟨b, o + 3, none⟩ v3).setCell ⟨b, o + 4, none⟩ v4) :=
  (((((SetOnly.refl b o w).set o v0 (by omega) (by omega)).set (o + 1) v1 (by omega) (by omega)).set (o + 2) v2 (by omega) (by omega)).set (o + 3) v3 (by omega) (by omega)).set (o + 4) v4 (by omega) (by omega) |>.tlb
set_option maxHeartbeats 1000000 in
theorem refMay_any (t : TransX) (w : World) : Calls Try.prog 61 #[trX t] w fun e w' => e = .returned (.bool (mayX t)) ∧ Below w.heap.size w w' := by
  obtain ⟨s, p, f, r, q⟩ := t
  cases r <;> cases q
  all_goals
    go_enter Try.func61, Try.ntmps61
    go_wp2
    all_goals go_ret
    all_goals refine ⟨ret_bool ?_, bal (Below.refl _ _) _⟩
    all_goals (unfold mayX; rw [Bool.eq_iff_iff]; simp; try omega)
theorem refAt_new (W : World) : TRef (W.alloc (.cells #[.int .i64 0, .int .i64 0, .int .i64 0, .bool false, .bool false, .int .i64 0, .int .i64 0, .int .i64 0, .bool false, .bool false, .int .i64 0, .int .i64 0, .int .i64 0, .bool false, .bool false, .int .i64 0, .int .i64 0, .int .i64 0, .bool false, .bool false, .int .i64 0, .int .i64 0, .int .i64 0, .bool false, .bool false, .int .i64 0, .int .i64 0, .int .i64 0, .bool false, .bool false, .int .i64 0, .int .i64 0, .int .i64 0, .bool false, .bool false, .int .i64 0, .int .i64 0, .int .i64 0, .bool false, .bool false, .int .i64 0, .int .i64 0, .int .i64 0, .int .i64 0] 109)) W.heap.size S0 := by
  refine ⟨fun k j hk hj => ?_, fun k hk => ?_, fun j => frozen_new _ _ _ _, by simp⟩
  · have e : wayP S0 (k, j) = zT := by simp [wayP]
    rw [e]
    obtain rfl | rfl | rfl | rfl : k = 0 ∨ k = 1 ∨ k = 2 ∨ k = 3 := by omega
    all_goals
      obtain rfl | rfl : j = 0 ∨ j = 1 := by omega
      all_goals
        refine ⟨?_, ?_, ?_, ?_, ?_⟩
        all_goals simp [go_sem]
  · obtain rfl | rfl | rfl | rfl : k = 0 ∨ k = 1 ∨ k = 2 ∨ k = 3 := by omega
    all_goals simp [go_sem]
end
/- Chapter 6's own Find. -/
section
set_option linter.unusedVariables false
set_option linter.unusedSimpArgs false
open Go.ChangeShapes Go.WideShapes Go.ChangeAt Go.RowKit Go.Shelf
theorem find_match {S : Nat → TransX × TransX × Int} (h : Good S) {k j : Nat} (hk : k < 4) (hj : j < 2) (h1 : 0 < (wayP S (k, j)).s) : findS S (wayP S (k, j)).s (wayP S (k, j)).p = (wayP S (k, j), true) := by
  have g := h.wayT (p := (k, j)) hk
  rcases g with g | ⟨g1, g2⟩
  · rw [g] at h1; simp at h1
  · have hp := may_pos g1
    simp only at g2
    unfold findS
    rw [if_pos ⟨hp.1, hp.2.1, hp.2.2.1⟩, g2]
    obtain rfl | rfl : j = 0 ∨ j = 1 := by omega
    · rw [if_pos (by simp [wayP])]; simp [wayP]
    · have n : ¬ ((S k).1.s = (wayP S (k, 1)).s ∧ (S k).1.p = (wayP S (k, 1)).p) := by
        rintro ⟨a, c⟩
        have := good_ways h hk (show 0 < 2 by omega) hj (by simp only [wayP, if_true]; omega) (by simpa [wayP] using a) (by simpa [wayP] using c)
        omega
      rw [if_neg n, if_pos (by simp [wayP])]; simp [wayP]
theorem find_nothing {S : Nat → TransX × TransX × Int} {a c : Int} (h : ∀ k j, k < 4 → j < 2 → ¬ (0 < (wayP S (k, j)).s ∧ (wayP S (k, j)).s = a ∧ (wayP S (k, j)).p = c)) : findS S a c = (zT, false) := by
  unfold findS
  split
  · rename_i hm
    have hk := setNo_lt hm.2.1
    have h0 := h _ 0 hk (by omega)
    have h1 := h _ 1 hk (by omega)
    simp only [wayP, if_true, show ((1 : Nat) = 0) = False by simp, if_false] at h0 h1
    rw [if_neg (fun e => h0 ⟨by omega, e.1, e.2⟩), if_neg (fun e => h1 ⟨by omega, e.1, e.2⟩)]
  · rfl
set_option maxRecDepth 100000 in
set_option maxHeartbeats 1000000 in
theorem refFind_any (w : World) (b : Nat) (S : Nat → TransX × TransX × Int) (a c : Int) (h : TRef w b S) (hS : Good S) :
    Calls Try.prog 52 #[.pointer (some ⟨b, 0, none⟩), .int .i64 a, .int .i64 c] w fun e w' => e = .returned (.tuple #[trX (findS S a c).1, .bool (findS S a c).2]) ∧ Below w.heap.size w w' := by
  have H := Lib.hid h
  have HS := Lib.hid hS
  clear h hS
  go_enter Try.func52, Try.ntmps52
  go_wp2
  have hb := H.out.lt
  obtain ⟨w0, hw0⟩ : ∃ w0, w0 = w.alloc (.cells #[.int .i64 0, .int .i64 0, .int .i64 0, .bool false, .bool false] 104) := ⟨_, rfl⟩
  rw [← hw0]
  have z0 := TCells.new w zT 104
  rw [← hw0] at z0
  have f0 : ∀ j, w0.frozen? ⟨w.heap.size, j, none⟩ = false := fun j => by rw [hw0]; exact frozen_new w _ _ j
  have B0 : Below w.heap.size w w0 := hw0 ▸ bal (Below.refl _ _) _
  have s0 : w.heap.size < w0.heap.size := by rw [hw0]; simp
  have Z0 := Lib.hid z0
  have F0 := Lib.hid f0
  have HB0 := Lib.hid B0
  clear hw0 z0 f0 B0
  go_loopw [8, 9] (fun i _ wr => ∃ k : Nat, k ≤ 4 ∧ i = .int .i64 k ∧ (∀ k' j', k' < k → j' < 2 → ¬ (0 < (wayP S (k', j')).s ∧ (wayP S (k', j')).s = a ∧ (wayP S (k', j')).p = c)) ∧ Kept w0.heap.size w0 wr) (fun i _ _ => 4 - (intOf i).toNat)
  case atStart => exact ⟨0, by omega, rfl, fun _ _ h => absurd h (by omega), Kept.refl (Nat.le_refl _)⟩
  case round =>
    obtain ⟨k, hk, rfl, hno, hK⟩ := hrel
    have HN := Lib.hid hno
    clear hno
    by_cases hlt : k < 4
    · have hlt' : (k : Int) < 4 := by omega
      go_wp2
      obtain ⟨wo, hwo⟩ : ∃ wo : World, wo = wr := ⟨_, rfl⟩
      rw [← hwo] at hK ⊢
      clear hwo
      go_loopw [9] (fun i wi => ∃ j : Nat, j ≤ 2 ∧ i = .int .i64 j ∧ Hid (∀ j', j' < j → ¬ (0 < (wayP S (k, j')).s ∧ (wayP S (k, j')).s = a ∧ (wayP S (k, j')).p = c)) ∧ Kept w0.heap.size w0 wi) (fun i _ => 2 - (intOf i).toNat)
      case atStart => exact ⟨0, by omega, rfl, Lib.hid fun _ h => absurd h (by omega), hK⟩
      case round =>
        obtain ⟨j, hj, rfl, hno2, hK2⟩ := hrel
        by_cases hjl : j < 2
        · have hjl' : (j : Int) < 2 := by omega
          have hR : TRef wr b S := H.out.call (HB0.out.trans (hK2.1.mono (Nat.le_of_lt s0)))
          obtain ⟨c0, c1, c2, c3, c4⟩ := hR.way k j hlt hjl
          obtain ⟨z0, z1, z2, z3, z4⟩ := Z0.out.kept hK2 s0
          have fz : wr.frozen? ⟨w.heap.size, 0, none⟩ = false := hK2.frozen s0 (F0.out 0)
          have fz1 : wr.frozen? ⟨w.heap.size, 1, none⟩ = false := hK2.frozen s0 (F0.out 1)
          have fz2 : wr.frozen? ⟨w.heap.size, 2, none⟩ = false := hK2.frozen s0 (F0.out 2)
          have fz3 : wr.frozen? ⟨w.heap.size, 3, none⟩ = false := hK2.frozen s0 (F0.out 3)
          have fz4 : wr.frozen? ⟨w.heap.size, 4, none⟩ = false := hK2.frozen s0 (F0.out 4)
          simp only [Nat.zero_mul, Nat.zero_add] at z0 z1 z2 z3 z4
          have hzs : w.heap.size < wr.heap.size := Nat.lt_of_lt_of_le s0 hK2.2
          have hmt := find_match HS.out hlt hjl
          have HMT := Lib.hid hmt
          clear hR hmt
          obtain ⟨x, hx⟩ : ∃ x, wayP S (k, j) = x := ⟨_, rfl⟩
          rw [hx] at c0 c1 c2 c3 c4 HMT
          have HX := Lib.hid hx
          clear hx
          obtain ⟨s, p, f, r, q⟩ := x
          simp only at c0 c1 c2 c3 c4
          have no : ∀ (wn : World), ¬ (0 < s ∧ s = a ∧ p = c) → ∀ (hKn : Kept w0.heap.size w0 wn), ∃ j_1 : Nat, j_1 ≤ 2 ∧ Value.int .i64 ((j : Int) + 1) = .int .i64 j_1 ∧ Hid (∀ j', j' < j_1 → ¬ (0 < (wayP S (k, j')).s ∧ (wayP S (k, j')).s = a ∧ (wayP S (k, j')).p = c)) ∧ Kept w0.heap.size w0 wn := fun wn hn hKn => ⟨j + 1, by omega, by go_num, Lib.hid fun j' h' => (by
            rcases Nat.lt_or_ge j' j with g | g
            · exact hno2.out j' g
            · obtain rfl : j' = j := by omega
              rw [HX.out]; exact hn), hKn⟩
          have NO := Lib.hid no
          clear no
          by_cases hs : 0 < s
          · cases ha : (s == a)
            · go_wp2
              go_roundw
              case rel => exact NO.out _ (fun h => by simp [h.2.1] at ha) (hK2.alloc _)
              case measure => simp [intOf]; omega
            · cases hp : (p == c)
              · go_wp2
                go_roundw
                case rel => exact NO.out _ (fun h => by simp [h.2.2] at hp) (hK2.alloc _)
                case measure => simp [intOf]; omega
              · obtain rfl : s = a := by simpa using ha
                obtain rfl : p = c := by simpa using hp
                have hr := HMT.out hs
                simp only at hr
                have HR := Lib.hid hr
                have BK := Lib.hid (HB0.out.trans (hK2.1.mono (Nat.le_of_lt s0)))
                clear ha hp hr
                go_wp2
                rw [HR.out]
                exact bodyPost_ret (v := .tuple #[trV s p f r q, .bool true]) (by simp [results, Try.results52, go_sem, z0, z1, z2, z3, z4, hzs]) rfl ⟨rfl, (by repeat (first | with_reducible exact BK.out | with_reducible refine Below.drew ?_ | with_reducible refine Below.setCell ?_ (by simp) _ | with_reducible refine Below.alloc ?_ (by simp; omega) _))⟩
          · have hs' : s ≤ 0 := by omega
            go_wp2
            go_roundw
            case rel => exact NO.out _ (fun h => by omega) (hK2.alloc _)
            case measure => simp [intOf]; omega
        · obtain rfl : j = 2 := by omega
          go_wp2
          go_roundw
          case rel => exact ⟨k + 1, by omega, by go_num, fun k' j' h1 h2 => (by
            rcases Nat.lt_or_ge k' k with g | g
            · exact HN.out k' j' g h2
            · obtain rfl : k' = k := by omega
              exact hno2.out j' h2), hK2⟩
          case measure => simp [intOf]; omega
    · obtain rfl : k = 4 := by omega
      have hr := find_nothing HN.out
      obtain ⟨z0, z1, z2, z3, z4⟩ := Z0.out.kept hK s0
      have fz : wr.frozen? ⟨w.heap.size, 0, none⟩ = false := hK.frozen s0 (F0.out 0)
      have fz1 : wr.frozen? ⟨w.heap.size, 1, none⟩ = false := hK.frozen s0 (F0.out 1)
      have fz2 : wr.frozen? ⟨w.heap.size, 2, none⟩ = false := hK.frozen s0 (F0.out 2)
      have fz3 : wr.frozen? ⟨w.heap.size, 3, none⟩ = false := hK.frozen s0 (F0.out 3)
      have fz4 : wr.frozen? ⟨w.heap.size, 4, none⟩ = false := hK.frozen s0 (F0.out 4)
      simp only [Nat.zero_mul, Nat.zero_add] at z0 z1 z2 z3 z4
      have HR := Lib.hid hr
      have BK := Lib.hid (HB0.out.trans (hK.1.mono (Nat.le_of_lt s0)))
      have hzs : w.heap.size < wr.heap.size := Nat.lt_of_lt_of_le s0 hK.2
      clear hr
      go_wp2
      rw [HR.out]
      exact bodyPost_ret (v := .tuple #[trV 0 0 0 false false, .bool false]) (by simp [results, Try.results52, go_sem, z0, z1, z2, z3, z4, hzs]) rfl ⟨rfl, (by repeat (first | with_reducible exact BK.out | with_reducible refine Below.drew ?_ | with_reducible refine Below.setCell ?_ (by simp) _ | with_reducible refine Below.alloc ?_ (by simp; omega) _))⟩
end
/- Chapter 6's own Evict, Drop. -/
section
set_option linter.unusedVariables false
set_option linter.unusedSimpArgs false
open Go.ChangeShapes Go.WideShapes Go.ChangeAt Go.RowKit Go.Shelf
theorem wipe_put (S : Nat → TransX × TransX × Int) {k j : Nat} (hj : j < 2) : wipeP S (k, j) = putW S (k, j) zT := by
  obtain rfl | rfl : j = 0 ∨ j = 1 := by omega
  · simp [wipeP, putW]
  · simp [wipeP, putW]
theorem ref_wipe {w : World} {b k j : Nat} {S : Nat → TransX × TransX × Int} (h : TRef w b S) (hk : k < 4) (hj : j < 2) :
    TRef (((((w.setCell ⟨b, k * 10 + j * 5, none⟩ (.int .i64 0)).setCell ⟨b, k * 10 + j * 5 + 1, none⟩ (.int .i64 0)).setCell ⟨b, k * 10 + j * 5 + 2, none⟩ (.int .i64 0)).setCell ⟨b, k * 10 + j * 5 + 3, none⟩ (.bool false)).setCell ⟨b, k * 10 + j * 5 + 4, none⟩ (.bool false)) b (wipeP S (k, j)) := by
  rw [wipe_put S hj]
  exact ref_put h hk hj zT
/-- What chapter 6's own Drop throws out. -/
def outR (a c : Int) (al : Bool) (x : TransX) : Bool := al || (x.s == a && (c == -1 || x.p == c))
theorem out_page {a c : Int} (h : (c == -1) = false) : outR a c false = pageOut a c := by
  funext x
  simp [outR, pageOut, h]
theorem out_space (a : Int) : outR a (-1) false = spaceOut a := by
  funext x
  simp [outR, spaceOut]
end
/- Chapter 6's own All. -/
section
set_option linter.unusedVariables false
set_option linter.unusedSimpArgs false
open Go.ChangeShapes Go.WideShapes Go.ChangeAt Go.RowKit Go.Shelf
theorem cells_new5' (W : World) (x : TransX) (t : TypeId) : ∀ (j : Nat) (u : Value), (cellsT x)[j]? = some u → (W.alloc (.cells #[.int .i64 x.s, .int .i64 x.p, .int .i64 x.f, .bool x.r, .bool x.w] t)).cell? ((⟨W.heap.size, 0, none⟩ : Addr).add j) = some u := by
  intro j u hj
  have := cells_new5 W x t j u hj
  simpa [cellsT] using this
end
/- Chapter 6's own Fill. -/
section
set_option linter.unusedVariables false
set_option linter.unusedSimpArgs false
open Go.ChangeShapes Go.WideShapes Go.ChangeAt Go.RowKit Go.Shelf
theorem fill_match {S : Nat → TransX × TransX × Int} {t : TransX} {j : Nat} (ht : mayX t = true) (hj : j < 2) (h : (wayP S (setNo t.p, j)).s = t.s ∧ (wayP S (setNo t.p, j)).p = t.p) (hb : ∀ j', j' < j → ¬ ((wayP S (setNo t.p, j')).s = t.s ∧ (wayP S (setNo t.p, j')).p = t.p)) : fillS S t = putW S (setNo t.p, j) t := by
  unfold fillS
  rw [if_pos ht]
  obtain rfl | rfl : j = 0 ∨ j = 1 := by omega
  · simp only [wayP, if_true] at h
    simp [fillR, findR, h, putW]
  · have h0 := hb 0 (by omega)
    simp only [wayP, if_true, show ((1 : Nat) = 0) = False by simp, if_false] at h h0
    simp [fillR, findR, h, h0, putW]
theorem fill_empty {S : Nat → TransX × TransX × Int} {t : TransX} {j : Nat} (ht : mayX t = true) (hj : j < 2) (ok : ∀ j', j' < 2 → OkT (wayP S (setNo t.p, j'))) (hn : ∀ j', j' < 2 → ¬ ((wayP S (setNo t.p, j')).s = t.s ∧ (wayP S (setNo t.p, j')).p = t.p)) (h : (wayP S (setNo t.p, j)).s = 0) (hb : ∀ j', j' < j → (wayP S (setNo t.p, j')).s ≠ 0) : fillS S t = putW S (setNo t.p, j) t := by
  have z : ∀ x, OkT x → x.s = 0 → x = zT := fun x o e => o.elim id (fun g => by omega)
  unfold fillS
  rw [if_pos ht]
  have n0 := hn 0 (by omega)
  have n1 := hn 1 (by omega)
  have o0 := ok 0 (by omega)
  have o1 := ok 1 (by omega)
  simp only [wayP, if_true, show ((1 : Nat) = 0) = False by simp, if_false] at n0 n1 o0 o1
  obtain rfl | rfl : j = 0 ∨ j = 1 := by omega
  · simp only [wayP, if_true] at h
    have := z _ o0 h
    rw [this] at n0
    simp [fillR, findR, emptyR, this, n1, n0, putW]
  · have h0 := hb 0 (by omega)
    simp only [wayP, if_true, show ((1 : Nat) = 0) = False by simp, if_false] at h h0
    have := z _ o1 h
    have nz : (S (setNo t.p)).1 ≠ zT := fun e => h0 (by rw [e])
    rw [this] at n1
    simp [fillR, findR, emptyR, this, n1, n0, nz, putW]
theorem fill_due {S : Nat → TransX × TransX × Int} {t : TransX} (ht : mayX t = true) (hn : ∀ j', j' < 2 → ¬ ((wayP S (setNo t.p, j')).s = t.s ∧ (wayP S (setNo t.p, j')).p = t.p)) (hb : ∀ j', j' < 2 → (wayP S (setNo t.p, j')).s ≠ 0) :
    fillS S t = setS S (setNo t.p) (if (S (setNo t.p)).2.2 = 0 then (t, (S (setNo t.p)).2.1, 1) else ((S (setNo t.p)).1, t, 0)) := by
  unfold fillS
  rw [if_pos ht]
  have n0 := hn 0 (by omega)
  have n1 := hn 1 (by omega)
  have h0 := hb 0 (by omega)
  have h1 := hb 1 (by omega)
  simp only [wayP, if_true, show ((1 : Nat) = 0) = False by simp, if_false] at n0 n1 h0 h1
  have z0 : (S (setNo t.p)).1 ≠ zT := fun e => h0 (by rw [e])
  have z1 : (S (setNo t.p)).2.1 ≠ zT := fun e => h1 (by rw [e])
  simp [fillR, findR, emptyR, n0, n1, z0, z1]
theorem ref_due {w : World} {b k : Nat} {S : Nat → TransX × TransX × Int} (h : TRef w b S) (hk : k < 4) (d : Int) : TRef (w.setCell ⟨b, 40 + k, none⟩ (.int .i64 d)) b (setS S k ((S k).1, (S k).2.1, d)) := by
  refine ⟨fun k' j' hk' hj' => ?_, fun k' hk' => ?_, fun i => ?_, by simpa using h.lt⟩
  · obtain ⟨c0, c1, c2, c3, c4⟩ := h.way k' j' hk' hj'
    have e : wayP (setS S k ((S k).1, (S k).2.1, d)) (k', j') = wayP S (k', j') := by
      unfold wayP setS
      by_cases hkk : k' = k
      · subst hkk; simp
      · simp [hkk]
    rw [e]
    refine ⟨?_, ?_, ?_, ?_, ?_⟩
    all_goals (rw [World.cell?_setCell_other]; assumption; intro e; simp only [Addr.mk.injEq, true_and, and_true] at e; omega)
  · have c := h.due k' hk'
    unfold setS
    by_cases hkk : k' = k
    · subst hkk; simp [go_sem, c]
    · rw [World.cell?_setCell_other, if_neg hkk]
      · exact c
      · intro e; simp only [Addr.mk.injEq, true_and, and_true] at e; omega
  · simp [go_sem, h.free i]
theorem put_due0 {S : Nat → TransX × TransX × Int} {k : Nat} {t : TransX} {d : Int} : setS (putW S (k, 0) t) k ((putW S (k, 0) t k).1, (putW S (k, 0) t k).2.1, d) = setS S k (t, (S k).2.1, d) := by
  funext i
  by_cases h : i = k <;> simp [putW, setS, h]
theorem put_due1 {S : Nat → TransX × TransX × Int} {k : Nat} {t : TransX} {d : Int} : setS (putW S (k, 1) t) k ((putW S (k, 1) t k).1, (putW S (k, 1) t k).2.1, d) = setS S k ((S k).1, t, d) := by
  funext i
  by_cases h : i = k <;> simp [putW, setS, h]
theorem TlbOnly.drew {b : Nat} {a c : World} (h : TlbOnly b a c) : TlbOnly b a c.drew := ⟨h.os, h.tape, h.output, h.size, h.block⟩
theorem only_one (w : World) (b o : Nat) (v : Value) : TlbOnly b w (w.setCell ⟨b, o, none⟩ v) := ((SetOnly.refl b o w).set o v (by omega) (by omega)).tlb
theorem TRef.drewN {w : World} {b : Nat} {S : Nat → TransX × TransX × Int} (h : TRef w b S) (k : Nat) : TRef (w.drewN k) b S := h.of_block (by rw [World.heap_drewN]; exact Nat.le_refl _) (by rw [World.heap_drewN])
set_option maxRecDepth 100000 in
set_option maxHeartbeats 1000000 in
theorem refFill_no (w : World) (b : Nat) (t : TransX) (ht : mayX t = false) :
    Calls Try.prog 54 #[.pointer (some ⟨b, 0, none⟩), trX t] w fun e w' => e = .returned (.int .i64 2) ∧ Below w.heap.size w w' := by
  have HM := Lib.hid ht
  clear ht
  go_enter Try.func54, Try.ntmps54
  go_wp2_with (first
    | (go_at_call 61; refine (refMay_any t _).mono ?_; rw [HM.out]; rintro e w1 ⟨rfl, hb1⟩))
  go_ret
  exact ⟨rfl, bgo (bal (Below.refl _ _) _) hb1⟩
set_option maxRecDepth 100000 in
set_option maxHeartbeats 4000000 in
theorem refFill_yes (w : World) (b : Nat) (S : Nat → TransX × TransX × Int) (t : TransX) (h : TRef w b S) (hS : Oks S) (ht : mayX t = true) :
    Calls Try.prog 54 #[.pointer (some ⟨b, 0, none⟩), trX t] w fun e w' => e = .returned (.int .i64 0) ∧ TRef w' b (fillS S t) ∧ TlbOnly b w w' := by
  have hp := may_pos ht
  have hk := setNo_lt hp.2.1
  have hkk : t.p % 4 = (setNo t.p : Nat) := by unfold setNo; omega
  have hpp : 0 ≤ t.p := hp.2.1
  have hdd := (hS _ hk).2.2
  have HM := Lib.hid ht
  have H := Lib.hid h
  have HOK := Lib.hid (fun j' (hj' : j' < 2) => hS.way (setNo t.p) j' hk hj')
  have fm := fun j hj a b => fill_match (S := S) (j := j) ht hj a b
  have fe := fun j hj a b c => fill_empty (S := S) (j := j) ht hj HOK.out a b c
  have fd := fun a b => fill_due (S := S) ht a b
  have hb := h.lt
  have hp5 : t.p < 512 := hp.2.2.1
  generalize hKK : setNo t.p = K at hk hkk hdd HOK fm fe fd
  have hk' : (K : Int) < 4 := by omega
  have FM := Lib.hid fm
  have FE := Lib.hid fe
  have FD := Lib.hid fd
  have HKK := Lib.hid hkk
  clear ht h hS fm fe fd hkk hKK hp
  go_enter Try.func54, Try.ntmps54
  go_wp2_with (first
    | (go_at_call 61; refine (refMay_any t _).mono ?_; rw [HM.out]; rintro e w1 ⟨rfl, hb1⟩; obtain ⟨x0, x1, x2, x3, x4⟩ := (TCells.new w t _).below hb1 (by simp); simp only [Nat.zero_mul, Nat.zero_add] at x0 x1 x2 x3 x4))
  rw [HKK.out]
  have hs1 : w.heap.size < w1.heap.size := by have := hb1.size; simp at this; omega
  have BW : Below w.heap.size w w1 := bgo (bal (Below.refl _ _) _) hb1
  have H1 := Lib.hid (H.out.call BW)
  have X1 : TCells w1 w.heap.size 0 t := ⟨by simpa using x0, by simpa using x1, by simpa using x2, by simpa using x3, by simpa using x4⟩
  have HX := Lib.hid X1
  have HBW := Lib.hid BW
  clear x0 x1 x2 x3 x4 hb1 BW X1
  go_loopw [6] (fun i wr => ∃ j : Nat, j ≤ 2 ∧ i = .int .i64 j ∧ Hid (∀ j', j' < j → ¬ ((wayP S (K, j')).s = t.s ∧ (wayP S (K, j')).p = t.p)) ∧ Kept w1.heap.size w1 wr) (fun i _ => 2 - (intOf i).toNat)
  case atStart => exact ⟨0, by omega, rfl, Lib.hid fun _ h => absurd h (by omega), Kept.refl (Nat.le_refl _)⟩
  case round =>
    obtain ⟨j, hj, rfl, hno, hK⟩ := hrel
    by_cases hjl : j < 2
    · have hjl' : (j : Int) < 2 := by omega
      have hR := H1.out.call hK.1
      obtain ⟨c0, c1, c2, c3, c4⟩ := hR.way K j hk hjl
      obtain ⟨x0, x1, x2, x3, x4⟩ := HX.out.kept hK hs1
      simp only [Nat.zero_mul, Nat.zero_add] at x0 x1 x2 x3 x4
      have hfz := hR.free
      have fmj := FM.out j hjl
      obtain ⟨x, hx⟩ : ∃ x, wayP S (K, j) = x := ⟨_, rfl⟩
      rw [hx] at c0 c1 c2 c3 c4 fmj
      have HXX := Lib.hid hx
      have HFM := Lib.hid fmj
      have HR := Lib.hid hR
      clear hx fmj hR
      have no : ¬ (x.s = t.s ∧ x.p = t.p) → ∃ j_1 : Nat, j_1 ≤ 2 ∧ Value.int .i64 ((j : Int) + 1) = .int .i64 j_1 ∧ Hid (∀ j', j' < j_1 → ¬ ((wayP S (K, j')).s = t.s ∧ (wayP S (K, j')).p = t.p)) := fun hn => ⟨j + 1, by omega, by go_num, Lib.hid fun j' h' => (by
        rcases Nat.lt_or_ge j' j with g | g
        · exact hno.out j' g
        · obtain rfl : j' = j := by omega
          rw [HXX.out]; exact hn)⟩
      have NO := Lib.hid no
      clear no
      cases h1 : (x.s == t.s)
      · go_wp2
        go_quiet (fail)
        all_goals
          go_wp2
          go_roundw
          case rel => obtain ⟨i1, a1, a2, a3⟩ := NO.out (fun h => by simp [h.1] at h1); exact ⟨i1, a1, a2, a3, hK.drewN _⟩
          case measure => simp [intOf]; omega
      · cases h2 : (x.p == t.p)
        · go_wp2
          go_quiet (fail)
          all_goals
            go_wp2
            go_roundw
            case rel => obtain ⟨i1, a1, a2, a3⟩ := NO.out (fun h => by simp [h.2] at h2); exact ⟨i1, a1, a2, a3, hK.drewN _⟩
            case measure => simp [intOf]; omega
        · have hff := HFM.out ⟨by simpa using h1, by simpa using h2⟩ hno.out
          have HFF := Lib.hid hff
          clear hff
          go_wp2
          go_quiet (fail)
          all_goals
            go_wp2
            go_region
            go_wp2
            go_ret
            rw [HFF.out]
            refine ⟨rfl, ?_, ?_⟩
            · exact ref_put (HR.out.drewN _) hk hjl t
            · exact (TlbOnly.of_below (bgo HBW.out (hK.drewN _).1)).trans (only_put _ _ _ _ _ _ _ _)
    · obtain rfl : j = 2 := by omega
      have HNO := hno
      go_wp2
      obtain ⟨wo, hwo⟩ : ∃ wo : World, wo = wr := ⟨_, rfl⟩
      rw [← hwo] at hK ⊢
      clear hwo hno
      go_loopw [7] (fun i wr => ∃ j : Nat, j ≤ 2 ∧ i = .int .i64 j ∧ Hid (∀ j', j' < j → (wayP S (K, j')).s ≠ 0) ∧ Kept w1.heap.size w1 wr) (fun i _ => 2 - (intOf i).toNat)
      case atStart => exact ⟨0, by omega, rfl, Lib.hid fun _ h => absurd h (by omega), hK⟩
      case round =>
        obtain ⟨j, hj, rfl, hno, hK2⟩ := hrel
        have hR := H1.out.call hK2.1
        have hfz := hR.free
        by_cases hjl : j < 2
        · have hjl' : (j : Int) < 2 := by omega
          obtain ⟨c0, c1, c2, c3, c4⟩ := hR.way K j hk hjl
          obtain ⟨x0, x1, x2, x3, x4⟩ := HX.out.kept hK2 hs1
          simp only [Nat.zero_mul, Nat.zero_add] at x0 x1 x2 x3 x4
          have fej := FE.out j hjl HNO.out
          obtain ⟨x, hx⟩ : ∃ x, wayP S (K, j) = x := ⟨_, rfl⟩
          rw [hx] at c0 c1 c2 c3 c4 fej
          have HXX := Lib.hid hx
          have HFE := Lib.hid fej
          have HR := Lib.hid hR
          clear hx fej hR
          cases h1 : (x.s == 0)
          · have h1' : x.s ≠ 0 := by simpa using h1
            have H1' := Lib.hid h1'
            clear h1'
            go_wp2
            go_roundw
            case rel => exact ⟨j + 1, by omega, by go_num, Lib.hid fun j' h' => (by
              rcases Nat.lt_or_ge j' j with g | g
              · exact hno.out j' g
              · obtain rfl : j' = j := by omega
                rw [HXX.out]; exact H1'.out), hK2⟩
            case measure => simp [intOf]; omega
          · have hff := HFE.out (by simpa using h1) hno.out
            have HFF := Lib.hid hff
            clear hff
            go_wp2
            go_region
            go_wp2
            go_ret
            rw [HFF.out]
            refine ⟨rfl, ?_, ?_⟩
            · exact ref_put (HR.out.drew) hk hjl t
            · exact (TlbOnly.of_below (bgo HBW.out hK2.drew.1)).trans (only_put _ _ _ _ _ _ _ _)
        · obtain rfl : j = 2 := by omega
          obtain ⟨x0, x1, x2, x3, x4⟩ := HX.out.kept hK2 hs1
          simp only [Nat.zero_mul, Nat.zero_add] at x0 x1 x2 x3 x4
          have hd := hR.due K hk
          have c00 := hR.way K 0 hk (by omega)
          have c01 := hR.way K 1 hk (by omega)
          have hff := FD.out HNO.out hno.out
          have HR := Lib.hid hR
          rcases hdd with hdd | hdd
          · rw [if_pos hdd] at hff
            rw [hdd] at hd
            obtain ⟨c0, c1, c2, c3, c4⟩ := c00
            simp only [Nat.zero_mul, Nat.add_zero] at c0 c1 c2 c3 c4
            have HFF := Lib.hid hff
            clear hff c01 hR hdd
            go_wp2
            go_region
            go_wp2
            go_region
            go_wp2
            go_ret
            rw [HFF.out]
            refine ⟨rfl, ?_, ?_⟩
            · have p0 := ref_due (ref_put HR.out hk (show 0 < 2 by omega) t) hk 1
              rw [put_due0] at p0
              simp only [Nat.zero_mul, Nat.add_zero] at p0
              exact p0.drew.drew
            · exact (((TlbOnly.of_below (bgo HBW.out hK2.1)).trans (only_put _ _ _ _ _ _ _ _)).trans (only_one _ _ _ _)).drew.drew
          · rw [if_neg (by omega)] at hff
            rw [hdd] at hd
            obtain ⟨c0, c1, c2, c3, c4⟩ := c01
            simp only [Nat.one_mul] at c0 c1 c2 c3 c4
            have HFF := Lib.hid hff
            clear hff c00 hR hdd
            go_wp2
            go_region
            go_wp2
            go_region
            go_wp2
            go_ret
            rw [HFF.out]
            refine ⟨rfl, ?_, ?_⟩
            · have p0 := ref_due (ref_put HR.out hk (show 1 < 2 by omega) t) hk 0
              rw [put_due1] at p0
              simp only [Nat.one_mul, Nat.add_assoc, Nat.reduceAdd] at p0 ⊢
              exact p0.drew.drew
            · exact (((TlbOnly.of_below (bgo HBW.out hK2.1)).trans (only_put _ _ _ _ _ _ _ _)).trans (only_one _ _ _ _)).drew.drew
theorem refFill_any (w : World) (b : Nat) (S : Nat → TransX × TransX × Int) (t : TransX) (h : TRef w b S) (hS : Oks S) :
    Calls Try.prog 54 #[.pointer (some ⟨b, 0, none⟩), trX t] w fun e w' => e = .returned (.int .i64 (codeF t)) ∧ TRef w' b (fillS S t) ∧ TlbOnly b w w' := by
  cases hm : mayX t
  · refine (refFill_no w b t hm).mono ?_
    rintro e w' ⟨rfl, hb⟩
    unfold codeF fillS
    rw [hm]
    exact ⟨rfl, h.call hb, TlbOnly.of_below hb⟩
  · refine (refFill_yes w b S t h hS hm).mono ?_
    rintro e w' ⟨rfl, h2⟩
    unfold codeF
    rw [hm]
    exact ⟨rfl, h2⟩
end
end Go.Proofs.Ytgfidbjhihignaa
