/- Chapter 6's own Find and Evict. -/
import Derived.Test.YtimgiplcejcaaaaTlbY
import Derived.Test.YtimgiplcejcaaaaTlbFilled
namespace Go.Proofs.Ytimgiplcejcaaaa
set_option linter.unusedVariables false
set_option linter.unusedSimpArgs false
open Go.ChangeShapes Go.WideShapes Go.ChangeAt Go.RowKit

theorem find_match {S : Nat → TransX × TransX × Int} (h : Good S) {k j : Nat} (hk : k < 4) (hj : j < 2) (h1 : 0 < (wayP S (k, j)).s) : findS S (wayP S (k, j)).s (wayP S (k, j)).p = (wayP S (k, j), true) := by
  have g := h.wayT (p := (k, j)) hk
  rcases g with g | ⟨g1, g2⟩
  · rw [g] at h1; simp at h1
  · have hp := may_pos g1
    simp only at g2
    unfold findS
    rw [if_pos ⟨hp.1, hp.2.1, hp.2.2.1⟩, g2]
    obtain rfl | rfl : j = 0 ∨ j = 1 := by omega
    · rw [if_pos (by simp [wayP])]; simp [wayP]
    · have n : ¬ ((S k).1.s = (wayP S (k, 1)).s ∧ (S k).1.p = (wayP S (k, 1)).p) := by
        rintro ⟨a, c⟩
        have := good_ways h hk (show 0 < 2 by omega) hj (by simp only [wayP, if_true]; omega) (by simpa [wayP] using a) (by simpa [wayP] using c)
        omega
      rw [if_neg n, if_pos (by simp [wayP])]; simp [wayP]
theorem find_nothing {S : Nat → TransX × TransX × Int} {a c : Int} (h : ∀ k j, k < 4 → j < 2 → ¬ (0 < (wayP S (k, j)).s ∧ (wayP S (k, j)).s = a ∧ (wayP S (k, j)).p = c)) : findS S a c = (zT, false) := by
  unfold findS
  split
  · rename_i hm
    have hk := setNo_lt hm.2.1
    have h0 := h _ 0 hk (by omega)
    have h1 := h _ 1 hk (by omega)
    simp only [wayP, if_true, show ((1 : Nat) = 0) = False by simp, if_false] at h0 h1
    rw [if_neg (fun e => h0 ⟨by omega, e.1, e.2⟩), if_neg (fun e => h1 ⟨by omega, e.1, e.2⟩)]
  · rfl
set_option maxRecDepth 100000 in
set_option maxHeartbeats 1000000 in
theorem refFind_any (w : World) (b : Nat) (S : Nat → TransX × TransX × Int) (a c : Int) (h : RefAt w b S) (hS : Good S) :
    Calls Try.prog 15 #[.pointer (some ⟨b, 0, none⟩), .int .i64 a, .int .i64 c] w fun e w' => e = .returned (.tuple #[trX (findS S a c).1, .bool (findS S a c).2]) ∧ Below w.heap.size w w' := by
  have H := Lib.hid h
  have HS := Lib.hid hS
  clear h hS
  go_enter Try.func15, Try.ntmps15
  go_wp2
  have hb := H.out.lt
  obtain ⟨w0, hw0⟩ : ∃ w0, w0 = w.alloc (.cells #[.int .i64 0, .int .i64 0, .int .i64 0, .bool false, .bool false] 28) := ⟨_, rfl⟩
  rw [← hw0]
  have z0 := TCells.new w zT 28
  rw [← hw0] at z0
  have f0 : ∀ j, w0.frozen? ⟨w.heap.size, j, none⟩ = false := fun j => by rw [hw0]; exact frozen_new w _ _ j
  have B0 : Below w.heap.size w w0 := hw0 ▸ bal (Below.refl _ _) _
  have s0 : w.heap.size < w0.heap.size := by rw [hw0]; simp
  have Z0 := Lib.hid z0
  have F0 := Lib.hid f0
  have HB0 := Lib.hid B0
  clear hw0 z0 f0 B0
  go_loopw [8, 9] (fun i _ wr => ∃ k : Nat, k ≤ 4 ∧ i = .int .i64 k ∧ (∀ k' j', k' < k → j' < 2 → ¬ (0 < (wayP S (k', j')).s ∧ (wayP S (k', j')).s = a ∧ (wayP S (k', j')).p = c)) ∧ Kept w0.heap.size w0 wr) (fun i _ _ => 4 - (intOf i).toNat)
  case atStart => exact ⟨0, by omega, rfl, fun _ _ h => absurd h (by omega), Kept.refl (Nat.le_refl _)⟩
  case round =>
    obtain ⟨k, hk, rfl, hno, hK⟩ := hrel
    have HN := Lib.hid hno
    clear hno
    by_cases hlt : k < 4
    · have hlt' : (k : Int) < 4 := by omega
      go_wp2
      obtain ⟨wo, hwo⟩ : ∃ wo : World, wo = wr := ⟨_, rfl⟩
      rw [← hwo] at hK ⊢
      clear hwo
      go_loopw [9] (fun i wi => ∃ j : Nat, j ≤ 2 ∧ i = .int .i64 j ∧ Hid (∀ j', j' < j → ¬ (0 < (wayP S (k, j')).s ∧ (wayP S (k, j')).s = a ∧ (wayP S (k, j')).p = c)) ∧ Kept w0.heap.size w0 wi) (fun i _ => 2 - (intOf i).toNat)
      case atStart => exact ⟨0, by omega, rfl, Lib.hid fun _ h => absurd h (by omega), hK⟩
      case round =>
        obtain ⟨j, hj, rfl, hno2, hK2⟩ := hrel
        by_cases hjl : j < 2
        · have hjl' : (j : Int) < 2 := by omega
          have hR : RefAt wr b S := H.out.call (HB0.out.trans (hK2.1.mono (Nat.le_of_lt s0)))
          obtain ⟨c0, c1, c2, c3, c4⟩ := hR.way k j hlt hjl
          obtain ⟨z0, z1, z2, z3, z4⟩ := Z0.out.kept hK2 s0
          have fz : wr.frozen? ⟨w.heap.size, 0, none⟩ = false := hK2.frozen s0 (F0.out 0)
          have fz1 : wr.frozen? ⟨w.heap.size, 1, none⟩ = false := hK2.frozen s0 (F0.out 1)
          have fz2 : wr.frozen? ⟨w.heap.size, 2, none⟩ = false := hK2.frozen s0 (F0.out 2)
          have fz3 : wr.frozen? ⟨w.heap.size, 3, none⟩ = false := hK2.frozen s0 (F0.out 3)
          have fz4 : wr.frozen? ⟨w.heap.size, 4, none⟩ = false := hK2.frozen s0 (F0.out 4)
          simp only [Nat.zero_mul, Nat.zero_add] at z0 z1 z2 z3 z4
          have hzs : w.heap.size < wr.heap.size := Nat.lt_of_lt_of_le s0 hK2.2
          have hmt := find_match HS.out hlt hjl
          have HMT := Lib.hid hmt
          clear hR hmt
          obtain ⟨x, hx⟩ : ∃ x, wayP S (k, j) = x := ⟨_, rfl⟩
          rw [hx] at c0 c1 c2 c3 c4 HMT
          have HX := Lib.hid hx
          clear hx
          obtain ⟨s, p, f, r, q⟩ := x
          simp only at c0 c1 c2 c3 c4
          have no : ∀ (wn : World), ¬ (0 < s ∧ s = a ∧ p = c) → ∀ (hKn : Kept w0.heap.size w0 wn), ∃ j_1 : Nat, j_1 ≤ 2 ∧ Value.int .i64 ((j : Int) + 1) = .int .i64 j_1 ∧ Hid (∀ j', j' < j_1 → ¬ (0 < (wayP S (k, j')).s ∧ (wayP S (k, j')).s = a ∧ (wayP S (k, j')).p = c)) ∧ Kept w0.heap.size w0 wn := fun wn hn hKn => ⟨j + 1, by omega, by go_num, Lib.hid fun j' h' => (by
            rcases Nat.lt_or_ge j' j with g | g
            · exact hno2.out j' g
            · obtain rfl : j' = j := by omega
              rw [HX.out]; exact hn), hKn⟩
          have NO := Lib.hid no
          clear no
          by_cases hs : 0 < s
          · cases ha : (s == a)
            · go_wp2
              go_roundw
              case rel => exact NO.out _ (fun h => by simp [h.2.1] at ha) (hK2.alloc _)
              case measure => simp [intOf]; omega
            · cases hp : (p == c)
              · go_wp2
                go_roundw
                case rel => exact NO.out _ (fun h => by simp [h.2.2] at hp) (hK2.alloc _)
                case measure => simp [intOf]; omega
              · obtain rfl : s = a := by simpa using ha
                obtain rfl : p = c := by simpa using hp
                have hr := HMT.out hs
                simp only at hr
                have HR := Lib.hid hr
                have BK := Lib.hid (HB0.out.trans (hK2.1.mono (Nat.le_of_lt s0)))
                clear ha hp hr
                go_wp2
                rw [HR.out]
                exact bodyPost_ret (v := .tuple #[trV s p f r q, .bool true]) (by simp [results, Try.results15, go_sem, z0, z1, z2, z3, z4, hzs]) rfl ⟨rfl, (by repeat (first | with_reducible exact BK.out | with_reducible refine Below.drew ?_ | with_reducible refine Below.setCell ?_ (by simp) _ | with_reducible refine Below.alloc ?_ (by simp; omega) _))⟩
          · have hs' : s ≤ 0 := by omega
            go_wp2
            go_roundw
            case rel => exact NO.out _ (fun h => by omega) (hK2.alloc _)
            case measure => simp [intOf]; omega
        · obtain rfl : j = 2 := by omega
          go_wp2
          go_roundw
          case rel => exact ⟨k + 1, by omega, by go_num, fun k' j' h1 h2 => (by
            rcases Nat.lt_or_ge k' k with g | g
            · exact HN.out k' j' g h2
            · obtain rfl : k' = k := by omega
              exact hno2.out j' h2), hK2⟩
          case measure => simp [intOf]; omega
    · obtain rfl : k = 4 := by omega
      have hr := find_nothing HN.out
      obtain ⟨z0, z1, z2, z3, z4⟩ := Z0.out.kept hK s0
      have fz : wr.frozen? ⟨w.heap.size, 0, none⟩ = false := hK.frozen s0 (F0.out 0)
      have fz1 : wr.frozen? ⟨w.heap.size, 1, none⟩ = false := hK.frozen s0 (F0.out 1)
      have fz2 : wr.frozen? ⟨w.heap.size, 2, none⟩ = false := hK.frozen s0 (F0.out 2)
      have fz3 : wr.frozen? ⟨w.heap.size, 3, none⟩ = false := hK.frozen s0 (F0.out 3)
      have fz4 : wr.frozen? ⟨w.heap.size, 4, none⟩ = false := hK.frozen s0 (F0.out 4)
      simp only [Nat.zero_mul, Nat.zero_add] at z0 z1 z2 z3 z4
      have HR := Lib.hid hr
      have BK := Lib.hid (HB0.out.trans (hK.1.mono (Nat.le_of_lt s0)))
      have hzs : w.heap.size < wr.heap.size := Nat.lt_of_lt_of_le s0 hK.2
      clear hr
      go_wp2
      rw [HR.out]
      exact bodyPost_ret (v := .tuple #[trV 0 0 0 false false, .bool false]) (by simp [results, Try.results15, go_sem, z0, z1, z2, z3, z4, hzs]) rfl ⟨rfl, (by repeat (first | with_reducible exact BK.out | with_reducible refine Below.drew ?_ | with_reducible refine Below.setCell ?_ (by simp) _ | with_reducible refine Below.alloc ?_ (by simp; omega) _))⟩
end Go.Proofs.Ytimgiplcejcaaaa
