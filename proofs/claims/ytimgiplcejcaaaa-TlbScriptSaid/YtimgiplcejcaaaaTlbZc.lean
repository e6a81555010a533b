/- Chapter 6's own All; a list that is written over. -/
import Derived.Test.YtimgiplcejcaaaaTlbZ
import Derived.OwnWalk
namespace Go.Proofs.Ytimgiplcejcaaaa
set_option linter.unusedVariables false
set_option linter.unusedSimpArgs false
open Go.ChangeShapes Go.WideShapes Go.ChangeAt Go.RowKit

theorem cells_new5' (W : World) (x : TransX) (t : TypeId) : ∀ (j : Nat) (u : Value), (cellsT x)[j]? = some u → (W.alloc (.cells #[.int .i64 x.s, .int .i64 x.p, .int .i64 x.f, .bool x.r, .bool x.w] t)).cell? ((⟨W.heap.size, 0, none⟩ : Addr).add j) = some u := by
  intro j u hj
  have := cells_new5 W x t j u hj
  simpa [cellsT] using this
set_option maxRecDepth 100000 in
set_option maxHeartbeats 4000000 in
theorem refAll_any (w : World) (b : Nat) (S : Nat → TransX × TransX × Int) (h : RefAt w b S) (hS : Oks S) :
    Calls Try.prog 24 #[.pointer (some ⟨b, 0, none⟩)] w fun e w' => ∃ v, e = .returned v ∧ w'.ownsRow w.heap.size 28 5 v (fullP S 8).length ((fullP S 8).flatMap fun p => cellsT (wayP S p)) ∧ Below w.heap.size w w' := by
  obtain ⟨i0, hi, hz0, hz1, hz2⟩ := info_parts infoT
  have HS := Lib.hid hS.way
  have H := Lib.hid h
  clear h hS
  go_enter Try.func24, Try.ntmps24
  go_wp2
  go_loopw [3, 4, 5] (fun v i _ wr => ∃ k : Nat, k ≤ 4 ∧ i = .int .i64 k ∧ wr.ownsRow w.heap.size 28 5 v (fullP S (2 * k)).length ((fullP S (2 * k)).flatMap fun p => cellsT (wayP S p)) ∧ Below w.heap.size w wr) (fun _ i _ _ => 4 - (intOf i).toNat)
  case atStart => exact ⟨0, by omega, rfl, World.ownsRow_nil .., Below.refl _ _⟩
  case round =>
    obtain ⟨k, hk, rfl, hown, hB⟩ := hrel
    by_cases hlt : k < 4
    · have hlt' : (k : Int) < 4 := by omega
      go_wp2
      obtain ⟨wo, hwo⟩ : ∃ wo : World, wo = wr := ⟨_, rfl⟩
      rw [← hwo] at hown hB ⊢
      clear hwo
      go_loopw [3, 5] (fun v i wi => ∃ j : Nat, j ≤ 2 ∧ i = .int .i64 j ∧ wi.ownsRow w.heap.size 28 5 v (fullP S (2 * k + j)).length ((fullP S (2 * k + j)).flatMap fun p => cellsT (wayP S p)) ∧ Below w.heap.size w wi) (fun _ i _ => 2 - (intOf i).toNat)
      case atStart => exact ⟨0, by omega, rfl, by rw [Nat.add_zero]; exact hown, hB⟩
      case round =>
        obtain ⟨j, hj, rfl, hown2, hB2⟩ := hrel
        by_cases hjl : j < 2
        · have hjl' : (j : Int) < 2 := by omega
          obtain ⟨c0, c1, c2, c3, c4⟩ := (H.out.call hB2).way k j hlt hjl
          have hok := HS.out k j hlt hjl
          have hst := fullP_succ S k j hjl
          have hln := fullP_len S (2 * k + j)
          obtain ⟨L, hL⟩ : ∃ L, fullP S (2 * k + j) = L := ⟨_, rfl⟩
          rw [hL] at hown2 hst hln
          have HL := Lib.hid hL
          have HO := Lib.hid hown2
          clear hL hown2
          obtain ⟨x, hx⟩ : ∃ x, wayP S (k, j) = x := ⟨_, rfl⟩
          rw [hx] at c0 c1 c2 c3 c4 hok hst
          have HX := Lib.hid hx
          have HST := Lib.hid hst
          clear hx hst
          rcases hok with rfl | hok
          · go_wp2
            go_roundw
            case rel => exact ⟨j + 1, by omega, by go_num, by rw [← Nat.add_assoc, HST.out, if_neg (by simp), List.append_nil]; exact HO.out, hB2⟩
            case measure => simp [intOf]; omega
          · have hnz : x ≠ zT := fun e => by rw [e] at hok; simp at hok
            have hpos : 0 < x.s := by omega
            have hyy : fullP S (2 * k + j + 1) = L ++ [(k, j)] := by rw [HST.out, if_pos hnz]
            have HYY := Lib.hid hyy
            have hn5 := Lib.hid (cells_new5' wr x 28)
            clear hyy hnz
            go_wp2_with (at_builtin; refine wpList_append_own _ rfl _ _ 47 rfl w.heap.size 28 i0 _ 5 32 Try.underlying47 hi hz0 hz1 hz2 rfl (by decide) _ _ _ rfl (HO.out.alloc _) ⟨wr.heap.size, 0, none⟩ 1 1 (cellsT x) rfl rfl hn5.out (by simp [cellsT, Value.oneCell']) (by unfold maxLen; omega) (by omega) (by have := hB2.size; simp; omega) ?_; intro v' w1 hown' hgrow _)
            go_roundw
            case rel => exact ⟨j + 1, by omega, by go_num, by rw [← Nat.add_assoc, HYY.out]; simpa [List.flatMap_append, HX.out] using hown', (bal hB2 _).grown hgrow (by have := hB2.size; simp; omega) (fun q eq => (HO.out.lt q eq).1)⟩
            case measure => simp [intOf]; omega
        · obtain rfl : j = 2 := by omega
          go_wp2
          go_roundw
          case rel => exact ⟨k + 1, by omega, by go_num, hown2, hB2⟩
          case measure => simp [intOf]; omega
    · obtain rfl : k = 4 := by omega
      go_wp2
      go_ret
      exact ⟨_, rfl, hown, hB⟩
end Go.Proofs.Ytimgiplcejcaaaa
