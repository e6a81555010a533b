/- chapter 12: the arena of no size; both count alike. -/
import Derived.Test.YtkladhbamkomnaaAxE
namespace Go.Proofs.Ytkladhbamkomnaa
set_option linter.unusedVariables false
set_option linter.unusedSimpArgs false
open Go.ChangeShapes Go.WideShapes Go.ChangeAt Go.RowKit Go.Shelf
open TabA

set_option maxRecDepth 100000 in
set_option maxHeartbeats 1000000 in
theorem anew_no (w : World) (F : Int) (hF : F < 1 ∨ 64 < F) :
    Calls Try.prog 9 #[.int .i64 F] w fun e w' => e = .returned (.tuple #[.pointer none, .int .i64 3]) ∧ w = w' := by
  have h2 : F < 1 ∨ (¬ F < 1 ∧ 64 < F) := by omega
  clear hF
  rcases h2 with h | ⟨h, h'⟩
  all_goals
    go_enter Try.func9, Try.ntmps9
    go_wp2
    go_ret2
    exact ⟨rfl, rfl⟩
theorem next_eq {F : Nat} {G cnt : List Int} (hG : G.length = 64) (hF : F ≤ 64) (h : cnt = G.take F) (fi : Int) : nextR F G fi = nextA cnt fi := by
  subst h
  unfold nextR nextA
  by_cases h0 : fi < 0
  · rw [if_pos (.inl h0), if_pos h0]
  · rw [if_neg h0]
    by_cases h1 : (F : Int) ≤ fi
    · rw [if_pos (.inr h1), List.getElem?_take, if_neg (by omega)]
    · rw [if_neg (by omega), List.getElem?_take, if_pos (by omega)]
      rfl
theorem take_set_eq {G : List Int} {F k : Nat} {c : Int} : (G.set k c).take F = (G.take F).set k c := List.take_set
theorem OnlyR.of_below {w w' : World} {rb : Nat} {v : Value} (h : Below w.heap.size w w') : OnlyR w w' rb v v := .of (OnlyA.of_below h)
theorem radd_any (w : World) (rb base F : Nat) (v : Value) (L : List Ob) (G : List Int) (kd sz fi : Int) (h : RefA w rb base F v L G) (hF : 1 ≤ F ∧ F ≤ 64) (hl : L.length < 1000000) (hasc : Asc (rowsO L)) (hfr : nextA (G.take F) fi ≠ 0 → ∀ y ∈ L, y.id ≠ nextA (G.take F) fi) :
    Calls Try.prog 28 #[.pointer (some ⟨rb, 0, none⟩), .int .i64 kd, .int .i64 sz, .int .i64 fi] w fun e w' => e = .returned (.tuple #[.int .i64 (addR F (G.take F) L kd sz fi).1, .int .i64 (addR F (G.take F) L kd sz fi).2]) ∧
      ∃ u G', RefA w' rb base F u (addL F (G.take F) L kd sz fi) G' ∧ G'.take F = addC F (G.take F) L kd sz fi ∧ OnlyR w w' rb v u := by
  have hFI : (1 : Int) ≤ F ∧ (F : Int) ≤ 64 := by omega
  have hnx := next_eq h.gl hF.2 (cnt := G.take F) rfl fi
  have keep : ∀ c : Int × Int, addR F (G.take F) L kd sz fi = c → c.2 ≠ 0 → addL F (G.take F) L kd sz fi = L ∧ addC F (G.take F) L kd sz fi = G.take F := by
    intro c hc hn
    unfold addL addC
    rw [hc, if_neg hn, if_neg hn]
    exact ⟨rfl, rfl⟩
  by_cases h0 : framesN kd sz = 0
  · have e : addR F (G.take F) L kd sz fi = (0, 2) := by unfold addR; rw [if_pos h0]
    obtain ⟨k1, k2⟩ := keep _ e (by decide)
    rw [k1, k2, e]
    exact (radd_arg w rb kd sz fi h0).mono fun e w' ⟨he, hb⟩ => ⟨he, v, G, hb ▸ h, rfl, hb ▸ .of (refl_onlyA _ _ _)⟩
  · by_cases hr : fi < 0 ∨ (F : Int) - framesN kd sz < fi
    · have e : addR F (G.take F) L kd sz fi = (0, 3) := by unfold addR; rw [if_neg h0, if_pos hr]
      obtain ⟨k1, k2⟩ := keep _ e (by decide)
      rw [k1, k2, e]
      exact (radd_range w rb base F v L G kd sz fi h hFI h0 hr).mono fun e w' ⟨he, hb⟩ => ⟨he, v, G, hb ▸ h, rfl, hb ▸ .of (refl_onlyA _ _ _)⟩
    · have e : addR F (G.take F) L kd sz fi = addA (G.take F) L (newO kd sz fi) := by unfold addR; rw [if_neg h0, if_neg hr]
      cases hany : L.any (collideA (newO kd sz fi)) with
      | true =>
        have e2 : addR F (G.take F) L kd sz fi = (0, 16) := by rw [e]; unfold addA; rw [hany]; rfl
        obtain ⟨k1, k2⟩ := keep _ e2 (by decide)
        rw [k1, k2, e2]
        exact (radd_busy w rb base F v L G kd sz fi h hFI hl h0 hr hany).mono fun e w' ⟨he, hb⟩ => ⟨he, v, G, h.call hb, rfl, .of_below hb⟩
      | false =>
        by_cases hz : nextA (G.take F) fi = 0
        · have e2 : addR F (G.take F) L kd sz fi = (0, 11) := by rw [e]; unfold addA; rw [hany]; show (if nextA (G.take F) fi = 0 then ((0 : Int), (11 : Int)) else (nextA (G.take F) fi, 0)) = _; rw [if_pos hz]
          obtain ⟨k1, k2⟩ := keep _ e2 (by decide)
          rw [k1, k2, e2]
          exact (radd_full w rb base F v L G kd sz fi h hFI hl h0 hr hany (hnx.trans hz)).mono fun e w' ⟨he, hb⟩ => ⟨he, v, G, h.call hb, rfl, .of_below hb⟩
        · have e2 : addR F (G.take F) L kd sz fi = (nextA (G.take F) fi, 0) := by rw [e]; unfold addA; rw [hany]; show (if nextA (G.take F) fi = 0 then ((0 : Int), (11 : Int)) else (nextA (G.take F) fi, 0)) = _; rw [if_neg hz]
          have hL : addL F (G.take F) L kd sz fi = insO L { newO kd sz fi with id := nextA (G.take F) fi } := by unfold addL; rw [e2]; exact if_pos rfl
          have hC : addC F (G.take F) L kd sz fi = (G.take F).set fi.toNat (((G.take F)[fi.toNat]?).getD 0 + 1) := by unfold addC; rw [e2]; exact if_pos rfl
          rw [hL, hC, e2]
          refine (radd_yes w rb base F v L G kd sz fi h hFI hl h0 hr hany _ hnx hz hasc (hfr hz)).mono fun e w' ⟨he, c, u, hc, hR, hO⟩ => ⟨he, u, _, hR, ?_, hO⟩
          have hb := frames_bd h0
          rw [take_set_eq, List.getElem?_take, if_pos (by omega), hc]
          rfl
end Go.Proofs.Ytkladhbamkomnaa
