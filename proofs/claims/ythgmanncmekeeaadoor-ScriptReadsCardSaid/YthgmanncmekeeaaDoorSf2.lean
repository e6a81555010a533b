/- chapter 35: an event read by the own answer: what its words are. -/
import Derived.Test.YthgmanncmekeeaaDoorSf1
import Derived.Test.YthgmanncmekeeaaDoorScX
namespace Go.Proofs.YthgmanncmekeeaaDoor
set_option linter.unusedVariables false
set_option linter.unusedSimpArgs false
open Go.ChangeShapes Go.WideShapes Go.ChangeAt Go.RowKit Go.Shelf
namespace Sc
theorem evR_len : ∀ (ps : List (Bool × Nat)) (ws : List Bs) (d e : Ev), evR ps ws d = some e → ws.length = ps.length
  | [], [], _, _, _ => rfl
  | [], _ :: _, _, _, h => by simp [evR] at h
  | _ :: _, [], _, _, h => by simp [evR] at h
  | (b, i) :: ps, w :: ws, d, e, h => by
    rw [evR] at h
    cases hw : numW w with
    | none => rw [hw] at h; simp at h
    | some v =>
      rw [hw] at h
      simp only at h
      split at h
      · simp at h
      · rw [List.length_cons, List.length_cons, evR_len ps ws _ e h]
def put : List Nat → List Int → Ev → Ev
  | i :: is, v :: vs, d => put is vs (upd d i v)
  | _, _, d => d
theorem evR_word : ∀ (vs : List Nat) (ws : List Bs) (d : Ev), ws.length = vs.length → evR (vs.map (fun i => (true, i))) ws d = if okL numW ws = true then some (put vs (valL numW ws) d) else none
  | [], [], d, _ => rfl
  | [], _ :: _, _, h => by simp at h
  | _ :: _, [], _, h => by simp at h
  | i :: vs, x :: ws, d, h => by
    have ih := fun d => evR_word vs ws d (by simpa using h)
    rw [List.map_cons, evR]
    cases hw : numW x with
    | none => simp [okL, hw]
    | some v =>
      simp only [farP, Bool.not_true, Bool.false_and, Bool.false_eq_true, if_false]
      rw [ih]
      simp [okL, hw, valL, put]
theorem evR_fw : ∀ (fs vs : List Nat) (ws : List Bs) (d : Ev), ws.length = fs.length + vs.length → evR (fs.map (fun i => (false, i)) ++ vs.map (fun i => (true, i))) ws d = if okL numF (ws.take fs.length) = true ∧ okL numW (ws.drop fs.length) = true then some (put (fs ++ vs) (valL numF (ws.take fs.length) ++ valL numW (ws.drop fs.length)) d) else none
  | [], vs, ws, d, h => by
    have := evR_word vs ws d (by simpa using h)
    simp [this, okL, valL]
  | i :: fs, vs, [], d, h => by simp at h; omega
  | i :: fs, vs, x :: ws, d, h => by
    have ih := fun d => evR_fw fs vs ws d (by simp at h; omega)
    rw [List.map_cons, List.cons_append, evR]
    cases hw : numF x with
    | none =>
      rcases (numF_far x).1 hw with h0 | ⟨v, h0, h1⟩
      · simp [okL, h0, hw]
      · simp [okL, h0, hw, h1]
    | some v =>
      obtain ⟨h0, h1⟩ := numF_some hw
      simp only [h0, h1, Bool.false_eq_true, if_false]
      rw [ih]
      simp [okL, hw, valL, put]
theorem evOf_kind {l a : Bs} {ws : List Bs} (k : Int) (h : spl 32 l = a :: ws) (hk : kd a = k) (h0 : k ≠ 0) : evOf l = if ws.length = (flds k).length + (wrds k).length ∧ okL numF (ws.take (flds k).length) = true ∧ okL numW (ws.drop (flds k).length) = true then some (put (flds k ++ wrds k) (valL numF (ws.take (flds k).length) ++ valL numW (ws.drop (flds k).length)) (ev0 k)) else none := by
  subst hk
  unfold evOf evW
  rw [h]
  simp only [if_neg h0]
  rw [places_fw]
  by_cases hl : ws.length = (flds (kd a)).length + (wrds (kd a)).length
  · rw [evR_fw _ _ _ _ hl]
    simp only [hl, true_and]
  · rw [if_neg (fun q => hl q.1)]
    cases he : evR ((flds (kd a)).map (fun i => (false, i)) ++ (wrds (kd a)).map (fun i => (true, i))) ws (ev0 (kd a)) with
    | none => rfl
    | some e =>
      have := evR_len _ _ _ _ he
      simp at this
      exact absurd this hl
theorem IntR.open {K : IntKind} {w : World} {v : Value} {f : Int} {L : List Int} (h : IntR K w v (f :: L)) : ∃ g cap, v = .slice (some ⟨g, 0, none⟩) (L.length + 1) cap ∧ g < w.heap.size ∧ ∀ k x, (f :: L)[k]? = some x → w.cell? ⟨g, k, none⟩ = some (.int K x) := by
  obtain ⟨p, cap, h1, _, h2⟩ := h
  obtain ⟨g, rfl, hg, h0⟩ := h2 0 f rfl
  refine ⟨g, cap, h1, hg, fun k x hk => ?_⟩
  obtain ⟨g', e, _, hv⟩ := h2 k x hk
  cases e
  exact hv
/-- The words of a line, cut in two. -/
theorem cut2 {w : World} {g cap m n : Nat} {a : Bs} {ws : List Bs} (N1 : Int) (h : StrR w (some ⟨g, 0, none⟩) (a :: ws)) (hm : ws.length = m) (hc : m + 1 ≤ cap) (hn : n ≤ m) (hN : N1 = (n : Int) + 1) :
    ∃ p1 c1 p2 c2, (∀ w, (Instr.slice 79 (.slice (some ⟨g, 0, none⟩) (m + 1) cap) (some (.int .i64 1)) (some (.int .i64 N1)) none).run Tryd.prog w = .ok (.slice p1 n c1) w) ∧ (∀ w, (Instr.slice 79 (.slice (some ⟨g, 0, none⟩) (m + 1) cap) (some (.int .i64 N1)) none none).run Tryd.prog w = .ok (.slice p2 (m - n) c2) w) ∧ StrR w p1 (ws.take n) ∧ StrR w p2 (ws.drop n) := by
  subst hN
  have h1 := h.drop 1 cap (by simp) (by simp; omega)
  have h2 := h.drop (n + 1) cap (by simp; omega) (by simp; omega)
  refine ⟨_, _, _, _, fun w => (sl_mid (some ⟨g, 0, none⟩) (m + 1) cap 1 (n + 1) (by omega) (by omega) w).trans (by rw [show n + 1 - 1 = n by omega]), fun w => (sl_low (some ⟨g, 0, none⟩) (m + 1) cap (n + 1) (by omega) w).trans (by rw [show m + 1 - (n + 1) = m - n by omega]), ?_, ?_⟩
  · exact StrR.take h1 n
  · exact h2
theorem refsplit_row (l : Bs) (hl : l.length ≤ 70000) (w : World) (a : Bs) (ws : List Bs) (h : spl 32 l = a :: ws) (m : Nat) (hm : ws.length = m) : Calls Tryd.prog 30 #[.string (bs l), .int .u8 32] w fun e w' => ∃ g cap, e = .returned (.slice (some ⟨g, 0, none⟩) (m + 1) cap) ∧ m + 1 ≤ cap ∧ StrR w' (some ⟨g, 0, none⟩) (a :: ws) ∧ w'.cell? ⟨g, 0, none⟩ = some (.string (bs a)) ∧ Below w.heap.size w w' := by
  refine (refsplit_any l 32 hl w).mono ?_
  rintro e w' ⟨v, rfl, h1, _, h2⟩
  rw [h] at h1
  obtain ⟨p, cap, rfl, hc, hR⟩ := StrR.own (n := m + 1) (L := a :: ws) (by simp [hm]) (by
    have : (a :: ws).length = m + 1 := by simp [hm]
    rw [this] at h1
    exact h1)
  have h0 := h1.lt
  obtain ⟨g, o, rfl, hg, hv⟩ := hR 0 a rfl
  have ho : o = 0 := by
    have hq := h1.2
    rcases hq with ⟨_, e⟩ | ⟨g', cap', cur, e, _⟩
    · simp at e
    · cases e; rfl
  subst ho
  exact ⟨g, cap, rfl, hc, hR, hv, h2⟩
/-- An event's cell written over. -/
theorem evA_set (c : Ev) (i : Nat) (hi : i < 15) (v : Int) : (evA c).setIfInBounds i (.int (if i < 3 then .i64 else if i < 12 then .u64 else .i64) v) = evA (upd c i v) := by
  obtain rfl | rfl | rfl | rfl | rfl | rfl | rfl | rfl | rfl | rfl | rfl | rfl | rfl | rfl | rfl : i = 0 ∨ i = 1 ∨ i = 2 ∨ i = 3 ∨ i = 4 ∨ i = 5 ∨ i = 6 ∨ i = 7 ∨ i = 8 ∨ i = 9 ∨ i = 10 ∨ i = 11 ∨ i = 12 ∨ i = 13 ∨ i = 14 := by omega
  all_goals (simp [evA, upd])
theorem box_set {W : World} {B i : Nat} {c : Ev} {K : IntKind} {v : Int} (h : W.heap[B]? = some (.cells (evA c) 36 (0, 0))) (hi : i < 15) (hK : K = (if i < 3 then .i64 else if i < 12 then .u64 else .i64)) : (W.setCell ⟨B, i, none⟩ (.int K v)).heap[B]? = some (.cells (evA (upd c i v)) 36 (0, 0)) := by
  rw [Go.heap_setCell_same _ _ _ _ _ _ h, hK, evA_set c i hi v]
/-- A call's words, one after another. -/
def ccF (e : Ev) (G : List Int) : Nat → Ev
  | 0 => e
  | k + 1 => upd (ccF e G k) (4 + k) (G.getD (k + 1) 0)
/-- What is known behind the words. -/
theorem pack4 {w w2 w3 w4 : World} {g gF : Nat} {x : Value} {Z : Obj} {F : List Int} (hV2 : Below w.heap.size w w2 ∧ w2.heap[w.heap.size]? = some Z) (h3 : Below w2.heap.size w2 w3) (h4 : Below w3.heap.size w3 w4) (hgc : w2.cell? ⟨g, 0, none⟩ = some x) (hgF : gF < w3.heap.size) (hF : ∀ (k : Nat) (y : Int), F[k]? = some y → w3.cell? ⟨gF, k, none⟩ = some (.int .i64 y)) :
    w4.cell? ⟨g, 0, none⟩ = some x ∧ g < w4.heap.size ∧ gF < w4.heap.size ∧ (∀ (k : Nat) (y : Int), F[k]? = some y → w4.cell? ⟨gF, k, none⟩ = some (.int .i64 y)) ∧ (Below w.heap.size w w4 ∧ w4.heap[w.heap.size]? = some Z) ∧ ∀ o : Obj, Below w.heap.size w (w4.alloc o) ∧ (w4.alloc o).heap[w.heap.size]? = some Z := by
  have hb4 : Below w2.heap.size w2 w4 := h3.trans (h4.mono h3.size)
  have hgl : g < w2.heap.size := World.block_lt_of_cell? _ _ hgc
  have hl := (Array.getElem?_eq_some_iff.1 hV2.2).1
  have hbw : Below w.heap.size w w4 := hV2.1.trans (hb4.mono hV2.1.size)
  have hz : w4.heap[w.heap.size]? = some Z := (hb4.block _ hl).trans hV2.2
  have hl4 := (Array.getElem?_eq_some_iff.1 hz).1
  exact ⟨(World.cell?_of_block (hb4.block g hgl)).trans hgc, Nat.lt_of_lt_of_le hgl hb4.size, Nat.lt_of_lt_of_le hgF h4.size, fun k y h => (World.cell?_of_block (h4.block gF hgF)).trans (hF k y h), ⟨hbw, hz⟩, fun o => ⟨bal hbw o, (Below.heap_alloc _ _ _ hl4).trans hz⟩⟩
end Sc
end Go.Proofs.YthgmanncmekeeaaDoor
