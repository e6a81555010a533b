/- A table by whole numbers, of any number of rows: Drop. -/
import Derived.Test.YtplanbihejodoaaDoorTab8S
namespace Go.Proofs.YtplanbihejodoaaDoor
set_option linter.unusedVariables false
set_option linter.unusedSimpArgs false
open Go.ChangeShapes Go.WideShapes Go.ChangeAt Go.RowKit

namespace TabS
theorem len_del {R : List Rw} {k : Int} (hA : Asc R) (h : hasR R k = true) : (delR R k).length + 1 = R.length := by
  obtain ⟨x, hx, _⟩ := (hasR_at hA).1 h
  have := (List.getElem?_eq_some_iff.1 hx).1
  unfold delR
  simp
  omega
set_option maxRecDepth 100000 in
set_option maxHeartbeats 2000000 in
theorem drop_no (w : World) (b o base : Nat) (v : Value) (R : List Rw) (k : Int) (h : TabAt w b o base v R) (hh : hasR R k = false) :
    Calls Tryd.prog 29 #[.pointer (some ⟨b, o, none⟩), .int .i64 k] w fun e w' => e = .returned (.bool false) ∧ Below w.heap.size w w' := by
  have HT := Lib.hid h
  have HH := Lib.hid hh
  clear h hh
  go_enter Tryd.func29, Tryd.ntmps29
  go_wp2_with (go_at_call 38; refine (find_any _ b o base v R k HT.out).mono ?_; rw [HH.out]; rintro e w1 ⟨rfl, hb1⟩)
  go_ret
  exact ⟨rfl, hb1⟩
set_option maxRecDepth 100000 in
set_option maxHeartbeats 2000000 in
theorem drop_yes (w : World) (b o base : Nat) (v : Value) (R : List Rw) (k : Int) (h : TabAt w b o base v R) (hh : hasR R k = true) :
    Calls Tryd.prog 29 #[.pointer (some ⟨b, o, none⟩), .int .i64 k] w fun e w' => e = .returned (.bool true) ∧ ∃ v', TabAt w' b o base v' (delR R k) ∧ Only w w' b o v v' := by
  obtain ⟨x, hx, _⟩ := (hasR_at h.asc).1 hh
  have hpl := (List.getElem?_eq_some_iff.1 hx).1
  obtain ⟨m, hm⟩ : ∃ m, R.length = m + 1 := ⟨R.length - 1, by omega⟩
  have hld := len_del h.asc hh
  have hlm : (delR R k).length = m := by omega
  have hle := h.le
  have hdel : ∀ w1 : World, Below w.heap.size w w1 → ∃ g c, v = .slice (some ⟨g, 0, none⟩) (m + 1) c ∧ Calls Tryd.prog 41 #[v, .int .i64 (posR R k : Nat), .int .i64 ((posR R k : Nat) + 1)] w1 fun e w' =>
      ∃ g c, e = .returned (.slice (some ⟨g, 0, none⟩) m c) ∧ TabAt (w'.setCell ⟨b, o, none⟩ (.slice (some ⟨g, 0, none⟩) m c)) b o base (.slice (some ⟨g, 0, none⟩) m c) (delR R k) ∧
          Only w (w'.setCell ⟨b, o, none⟩ (.slice (some ⟨g, 0, none⟩) m c)) b o v (.slice (some ⟨g, 0, none⟩) m c) ∧ w'.cell? ⟨b, o, none⟩ = some v ∧ w'.frozen? ⟨b, o, none⟩ = false ∧ b < w'.heap.size := by
    intro w1 hB1
    have hT1 := h.call hB1
    have hbl := h.lt
    have hbl1 := hT1.lt
    rcases hT1.row.2 with ⟨_, h0⟩ | ⟨g, cap, cur, rfl, q1, q2, q3, q4, q5, q6⟩
    · omega
    · have hcur : cur = (flat R ++ cur.toList.drop (R.length * 2)).toArray := by
        rw [← q6, List.take_append_drop]
      have hlen : (flat R ++ cur.toList.drop (R.length * 2)).length = cap * 2 := by
        rw [← q5, ← Array.length_toList, ← q6, List.take_append_drop]
      rw [hcur] at q2
      refine ⟨g, cap, by rw [hm], ?_⟩
      refine (del_run w1 base g cap (posR R k) m R _ h.wide h.le hm hpl q3 q4 q1 q2 hlen).mono ?_
      rintro e w2 ⟨rfl, hrow, hgr⟩
      have hsz := hgr.size
      have hB1s := hB1.size
      have hne : ¬ b = g := by
        have := h.ne
        omega
      have hbk : w2.heap[b]? = w1.heap[b]? := hgr.block b hbl1 (by intro e; cases e; exact hne rfl)
      have hc2 : w2.cell? ⟨b, o, none⟩ = w1.cell? ⟨b, o, none⟩ := World.cell?_of_block hbk
      have hf2 : w2.frozen? ⟨b, o, none⟩ = w1.frozen? ⟨b, o, none⟩ := World.frozen?_of_block hbk
      refine ⟨g, cap, rfl, ?_, ⟨hgr.os.trans hB1.os, hgr.tape.trans hB1.tape, hgr.output.trans hB1.output, ?_, ?_, ?_, ?_, .inl rfl⟩, hc2.trans hT1.cell, hf2.trans hT1.froz, by omega⟩
      · exact tab_store hT1 (by omega) hc2 (hf2.trans hT1.froz) (by rw [hlm]; exact hrow) hsz (wide_del h.wide) (asc_del h.asc) (by omega)
      · simp; omega
      · intro j hj hjb hjv
        rw [Go.heap_setCell_other _ _ _ _ (by simpa using hjb)]
        exact (hgr.block j (by omega) (fun e => hjv (by rw [e]; rfl))).trans (hB1.block j hj)
      · intro j hj
        have : (w2.setCell ⟨b, o, none⟩ (.slice (some ⟨g, 0, none⟩) m cap)).cell? ⟨b, j, none⟩ = w2.cell? ⟨b, j, none⟩ := by
          apply World.cell?_setCell_other
          intro e
          simp at e
          try exact hj e.symm
        rw [this, show w2.cell? ⟨b, j, none⟩ = w1.cell? ⟨b, j, none⟩ from World.cell?_of_block hbk]
        exact hB1.cell (p := ⟨b, j, none⟩) hbl
      · intro j
        have : (w2.setCell ⟨b, o, none⟩ (.slice (some ⟨g, 0, none⟩) m cap)).frozen? ⟨b, j, none⟩ = w2.frozen? ⟨b, j, none⟩ := by simp [go_sem]
        rw [this, show w2.frozen? ⟨b, j, none⟩ = w1.frozen? ⟨b, j, none⟩ from World.frozen?_of_block hbk]
        exact hB1.frozen (p := ⟨b, j, none⟩) hbl
  obtain ⟨g0, c0, hv0, _⟩ := hdel w (Below.refl _ _)
  have hdel2 := fun w1 hb1 => (hdel w1 hb1).choose_spec.choose_spec.2
  have hc := h.cell
  have hbl := h.lt
  have HT := Lib.hid h
  have HH := Lib.hid hh
  have HD := Lib.hid hdel2
  have hpm : posR R k ≤ 1000000 := by omega
  clear h hh hdel hdel2 hx hpl hm hld hlm hle
  subst hv0
  generalize hp : posR R k = p at *
  have HP := Lib.hid hp
  clear hp
  have hpI : (p : Int) ≤ 1000000 := by omega
  go_enter Tryd.func29, Tryd.ntmps29
  go_wp2_with (first | (go_at_call 38; refine (find_any _ b o base _ R k HT.out).mono ?_; rw [HH.out, HP.out]; rintro e w1 ⟨rfl, hb1⟩; obtain ⟨hc1, hf1⟩ := bcell hb1; have hz1 : w.heap.size ≤ w1.heap.size := hb1.size) | (go_at_call 41; refine (HD.out w1 hb1).mono ?_; rintro e w2 ⟨g, c, rfl, hT3, hO3, hc3, hf3, hz3⟩; have HT3 := Lib.hid hT3; have HO3 := Lib.hid hO3; clear hT3 hO3 hc1 hf1))
  go_ret
  exact ⟨rfl, _, HT3.out, HO3.out⟩
end TabS
end Go.Proofs.YtplanbihejodoaaDoor
