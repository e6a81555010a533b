/- A table by whole numbers, of any number of rows: Add. -/
import Derived.Test.YtplanbihejodoaaDoorTab7S
namespace Go.Proofs.YtplanbihejodoaaDoor
set_option linter.unusedVariables false
set_option linter.unusedSimpArgs false
open Go.ChangeShapes Go.WideShapes Go.ChangeAt Go.RowKit

namespace TabS
theorem asc_ins {R : List Rw} {r : Rw} (hA : Asc R) (hn : hasR R r.1 = false) : Asc (insR R r) := by
  obtain ⟨h1, h2⟩ := posR_facts (k := r.1) hA
  have hne : ∀ x ∈ R, x.1 ≠ r.1 := by
    intro x hx e
    have : hasR R r.1 = true := by unfold hasR; rw [List.any_eq_true]; exact ⟨x, hx, by simpa using e⟩
    rw [hn] at this
    cases this
  unfold insR Asc
  rw [List.map_append, List.map_cons, List.pairwise_append, List.pairwise_cons]
  have hT : ∀ x ∈ (R.take (posR R r.1)).map Prod.fst, x < r.1 := by
    intro x hx
    obtain ⟨y, hy, rfl⟩ := List.mem_map.1 hx
    obtain ⟨j, hj⟩ := List.getElem?_of_mem hy
    have hjl := (List.getElem?_eq_some_iff.1 hj).1
    rw [List.length_take] at hjl
    rw [List.getElem?_take_of_lt (by omega)] at hj
    exact h1 j y (by omega) hj
  have hD : ∀ x ∈ (R.drop (posR R r.1)).map Prod.fst, r.1 < x := by
    intro x hx
    obtain ⟨y, hy, rfl⟩ := List.mem_map.1 hx
    obtain ⟨j, hj⟩ := List.getElem?_of_mem hy
    rw [List.getElem?_drop] at hj
    have := h2 _ y (by omega) hj
    have := hne y (List.mem_of_getElem? hj)
    omega
  refine ⟨?_, ⟨hD, ?_⟩, ?_⟩
  · rw [List.map_take]
    exact hA.sublist (List.take_sublist _ _)
  · rw [List.map_drop]
    exact hA.sublist (List.drop_sublist _ _)
  · intro x hx y hy
    rcases List.mem_cons.1 hy with rfl | hy
    · exact hT x hx
    · exact Int.lt_trans (hT x hx) (hD y hy)
theorem asc_del {R : List Rw} {k : Int} (hA : Asc R) : Asc (delR R k) := by
  unfold delR Asc
  rw [List.map_append]
  have : (R.take (posR R k)).map Prod.fst ++ (R.drop (posR R k + 1)).map Prod.fst = (R.map Prod.fst).take (posR R k) ++ (R.map Prod.fst).drop (posR R k + 1) := by rw [List.map_take, List.map_drop]
  rw [this]
  refine hA.sublist ?_
  conv => rhs; rw [← List.take_append_drop (posR R k) (R.map Prod.fst)]
  refine List.Sublist.append (List.Sublist.refl _) ?_
  rw [← List.drop_drop]
  exact List.drop_sublist _ _
theorem len_ins {R : List Rw} {r : Rw} : (insR R r).length = R.length + 1 := by
  unfold insR
  have := posR_le R r.1
  simp
  omega
theorem wide_ins {C : Nat} {R : List Rw} {r : Rw} (h : Wide C R) (hr : Wide C [r]) : Wide C (insR R r) := by
  intro x hx
  unfold insR at hx
  rcases List.mem_append.1 hx with q | q
  · exact h x (List.mem_of_mem_take q)
  · rcases List.mem_cons.1 q with rfl | q
    · exact hr _ (by simp)
    · exact h x (List.mem_of_mem_drop q)
theorem wide_del {C : Nat} {R : List Rw} {k : Int} (h : Wide C R) : Wide C (delR R k) := (h.take _).append (h.drop _)
/-- The table behind a store of its slice. -/
theorem tab_store {w w2 : World} {b o base : Nat} {v v' : Value} {R R' : List Rw} (h : TabAt w b o base v R) (hb : b < w2.heap.size)
    (hcell : w2.cell? ⟨b, o, none⟩ = w.cell? ⟨b, o, none⟩) (hf : w2.frozen? ⟨b, o, none⟩ = false) (hr : w2.ownsRow base 86 2 v' R'.length (flat R')) (hsz : w.heap.size ≤ w2.heap.size)
    (hW : Wide 2 R') (hA : Asc R') (hl : R'.length ≤ 1000000) : TabAt (w2.setCell ⟨b, o, none⟩ v') b o base v' R' := by
  refine ⟨?_, ?_, row_of_block hr (fun g hg => ?_), h.ne, by have := h.base; simp; omega, hW, hA, hl⟩
  · have := h.cell
    rw [← hcell] at this
    simp [go_sem, this, hf]
  · simpa [go_sem] using hf
  · have := (hr.lt g hg).1
    have := h.ne
    exact Go.heap_setCell_other _ _ _ _ (by simp; omega)
set_option maxRecDepth 100000 in
set_option maxHeartbeats 2000000 in
theorem add_no (w : World) (b o base : Nat) (v : Value) (R : List Rw) (k : Int) (sa : Option Addr) (sn sc : Nat) (h : TabAt w b o base v R) (hh : hasR R k = true) :
    Calls Tryd.prog 25 #[.pointer (some ⟨b, o, none⟩), .int .i64 k, .slice sa sn sc] w fun e w' => e = .returned (.bool false) ∧ Below w.heap.size w w' := by
  have HT := Lib.hid h
  have HH := Lib.hid hh
  clear h hh
  go_enter Tryd.func25, Tryd.ntmps25
  go_wp2_with (go_at_call 38; refine (find_any _ b o base v R k HT.out).mono ?_; rw [HH.out]; rintro e w1 ⟨rfl, hb1⟩)
  go_ret
  exact ⟨rfl, hb1⟩
set_option maxRecDepth 100000 in
set_option maxHeartbeats 2000000 in
theorem add_yes (w : World) (b o base : Nat) (v : Value) (R : List Rw) (k : Int) (sa : Option Addr) (sn sc : Nat) (h : TabAt w b o base v R) (hh : hasR R k = false) (hl : R.length < 1000000) (hx : Wide 2 [(k, [.slice sa sn sc])]) :
    Calls Tryd.prog 25 #[.pointer (some ⟨b, o, none⟩), .int .i64 k, .slice sa sn sc] w fun e w' => e = .returned (.bool true) ∧ ∃ v', TabAt w' b o base v' (insR R (k, [.slice sa sn sc])) ∧ Only w w' b o v v' := by
  have HT := Lib.hid h
  have HH := Lib.hid hh
  have hbl := h.lt
  have HX := Lib.hid hx
  clear h hh hx
  go_enter Tryd.func25, Tryd.ntmps25
  go_upto_region 4 with (go_at_call 38; refine (find_any _ b o base v R k HT.out).mono ?_; rw [HH.out]; rintro e w1 ⟨rfl, hb1⟩)
  have hbz := hb1.size
  have hT1 : TabAt w1 b o base v R := HT.out.call hb1
  have hB1 : Below w.heap.size w w1 := hb1
  have hcb := hT1.cell
  have hfb := hT1.froz
  have hbl1 := hT1.lt
  have hins : ∀ ob, ob = Obj.cells #[.int .i64 k, .slice sa sn sc] 86 →
      Calls Tryd.prog 39 #[v, .int .i64 (posR R k : Nat), .slice (some ⟨w1.heap.size, 0, none⟩) 1 1] (w1.alloc ob) fun e w' =>
        ∃ g c, e = .returned (.slice (some ⟨g, 0, none⟩) (R.length + 1) c) ∧ TabAt (w'.setCell ⟨b, o, none⟩ (.slice (some ⟨g, 0, none⟩) (R.length + 1) c)) b o base (.slice (some ⟨g, 0, none⟩) (R.length + 1) c) (insR R (k, [.slice sa sn sc])) ∧
          Only w (w'.setCell ⟨b, o, none⟩ (.slice (some ⟨g, 0, none⟩) (R.length + 1) c)) b o v (.slice (some ⟨g, 0, none⟩) (R.length + 1) c) ∧ w'.cell? ⟨b, o, none⟩ = some v ∧ w'.frozen? ⟨b, o, none⟩ = false ∧ b < w'.heap.size := by
    rintro ob rfl
    have hbo : Below w1.heap.size w1 (w1.alloc (Obj.cells #[.int .i64 k, .slice sa sn sc] 86)) := bal (Below.refl _ _) _
    have hT2 := hT1.call hbo
    have hown : v.ownBlock ≠ some w1.heap.size := by
      intro e
      have := (hT1.own e).2
      omega
    refine (ins_any _ base v R (k, [.slice sa sn sc]) w1.heap.size (posR R k) hT2.wide HX.out hT2.le (posR_le R k) hT2.row hT2.base hown (heap_alloc_new w1 _)).mono ?_
    rintro e w2 ⟨v', rfl, hrow, hgr, hat⟩
    have hR' : R.take (posR R k) ++ (k, [.slice sa sn sc]) :: R.drop (posR R k) = insR R (k, [.slice sa sn sc]) := rfl
    rw [hR'] at hrow
    have hfm := hrow
    rw [len_ins] at hfm
    obtain ⟨g, c, rfl⟩ := row_form hfm
    have hsz := hgr.size
    simp at hsz
    have hne : some b ≠ v.ownBlock := by
      intro e
      have := (hT1.own e.symm).1
      have := hT1.ne
      omega
    have hbk : w2.heap[b]? = w1.heap[b]? := (hgr.block b (by simp; omega) hne).trans (heap_alloc_old w1 _ hbl1)
    have hc2 : w2.cell? ⟨b, o, none⟩ = w1.cell? ⟨b, o, none⟩ := World.cell?_of_block hbk
    have hf2 : w2.frozen? ⟨b, o, none⟩ = w1.frozen? ⟨b, o, none⟩ := World.frozen?_of_block hbk
    refine ⟨g, c, rfl, ?_, ⟨hgr.os.trans hB1.os, hgr.tape.trans hB1.tape, hgr.output.trans hB1.output, ?_, ?_, ?_, ?_, ?_⟩, hc2.trans hcb, hf2.trans hfb, by omega⟩
    · have hrow2 := hrow
      rw [len_ins] at hrow
      exact tab_store hT1 (by omega) hc2 (hf2.trans hfb) (by rw [len_ins]; exact hrow) (by omega) (wide_ins hT1.wide HX.out) (asc_ins hT1.asc HH.out) (by rw [len_ins]; omega)
    · simp; omega
    · intro j hj hjb hjv
      rw [Go.heap_setCell_other _ _ _ _ (by simpa using hjb)]
      exact (hgr.block j (by simp; omega) (fun e => hjv e.symm)).trans ((heap_alloc_old w1 _ (by omega)).trans (hB1.block j hj))
    · intro j hj
      have : (w2.setCell ⟨b, o, none⟩ (.slice (some ⟨g, 0, none⟩) (R.length + 1) c)).cell? ⟨b, j, none⟩ = w2.cell? ⟨b, j, none⟩ := by
        apply World.cell?_setCell_other
        intro e
        simp at e
        try exact hj e.symm
      rw [this, show w2.cell? ⟨b, j, none⟩ = w1.cell? ⟨b, j, none⟩ from World.cell?_of_block hbk]
      exact hB1.cell (p := ⟨b, j, none⟩) hbl
    · intro j
      have : (w2.setCell ⟨b, o, none⟩ (.slice (some ⟨g, 0, none⟩) (R.length + 1) c)).frozen? ⟨b, j, none⟩ = w2.frozen? ⟨b, j, none⟩ := by simp [go_sem]
      rw [this, show w2.frozen? ⟨b, j, none⟩ = w1.frozen? ⟨b, j, none⟩ from World.frozen?_of_block hbk]
      exact hB1.frozen (p := ⟨b, j, none⟩) hbl
    · rcases hat with h | ⟨g2, h1, h2⟩
      · exact .inl h
      · refine .inr ⟨g2, h1, ?_⟩
        simp at h2
        omega
  have HINS := Lib.hid hins
  clear hins hT1 hB1
  go_wp2_with (go_at_call 39; with_reducible refine (HINS.out _ rfl).mono ?_; rintro e w2 ⟨g, c, rfl, hT3, hO3, hc3, hf3, hz3⟩; have HT3 := Lib.hid hT3; have HO3 := Lib.hid hO3; clear hT3 hO3)
  all_goals go_ret
  all_goals exact ⟨rfl, _, HT3.out, HO3.out⟩
end TabS
end Go.Proofs.YtplanbihejodoaaDoor
