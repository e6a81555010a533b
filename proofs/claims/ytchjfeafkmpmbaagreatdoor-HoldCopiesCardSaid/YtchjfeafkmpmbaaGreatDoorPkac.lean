import Derived.Test.YtchjfeafkmpmbaaGreatDoorPkab
import Derived.RangeFuncNested
import Derived.RangeFuncBound
import Derived.RangeFuncCalls
import Derived.RangeFuncLeaves
import Derived.RangeFuncFrom
import Derived.Shelf.Abstract
import Derived.Shelf.RegionOpen
import Derived.WalkKit
import Derived.OwnWalkIn
import Derived.TacticsInMore
import Derived.LoopNIn
import Derived.Test.YtchjfeafkmpmbaaGreatDoorRows
import Derived.ProofKit
import Derived.Lib.Hide
import Derived.LoopN
import Derived.Laws.Rows
import Derived.Laws.AppendOwn
import Derived.OwnWalk
import Derived.Deep.RegionWith
import Derived.Maps.AppendAt
import Derived.Outline
import Derived.BigQuiet
namespace Go.Proofs.YtchjfeafkmpmbaaGreatDoor
set_option linter.unusedVariables false
set_option linter.unusedSimpArgs false
set_option maxRecDepth 100000
set_option maxHeartbeats 8000000
open Lib (hid)
section
open Go.ChangeShapes Go.WideShapes Go.ChangeAt Go.RowKit
namespace TabS
theorem asc_ins {R : List Rw} {r : Rw} (hA : Asc R) (hn : hasR R r.1 = false) : Asc (insR R r) := by
 obtain ⟨h1, h2⟩ := posR_facts (k := r.1) hA
 have hne : ∀ x ∈ R, x.1 ≠ r.1 := by
  intro x hx e
  have : hasR R r.1 = true := by unfold hasR; rw [List.any_eq_true]; exact ⟨x, hx, by simpa using e⟩
  rw [hn] at this
  cases this
 unfold insR Asc
 rw [List.map_append, List.map_cons, List.pairwise_append, List.pairwise_cons]
 have hT : ∀ x ∈ (R.take (posR R r.1)).map Prod.fst, x < r.1 := by
  intro x hx
  obtain ⟨y, hy, rfl⟩ := List.mem_map.1 hx
  obtain ⟨j, hj⟩ := List.getElem?_of_mem hy
  have hjl := (lgs hj).1
  rw [List.length_take] at hjl
  rw [List.getElem?_take_of_lt (by omega)] at hj
  exact h1 j y (by omega) hj
 have hD : ∀ x ∈ (R.drop (posR R r.1)).map Prod.fst, r.1 < x := by
  intro x hx
  obtain ⟨y, hy, rfl⟩ := List.mem_map.1 hx
  obtain ⟨j, hj⟩ := List.getElem?_of_mem hy
  rw [List.getElem?_drop] at hj
  have := h2 _ y (by omega) hj
  have := hne y (List.mem_of_getElem? hj)
  omega
 refine ⟨?_, ⟨hD, ?_⟩, ?_⟩
 ·rw [List.map_take]
  exact hA.sublist (List.take_sublist _ _)
 ·rw [List.map_drop]
  exact hA.sublist (List.drop_sublist _ _)
 ·intro x hx y hy
  rcases List.mem_cons.1 hy with rfl | hy
  ·exact hT x hx
  ·exact Int.lt_trans (hT x hx) (hD y hy)
theorem asc_del {R : List Rw} {k : Int} (hA : Asc R) : Asc (delR R k) := by
 unfold delR Asc
 rw [List.map_append]
 have : (R.take (posR R k)).map Prod.fst ++ (R.drop (posR R k + 1)).map Prod.fst = (R.map Prod.fst).take (posR R k) ++ (R.map Prod.fst).drop (posR R k + 1) := by rw [List.map_take, List.map_drop]
 rw [this]
 refine hA.sublist ?_
 conv => rhs; rw [← List.take_append_drop (posR R k) (R.map Prod.fst)]
 refine List.Sublist.append (List.Sublist.refl _) ?_
 rw [← List.drop_drop]
 exact List.drop_sublist _ _
theorem len_ins {R : List Rw} {r : Rw} : (insR R r).length = R.length + 1 := by
 unfold insR
 have := posR_le R r.1
 simp
 omega
theorem wide_ins {C : Nat} {R : List Rw} {r : Rw} (h : Wide C R) (hr : Wide C [r]) : Wide C (insR R r) := by
 intro x hx
 unfold insR at hx
 rcases List.mem_append.1 hx with q | q
 ·exact h x (List.mem_of_mem_take q)
 ·rcases List.mem_cons.1 q with rfl | q
  ·exact hr _ (by simp)
  ·exact h x (List.mem_of_mem_drop q)
theorem wide_del {C : Nat} {R : List Rw} {k : Int} (h : Wide C R) : Wide C (delR R k) := (h.take _).append (h.drop _)
theorem tab_store {w w2 : World} {b o base : Nat} {v v' : Value} {R R' : List Rw} (h : TabAt w b o base v R) (hb : b < w2.heap.size)
  (hcell : w2.cell? ⟨b, o, none⟩ = w.cell? ⟨b, o, none⟩) (hf : w2.frozen? ⟨b, o, none⟩ = false) (hr : w2.ownsRow base 163 2 v' R'.length (flat R')) (hsz : w.heap.size ≤ w2.heap.size)
  (hW : Wide 2 R') (hA : Asc R') (hl : R'.length ≤ 1000000) : TabAt (w2.setCell ⟨b, o, none⟩ v') b o base v' R' := by
 refine ⟨?_, ?_, row_of_block hr (fun g hg => ?_), h.ne, by have := h.base; simp; omega, hW, hA, hl⟩
 ·have := h.cell
  rw [← hcell] at this
  simp [go_sem, this, hf]
 ·simpa [go_sem] using hf
 ·have := (hr.lt g hg).1
  have := h.ne
  exact Go.heap_setCell_other _ _ _ _ (by simp; omega)
theorem add_no (w : World) (b o base : Nat) (v : Value) (R : List Rw) (k : Int) (sa : Option Addr) (sn sc : Nat) (h : TabAt w b o base v R) (hh : hasR R k = true) :
  Calls Tryz.prog 107 #[.pointer (some ⟨b, o, none⟩), .int .i64 k, .slice sa sn sc] w fun e w' => e = .returned (.bool false) ∧ Below w.heap.size w w' := by
 have HT := hid h
 have HH := hid hh
 clear h hh
 go_enter Tryz.func107, Tryz.ntmps107
 go_wp2_with (go_at_call 122; refine (find_any _ b o base v R k HT.out).mono ?_; rw [HH.out]; rintro e w1 ⟨rfl, hb1⟩)
 go_ret
 exact ⟨rfl, hb1⟩
theorem add_yes (w : World) (b o base : Nat) (v : Value) (R : List Rw) (k : Int) (sa : Option Addr) (sn sc : Nat) (h : TabAt w b o base v R) (hh : hasR R k = false) (hl : R.length < 1000000) (hx : Wide 2 [(k, [.slice sa sn sc])]) :
  Calls Tryz.prog 107 #[.pointer (some ⟨b, o, none⟩), .int .i64 k, .slice sa sn sc] w fun e w' => e = .returned (.bool true) ∧ ∃ v', TabAt w' b o base v' (insR R (k, [.slice sa sn sc])) ∧ Only w w' b o v v' := by
 have HT := hid h
 have HH := hid hh
 have hbl := h.lt
 have HX := hid hx
 clear h hh hx
 go_enter Tryz.func107, Tryz.ntmps107
 go_upto_region 4 with (go_at_call 122; refine (find_any _ b o base v R k HT.out).mono ?_; rw [HH.out]; rintro e w1 ⟨rfl, hb1⟩)
 have hbz := hb1.size
 have hT1 : TabAt w1 b o base v R := HT.out.call hb1
 have hB1 : Below w.heap.size w w1 := hb1
 have hcb := hT1.cell
 have hfb := hT1.froz
 have hbl1 := hT1.lt
 have hins : ∀ ob, ob = Obj.cells #[.int .i64 k, .slice sa sn sc] 163 →
   Calls Tryz.prog 123 #[v, .int .i64 (posR R k : Nat), .slice (some ⟨w1.heap.size, 0, none⟩) 1 1] (w1.alloc ob) fun e w' =>
    ∃ g c, e = .returned (.slice (some ⟨g, 0, none⟩) (R.length + 1) c) ∧ TabAt (w'.setCell ⟨b, o, none⟩ (.slice (some ⟨g, 0, none⟩) (R.length + 1) c)) b o base (.slice (some ⟨g, 0, none⟩) (R.length + 1) c) (insR R (k, [.slice sa sn sc])) ∧
     Only w (w'.setCell ⟨b, o, none⟩ (.slice (some ⟨g, 0, none⟩) (R.length + 1) c)) b o v (.slice (some ⟨g, 0, none⟩) (R.length + 1) c) ∧ w'.cell? ⟨b, o, none⟩ = some v ∧ w'.frozen? ⟨b, o, none⟩ = false ∧ b < w'.heap.size := by
  rintro ob rfl
  have hbo : Below w1.heap.size w1 (w1.alloc (Obj.cells #[.int .i64 k, .slice sa sn sc] 163)) := bal (Below.refl _ _) _
  have hT2 := hT1.call hbo
  have hown : v.ownBlock ≠ some w1.heap.size := by
   intro e
   have := (hT1.own e).2
   omega
  refine (ins_any _ base v R (k, [.slice sa sn sc]) w1.heap.size (posR R k) hT2.wide HX.out hT2.le (posR_le R k) hT2.row hT2.base hown (heap_alloc_new w1 _)).mono ?_
  rintro e w2 ⟨v', rfl, hrow, hgr, hat⟩
  have hR' : R.take (posR R k) ++ (k, [.slice sa sn sc]) :: R.drop (posR R k) = insR R (k, [.slice sa sn sc]) := rfl
  rw [hR'] at hrow
  have hfm := hrow
  rw [len_ins] at hfm
  obtain ⟨g, c, rfl⟩ := row_form hfm
  have hsz := hgr.size
  simp at hsz
  have hne : some b ≠ v.ownBlock := by
   intro e
   have := (hT1.own e.symm).1
   have := hT1.ne
   omega
  have hbk : w2.heap[b]? = w1.heap[b]? := (hgr.block b (by simp; omega) hne).trans (heap_alloc_old w1 _ hbl1)
  have hc2 : w2.cell? ⟨b, o, none⟩ = w1.cell? ⟨b, o, none⟩ := World.cell?_of_block hbk
  have hf2 : w2.frozen? ⟨b, o, none⟩ = w1.frozen? ⟨b, o, none⟩ := World.frozen?_of_block hbk
  refine ⟨g, c, rfl, ?_, ⟨hgr.os.trans hB1.os, hgr.tape.trans hB1.tape, hgr.output.trans hB1.output, ?_, ?_, ?_, ?_, ?_⟩, hc2.trans hcb, hf2.trans hfb, by omega⟩
  ·have hrow2 := hrow
   rw [len_ins] at hrow
   exact tab_store hT1 (by omega) hc2 (hf2.trans hfb) (by rw [len_ins]; exact hrow) (by omega) (wide_ins hT1.wide HX.out) (asc_ins hT1.asc HH.out) (by rw [len_ins]; omega)
  ·simp; omega
  ·intro j hj hjb hjv
   rw [Go.heap_setCell_other _ _ _ _ (by simpa using hjb)]
   exact (hgr.block j (by simp; omega) (fun e => hjv e.symm)).trans ((heap_alloc_old w1 _ (by omega)).trans (hB1.block j hj))
  ·intro j hj
   have : (w2.setCell ⟨b, o, none⟩ (.slice (some ⟨g, 0, none⟩) (R.length + 1) c)).cell? ⟨b, j, none⟩ = w2.cell? ⟨b, j, none⟩ := by
    apply World.cell?_setCell_other
    intro e
    simp at e
    try exact hj e.symm
   rw [this, show w2.cell? ⟨b, j, none⟩ = w1.cell? ⟨b, j, none⟩ from World.cell?_of_block hbk]
   exact hB1.cell (p := ⟨b, j, none⟩) hbl
  ·intro j
   have : (w2.setCell ⟨b, o, none⟩ (.slice (some ⟨g, 0, none⟩) (R.length + 1) c)).frozen? ⟨b, j, none⟩ = w2.frozen? ⟨b, j, none⟩ := by simp [go_sem]
   rw [this, show w2.frozen? ⟨b, j, none⟩ = w1.frozen? ⟨b, j, none⟩ from World.frozen?_of_block hbk]
   exact hB1.frozen (p := ⟨b, j, none⟩) hbl
  ·rcases hat with h | ⟨g2, h1, h2⟩
   ·exact .inl h
   ·refine .inr ⟨g2, h1, ?_⟩
    simp at h2
    omega
 have HINS := hid hins
 clear hins hT1 hB1
 go_wp2_with (go_at_call 123; with_reducible refine (HINS.out _ rfl).mono ?_; rintro e w2 ⟨g, c, rfl, hT3, hO3, hc3, hf3, hz3⟩; have HT3 := hid hT3; have HO3 := hid hO3; clear hT3 hO3)
 all_goals go_ret
 all_goals exact ⟨rfl, _, HT3.out, HO3.out⟩
theorem len_del {R : List Rw} {k : Int} (hA : Asc R) (h : hasR R k = true) : (delR R k).length + 1 = R.length := by
 obtain ⟨x, hx, _⟩ := (hasR_at hA).1 h
 have := (lgs hx).1
 unfold delR
 simp
 omega
theorem drop_yes (w : World) (b o base : Nat) (v : Value) (R : List Rw) (k : Int) (h : TabAt w b o base v R) (hh : hasR R k = true) :
  Calls Tryz.prog 116 #[.pointer (some ⟨b, o, none⟩), .int .i64 k] w fun e w' => e = .returned (.bool true) ∧ ∃ v', TabAt w' b o base v' (delR R k) ∧ Only w w' b o v v' := by
 obtain ⟨x, hx, _⟩ := (hasR_at h.asc).1 hh
 have hpl := (lgs hx).1
 obtain ⟨m, hm⟩ : ∃ m, R.length = m + 1 := ⟨R.length - 1, by omega⟩
 have hld := len_del h.asc hh
 have hlm : (delR R k).length = m := by omega
 have hle := h.le
 have hdel : ∀ w1 : World, Below w.heap.size w w1 → ∃ g c, v = .slice (some ⟨g, 0, none⟩) (m + 1) c ∧ Calls Tryz.prog 127 #[v, .int .i64 (posR R k : Nat), .int .i64 ((posR R k : Nat) + 1)] w1 fun e w' =>
   ∃ g c, e = .returned (.slice (some ⟨g, 0, none⟩) m c) ∧ TabAt (w'.setCell ⟨b, o, none⟩ (.slice (some ⟨g, 0, none⟩) m c)) b o base (.slice (some ⟨g, 0, none⟩) m c) (delR R k) ∧
     Only w (w'.setCell ⟨b, o, none⟩ (.slice (some ⟨g, 0, none⟩) m c)) b o v (.slice (some ⟨g, 0, none⟩) m c) ∧ w'.cell? ⟨b, o, none⟩ = some v ∧ w'.frozen? ⟨b, o, none⟩ = false ∧ b < w'.heap.size := by
  intro w1 hB1
  have hT1 := h.call hB1
  have hbl := h.lt
  have hbl1 := hT1.lt
  rcases hT1.row.2 with ⟨_, h0⟩ | ⟨g, cap, cur, rfl, q1, q2, q3, q4, q5, q6⟩
  ·omega
  ·have hcur : cur = (flat R ++ cur.toList.drop (R.length * 2)).toArray := by
    rw [← q6, List.take_append_drop]
   have hlen : (flat R ++ cur.toList.drop (R.length * 2)).length = cap * 2 := by
    rw [← q5, ← Array.length_toList, ← q6, List.take_append_drop]
   rw [hcur] at q2
   refine ⟨g, cap, by rw [hm], ?_⟩
   refine (del_run w1 base g cap (posR R k) m R _ h.wide h.le hm hpl q3 q4 q1 q2 hlen).mono ?_
   rintro e w2 ⟨rfl, hrow, hgr⟩
   have hsz := hgr.size
   have hB1s := hB1.size
   have hne : ¬ b = g := by
    have := h.ne
    omega
   have hbk : w2.heap[b]? = w1.heap[b]? := hgr.block b hbl1 (by intro e; cases e; exact hne rfl)
   have hc2 : w2.cell? ⟨b, o, none⟩ = w1.cell? ⟨b, o, none⟩ := World.cell?_of_block hbk
   have hf2 : w2.frozen? ⟨b, o, none⟩ = w1.frozen? ⟨b, o, none⟩ := World.frozen?_of_block hbk
   refine ⟨g, cap, rfl, ?_, ⟨hgr.os.trans hB1.os, hgr.tape.trans hB1.tape, hgr.output.trans hB1.output, ?_, ?_, ?_, ?_, .inl rfl⟩, hc2.trans hT1.cell, hf2.trans hT1.froz, by omega⟩
   ·exact tab_store hT1 (by omega) hc2 (hf2.trans hT1.froz) (by rw [hlm]; exact hrow) hsz (wide_del h.wide) (asc_del h.asc) (by omega)
   ·simp; omega
   ·intro j hj hjb hjv
    rw [Go.heap_setCell_other _ _ _ _ (by simpa using hjb)]
    exact (hgr.block j (by omega) (fun e => hjv (by rw [e]; rfl))).trans (hB1.block j hj)
   ·intro j hj
    have : (w2.setCell ⟨b, o, none⟩ (.slice (some ⟨g, 0, none⟩) m cap)).cell? ⟨b, j, none⟩ = w2.cell? ⟨b, j, none⟩ := by
     apply World.cell?_setCell_other
     intro e
     simp at e
     try exact hj e.symm
    rw [this, show w2.cell? ⟨b, j, none⟩ = w1.cell? ⟨b, j, none⟩ from World.cell?_of_block hbk]
    exact hB1.cell (p := ⟨b, j, none⟩) hbl
   ·intro j
    have : (w2.setCell ⟨b, o, none⟩ (.slice (some ⟨g, 0, none⟩) m cap)).frozen? ⟨b, j, none⟩ = w2.frozen? ⟨b, j, none⟩ := by simp [go_sem]
    rw [this, show w2.frozen? ⟨b, j, none⟩ = w1.frozen? ⟨b, j, none⟩ from World.frozen?_of_block hbk]
    exact hB1.frozen (p := ⟨b, j, none⟩) hbl
 obtain ⟨g0, c0, hv0, _⟩ := hdel w (Below.refl _ _)
 have hdel2 := fun w1 hb1 => (hdel w1 hb1).choose_spec.choose_spec.2
 have hc := h.cell
 have hbl := h.lt
 have HT := hid h
 have HH := hid hh
 have HD := hid hdel2
 have hpm : posR R k ≤ 1000000 := by omega
 clear h hh hdel hdel2 hx hpl hm hld hlm hle
 subst hv0
 generalize hp : posR R k = p at *
 have HP := hid hp
 clear hp
 have hpI : (p : Int) ≤ 1000000 := by omega
 go_enter Tryz.func116, Tryz.ntmps116
 go_wp2_with (first | (go_at_call 122; refine (find_any _ b o base _ R k HT.out).mono ?_; rw [HH.out, HP.out]; rintro e w1 ⟨rfl, hb1⟩; obtain ⟨hc1, hf1⟩ := bcell hb1; have hz1 : w.heap.size ≤ w1.heap.size := hb1.size) | (go_at_call 127; refine (HD.out w1 hb1).mono ?_; rintro e w2 ⟨g, c, rfl, hT3, hO3, hc3, hf3, hz3⟩; have HT3 := hid hT3; have HO3 := hid hO3; clear hT3 hO3 hc1 hf1))
 go_ret
 exact ⟨rfl, _, HT3.out, HO3.out⟩
end TabS
end
section
open Go.RowKit Go.Shelf
variable {P : Program} {F : Fence} {n : Nat}
theorem cell_fresh (W : World) (v : Value) (t : TypeId) : (W.alloc (.cells #[v] t)).cell? ⟨W.heap.size, 0, none⟩ = some v ∧ (W.alloc (.cells #[v] t)).frozen? ⟨W.heap.size, 0, none⟩ = false :=
 cell_box (World.alloc_heap_new W _)
theorem cell_more {W : World} {a : Addr} {v : Value} (o : Obj) (h : W.cell? a = some v) : (W.alloc o).cell? a = some v := cell_kept h (World.grownBy_alloc W o none) (fun r e => by cases e)
theorem frozen_more {W : World} {a : Addr} {v : Value} (o : Obj) (h : W.cell? a = some v) (hf : W.frozen? a = false) : (W.alloc o).frozen? a = false := (frozen_kept h (World.grownBy_alloc W o none) (fun r e => by cases e)).trans hf
end
section
open Go.ChangeShapes Go.WideShapes Go.ChangeAt Go.RowKit
theorem cell_int {P : Program} {w : World} {r : Reach} {b : Nat} {u : TypeId} {k : IntKind} {v : Value} (hu : P.underlying u = some (.int k)) (h : Cell.okWide P w r b u v) : ∃ n, v = .int k n ∧ k.min ≤ n ∧ n ≤ k.max := by
 unfold Cell.okWide at h
 rw [hu] at h
 cases v <;> simp [Cell.ok, hu] at h
 obtain ⟨rfl, hn⟩ := h
 exact ⟨_, rfl, hn⟩
theorem cell_i64 {P : Program} {w : World} {r : Reach} {b : Nat} {u : TypeId} {v : Value} (hu : P.underlying u = some (.int .i64)) (h : Cell.okWide P w r b u v) : ∃ n, v = .int .i64 n ∧ -9223372036854775808 ≤ n ∧ n ≤ 9223372036854775807 := by
 obtain ⟨n, rfl, h1, h2⟩ := cell_int hu h
 simp [IntKind.min, IntKind.max, IntKind.signed, IntKind.bits] at h1 h2
 exact ⟨n, rfl, by omega, by omega⟩
theorem agg_cells {P : Program} {w : World} {r : Reach} {b : Nat} {t : TypeId} {fs : Array Field} {v : Value} {ts : List TypeId} (hs : P.underlying t = some (.struct fs)) (hts : P.cellTypes P.depth t = some ts) (hn : P.cellsOf t = ts.length) (hv : Value.okWide P w r b t v) :
  ∃ cs : List Value, v = .agg cs.toArray ∧ cs.length = ts.length ∧ ∀ (i : Nat) (u : TypeId), ts[i]? = some u → ∃ x, cs[i]? = some x ∧ Cell.okWide P w r b u x := by
 unfold Value.okWide at hv
 rw [hs] at hv
 obtain ⟨cs, rfl, hsz, ts', hts', _, hall⟩ := hv
 obtain rfl : ts = ts' := Option.some.inj (hts.symm.trans hts')
 refine ⟨cs.toList, by simp, by simp; omega, fun i u hi => ?_⟩
 have hl : i < ts.length := (lgs hi).1
 have hc : cs[i]? = some (cs[i]'(by omega)) := Array.getElem?_eq_getElem (by omega)
 obtain ⟨u', hu', hok⟩ := hall i _ hc
 rw [Nat.mod_eq_of_lt hl, hi] at hu'
 cases hu'
 exact ⟨_, by rw [Array.getElem?_toList]; exact hc, hok⟩
end
section
open Go.ChangeShapes Go.WideShapes Go.ChangeAt Go.RowKit Go.Shelf
abbrev sl2 (m : Nat) : Value := .slice (some ⟨m, 0, none⟩) 2 2
def RowC (w : World) (g m : Nat) : Prop := w.cell? ⟨g, 0, none⟩ = some (.int .i64 7) ∧ w.cell? ⟨g, 1, none⟩ = some (sl2 m) ∧ g < w.heap.size
theorem bsf_none (w : World) (k : Int) (f : Value) : Calls Tryz.prog 131 #[.slice none 0 0, .int .i64 k, f] w fun e w' => e = .returned (.tuple #[.int .i64 0, .bool false]) ∧ w = w' := by
 go_enter Tryz.func131, Tryz.ntmps131
 go_wp2
 refine wp_loop_rounds 1 ?_
 rw [rounds_succ]
 go_wp2
 go_ret2
 exact ⟨by simp, rfl⟩
def OneAt (w : World) (b m : Nat) : Prop := ∃ g c : Nat, w.cell? ⟨b, 0, none⟩ = some (.slice (some ⟨g, 0, none⟩) 1 c) ∧ RowC w g m
abbrev zrow : Value := .agg #[.int .i64 0, .slice none 0 0]
theorem infoR : (Tryz.prog.info? 163).map (fun i => (i.zero, i.size, i.bytes)) = some (some zrow, 2, 32) := by kernel_rfl
end
section
open Go.ChangeShapes Go.WideShapes Go.ChangeAt Go.RowKit
def KeptQ (n : Nat) (a b : World) : Prop := Below n a b ∧ n ≤ b.heap.size
theorem KeptQ.refl {n : Nat} {a : World} (h : n ≤ a.heap.size) : KeptQ n a a := ⟨Below.refl _ _, h⟩
theorem KeptQ.drew {n : Nat} {a b : World} (h : KeptQ n a b) : KeptQ n a b.drew := ⟨h.1.drew, h.2⟩
theorem KeptQ.call {n : Nat} {a b c : World} (h : KeptQ n a b) (k : Below b.heap.size b c) : KeptQ n a c := ⟨h.1.trans (k.mono h.2), Nat.le_trans h.2 k.size⟩
theorem KeptQ.below {n m : Nat} {W a b : World} (h : KeptQ n a b) (hm : m ≤ n) (B : Below m W a) : Below m W b := B.trans (h.1.mono hm)
section
variable {P : Program} {ops : Array Oper} {rest : List Oper} {o : Oper} {a : Act} {W : World} {m : Nat} {C : World → Prop}
theorem wp_region_keptQ {id : Nat} {Q : Exit → Act → World → Prop} {w : World} {l : List Oper} (m : Nat) (W : World) (hm : P.follows .mixedOrders = true) (hB : Region.lexB .any l.toArray = true) (hK : KeptQ m W w)
  (h : wpQuiet P l.toArray (KeptQ m W) (fun a' => ∀ w', KeptQ m W w' → Q .normal a' w') l a) : (Code.region id l.toArray true).wp P Q a w :=
 wp_region_quiet (C := KeptQ m W) hm hB hK.drew (by simpa using h)
theorem quietQ_load_cell {K : Act → Prop} (ty : TypeId) (x : Operand) (ho : o.op = .load ty x) (p : Addr) (hx : a.eval x = .pointer (some p)) (v : Value) (hc : ∀ w, C w → w.cell? p = some v)
  (d : TypeDesc) (hu : P.underlying ty = some d) (hd : (match d with | .struct _ | .array _ _ => true | _ => false) = false)
  (hk : K (a.put o.dst v)) : o.quiet P a C K := by
 refine ⟨_, fun w hw => ?_, hk⟩
 have hcw := hc w hw
 have hrun : (loadVar ty p).run P w = .ok v w := by
  have hagg : (isAgg ty).run P w = .ok false w := by
   unfold isAgg
   rw [Sem.run_bind, run_underlying hu w]
   cases d <;> simp_all
  simp [loadVar, Sem.run_bind, hagg, hcw]
 unfold Oper.quietAt execOp
 simp only [ho, hx, Instr.loadAt, Instr.sureAddr, Sem.run_bind, Sem.run_pure, Result.andThen_ok, hrun]
 exact ⟨rfl, rfl⟩
end
end
section
open Go.ChangeShapes Go.WideShapes Go.ChangeAt Go.RowKit Go.Shelf
abbrev capE (a o r : Int) : Value := .agg #[.int .i64 a, .int .i64 o, .int .i64 r, .int .u64 0, .int .i64 0, .int .i64 0, .int .i64 0, .int .i64 0]
def caps2 (a o r : Int) : Array Value := #[.int .i64 0, .int .i64 0, .int .i64 0, .int .u64 0, .int .i64 0, .int .i64 0, .int .i64 0, .int .i64 0, .int .i64 a, .int .i64 o, .int .i64 r, .int .u64 0, .int .i64 0, .int .i64 0, .int .i64 0, .int .i64 0]
def SlAt (w : World) (b m : Nat) (a o r : Int) : Prop := ∃ g c : Nat, w.cell? ⟨b, 0, none⟩ = some (.slice (some ⟨g, 0, none⟩) 1 c) ∧ RowC w g m ∧ g ≠ m ∧ b ≠ m ∧ b < w.heap.size ∧ w.heap[m]? = some (.cells (caps2 a o r) 33 (0, 0))
def setL (w : World) (m : Nat) : Nat → List Value → World
 | _, [] => w
 | k, v :: t => setL (w.setCell ⟨m, k, none⟩ v) m (k + 1) t
def putL (cs : Array Value) : Nat → List Value → Array Value
 | _, [] => cs
 | k, v :: t => putL (cs.setIfInBounds k v) (k + 1) t
theorem setL_other {m j : Nat} (hj : j ≠ m) : ∀ (L : List Value) (w : World) (k : Nat), (setL w m k L).heap[j]? = w.heap[j]?
 | [], _, _ => rfl
 | v :: t, w, k => (setL_other hj t _ (k + 1)).trans (Go.heap_setCell_other _ _ _ _ hj)
theorem setL_same {m : Nat} {T : TypeId} : ∀ (L : List Value) (w : World) (k : Nat) (cs : Array Value), w.heap[m]? = some (.cells cs T (0, 0)) → (setL w m k L).heap[m]? = some (.cells (putL cs k L) T (0, 0))
 | [], _, _, _, h => h
 | v :: t, w, k, cs, h => setL_same t _ (k + 1) _ (Go.heap_setCell_same _ _ _ _ _ _ h)
theorem setL_rest {m : Nat} : ∀ (L : List Value) (w : World) (k : Nat), (setL w m k L).os = w.os ∧ (setL w m k L).tape = w.tape ∧ (setL w m k L).output = w.output ∧ (setL w m k L).heap.size = w.heap.size
 | [], _, _ => ⟨rfl, rfl, rfl, rfl⟩
 | v :: t, w, k => by
  obtain ⟨h1, h2, h3, h4⟩ := setL_rest (m := m) t (w.setCell ⟨m, k, none⟩ v) (k + 1)
  exact ⟨h1, h2, h3, h4.trans (by simp)⟩
def capL8 : List Value := [.int .i64 8, .int .i64 3, .int .i64 7, .int .u64 0, .int .i64 0, .int .i64 0, .int .i64 0, .int .i64 0]
def setE (w : World) (m : Nat) : World := setL w m 8 capL8
end
end Go.Proofs.YtchjfeafkmpmbaaGreatDoor
