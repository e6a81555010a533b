import Derived.Test.YtchjfeafkmpmbaaGreatDoorQka
import Derived.RangeFuncNested
import Derived.RangeFuncBound
import Derived.RangeFuncCalls
import Derived.RangeFuncLeaves
import Derived.RangeFuncFrom
import Derived.Shelf.Abstract
import Derived.Shelf.RegionOpen
import Derived.WalkKit
import Derived.OwnWalkIn
import Derived.TacticsInMore
import Derived.LoopNIn
import Derived.Test.YtchjfeafkmpmbaaGreatDoorRows
import Derived.ProofKit
import Derived.Lib.Hide
import Derived.LoopN
import Derived.Laws.Rows
import Derived.Laws.AppendOwn
import Derived.OwnWalk
import Derived.Deep.RegionWith
import Derived.Maps.AppendAt
import Derived.Outline
import Derived.BigQuiet
import Derived.Laws.MakeOwn
import Derived.Test.YtchjfeafkmpmbaaGreatDoorFrame
import Derived.WalkSmall
import Derived.Lib.TrailingZeros
import Derived.Laws.BitsAllLaws
import Derived.LoopIn
import Derived.Laws.Bits64b
import Derived.LoopTactic
namespace Go.Proofs.YtchjfeafkmpmbaaGreatDoor
set_option linter.unusedVariables false
set_option linter.unusedSimpArgs false
set_option maxRecDepth 100000
set_option maxHeartbeats 8000000
open Lib (hid)
section
open Go.ChangeShapes Go.WideShapes Go.ChangeAt Go.RowKit
namespace TabS
theorem asc_ins {R : List Rw} {r : Rw} (hA : Asc R) (hn : hasR R r.1 = false) : Asc (insR R r) := by
 obtain ⟨h1, h2⟩ := posR_facts (k := r.1) hA
 have hne : ∀ x ∈ R, x.1 ≠ r.1 := by
  intro x hx e
  have : hasR R r.1 = true := by unfold hasR; rw [List.any_eq_true]; exact ⟨x, hx, by simpa using e⟩
  rw [hn] at this
  cases this
 unfold insR Asc
 rw [List.map_append, List.map_cons, List.pairwise_append, List.pairwise_cons]
 have hT : ∀ x ∈ (R.take (posR R r.1)).map Prod.fst, x < r.1 := by
  intro x hx
  obtain ⟨y, hy, rfl⟩ := List.mem_map.1 hx
  obtain ⟨j, hj⟩ := List.getElem?_of_mem hy
  have hjl := (lgs hj).1
  rw [List.length_take] at hjl
  rw [List.getElem?_take_of_lt (by omega)] at hj
  exact h1 j y (by omega) hj
 have hD : ∀ x ∈ (R.drop (posR R r.1)).map Prod.fst, r.1 < x := by
  intro x hx
  obtain ⟨y, hy, rfl⟩ := List.mem_map.1 hx
  obtain ⟨j, hj⟩ := List.getElem?_of_mem hy
  rw [List.getElem?_drop] at hj
  have := h2 _ y (by omega) hj
  have := hne y (List.mem_of_getElem? hj)
  omega
 refine ⟨?_, ⟨hD, ?_⟩, ?_⟩
 ·rw [List.map_take]
  exact hA.sublist (List.take_sublist _ _)
 ·rw [List.map_drop]
  exact hA.sublist (List.drop_sublist _ _)
 ·intro x hx y hy
  rcases List.mem_cons.1 hy with rfl | hy
  ·exact hT x hx
  ·exact Int.lt_trans (hT x hx) (hD y hy)
theorem asc_del {R : List Rw} {k : Int} (hA : Asc R) : Asc (delR R k) := by
 unfold delR Asc
 rw [List.map_append]
 have : (R.take (posR R k)).map Prod.fst ++ (R.drop (posR R k + 1)).map Prod.fst = (R.map Prod.fst).take (posR R k) ++ (R.map Prod.fst).drop (posR R k + 1) := by rw [List.map_take, List.map_drop]
 rw [this]
 refine hA.sublist ?_
 conv => rhs; rw [← List.take_append_drop (posR R k) (R.map Prod.fst)]
 refine List.Sublist.append (List.Sublist.refl _) ?_
 rw [← List.drop_drop]
 exact List.drop_sublist _ _
theorem len_ins {R : List Rw} {r : Rw} : (insR R r).length = R.length + 1 := by
 unfold insR
 have := posR_le R r.1
 simp
 omega
theorem wide_ins {C : Nat} {R : List Rw} {r : Rw} (h : Wide C R) (hr : Wide C [r]) : Wide C (insR R r) := by
 intro x hx
 unfold insR at hx
 rcases List.mem_append.1 hx with q | q
 ·exact h x (List.mem_of_mem_take q)
 ·rcases List.mem_cons.1 q with rfl | q
  ·exact hr _ (by simp)
  ·exact h x (List.mem_of_mem_drop q)
theorem wide_del {C : Nat} {R : List Rw} {k : Int} (h : Wide C R) : Wide C (delR R k) := (h.take _).append (h.drop _)
theorem tab_store {w w2 : World} {b o base : Nat} {v v' : Value} {R R' : List Rw} (h : TabAt w b o base v R) (hb : b < w2.heap.size)
  (hcell : w2.cell? ⟨b, o, none⟩ = w.cell? ⟨b, o, none⟩) (hf : w2.frozen? ⟨b, o, none⟩ = false) (hr : w2.ownsRow base 163 2 v' R'.length (flat R')) (hsz : w.heap.size ≤ w2.heap.size)
  (hW : Wide 2 R') (hA : Asc R') (hl : R'.length ≤ 1000000) : TabAt (w2.setCell ⟨b, o, none⟩ v') b o base v' R' := by
 refine ⟨?_, ?_, row_of_block hr (fun g hg => ?_), h.ne, by have := h.base; simp; omega, hW, hA, hl⟩
 ·have := h.cell
  rw [← hcell] at this
  simp [go_sem, this, hf]
 ·simpa [go_sem] using hf
 ·have := (hr.lt g hg).1
  have := h.ne
  exact Go.heap_setCell_other _ _ _ _ (by simp; omega)
theorem add_no (w : World) (b o base : Nat) (v : Value) (R : List Rw) (k : Int) (sa : Option Addr) (sn sc : Nat) (h : TabAt w b o base v R) (hh : hasR R k = true) :
  Calls Tryz.prog 107 #[.pointer (some ⟨b, o, none⟩), .int .i64 k, .slice sa sn sc] w fun e w' => e = .returned (.bool false) ∧ Below w.heap.size w w' := by
 have HT := hid h
 have HH := hid hh
 clear h hh
 go_enter Tryz.func107, Tryz.ntmps107
 go_wp2_with (go_at_call 122; refine (find_any _ b o base v R k HT.out).mono ?_; rw [HH.out]; rintro e w1 ⟨rfl, hb1⟩)
 go_ret
 exact ⟨rfl, hb1⟩
theorem add_yes (w : World) (b o base : Nat) (v : Value) (R : List Rw) (k : Int) (sa : Option Addr) (sn sc : Nat) (h : TabAt w b o base v R) (hh : hasR R k = false) (hl : R.length < 1000000) (hx : Wide 2 [(k, [.slice sa sn sc])]) :
  Calls Tryz.prog 107 #[.pointer (some ⟨b, o, none⟩), .int .i64 k, .slice sa sn sc] w fun e w' => e = .returned (.bool true) ∧ ∃ v', TabAt w' b o base v' (insR R (k, [.slice sa sn sc])) ∧ Only w w' b o v v' := by
 have HT := hid h
 have HH := hid hh
 have hbl := h.lt
 have HX := hid hx
 clear h hh hx
 go_enter Tryz.func107, Tryz.ntmps107
 go_upto_region 4 with (go_at_call 122; refine (find_any _ b o base v R k HT.out).mono ?_; rw [HH.out]; rintro e w1 ⟨rfl, hb1⟩)
 have hbz := hb1.size
 have hT1 : TabAt w1 b o base v R := HT.out.call hb1
 have hB1 : Below w.heap.size w w1 := hb1
 have hcb := hT1.cell
 have hfb := hT1.froz
 have hbl1 := hT1.lt
 have hins : ∀ ob, ob = Obj.cells #[.int .i64 k, .slice sa sn sc] 163 →
   Calls Tryz.prog 123 #[v, .int .i64 (posR R k : Nat), .slice (some ⟨w1.heap.size, 0, none⟩) 1 1] (w1.alloc ob) fun e w' =>
    ∃ g c, e = .returned (.slice (some ⟨g, 0, none⟩) (R.length + 1) c) ∧ TabAt (w'.setCell ⟨b, o, none⟩ (.slice (some ⟨g, 0, none⟩) (R.length + 1) c)) b o base (.slice (some ⟨g, 0, none⟩) (R.length + 1) c) (insR R (k, [.slice sa sn sc])) ∧
     Only w (w'.setCell ⟨b, o, none⟩ (.slice (some ⟨g, 0, none⟩) (R.length + 1) c)) b o v (.slice (some ⟨g, 0, none⟩) (R.length + 1) c) ∧ w'.cell? ⟨b, o, none⟩ = some v ∧ w'.frozen? ⟨b, o, none⟩ = false ∧ b < w'.heap.size := by
  rintro ob rfl
  have hbo : Below w1.heap.size w1 (w1.alloc (Obj.cells #[.int .i64 k, .slice sa sn sc] 163)) := bal (Below.refl _ _) _
  have hT2 := hT1.call hbo
  have hown : v.ownBlock ≠ some w1.heap.size := by
   intro e
   have := (hT1.own e).2
   omega
  refine (ins_any _ base v R (k, [.slice sa sn sc]) w1.heap.size (posR R k) hT2.wide HX.out hT2.le (posR_le R k) hT2.row hT2.base hown (heap_alloc_new w1 _)).mono ?_
  rintro e w2 ⟨v', rfl, hrow, hgr, hat⟩
  have hR' : R.take (posR R k) ++ (k, [.slice sa sn sc]) :: R.drop (posR R k) = insR R (k, [.slice sa sn sc]) := rfl
  rw [hR'] at hrow
  have hfm := hrow
  rw [len_ins] at hfm
  obtain ⟨g, c, rfl⟩ := row_form hfm
  have hsz := hgr.size
  simp at hsz
  have hne : some b ≠ v.ownBlock := by
   intro e
   have := (hT1.own e.symm).1
   have := hT1.ne
   omega
  have hbk : w2.heap[b]? = w1.heap[b]? := (hgr.block b (by simp; omega) hne).trans (heap_alloc_old w1 _ hbl1)
  have hc2 : w2.cell? ⟨b, o, none⟩ = w1.cell? ⟨b, o, none⟩ := World.cell?_of_block hbk
  have hf2 : w2.frozen? ⟨b, o, none⟩ = w1.frozen? ⟨b, o, none⟩ := World.frozen?_of_block hbk
  refine ⟨g, c, rfl, ?_, ⟨hgr.os.trans hB1.os, hgr.tape.trans hB1.tape, hgr.output.trans hB1.output, ?_, ?_, ?_, ?_, ?_⟩, hc2.trans hcb, hf2.trans hfb, by omega⟩
  ·have hrow2 := hrow
   rw [len_ins] at hrow
   exact tab_store hT1 (by omega) hc2 (hf2.trans hfb) (by rw [len_ins]; exact hrow) (by omega) (wide_ins hT1.wide HX.out) (asc_ins hT1.asc HH.out) (by rw [len_ins]; omega)
  ·simp; omega
  ·intro j hj hjb hjv
   rw [Go.heap_setCell_other _ _ _ _ (by simpa using hjb)]
   exact (hgr.block j (by simp; omega) (fun e => hjv e.symm)).trans ((heap_alloc_old w1 _ (by omega)).trans (hB1.block j hj))
  ·intro j hj
   have : (w2.setCell ⟨b, o, none⟩ (.slice (some ⟨g, 0, none⟩) (R.length + 1) c)).cell? ⟨b, j, none⟩ = w2.cell? ⟨b, j, none⟩ := by
    apply World.cell?_setCell_other
    intro e
    simp at e
    try exact hj e.symm
   rw [this, show w2.cell? ⟨b, j, none⟩ = w1.cell? ⟨b, j, none⟩ from World.cell?_of_block hbk]
   exact hB1.cell (p := ⟨b, j, none⟩) hbl
  ·intro j
   have : (w2.setCell ⟨b, o, none⟩ (.slice (some ⟨g, 0, none⟩) (R.length + 1) c)).frozen? ⟨b, j, none⟩ = w2.frozen? ⟨b, j, none⟩ := by simp [go_sem]
   rw [this, show w2.frozen? ⟨b, j, none⟩ = w1.frozen? ⟨b, j, none⟩ from World.frozen?_of_block hbk]
   exact hB1.frozen (p := ⟨b, j, none⟩) hbl
  ·rcases hat with h | ⟨g2, h1, h2⟩
   ·exact .inl h
   ·refine .inr ⟨g2, h1, ?_⟩
    simp at h2
    omega
 have HINS := hid hins
 clear hins hT1 hB1
 go_wp2_with (go_at_call 123; with_reducible refine (HINS.out _ rfl).mono ?_; rintro e w2 ⟨g, c, rfl, hT3, hO3, hc3, hf3, hz3⟩; have HT3 := hid hT3; have HO3 := hid hO3; clear hT3 hO3)
 all_goals go_ret
 all_goals exact ⟨rfl, _, HT3.out, HO3.out⟩
theorem len_del {R : List Rw} {k : Int} (hA : Asc R) (h : hasR R k = true) : (delR R k).length + 1 = R.length := by
 obtain ⟨x, hx, _⟩ := (hasR_at hA).1 h
 have := (lgs hx).1
 unfold delR
 simp
 omega
theorem drop_yes (w : World) (b o base : Nat) (v : Value) (R : List Rw) (k : Int) (h : TabAt w b o base v R) (hh : hasR R k = true) :
  Calls Tryz.prog 116 #[.pointer (some ⟨b, o, none⟩), .int .i64 k] w fun e w' => e = .returned (.bool true) ∧ ∃ v', TabAt w' b o base v' (delR R k) ∧ Only w w' b o v v' := by
 obtain ⟨x, hx, _⟩ := (hasR_at h.asc).1 hh
 have hpl := (lgs hx).1
 obtain ⟨m, hm⟩ : ∃ m, R.length = m + 1 := ⟨R.length - 1, by omega⟩
 have hld := len_del h.asc hh
 have hlm : (delR R k).length = m := by omega
 have hle := h.le
 have hdel : ∀ w1 : World, Below w.heap.size w w1 → ∃ g c, v = .slice (some ⟨g, 0, none⟩) (m + 1) c ∧ Calls Tryz.prog 127 #[v, .int .i64 (posR R k : Nat), .int .i64 ((posR R k : Nat) + 1)] w1 fun e w' =>
   ∃ g c, e = .returned (.slice (some ⟨g, 0, none⟩) m c) ∧ TabAt (w'.setCell ⟨b, o, none⟩ (.slice (some ⟨g, 0, none⟩) m c)) b o base (.slice (some ⟨g, 0, none⟩) m c) (delR R k) ∧
     Only w (w'.setCell ⟨b, o, none⟩ (.slice (some ⟨g, 0, none⟩) m c)) b o v (.slice (some ⟨g, 0, none⟩) m c) ∧ w'.cell? ⟨b, o, none⟩ = some v ∧ w'.frozen? ⟨b, o, none⟩ = false ∧ b < w'.heap.size := by
  intro w1 hB1
  have hT1 := h.call hB1
  have hbl := h.lt
  have hbl1 := hT1.lt
  rcases hT1.row.2 with ⟨_, h0⟩ | ⟨g, cap, cur, rfl, q1, q2, q3, q4, q5, q6⟩
  ·omega
  ·have hcur : cur = (flat R ++ cur.toList.drop (R.length * 2)).toArray := by
    rw [← q6, List.take_append_drop]
   have hlen : (flat R ++ cur.toList.drop (R.length * 2)).length = cap * 2 := by
    rw [← q5, ← Array.length_toList, ← q6, List.take_append_drop]
   rw [hcur] at q2
   refine ⟨g, cap, by rw [hm], ?_⟩
   refine (del_run w1 base g cap (posR R k) m R _ h.wide h.le hm hpl q3 q4 q1 q2 hlen).mono ?_
   rintro e w2 ⟨rfl, hrow, hgr⟩
   have hsz := hgr.size
   have hB1s := hB1.size
   have hne : ¬ b = g := by
    have := h.ne
    omega
   have hbk : w2.heap[b]? = w1.heap[b]? := hgr.block b hbl1 (by intro e; cases e; exact hne rfl)
   have hc2 : w2.cell? ⟨b, o, none⟩ = w1.cell? ⟨b, o, none⟩ := World.cell?_of_block hbk
   have hf2 : w2.frozen? ⟨b, o, none⟩ = w1.frozen? ⟨b, o, none⟩ := World.frozen?_of_block hbk
   refine ⟨g, cap, rfl, ?_, ⟨hgr.os.trans hB1.os, hgr.tape.trans hB1.tape, hgr.output.trans hB1.output, ?_, ?_, ?_, ?_, .inl rfl⟩, hc2.trans hT1.cell, hf2.trans hT1.froz, by omega⟩
   ·exact tab_store hT1 (by omega) hc2 (hf2.trans hT1.froz) (by rw [hlm]; exact hrow) hsz (wide_del h.wide) (asc_del h.asc) (by omega)
   ·simp; omega
   ·intro j hj hjb hjv
    rw [Go.heap_setCell_other _ _ _ _ (by simpa using hjb)]
    exact (hgr.block j (by omega) (fun e => hjv (by rw [e]; rfl))).trans (hB1.block j hj)
   ·intro j hj
    have : (w2.setCell ⟨b, o, none⟩ (.slice (some ⟨g, 0, none⟩) m cap)).cell? ⟨b, j, none⟩ = w2.cell? ⟨b, j, none⟩ := by
     apply World.cell?_setCell_other
     intro e
     simp at e
     try exact hj e.symm
    rw [this, show w2.cell? ⟨b, j, none⟩ = w1.cell? ⟨b, j, none⟩ from World.cell?_of_block hbk]
    exact hB1.cell (p := ⟨b, j, none⟩) hbl
   ·intro j
    have : (w2.setCell ⟨b, o, none⟩ (.slice (some ⟨g, 0, none⟩) m cap)).frozen? ⟨b, j, none⟩ = w2.frozen? ⟨b, j, none⟩ := by simp [go_sem]
    rw [this, show w2.frozen? ⟨b, j, none⟩ = w1.frozen? ⟨b, j, none⟩ from World.frozen?_of_block hbk]
    exact hB1.frozen (p := ⟨b, j, none⟩) hbl
 obtain ⟨g0, c0, hv0, _⟩ := hdel w (Below.refl _ _)
 have hdel2 := fun w1 hb1 => (hdel w1 hb1).choose_spec.choose_spec.2
 have hc := h.cell
 have hbl := h.lt
 have HT := hid h
 have HH := hid hh
 have HD := hid hdel2
 have hpm : posR R k ≤ 1000000 := by omega
 clear h hh hdel hdel2 hx hpl hm hld hlm hle
 subst hv0
 generalize hp : posR R k = p at *
 have HP := hid hp
 clear hp
 have hpI : (p : Int) ≤ 1000000 := by omega
 go_enter Tryz.func116, Tryz.ntmps116
 go_wp2_with (first | (go_at_call 122; refine (find_any _ b o base _ R k HT.out).mono ?_; rw [HH.out, HP.out]; rintro e w1 ⟨rfl, hb1⟩; obtain ⟨hc1, hf1⟩ := bcell hb1; have hz1 : w.heap.size ≤ w1.heap.size := hb1.size) | (go_at_call 127; refine (HD.out w1 hb1).mono ?_; rintro e w2 ⟨g, c, rfl, hT3, hO3, hc3, hf3, hz3⟩; have HT3 := hid hT3; have HO3 := hid hO3; clear hT3 hO3 hc1 hf1))
 go_ret
 exact ⟨rfl, _, HT3.out, HO3.out⟩
end TabS
end
section
open Go.RowKit Go.Shelf
variable {P : Program} {F : Fence} {n : Nat}
theorem cell_fresh (W : World) (v : Value) (t : TypeId) : (W.alloc (.cells #[v] t)).cell? ⟨W.heap.size, 0, none⟩ = some v ∧ (W.alloc (.cells #[v] t)).frozen? ⟨W.heap.size, 0, none⟩ = false :=
 cell_box (World.alloc_heap_new W _)
theorem cell_more {W : World} {a : Addr} {v : Value} (o : Obj) (h : W.cell? a = some v) : (W.alloc o).cell? a = some v := cell_kept h (World.grownBy_alloc W o none) (fun r e => by cases e)
theorem frozen_more {W : World} {a : Addr} {v : Value} (o : Obj) (h : W.cell? a = some v) (hf : W.frozen? a = false) : (W.alloc o).frozen? a = false := (frozen_kept h (World.grownBy_alloc W o none) (fun r e => by cases e)).trans hf
end
section
open Go.ChangeShapes Go.WideShapes Go.ChangeAt Go.RowKit
end
section
open Go.ChangeShapes Go.WideShapes Go.ChangeAt Go.RowKit Go.Shelf
theorem bsf_none (w : World) (k : Int) (f : Value) : Calls Tryz.prog 131 #[.slice none 0 0, .int .i64 k, f] w fun e w' => e = .returned (.tuple #[.int .i64 0, .bool false]) ∧ w = w' := by
 go_enter Tryz.func131, Tryz.ntmps131
 go_wp2
 refine wp_loop_rounds 1 ?_
 rw [rounds_succ]
 go_wp2
 go_ret2
 exact ⟨by simp, rfl⟩
abbrev zrow : Value := .agg #[.int .i64 0, .slice none 0 0]
theorem infoR : (Tryz.prog.info? 163).map (fun i => (i.zero, i.size, i.bytes)) = some (some zrow, 2, 32) := by kernel_rfl
end
section
open Go.ChangeShapes Go.WideShapes Go.ChangeAt Go.RowKit
def KeptQ (n : Nat) (a b : World) : Prop := Below n a b ∧ n ≤ b.heap.size
theorem KeptQ.refl {n : Nat} {a : World} (h : n ≤ a.heap.size) : KeptQ n a a := ⟨Below.refl _ _, h⟩
theorem KeptQ.drew {n : Nat} {a b : World} (h : KeptQ n a b) : KeptQ n a b.drew := ⟨h.1.drew, h.2⟩
theorem KeptQ.call {n : Nat} {a b c : World} (h : KeptQ n a b) (k : Below b.heap.size b c) : KeptQ n a c := ⟨h.1.trans (k.mono h.2), Nat.le_trans h.2 k.size⟩
theorem KeptQ.below {n m : Nat} {W a b : World} (h : KeptQ n a b) (hm : m ≤ n) (B : Below m W a) : Below m W b := B.trans (h.1.mono hm)
section
variable {P : Program} {ops : Array Oper} {rest : List Oper} {o : Oper} {a : Act} {W : World} {m : Nat} {C : World → Prop}
theorem wp_region_keptQ {id : Nat} {Q : Exit → Act → World → Prop} {w : World} {l : List Oper} (m : Nat) (W : World) (hm : P.follows .mixedOrders = true) (hB : Region.lexB .any l.toArray = true) (hK : KeptQ m W w)
  (h : wpQuiet P l.toArray (KeptQ m W) (fun a' => ∀ w', KeptQ m W w' → Q .normal a' w') l a) : (Code.region id l.toArray true).wp P Q a w :=
 wp_region_quiet (C := KeptQ m W) hm hB hK.drew (by simpa using h)
theorem quietQ_load_cell {K : Act → Prop} (ty : TypeId) (x : Operand) (ho : o.op = .load ty x) (p : Addr) (hx : a.eval x = .pointer (some p)) (v : Value) (hc : ∀ w, C w → w.cell? p = some v)
  (d : TypeDesc) (hu : P.underlying ty = some d) (hd : (match d with | .struct _ | .array _ _ => true | _ => false) = false)
  (hk : K (a.put o.dst v)) : o.quiet P a C K := by
 refine ⟨_, fun w hw => ?_, hk⟩
 have hcw := hc w hw
 have hrun : (loadVar ty p).run P w = .ok v w := by
  have hagg : (isAgg ty).run P w = .ok false w := by
   unfold isAgg
   rw [Sem.run_bind, run_underlying hu w]
   cases d <;> simp_all
  simp [loadVar, Sem.run_bind, hagg, hcw]
 unfold Oper.quietAt execOp
 simp only [ho, hx, Instr.loadAt, Instr.sureAddr, Sem.run_bind, Sem.run_pure, Result.andThen_ok, hrun]
 exact ⟨rfl, rfl⟩
end
end
section
open Go.ChangeShapes Go.WideShapes Go.ChangeAt Go.RowKit Go.Shelf
def setL (w : World) (m : Nat) : Nat → List Value → World
 | _, [] => w
 | k, v :: t => setL (w.setCell ⟨m, k, none⟩ v) m (k + 1) t
def putL (cs : Array Value) : Nat → List Value → Array Value
 | _, [] => cs
 | k, v :: t => putL (cs.setIfInBounds k v) (k + 1) t
theorem setL_other {m j : Nat} (hj : j ≠ m) : ∀ (L : List Value) (w : World) (k : Nat), (setL w m k L).heap[j]? = w.heap[j]?
 | [], _, _ => rfl
 | v :: t, w, k => (setL_other hj t _ (k + 1)).trans (Go.heap_setCell_other _ _ _ _ hj)
theorem setL_same {m : Nat} {T : TypeId} : ∀ (L : List Value) (w : World) (k : Nat) (cs : Array Value), w.heap[m]? = some (.cells cs T (0, 0)) → (setL w m k L).heap[m]? = some (.cells (putL cs k L) T (0, 0))
 | [], _, _, _, h => h
 | v :: t, w, k, cs, h => setL_same t _ (k + 1) _ (Go.heap_setCell_same _ _ _ _ _ _ h)
theorem setL_rest {m : Nat} : ∀ (L : List Value) (w : World) (k : Nat), (setL w m k L).os = w.os ∧ (setL w m k L).tape = w.tape ∧ (setL w m k L).output = w.output ∧ (setL w m k L).heap.size = w.heap.size
 | [], _, _ => ⟨rfl, rfl, rfl, rfl⟩
 | v :: t, w, k => by
  obtain ⟨h1, h2, h3, h4⟩ := setL_rest (m := m) t (w.setCell ⟨m, k, none⟩ v) (k + 1)
  exact ⟨h1, h2, h3, h4.trans (by simp)⟩
end
section
open Go.ChangeShapes Go.WideShapes Go.ChangeAt Go.RowKit Go.Shelf
namespace TabS
structure Cp where
 a : Int
 b : Int
 c : Int
 d : Int
 e : Int
 f : Int
 g : Int
 h : Int
def Cp.L (x : Cp) : List Value := [.int .i64 x.a, .int .i64 x.b, .int .i64 x.c, .int .u64 x.d, .int .i64 x.e, .int .i64 x.f, .int .i64 x.g, .int .i64 x.h]
abbrev Cp.V (x : Cp) : Value := .agg #[.int .i64 x.a, .int .i64 x.b, .int .i64 x.c, .int .u64 x.d, .int .i64 x.e, .int .i64 x.f, .int .i64 x.g, .int .i64 x.h]
def zC : Cp := ⟨0, 0, 0, 0, 0, 0, 0, 0⟩
def flatC (l : List Cp) : List Value := l.flatMap Cp.L
theorem flatC_len (l : List Cp) : (flatC l).length = l.length * 8 := by
 induction l with
 | nil => rfl
 | cons x t ih =>
  have : flatC (x :: t) = x.L ++ flatC t := rfl
  rw [this, List.length_append, ih]
  simp [Cp.L]
  omega
theorem flatC_get {l : List Cp} {i : Nat} {c : Cp} (h : l[i]? = some c) {j : Nat} {u : Value} (hu : c.L[j]? = some u) : (flatC l)[i * 8 + j]? = some u := by
 induction l generalizing i with
 | nil => simp at h
 | cons x t ih =>
  have e : flatC (x :: t) = x.L ++ flatC t := rfl
  have hx : x.L.length = 8 := rfl
  rw [e]
  cases i with
  | zero =>
   simp at h
   subst h
   have := (lgs hu).1
   rw [List.getElem?_append_left (by omega)]
   simpa using hu
  | succ i =>
   rw [List.getElem?_append_right (by omega), show (i + 1) * 8 + j - x.L.length = i * 8 + j by omega]
   exact ih (by simpa using h)
theorem flatC_set {l : List Cp} {i : Nat} (c : Cp) (h : i < l.length) : flatC (l.set i c) = (flatC l).take (i * 8) ++ c.L ++ (flatC l).drop (i * 8 + 8) := by
 induction l generalizing i with
 | nil => simp at h
 | cons x t ih =>
  have hx : x.L.length = 8 := rfl
  have e : flatC (x :: t) = x.L ++ flatC t := rfl
  cases i with
  | zero =>
   show c.L ++ flatC t = _
   rw [e]
   simp [hx]
  | succ i =>
   show x.L ++ flatC (t.set i c) = _
   rw [ih (by simpa using h), e, List.take_append, List.drop_append, List.take_of_length_le (l := x.L) (i := (i + 1) * 8) (by omega), List.drop_of_length_le (l := x.L) (i := (i + 1) * 8 + 8) (by omega), show (i + 1) * 8 - x.L.length = i * 8 by omega, show (i + 1) * 8 + 8 - x.L.length = i * 8 + 8 by omega]
   simp
theorem flatC_zero (n : Nat) : (madeCells (Cp.V zC).cells (n * 8)).toList = flatC (List.replicate n zC) := by
 apply List.ext_getElem?
 intro j
 by_cases hj : j < n * 8
 ·have hd : j = j / 8 * 8 + j % 8 := by omega
  have h8 : j % 8 < 8 := Nat.mod_lt _ (by decide)
  have hl : zC.L[j % 8]? = some (zC.L[j % 8]'h8) := List.getElem?_eq_getElem h8
  have hr : (flatC (List.replicate n zC))[j]? = some (zC.L[j % 8]'h8) := by
   have := flatC_get (l := List.replicate n zC) (i := j / 8) (c := zC) (by rw [List.getElem?_replicate, if_pos (by omega)]) hl
   rwa [← hd] at this
  rw [hr]
  rw [Array.getElem?_toList]
  unfold madeCells
  rw [Array.getElem?_map, Array.getElem?_range, if_pos hj]
  simp only [Option.map_some, Option.some.injEq]
  show (#[Value.int .i64 0, .int .i64 0, .int .i64 0, .int .u64 0, .int .i64 0, .int .i64 0, .int .i64 0, .int .i64 0] : Array Value)[j % 8]! = _
  have hcase : j % 8 = 0 ∨ j % 8 = 1 ∨ j % 8 = 2 ∨ j % 8 = 3 ∨ j % 8 = 4 ∨ j % 8 = 5 ∨ j % 8 = 6 ∨ j % 8 = 7 := by omega
  clear hl hr hd
  generalize j % 8 = q at *
  rcases hcase with rfl | rfl | rfl | rfl | rfl | rfl | rfl | rfl <;> rfl
 ·rw [List.getElem?_eq_none (by simp [size_madeCells]; omega), List.getElem?_eq_none (by rw [flatC_len]; simp; omega)]
theorem putL_eq : ∀ (L : List Value) (cs : List Value) (k : Nat), k + L.length ≤ cs.length → putL cs.toArray k L = (cs.take k ++ L ++ cs.drop (k + L.length)).toArray
 | [], cs, k, h => by simp [putL]
 | v :: t, cs, k, h => by
  simp only [List.length_cons] at h
  unfold putL
  rw [List.setIfInBounds_toArray, putL_eq t (cs.set k v) (k + 1) (by simp; omega)]
  congr 1
  rw [List.take_succ_eq_append_getElem (by simp; omega), List.drop_set_of_lt (by omega), show k + 1 + t.length = k + (v :: t).length by simp; omega, List.take_set_of_le (Nat.le_refl _)]
  simp
structure Sn where
 id : Int
 g : Nat
 l : List Cp
abbrev Sn.v (x : Sn) : Value := .slice (some ⟨x.g, 0, none⟩) x.l.length x.l.length
def rowS (x : Sn) : Rw := (x.id, [x.v])
def rowsS (L : List Sn) : List Rw := L.map rowS
theorem rowsS_len (L : List Sn) : (rowsS L).length = L.length := by simp [rowsS]
theorem rowsS_get {L : List Sn} {k : Nat} : (rowsS L)[k]? = L[k]?.map rowS := by simp [rowsS]
structure SlotsAt (w : World) (b base : Nat) (tv : Value) (L : List Sn) : Prop where
 tab : TabAt w b 0 base tv (rowsS L)
 blk : ∀ x ∈ L, w.heap[x.g]? = some (.cells (flatC x.l).toArray 33 (0, 0)) ∧ base ≤ x.g
 ap : L.Pairwise fun x y => x.g ≠ y.g
 nt : ∀ x ∈ L, tv.ownBlock ≠ some x.g
 bd : ∀ x ∈ L, x.l.length ≤ 16
theorem SlotsAt.lt {w : World} {b base : Nat} {tv : Value} {L : List Sn} (h : SlotsAt w b base tv L) : b < w.heap.size := h.tab.lt
theorem SlotsAt.glt {w : World} {b base : Nat} {tv : Value} {L : List Sn} (h : SlotsAt w b base tv L) {x : Sn} (hx : x ∈ L) : x.g < w.heap.size := (ags (h.blk x hx).1).1
theorem SlotsAt.gne {w : World} {b base : Nat} {tv : Value} {L : List Sn} (h : SlotsAt w b base tv L) {x : Sn} (hx : x ∈ L) : x.g ≠ b := by
 have := h.tab.ne
 have := (h.blk x hx).2
 omega
theorem SlotsAt.call {w w' : World} {b base : Nat} {tv : Value} {L : List Sn} (h : SlotsAt w b base tv L) (hb : Below w.heap.size w w') : SlotsAt w' b base tv L :=
 ⟨h.tab.call hb, fun x hx => ⟨(hb.block x.g (h.glt hx)).trans (h.blk x hx).1, (h.blk x hx).2⟩, h.ap, h.nt, h.bd⟩
theorem SlotsAt.cell {w : World} {b base : Nat} {tv : Value} {L : List Sn} (h : SlotsAt w b base tv L) {x : Sn} (hx : x ∈ L) {i : Nat} {c : Cp} (hi : x.l[i]? = some c) {j : Nat} {u : Value} (hu : c.L[j]? = some u) : w.cell? ⟨x.g, i * 8 + j, none⟩ = some u := by
 rw [cell_of_row _ _ _ _ _ _ (h.blk x hx).1]
 simpa using flatC_get hi hu
theorem SlotsAt.free {w : World} {b base : Nat} {tv : Value} {L : List Sn} (h : SlotsAt w b base tv L) {x : Sn} (hx : x ∈ L) (j : Nat) : w.frozen? ⟨x.g, j, none⟩ = false := by
 simp [World.frozen?, (h.blk x hx).1]
structure SOnly (w w' : World) (b : Nat) (tv tv' : Value) (L L' : List Sn) : Prop where
 os : w'.os = w.os
 tape : w'.tape = w.tape
 output : w'.output = w.output
 size : w.heap.size ≤ w'.heap.size
 block : ∀ k, k < w.heap.size → k ≠ b → tv.ownBlock ≠ some k → (∀ x ∈ L, x.g ≠ k) → w'.heap[k]? = w.heap[k]?
 foot : ∀ k, k < w.heap.size → (tv'.ownBlock = some k ∨ ∃ x ∈ L', x.g = k) → (tv.ownBlock = some k ∨ ∃ x ∈ L, x.g = k)
theorem wideS (x : Sn) : Wide 2 [rowS x] := by
 intro r hr
 simp at hr
 subst hr
 refine ⟨rfl, fun u hu => ?_⟩
 simp [rcells, rowS] at hu
 rcases hu with rfl | rfl <;> rfl
def hasS (L : List Sn) (id : Int) : Bool := hasR (rowsS L) id
def posS (L : List Sn) (id : Int) : Nat := posR (rowsS L) id
def insS (L : List Sn) (x : Sn) : List Sn := L.take (posS L x.id) ++ x :: L.drop (posS L x.id)
theorem rowsS_ins (L : List Sn) (x : Sn) : rowsS (insS L x) = insR (rowsS L) (rowS x) := by
 unfold insS insR rowsS
 rw [List.map_append, List.map_cons, List.map_take, List.map_drop]
 rfl
theorem mem_insS {L : List Sn} {x y : Sn} (h : y ∈ insS L x) : y = x ∨ y ∈ L := by
 unfold insS at h
 rcases List.mem_append.1 h with q | q
 ·exact .inr (List.mem_of_mem_take q)
 ·rcases List.mem_cons.1 q with q | q
  ·exact .inl q
  ·exact .inr (List.mem_of_mem_drop q)
def delS (L : List Sn) (id : Int) : List Sn := L.take (posS L id) ++ L.drop (posS L id + 1)
theorem rowsS_del (L : List Sn) (id : Int) : rowsS (delS L id) = delR (rowsS L) id := by
 unfold delS delR rowsS
 rw [List.map_append, List.map_take, List.map_drop]
 rfl
theorem sub_delS (L : List Sn) (id : Int) : (delS L id).Sublist L := by
 unfold delS
 conv => rhs; rw [← List.take_append_drop (posS L id) L]
 refine List.Sublist.append (List.Sublist.refl _) ?_
 rw [← List.drop_drop]
 exact List.drop_sublist _ _
theorem pair_insS {L : List Sn} (h : L.Pairwise fun x y => x.g ≠ y.g) (x : Sn) (hx : ∀ y ∈ L, y.g ≠ x.g) : (insS L x).Pairwise fun x y => x.g ≠ y.g := by
 have hs := h
 rw [← List.take_append_drop (posS L x.id) L, List.pairwise_append] at hs
 unfold insS
 rw [List.pairwise_append]
 refine ⟨hs.1, List.pairwise_cons.2 ⟨fun y hy => Ne.symm (hx y (List.mem_of_mem_drop hy)), hs.2.1⟩, fun a ha c hc => ?_⟩
 rcases List.mem_cons.1 hc with rfl | hc
 ·exact hx a (List.mem_of_mem_take ha)
 ·exact hs.2.2 a ha c hc
theorem hasS_at {w : World} {b base : Nat} {tv : Value} {L : List Sn} (h : SlotsAt w b base tv L) {id : Int} : hasS L id = true ↔ ∃ x, L[posS L id]? = some x ∧ x.id = id := by
 unfold hasS posS
 rw [hasR_at h.tab.asc]
 constructor
 ·rintro ⟨r, hr, he⟩
  rw [rowsS_get] at hr
  cases hq : L[posR (rowsS L) id]? with
  | none => rw [hq] at hr; cases hr
  | some x => rw [hq] at hr; cases hr; exact ⟨x, rfl, he⟩
 ·rintro ⟨x, hx, he⟩
  exact ⟨rowS x, by rw [rowsS_get, hx]; rfl, he⟩
theorem snew_any' (W : World) : Calls Tryz.prog 73 #[] W fun e w' => e = .returned (.pointer (some ⟨W.heap.size, 0, none⟩)) ∧ SlotsAt w' W.heap.size (W.heap.size + 1) (.slice none 0 0) [] ∧ Below W.heap.size W w' := by
 go_enter Tryz.func73, Tryz.ntmps73
 go_wp2
 go_ret
 refine ⟨rfl, ⟨⟨?_, ?_, World.ownsRow_nil _ _ _ _, Nat.lt_succ_self _, by simp, (fun r hr => by cases hr), List.Pairwise.nil, by simp [rowsS]⟩, (fun x hx => by cases hx), List.Pairwise.nil, (fun x hx => by cases hx), (fun x hx => by cases hx)⟩, bal (Below.refl _ _) _⟩
 ·go_simp
 ·go_simp
theorem infoCap : (Tryz.prog.info? 33).map (fun i => (i.zero, i.size, i.bytes)) = some (some (Cp.V zC), 8, 64) := by kernel_rfl
theorem make_caps (w : World) (n : Nat) (hn : n ≤ 16) : ∃ w1, (Instr.makeSlice 108 (.int .i64 n) (.int .i64 n)).run Tryz.prog w = .ok (.slice (some ⟨w.heap.size, 0, none⟩) n n) w1 ∧
  w1.heap[w.heap.size]? = some (.cells (flatC (List.replicate n zC)).toArray 33 (0, 0)) ∧ Below w.heap.size w w1 := by
 obtain ⟨i0, hi, hz0, hz1, hz2⟩ := info_parts infoCap
 obtain ⟨w1, hrun, hown, hgr⟩ := run_make_full (P := Tryz.prog) w w.heap.size 108 33 i0 _ 8 Tryz.underlying108 hi hz0 hz1 .i64 .i64 n (by rw [hz2]; omega) (by unfold maxLen; omega) (Nat.le_refl _)
 rw [flatC_zero] at hown
 refine ⟨w1, hrun, ?_, (Below.refl _ _).grown hgr (Nat.le_refl _) (fun j e => by cases e)⟩
 rcases hown.2 with ⟨h1, _⟩ | ⟨g, cap, cur, hv, q1, q2, q3, q4, q5, q6⟩
 ·cases h1
 ·simp only [Value.slice.injEq, Option.some.injEq, Addr.mk.injEq, and_true, true_and] at hv
  obtain ⟨rfl, rfl⟩ := hv
  rw [q2]
  have : cur = (flatC (List.replicate n zC)).toArray := by
   rw [← q6, List.take_of_length_le (by rw [Array.length_toList, q5]; exact Nat.le_refl _)]
  rw [this]
theorem SlotsAt.table {w w' : World} {b base : Nat} {tv tv' : Value} {L L' : List Sn} (h : SlotsAt w b base tv L) (hT : TabAt w' b 0 base tv' (rowsS L')) (hO : Only w w' b 0 tv tv') (hL : ∀ x ∈ L', x ∈ L) (hp : L'.Pairwise fun x y => x.g ≠ y.g) :
  SlotsAt w' b base tv' L' ∧ SOnly w w' b tv tv' L L' := by
 refine ⟨⟨hT, fun x hx => ⟨(hO.block x.g (h.glt (hL x hx)) (h.gne (hL x hx)) (h.nt x (hL x hx))).trans (h.blk x (hL x hx)).1, (h.blk x (hL x hx)).2⟩, hp, fun x hx e => ?_, fun x hx => h.bd x (hL x hx)⟩, ⟨hO.os, hO.tape, hO.output, hO.size, fun k hk1 h1 h2 _ => hO.block k hk1 h1 h2, fun k hk1 e => ?_⟩⟩
 ·rcases hO.foot with p | ⟨g, p, hg⟩
  ·exact h.nt x (hL x hx) (p ▸ e)
  ·rw [p] at e
   cases e
   have := h.glt (hL x hx)
   omega
 ·rcases e with e | ⟨x, hx, e⟩
  ·rcases hO.foot with p | ⟨g, p, hg⟩
   ·exact .inl (p ▸ e)
   ·rw [p] at e; cases e; omega
  ·exact .inr ⟨x, hL x hx, e⟩
def addSR (L : List Sn) (id n : Int) : Int := if id < 1 ∨ n < 1 ∨ 16 < n then 2 else if hasS L id then 11 else 0
theorem sadd_arg (w : World) (b : Nat) (id n : Int) (hn : id < 1 ∨ n < 1 ∨ 16 < n) :
  Calls Tryz.prog 75 #[.pointer (some ⟨b, 0, none⟩), .int .i64 id, .int .i64 n] w fun e w' => e = .returned (.int .i64 2) ∧ w = w' := by
 by_cases h1 : id < 1
 ·go_enter Tryz.func75, Tryz.ntmps75
  go_wp2
  go_ret
  exact ⟨rfl, rfl⟩
 ·by_cases h2 : n < 1
  ·go_enter Tryz.func75, Tryz.ntmps75
   go_wp2
   go_ret
   exact ⟨rfl, rfl⟩
  ·have h3 : 16 < n := by omega
   go_enter Tryz.func75, Tryz.ntmps75
   go_wp2
   go_ret
   exact ⟨rfl, rfl⟩
theorem sadd_full (w : World) (b base : Nat) (tv : Value) (L : List Sn) (id : Int) (n : Nat) (h : SlotsAt w b base tv L) (h1 : 1 ≤ id) (h2 : 1 ≤ n) (h3 : n ≤ 16) (hh : hasS L id = true) :
  Calls Tryz.prog 75 #[.pointer (some ⟨b, 0, none⟩), .int .i64 id, .int .i64 n] w fun e w' => e = .returned (.int .i64 11) ∧ Below w.heap.size w w' := by
 obtain ⟨w1, hrun, hblk, hb1⟩ := make_caps w.drew n h3
 have hb0 : Below w.heap.size w w1 := (Below.refl w.heap.size w).drew.trans hb1
 have hT1 := (h.call hb0).tab
 have HADD := hid (add_no w1 b 0 base tv (rowsS L) id (some ⟨w.drew.heap.size, 0, none⟩) n n hT1 hh)
 have h2' : 1 ≤ (n : Int) := by omega
 have h3' : (n : Int) ≤ 16 := by omega
 have HB0 := hid hb0
 clear h hh hblk hb1 hb0 hT1
 go_enter Tryz.func75, Tryz.ntmps75
 go_wp2
 go_region_with (first | (go_at_call 107; refine HADD.out.mono ?_; rintro e w2 ⟨rfl, hb2⟩))
 all_goals
  go_wp2
  go_ret
  exact ⟨rfl, bgo HB0.out hb2⟩
theorem sadd_yes (w : World) (b base : Nat) (tv : Value) (L : List Sn) (id : Int) (n : Nat) (h : SlotsAt w b base tv L) (hl : L.length < 1000000) (h1 : 1 ≤ id) (h2 : 1 ≤ n) (h3 : n ≤ 16) (hh : hasS L id = false) :
  Calls Tryz.prog 75 #[.pointer (some ⟨b, 0, none⟩), .int .i64 id, .int .i64 n] w fun e w' => e = .returned (.int .i64 0) ∧ ∃ tv' g, w.heap.size ≤ g ∧ SlotsAt w' b base tv' (insS L ⟨id, g, List.replicate n zC⟩) ∧ SOnly w w' b tv tv' L (insS L ⟨id, g, List.replicate n zC⟩) := by
 obtain ⟨w1, hrun, hblk, hb1⟩ := make_caps w.drew n h3
 have hb0 : Below w.heap.size w w1 := (Below.refl w.heap.size w).drew.trans hb1
 have hd : w.drew.heap.size = w.heap.size := rfl
 have hS1 := h.call hb0
 have hlt : w.heap.size < w1.heap.size := (ags hblk).1
 have hadd := add_yes w1 b 0 base tv (rowsS L) id (some ⟨w.drew.heap.size, 0, none⟩) n n hS1.tab hh (by rw [rowsS_len]; exact hl) (by have := wideS ⟨id, w.heap.size, List.replicate n zC⟩; simpa [rowS, Sn.v] using this)
 have HADD := hid hadd
 have hfin : ∀ w' v', TabAt w' b 0 base v' (insR (rowsS L) (id, [.slice (some ⟨w.drew.heap.size, 0, none⟩) n n])) → Only w1 w' b 0 tv v' → SlotsAt w' b base v' (insS L ⟨id, w.heap.size, List.replicate n zC⟩) ∧ SOnly w w' b tv v' L (insS L ⟨id, w.heap.size, List.replicate n zC⟩) := by
  intro w' v' t1 o1
  have hne : ∀ y ∈ L, y.g ≠ w.heap.size := fun y hy => Nat.ne_of_lt (h.glt hy)
  have hold : ∀ x ∈ L, w'.heap[x.g]? = some (.cells (flatC x.l).toArray 33 (0, 0)) := fun x hx => (o1.block x.g (hS1.glt hx) (hS1.gne hx) (hS1.nt x hx)).trans (hS1.blk x hx).1
  have hnb : w.heap.size ≠ b := Ne.symm (Nat.ne_of_lt h.lt)
  have hnt : tv.ownBlock ≠ some w.heap.size := fun e => by have := (h.tab.own e).2; omega
  refine ⟨⟨?_, fun x hx => ?_, pair_insS h.ap _ hne, fun x hx e => ?_, fun x hx => ?_⟩, ⟨o1.os.trans hb0.os, o1.tape.trans hb0.tape, o1.output.trans hb0.output, Nat.le_trans (Nat.le_of_lt hlt) o1.size, fun k hk1 p1 p2 _ => (o1.block k (by omega) p1 p2).trans (hb0.block k hk1), fun k hk1 e => ?_⟩⟩
  ·rw [rowsS_ins]
   have : rowS ⟨id, w.heap.size, List.replicate n zC⟩ = (id, [.slice (some ⟨w.drew.heap.size, 0, none⟩) n n]) := by simp [rowS, hd]
   rw [this]
   exact t1
  ·rcases mem_insS hx with rfl | q
   ·exact ⟨(o1.block _ hlt hnb hnt).trans hblk, by have := h.tab.base; exact this⟩
   ·exact ⟨hold x q, (h.blk x q).2⟩
  ·have hx2 : x.g < w1.heap.size ∧ tv.ownBlock ≠ some x.g := by
    rcases mem_insS hx with rfl | q
    ·exact ⟨hlt, hnt⟩
    ·exact ⟨hS1.glt q, h.nt x q⟩
   rcases o1.foot with p | ⟨g, p, hg⟩
   ·exact hx2.2 (p ▸ e)
   ·rw [p] at e
    cases e
    have := hx2.1
    omega
  ·rcases mem_insS hx with rfl | q
   ·simpa using h3
   ·exact h.bd x q
  ·rcases e with e | ⟨x, hx, e⟩
   ·rcases o1.foot with p | ⟨g, p, hg⟩
    ·exact .inl (p ▸ e)
    ·rw [p] at e; cases e; omega
   ·rcases mem_insS hx with rfl | q
    ·exact absurd e (Ne.symm (Nat.ne_of_lt hk1))
    ·exact .inr ⟨x, q, e⟩
 have HF := hid hfin
 have h2' : 1 ≤ (n : Int) := by omega
 have h3' : (n : Int) ≤ 16 := by omega
 clear h hh hblk hb1 hb0 hS1 hfin hadd hd hlt
 go_enter Tryz.func75, Tryz.ntmps75
 go_wp2
 go_region_with (first | (go_at_call 107; refine HADD.out.mono ?_; rintro e w2 ⟨rfl, v', t1, o1⟩; have T1 := hid t1; have O1 := hid o1; clear t1 o1))
 all_goals
  go_wp2
  go_ret
  exact ⟨rfl, v', w.heap.size, Nat.le_refl _, HF.out _ _ T1.out O1.out⟩
theorem SlotsAt.place {w : World} {b base : Nat} {tv : Value} {L : List Sn} (h : SlotsAt w b base tv L) {k : Nat} {x : Sn} (hk : L[k]? = some x) :
  ∃ g c, tv = .slice (some ⟨g, 0, none⟩) L.length c ∧ g < w.heap.size ∧ w.cell? ⟨g, k * 2, none⟩ = some (.int .i64 x.id) ∧ w.cell? ⟨g, k * 2 + 1, none⟩ = some x.v := by
 rcases h.tab.form with ⟨_, h2⟩ | ⟨g, c, h1, hg, _, _, _, hr⟩
 ·have := (lgs hk).1
  have h3 := rowsS_len L
  rw [h2] at h3
  simp at h3
  omega
 ·have hrk : (rowsS L)[k]? = some (rowS x) := by rw [rowsS_get, hk]; rfl
  refine ⟨g, c, by rw [h1, rowsS_len], hg, ?_, ?_⟩
  ·have := hr k 0 (rowS x) (.int .i64 x.id) hrk rfl
   simpa using this
  ·exact hr k 1 (rowS x) x.v hrk rfl
theorem place_eq (g n c p : Nat) : placeV (.slice (some ⟨g, 0, none⟩) n c) p true = .pointer (some ⟨g, p * 2 + 1, none⟩) := rfl
theorem sat_none (w : World) (b base : Nat) (tv : Value) (L : List Sn) (id ix : Int) (h : SlotsAt w b base tv L) (hh : hasS L id = false) :
  Calls Tryz.prog 102 #[.pointer (some ⟨b, 0, none⟩), .agg #[.int .i64 id, .int .i64 ix]] w fun e w' => e = .returned (.tuple #[.pointer none, .int .i64 3]) ∧ Below w.heap.size w w' := by
 have HH := Lib.hid (show hasR (rowsS L) id = false from hh)
 clear hh
 have H := Lib.hid h
 clear h
 go_enter Tryz.func102, Tryz.ntmps102
 go_wp2
 obtain ⟨w1, hw1⟩ : ∃ y, y = w.alloc (.cells #[.int .i64 id, .int .i64 ix] 30) := ⟨_, rfl⟩
 rw [← hw1]
 have x0 : w1.cell? ⟨w.heap.size, 0, none⟩ = some (.int .i64 id) := by rw [hw1]; simp [go_sem]
 have x1 : w1.cell? ⟨w.heap.size, 1, none⟩ = some (.int .i64 ix) := by rw [hw1]; simp [go_sem]
 have xs : w.heap.size < w1.heap.size := by rw [hw1]; simp
 have B1 : Below w.heap.size w w1 := hw1 ▸ bal (Below.refl _ _) _
 have H1 := H.out.call B1
 clear hw1
 have R0 := Lib.hid (fun v (hw : KeptQ w1.heap.size w1 v) => (hw.1.cell (p := ⟨w.heap.size, 0, none⟩) xs).trans x0)
 have RG := Lib.hid (fun v (hw : KeptQ w1.heap.size w1 v) => get_any v b 0 base _ (rowsS L) id (H1.call hw.1).tab)
 refine wp_region_keptQ w1.heap.size w1 (by kernel_rfl) (by kernel_rfl) (KeptQ.refl (Nat.le_refl _)) ?_
 repeat (first
  | go_big_quiet_skip
  | (go_big_quiet_want; first
   | (refine quietQ_load_cell 3 _ rfl ⟨w.heap.size, 0, none⟩ rfl _ R0.out _ Tryz.underlying3 rfl ?_; simp only [Act.put, List.setIfInBounds_toArray, List.set_cons_zero, List.set_cons_succ]; go_big_quiet_on)
   | (go_big_quiet_op; first
    | go_big_quiet_on
    | (refine ⟨_, fun _ _ => rfl, ?_⟩; go_big_quiet_on)
    | go_big_quiet_call ((intro hw; go_at_call 114; refine (RG.out _ hw).mono ?_; rw [HH.out]; rintro e w7 ⟨rfl, hb7⟩; exact ⟨rfl, hw.call hb7⟩)))))
 refine wpQuiet_nil ?_
 intro w2 hw2
 have y1 := (hw2.1.cell (p := ⟨w.heap.size, 1, none⟩) xs).trans x1
 have B2 := hw2.below (m := w.heap.size) (by omega) B1
 clear R0 RG hw2 x0 x1 H1
 go_wp2
 go_quiet (fail)
 go_wp2
 go_ret2
 exact ⟨rfl, below_drewN B2 _⟩
theorem sat_low (w : World) (b base : Nat) (tv : Value) (L : List Sn) (id ix : Int) (x : Sn) (h : SlotsAt w b base tv L) (hx : L[posS L id]? = some x) (hid : x.id = id) (hi : ix < 0) :
  Calls Tryz.prog 102 #[.pointer (some ⟨b, 0, none⟩), .agg #[.int .i64 id, .int .i64 ix]] w fun e w' => e = .returned (.tuple #[.pointer none, .int .i64 3]) ∧ Below w.heap.size w w' := by
 have hh : hasS L id = true := (hasS_at h).2 ⟨x, hx, hid⟩
 obtain ⟨p, hp⟩ : ∃ p, posR (rowsS L) id = p := ⟨_, rfl⟩
 have HH := Lib.hid (show hasR (rowsS L) id = true from hh)
 have HP := Lib.hid hp
 obtain ⟨g, c, rfl, hg, -, c1⟩ := h.place hx
 rw [show posS L id = p from hp] at c1
 obtain ⟨gx, hgx⟩ : ∃ y, y = x.g := ⟨_, rfl⟩
 obtain ⟨n, hn⟩ : ∃ y, y = x.l.length := ⟨_, rfl⟩
 rw [show x.v = .slice (some ⟨gx, 0, none⟩) n n by rw [hgx, hn]] at c1
 have hd : decide (ix < 0) = true := decide_eq_true hi
 clear hh hp hx hid hgx hn
 have H := Lib.hid h
 clear h
 go_enter Tryz.func102, Tryz.ntmps102
 go_wp2
 obtain ⟨w1, hw1⟩ : ∃ y, y = w.alloc (.cells #[.int .i64 id, .int .i64 ix] 30) := ⟨_, rfl⟩
 rw [← hw1]
 have x0 : w1.cell? ⟨w.heap.size, 0, none⟩ = some (.int .i64 id) := by rw [hw1]; simp [go_sem]
 have x1 : w1.cell? ⟨w.heap.size, 1, none⟩ = some (.int .i64 ix) := by rw [hw1]; simp [go_sem]
 have xs : w.heap.size < w1.heap.size := by rw [hw1]; simp
 have B1 : Below w.heap.size w w1 := hw1 ▸ bal (Below.refl _ _) _
 have H1 := H.out.call B1
 have c2 := (B1.cell (p := ⟨g, p * 2 + 1, none⟩) hg).trans c1
 have hg1 : g < w1.heap.size := Nat.lt_of_lt_of_le hg B1.size
 clear hw1
 have R0 := Lib.hid (fun v (hw : KeptQ w1.heap.size w1 v) => (hw.1.cell (p := ⟨w.heap.size, 0, none⟩) xs).trans x0)
 have RG := Lib.hid (fun v (hw : KeptQ w1.heap.size w1 v) => get_any v b 0 base _ (rowsS L) id (H1.call hw.1).tab)
 refine wp_region_keptQ w1.heap.size w1 (by kernel_rfl) (by kernel_rfl) (KeptQ.refl (Nat.le_refl _)) ?_
 repeat (first
  | go_big_quiet_skip
  | (go_big_quiet_want; first
   | (refine quietQ_load_cell 3 _ rfl ⟨w.heap.size, 0, none⟩ rfl _ R0.out _ Tryz.underlying3 rfl ?_; simp only [Act.put, List.setIfInBounds_toArray, List.set_cons_zero, List.set_cons_succ]; go_big_quiet_on)
   | (go_big_quiet_op; first
    | go_big_quiet_on
    | (refine ⟨_, fun _ _ => rfl, ?_⟩; go_big_quiet_on)
    | go_big_quiet_call ((intro hw; go_at_call 114; refine (RG.out _ hw).mono ?_; rw [HH.out, HP.out, place_eq]; rintro e w7 ⟨rfl, hb7⟩; exact ⟨rfl, hw.call hb7⟩)))))
 refine wpQuiet_nil ?_
 intro w2 hw2
 have y1 := (hw2.1.cell (p := ⟨w.heap.size, 1, none⟩) xs).trans x1
 have y2 := (hw2.1.cell (p := ⟨g, p * 2 + 1, none⟩) hg1).trans c2
 clear c1 c2
 have B2 := hw2.below (m := w.heap.size) (by omega) B1
 clear R0 RG hw2 x0 x1 H1
 go_wp2
 go_quiet (fail)
 go_wp2
 go_ret2
 exact ⟨rfl, below_drewN B2 _⟩
theorem sat_high (w : World) (b base : Nat) (tv : Value) (L : List Sn) (id ix : Int) (x : Sn) (h : SlotsAt w b base tv L) (hx : L[posS L id]? = some x) (hid : x.id = id) (hi : (x.l.length : Int) ≤ ix) :
  Calls Tryz.prog 102 #[.pointer (some ⟨b, 0, none⟩), .agg #[.int .i64 id, .int .i64 ix]] w fun e w' => e = .returned (.tuple #[.pointer none, .int .i64 3]) ∧ Below w.heap.size w w' := by
 have hh : hasS L id = true := (hasS_at h).2 ⟨x, hx, hid⟩
 obtain ⟨p, hp⟩ : ∃ p, posR (rowsS L) id = p := ⟨_, rfl⟩
 have HH := Lib.hid (show hasR (rowsS L) id = true from hh)
 have HP := Lib.hid hp
 obtain ⟨g, c, rfl, hg, -, c1⟩ := h.place hx
 rw [show posS L id = p from hp] at c1
 obtain ⟨gx, hgx⟩ : ∃ y, y = x.g := ⟨_, rfl⟩
 obtain ⟨n, hn⟩ : ∃ y, y = x.l.length := ⟨_, rfl⟩
 rw [show x.v = .slice (some ⟨gx, 0, none⟩) n n by rw [hgx, hn]] at c1
 rw [← hn] at hi; have hd : decide (ix < 0) = false := decide_eq_false (by omega); have hd2 : decide ((n : Int) ≤ ix) = true := decide_eq_true hi
 clear hh hp hx hid hgx hn
 have H := Lib.hid h
 clear h
 go_enter Tryz.func102, Tryz.ntmps102
 go_wp2
 obtain ⟨w1, hw1⟩ : ∃ y, y = w.alloc (.cells #[.int .i64 id, .int .i64 ix] 30) := ⟨_, rfl⟩
 rw [← hw1]
 have x0 : w1.cell? ⟨w.heap.size, 0, none⟩ = some (.int .i64 id) := by rw [hw1]; simp [go_sem]
 have x1 : w1.cell? ⟨w.heap.size, 1, none⟩ = some (.int .i64 ix) := by rw [hw1]; simp [go_sem]
 have xs : w.heap.size < w1.heap.size := by rw [hw1]; simp
 have B1 : Below w.heap.size w w1 := hw1 ▸ bal (Below.refl _ _) _
 have H1 := H.out.call B1
 have c2 := (B1.cell (p := ⟨g, p * 2 + 1, none⟩) hg).trans c1
 have hg1 : g < w1.heap.size := Nat.lt_of_lt_of_le hg B1.size
 clear hw1
 have R0 := Lib.hid (fun v (hw : KeptQ w1.heap.size w1 v) => (hw.1.cell (p := ⟨w.heap.size, 0, none⟩) xs).trans x0)
 have RG := Lib.hid (fun v (hw : KeptQ w1.heap.size w1 v) => get_any v b 0 base _ (rowsS L) id (H1.call hw.1).tab)
 refine wp_region_keptQ w1.heap.size w1 (by kernel_rfl) (by kernel_rfl) (KeptQ.refl (Nat.le_refl _)) ?_
 repeat (first
  | go_big_quiet_skip
  | (go_big_quiet_want; first
   | (refine quietQ_load_cell 3 _ rfl ⟨w.heap.size, 0, none⟩ rfl _ R0.out _ Tryz.underlying3 rfl ?_; simp only [Act.put, List.setIfInBounds_toArray, List.set_cons_zero, List.set_cons_succ]; go_big_quiet_on)
   | (go_big_quiet_op; first
    | go_big_quiet_on
    | (refine ⟨_, fun _ _ => rfl, ?_⟩; go_big_quiet_on)
    | go_big_quiet_call ((intro hw; go_at_call 114; refine (RG.out _ hw).mono ?_; rw [HH.out, HP.out, place_eq]; rintro e w7 ⟨rfl, hb7⟩; exact ⟨rfl, hw.call hb7⟩)))))
 refine wpQuiet_nil ?_
 intro w2 hw2
 have y1 := (hw2.1.cell (p := ⟨w.heap.size, 1, none⟩) xs).trans x1
 have y2 := (hw2.1.cell (p := ⟨g, p * 2 + 1, none⟩) hg1).trans c2
 clear c1 c2
 have B2 := hw2.below (m := w.heap.size) (by omega) B1
 clear R0 RG hw2 x0 x1 H1
 go_wp2
 go_quiet (fail)
 go_wp2
 go_ret2
 exact ⟨rfl, below_drewN B2 _⟩
theorem sat_yes (w : World) (b base : Nat) (tv : Value) (L : List Sn) (id : Int) (i : Nat) (x : Sn) (h : SlotsAt w b base tv L) (hx : L[posS L id]? = some x) (hid : x.id = id) (hi : i < x.l.length) :
  Calls Tryz.prog 102 #[.pointer (some ⟨b, 0, none⟩), .agg #[.int .i64 id, .int .i64 i]] w fun e w' => e = .returned (.tuple #[.pointer (some ⟨x.g, i * 8, none⟩), .int .i64 0]) ∧ Below w.heap.size w w' := by
 have hh : hasS L id = true := (hasS_at h).2 ⟨x, hx, hid⟩
 obtain ⟨p, hp⟩ : ∃ p, posR (rowsS L) id = p := ⟨_, rfl⟩
 have HH := Lib.hid (show hasR (rowsS L) id = true from hh)
 have HP := Lib.hid hp
 obtain ⟨g, c, rfl, hg, -, c1⟩ := h.place hx
 rw [show posS L id = p from hp] at c1
 obtain ⟨gx, hgx⟩ : ∃ y, y = x.g := ⟨_, rfl⟩
 obtain ⟨n, hn⟩ : ∃ y, y = x.l.length := ⟨_, rfl⟩
 rw [show x.v = .slice (some ⟨gx, 0, none⟩) n n by rw [hgx, hn]] at c1
 have hn16 : n ≤ 16 := hn ▸ h.bd x (List.mem_of_getElem? hx); rw [← hn] at hi; rw [← hgx]; have hiI : (i : Int) < n := (by omega); have hd : decide ((i : Int) < 0) = false := decide_eq_false (by omega); have hd2 : decide ((n : Int) ≤ i) = false := decide_eq_false (by omega)
 clear hh hp hx hid hgx hn
 have H := Lib.hid h
 clear h
 go_enter Tryz.func102, Tryz.ntmps102
 go_wp2
 obtain ⟨w1, hw1⟩ : ∃ y, y = w.alloc (.cells #[.int .i64 id, .int .i64 i] 30) := ⟨_, rfl⟩
 rw [← hw1]
 have x0 : w1.cell? ⟨w.heap.size, 0, none⟩ = some (.int .i64 id) := by rw [hw1]; simp [go_sem]
 have x1 : w1.cell? ⟨w.heap.size, 1, none⟩ = some (.int .i64 i) := by rw [hw1]; simp [go_sem]
 have xs : w.heap.size < w1.heap.size := by rw [hw1]; simp
 have B1 : Below w.heap.size w w1 := hw1 ▸ bal (Below.refl _ _) _
 have H1 := H.out.call B1
 have c2 := (B1.cell (p := ⟨g, p * 2 + 1, none⟩) hg).trans c1
 have hg1 : g < w1.heap.size := Nat.lt_of_lt_of_le hg B1.size
 clear hw1
 have R0 := Lib.hid (fun v (hw : KeptQ w1.heap.size w1 v) => (hw.1.cell (p := ⟨w.heap.size, 0, none⟩) xs).trans x0)
 have RG := Lib.hid (fun v (hw : KeptQ w1.heap.size w1 v) => get_any v b 0 base _ (rowsS L) id (H1.call hw.1).tab)
 refine wp_region_keptQ w1.heap.size w1 (by kernel_rfl) (by kernel_rfl) (KeptQ.refl (Nat.le_refl _)) ?_
 repeat (first
  | go_big_quiet_skip
  | (go_big_quiet_want; first
   | (refine quietQ_load_cell 3 _ rfl ⟨w.heap.size, 0, none⟩ rfl _ R0.out _ Tryz.underlying3 rfl ?_; simp only [Act.put, List.setIfInBounds_toArray, List.set_cons_zero, List.set_cons_succ]; go_big_quiet_on)
   | (go_big_quiet_op; first
    | go_big_quiet_on
    | (refine ⟨_, fun _ _ => rfl, ?_⟩; go_big_quiet_on)
    | go_big_quiet_call ((intro hw; go_at_call 114; refine (RG.out _ hw).mono ?_; rw [HH.out, HP.out, place_eq]; rintro e w7 ⟨rfl, hb7⟩; exact ⟨rfl, hw.call hb7⟩)))))
 refine wpQuiet_nil ?_
 intro w2 hw2
 have y1 := (hw2.1.cell (p := ⟨w.heap.size, 1, none⟩) xs).trans x1
 have y2 := (hw2.1.cell (p := ⟨g, p * 2 + 1, none⟩) hg1).trans c2
 clear c1 c2
 have B2 := hw2.below (m := w.heap.size) (by omega) B1
 clear R0 RG hw2 x0 x1 H1
 go_wp2
 go_quiet (fail)
 go_wp2
 go_quiet (fail)
 go_wp2
 go_ret2
 exact ⟨by simp, below_drewN (below_drewN B2 _) _⟩
end TabS
end
section
open Go.ChangeShapes Go.WideShapes Go.ChangeAt Go.RowKit Go.Shelf
theorem bs' {w W : World} (h : Below w.heap.size w W) (k j : Nat) (v : Value) : Below w.heap.size w (W.setCell ⟨w.heap.size + k, j, none⟩ v) := h.setCell (p := ⟨w.heap.size + k, j, none⟩) (by simp) v
end
section
namespace CX
open Go.ChangeShapes Go.WideShapes Go.ChangeAt Go.RowKit
theorem ret_bool {a b : Bool} (h : a = b) : Ending.returned (.bool a) = .returned (.bool b) := by rw [h]
theorem ret_int {k : IntKind} {a b : Int} (h : a = b) : Ending.returned (.int k a) = .returned (.int k b) := by rw [h]
def mayB (r : Int) : Bool := decide (0 ≤ r ∧ r ≤ 7)
theorem mayB_mk {r : Int} (h : 0 ≤ r) (h' : r ≤ 7) : mayB r = true := decide_eq_true ⟨h, h'⟩
theorem may_any (r : Int) (w : World) : Calls Tryz.prog 60 #[.int .i64 r] w fun e w' => e = .returned (.bool (mayB r)) ∧ w = w' := by
 go_enter Tryz.func60, Tryz.ntmps60
 go_wp2
 all_goals go_ret
 all_goals refine ⟨ret_bool ?_, rfl⟩
 all_goals rw [Bool.eq_iff_iff]
 all_goals simp [mayB]
 all_goals omega
theorem refMay9 (r : Int) (w : World) : Calls Tryz.prog 111 #[.int .i64 r] w fun e w' => e = .returned (.bool (mayB r)) ∧ w = w' := by
 go_enter Tryz.func111, Tryz.ntmps111
 go_wp2
 all_goals go_ret
 all_goals refine ⟨ret_bool ?_, rfl⟩
 all_goals rw [Bool.eq_iff_iff]
 all_goals simp [mayB]
 all_goals omega
def maskN (a b : Int) : Int := bits BinOp.and IntKind.i64 a b
def hasB (r n : Int) : Bool := maskN r n == n
theorem has_any (a b : Int) (w : World) (h0 : 0 ≤ a) (h1 : a ≤ 7) (h2 : 0 ≤ b) (h3 : b ≤ 7) :
  Calls Tryz.prog 23 #[.int .i64 a, .int .i64 b] w fun e w' => e = .returned (.bool (hasB a b)) ∧ w = w' := by
 have m1 := mayB_mk h0 h1
 have m2 := mayB_mk h2 h3
 go_enter Tryz.func23, Tryz.ntmps23
 go_wp2_with (go_at_call 60; refine (may_any _ _).mono ?_; rintro e w' ⟨rfl, rfl⟩)
 go_ret
 exact ⟨rfl, rfl⟩
def partN (r m : Int) (k : Nat) : Int := (if 0 < k ∧ hasB m 1 = true ∧ hasB r 1 = true then 1 else 0) + (if 1 < k ∧ hasB m 2 = true ∧ hasB r 2 = true then 2 else 0) + (if 2 < k ∧ hasB m 4 = true ∧ hasB r 4 = true then 4 else 0)
theorem part_key : ∀ r : Nat, r < 8 → ∀ m : Nat, m < 8 → partN r m 3 = maskN r m := by decide +kernel
theorem part_mask {r m : Int} (h0 : 0 ≤ r) (h1 : r ≤ 7) (h2 : 0 ≤ m) (h3 : m ≤ 7) : partN r m 3 = maskN r m := by
 obtain ⟨a, rfl⟩ := Int.eq_ofNat_of_zero_le h0
 obtain ⟨b, rfl⟩ := Int.eq_ofNat_of_zero_le h2
 exact part_key a (by omega) b (by omega)
end CX
end
section
theorem low_facts (x : Nat) (h0 : x ≠ 0) (h : x < 2 ^ 64) : Lib.ctz 64 x < 64 ∧ x.testBit (Lib.ctz 64 x) = true ∧ (∀ i, i < Lib.ctz 64 x → x.testBit i = false) ∧
  (∀ i, (x &&& (x - 1)).testBit i = (x.testBit i && decide (i ≠ Lib.ctz 64 x))) := by
 have e : Lib.ctz 64 x = Lib.ctzFrom 64 x := by simp [Lib.ctz, h0]
 obtain ⟨m, hm, hk⟩ := Lib.ctzFrom_spec 64 x (by omega) h
 rw [e]
 generalize Lib.ctzFrom 64 x = k at *
 have hp : 0 < 2 ^ k := Nat.two_pow_pos k
 have e1 : x = 2 ^ k * (2 * m + 1) + 0 := by omega
 have e2 : x - 1 = 2 ^ k * (2 * m) + (2 ^ k - 1) := by rw [hm, Nat.mul_add]; omega
 have b1 : ∀ i, x.testBit i = if i < k then false else (2 * m + 1).testBit (i - k) := fun i => by
  rw [e1, Nat.testBit_two_pow_mul_add _ hp]; simp
 have b2 : ∀ i, (x - 1).testBit i = if i < k then true else (2 * m).testBit (i - k) := fun i => by
  rw [e2, Nat.testBit_two_pow_mul_add _ (by omega)]
  by_cases hi : i < k
  ·simp [hi, Nat.testBit_two_pow_sub_one]
  ·simp [hi]
 refine ⟨hk, ?_, fun i hi => ?_, fun i => ?_⟩
 ·rw [b1]; simp [Nat.testBit_zero]
 ·rw [b1]; simp [hi]
 ·rw [Nat.testBit_and, b1, b2]
  by_cases hi : i < k
  ·simp [hi]
  ·by_cases hik : i = k
   ·subst hik; simp [Nat.testBit_zero]
   ·obtain ⟨j, rfl⟩ : ∃ j, i = k + (j + 1) := ⟨i - k - 1, by omega⟩
    have e3 : k + (j + 1) - k = j + 1 := by omega
    have d1 : (2 * m + 1) / 2 = m := by omega
    have d2 : 2 * m / 2 = m := by omega
    simp only [hi, if_false, e3, Nat.testBit_succ, d1, d2]
    simp
theorem lt_pow_of_bits {v n : Nat} (h : ∀ i, v.testBit i = true → i < n) : v < 2 ^ n :=
 Nat.lt_pow_two_of_testBit v fun i hi => by
  cases hb : v.testBit i with
  | false => rfl
  | true => have := h i hb; omega
theorem bits_of_lt_pow {v n i : Nat} (h : v < 2 ^ n) (hb : v.testBit i = true) : i < n := by
 apply Nat.lt_of_not_le
 intro hle
 rw [Nat.testBit_lt_two_pow (Nat.lt_of_lt_of_le h (Nat.pow_le_pow_right (by decide) hle))] at hb
 cases hb
def SetInv (v : Nat) (pre : List Nat) (rest : Nat) : Prop :=
 (∀ k ∈ pre, v.testBit k = true) ∧ (∀ k, v.testBit k = true → k ∈ pre ∨ rest.testBit k = true) ∧ (∀ k, rest.testBit k = true → v.testBit k = true) ∧ (∀ k, k < pre.length → rest.testBit k = false)
def SetAll (v : Nat) (ys : List Nat) : Prop := (∀ k ∈ ys, v.testBit k = true) ∧ (∀ k, v.testBit k = true → k ∈ ys)
def SetPart (v : Nat) (ys : List Nat) : Prop := ∀ k ∈ ys, v.testBit k = true
theorem SetInv.start (v : Nat) : SetInv v [] v := ⟨by simp, fun k h => .inr h, fun k h => h, by simp⟩
theorem SetInv.done {v : Nat} {pre : List Nat} (h : SetInv v pre 0) : SetAll v pre :=
 ⟨h.1, fun k hk => (h.2.1 k hk).elim id (fun e => by simp at e)⟩
theorem SetInv.len {v rest : Nat} {pre : List Nat} (h : SetInv v pre rest) (h0 : rest ≠ 0) (hr : rest < 2 ^ 64) : pre.length < 64 := by
 obtain ⟨hk, hb, _, _⟩ := low_facts rest h0 hr
 apply Nat.lt_of_not_le
 intro hle
 rw [h.2.2.2 _ (Nat.lt_of_lt_of_le hk hle)] at hb
 cases hb
theorem SetInv.part {v rest : Nat} {pre : List Nat} (h : SetInv v pre rest) (h0 : rest ≠ 0) (hr : rest < 2 ^ 64) : SetPart v (pre ++ [Lib.ctz 64 rest]) := by
 obtain ⟨_, hb, _, _⟩ := low_facts rest h0 hr
 intro k hk
 rcases List.mem_append.1 hk with h' | h'
 ·exact h.1 k h'
 ·simp at h'; subst h'; exact h.2.2.1 _ hb
theorem SetInv.step {v rest : Nat} {pre : List Nat} (h : SetInv v pre rest) (h0 : rest ≠ 0) (hr : rest < 2 ^ 64) : SetInv v (pre ++ [Lib.ctz 64 rest]) (rest &&& (rest - 1)) := by
 have hp := h.part h0 hr
 obtain ⟨hk, hb, hlow, hstep⟩ := low_facts rest h0 hr
 refine ⟨hp, fun k hv => ?_, fun k hv => ?_, fun k hkl => ?_⟩
 ·by_cases e : k = Lib.ctz 64 rest
  ·left; simp [e]
  ·rcases h.2.1 k hv with h' | h'
   ·left; simp [h']
   ·right; rw [hstep, h']; simp [e]
 ·rw [hstep, Bool.and_eq_true] at hv
  exact h.2.2.1 k hv.1
 ·rw [hstep]
  by_cases e : k = Lib.ctz 64 rest
  ·simp [e]
  ·simp only [List.length_append, List.length_cons, List.length_nil] at hkl
   by_cases hl : k < pre.length
   ·rw [h.2.2.2 k hl]; rfl
   ·have hpl : ¬ Lib.ctz 64 rest < pre.length := fun hlt => by rw [h.2.2.2 _ hlt] at hb; cases hb
    rw [hlow k (by omega)]; rfl
theorem step_lt {rest : Nat} (h0 : rest ≠ 0) : rest &&& (rest - 1) < rest := by
 have := Nat.and_le_right (n := rest) (m := rest - 1); omega
end
section
open Go.RowKit Go.Shelf
def TabAt (w : World) : Prop := ∀ j, j < Lib.deBruijn64tab.length → w.cell? ⟨0, j, none⟩ = some (.int .u8 (Lib.deBruijn64tab.getD j 0))
theorem TabAt.below {n : Nat} {w w' : World} (h : TabAt w) (hn : 0 < n) (hb : Below n w w') : TabAt w' := fun j hj => (hb.cell (p := ⟨0, j, none⟩) hn).trans (h j hj)
theorem tz_key (x a : Nat) (hx : x < 18446744073709551616) (hx0 : x ≠ 0) (hlow : x &&& (18446744073709551616 - x) = a) :
  IntKind.u64.wrap (bits BinOp.and IntKind.u64 (x : Int) (IntKind.u64.wrap (-(x : Int))) * 285870213051353865) / 288230376151711744 = ((a * 285870213051353865 % 18446744073709551616 / 288230376151711744 : Nat) : Int) := by
 have e1 : IntKind.u64.wrap (-(x : Int)) = ((18446744073709551616 - x : Nat) : Int) := by rw [IntKind.wrap_u64]; omega
 rw [e1, u64_and_nat x _ hx (by omega), hlow, IntKind.wrap_u64]
 omega
theorem tz_core (x k idx : Nat) (w : World) (hx0 : ((x : Int) == 0) = false)
  (key : IntKind.u64.wrap (bits BinOp.and IntKind.u64 (x : Int) (IntKind.u64.wrap (-(x : Int))) * 285870213051353865) / 288230376151711744 = (idx : Int))
  (hi : idx < 64) (hk : k < 64) (hcell : w.cell? ⟨0, idx, none⟩ = some (.int .u8 k)) :
  Calls Tryz.prog 130 #[.int .u64 x] w fun e w' => e = .returned (.int .i64 k) ∧ w = w' := by
 go_enter Tryz.func130, Tryz.ntmps130
 go_wp2_with (simp only [key])
 go_ret
 exact ⟨rfl, rfl⟩
theorem tz_any (x : Nat) (hx : x < 2 ^ 64) (hx0 : x ≠ 0) (w : World) (hT : TabAt w) :
  Calls Tryz.prog 130 #[.int .u64 x] w fun e w' => e = .returned (.int .i64 (Lib.ctz 64 x)) ∧ w = w' := by
 obtain ⟨hlow, hk⟩ := Lib.lowest_bit 64 x hx0 hx
 obtain ⟨hi, htab⟩ := Lib.deBruijn64_at _ hk
 have hcell := hT _ hi
 rw [htab] at hcell
 exact tz_core x _ _ w (by simp; omega) (tz_key x _ hx hx0 hlow) hi hk hcell
attribute [local go_sem] Oper.semAt_some
theorem set1_in (n : Nat) (hn : 1 ≤ n) (l Bn n₀ : Nat) (v : Nat) (hv : v < 2 ^ 64) (J Jx : List Nat → World → Prop)
  (hY : ∀ pre x W, J pre W → pre.length < 64 → YieldAt Fence.wide (n - 1) Tryz.prog l #[.int .i64 (x : Nat)] W fun e W' =>
   (e = .returned (.bool true) ∧ J (pre ++ [x]) W' ∧ Below n₀ W W') ∨ (e = .returned (.bool false) ∧ Jx (pre ++ [x]) W'))
  (W : World) (hBn : W.cell? ⟨Bn, 0, none⟩ = some (.int .u64 v)) (hT : TabAt W) (hg : 0 < n₀) (h0 : J [] W) :
  CallsIn Fence.wide n Tryz.prog 129 #[.func (.yield l) #[] #[], .pointer (some ⟨Bn, 0, none⟩)] W fun e W' => (∃ v, e = .returned v) ∧
   ((∃ ys, SetAll v ys ∧ J ys W') ∨ (∃ pre, SetPart v pre ∧ Jx pre W')) := by
 refine callsIn_of_wp Tryz.func129 rfl trivial ?_ rfl
 simp only [Tryz.ntmps129, List.size_toArray, List.length_cons, List.length_nil, Nat.reduceAdd, Nat.reduceSub, Array.replicate_succ, Array.replicate_zero, List.push_toArray, List.append_toArray, List.nil_append, List.cons_append]
 gi_wp2
 gi_loopw [3] (fun p wr => ∃ (pre : List Nat) (rest : Nat), p = .int .u64 (rest : Nat) ∧ rest < 2 ^ 64 ∧ SetInv v pre rest ∧ TabAt wr ∧ J pre wr)
  (fun p wr => (intOf p).toNat)
 case atStart =>
  exact ⟨[], v, rfl, hv, SetInv.start v, hT, h0⟩
 case round =>
  obtain ⟨pre, rest, rfl, hr, hI, hTr, hJs⟩ := hrel
  clear hBn hT h0 hv
  by_cases hz : rest = 0
  ·subst hz
   gi_wp2
   go_end0
   exact ⟨⟨_, rfl⟩, .inl ⟨pre, hI.done, hJs⟩⟩
  ·have hlen := hI.len hz hr
   have hI2 := hI.step hz hr
   have hP := hI.part hz hr
   obtain ⟨fn, tmps, assign, body, hy, hR⟩ := hY pre (Lib.ctz 64 rest) wr hJs hlen
   have hb : ((rest : Int) != 0) = true := by simp; omega
   have hpos : (1 : Int) ≤ rest := by omega
   have hlt : (rest : Int) ≤ 18446744073709551615 := by omega
   gi_wp2_with (refine ⟨trivial, ?_⟩; gi_at_call 130; refine (callsIn_wide.2 (tz_any rest hr hz _ hTr)).mono ?_; rintro e w' ⟨rfl, rfl⟩)
   refine hR.mono ?_
   rintro e W3 (⟨rfl, hJ3, hk3⟩ | ⟨rfl, hJx3⟩)
   ·have hT3 := hTr.below hg hk3
    gi_wp2
    go_roundw
    case rel =>
     refine ⟨pre ++ [Lib.ctz 64 rest], rest &&& (rest - 1), ?_, Nat.lt_of_le_of_lt Nat.and_le_left hr, hI2, hT3, hJ3⟩
     have e2 : ((rest : Int) - 1) = ((rest - 1 : Nat) : Int) := by omega
     rw [e2, u64_and_nat _ _ hr (by omega)]
    case measure =>
     have e2 : ((rest : Int) - 1) = ((rest - 1 : Nat) : Int) := by omega
     simp only [intOf]
     rw [e2, u64_and_nat _ _ hr (by omega)]
     have := step_lt hz
     omega
   ·gi_wp2
    refine bodyPost_ret (results_none rfl _ _ _) rfl ?_
    exact ⟨⟨_, rfl⟩, .inr ⟨_, hP, hJx3⟩⟩
end
section
namespace CX
open Go.RowKit Go.Shelf
attribute [local go_sem] Oper.semAt_some
def fitsB (v : Nat) (n : Int) : Bool := decide (v < 2 ^ n.toNat)
def AllLt (n : Int) (pre : List Nat) : Prop := ∀ k ∈ pre, (k : Int) < n
def SomeGe (n : Int) (pre : List Nat) : Prop := ∃ k ∈ pre, n ≤ (k : Int)
theorem AllLt.snoc {n : Int} {pre : List Nat} {x : Nat} (h : AllLt n pre) (hx : (x : Int) < n) : AllLt n (pre ++ [x]) := fun k hk => (List.mem_append.1 hk).elim (h k) (fun e => by simp at e; subst e; exact hx)
theorem fits_of_all {v : Nat} {n : Int} {ys : List Nat} (h : SetAll v ys) (hl : AllLt n ys) : fitsB v n = true := by
 unfold fitsB
 refine decide_eq_true (lt_pow_of_bits fun i hi => ?_)
 have := hl i (h.2 i hi)
 omega
theorem fits_of_some {v : Nat} {n : Int} {ys : List Nat} (h : SetPart v ys) (hl : SomeGe n ys) : fitsB v n = false := by
 unfold fitsB
 refine decide_eq_false fun hlt => ?_
 obtain ⟨k, hk, hn⟩ := hl
 have := bits_of_lt_pow hlt (h k hk)
 omega
theorem cell_box {W : World} {B : Nat} {v : Value} {t : TypeId} (h : W.heap[B]? = some (.cells #[v] t (0, 0))) : W.cell? ⟨B, 0, none⟩ = some v ∧ W.frozen? ⟨B, 0, none⟩ = false := by
 constructor <;> simp [World.cell?, World.frozen?, h]
theorem cell_fresh (W : World) (v : Value) (t : TypeId) : (W.alloc (.cells #[v] t)).cell? ⟨W.heap.size, 0, none⟩ = some v ∧ (W.alloc (.cells #[v] t)).frozen? ⟨W.heap.size, 0, none⟩ = false :=
 cell_box (World.alloc_heap_new W _)
theorem cell_more {W : World} {a : Addr} {v : Value} (o : Obj) (h : W.cell? a = some v) : (W.alloc o).cell? a = some v := cell_kept h (World.grownBy_alloc W o none) (fun r e => by cases e)
theorem frozen_more {W : World} {a : Addr} {v : Value} (o : Obj) (h : W.cell? a = some v) (hf : W.frozen? a = false) : (W.alloc o).frozen? a = false := (frozen_kept h (World.grownBy_alloc W o none) (fun r e => by cases e)).trans hf
theorem set_in (n : Nat) (v : Int) (w : World) :
  CallsIn Fence.wide n Tryz.prog 119 #[.int .u64 v] w fun e w' => e = .returned (.func (.func 129) #[] #[.pointer (some ⟨w.heap.size, 0, none⟩)]) ∧ w' = w.alloc (.cells #[.int .u64 v] 31) := by
 refine callsIn_of_wp Tryz.func119 rfl trivial ?_ rfl
 simp only [Tryz.ntmps119, List.size_toArray, List.length_cons, List.length_nil, Nat.reduceAdd, Nat.reduceSub, Array.replicate_succ, Array.replicate_zero, List.push_toArray, List.append_toArray, List.nil_append, List.cons_append]
 gi_wp2
 go_ret
 exact ⟨rfl, rfl⟩
theorem set_stops (n : Nat) (hn : 1 ≤ n) (Bn n₀ v : Nat) (hv : v < 2 ^ 64) (w : World) (hBn : Bn < w.heap.size) (hn₀ : n₀ ≤ w.heap.size) (hg : 0 < n₀)
  (hc : w.cell? ⟨Bn, 0, none⟩ = some (.int .u64 v)) (hT : TabAt w) :
  SeqStopsK Fence.wide n Tryz.prog 129 #[.pointer (some ⟨Bn, 0, none⟩)] (fun x : Nat => #[Value.int .i64 x]) (Below n₀) (SetAll v) (SetPart v) 64 w := fun l J Jx W hW _ _ hY h0 =>
 set1_in n hn l Bn n₀ v hv J Jx hY W ((hW.cell (p := ⟨Bn, 0, none⟩) hBn).trans hc) (hT.below (Nat.lt_of_lt_of_le hg hn₀) hW) hg h0
theorem fits_in (v : Nat) (n : Int) (w : World) (hv : v < 2 ^ 64) (hT : TabAt w) (hg : 0 < w.heap.size) :
  CallsIn Fence.wide 3 Tryz.prog 98 #[.int .u64 v, .int .i64 n] w fun e W' => e = .returned (.bool (fitsB v n)) ∧ Below w.heap.size w W' := by
 refine callsIn_of_wp_marks Tryz.func98 rfl trivial ?_ rfl
 simp only [Tryz.ntmps98, List.size_toArray, List.length_cons, List.length_nil, Nat.reduceAdd, Nat.reduceSub, Array.replicate_succ, Array.replicate_zero, List.push_toArray, List.append_toArray, List.nil_append, List.cons_append]
 gi_wp2_with (refine ⟨trivial, ?_⟩; gi_at_call 119; refine (set_in _ _ _).mono ?_; rintro e w' ⟨rfl, rfl⟩)
 have c0 := cell_fresh w (.int .i64 n) 3
 have c1 := cell_fresh (w.alloc (.cells #[.int .i64 n] 3)) (.bool false) 4
 have c2 := cell_fresh ((w.alloc (.cells #[.int .i64 n] 3)).alloc (.cells #[.bool false] 4)) (.int .u64 v) 31
 simp only [World.size_alloc] at c1 c2
 have hB0 : Below w.heap.size w (((w.alloc (.cells #[.int .i64 n] 3)).alloc (.cells #[.bool false] 4)).alloc (.cells #[.int .u64 v] 31)) := (((Below.refl _ w).alloc (Nat.le_refl _) _).alloc (by simp) _).alloc (by simp; omega) _
 refine wpIn_rangeFunc_ownF rfl (by omega) (gf := 129) (lb := #[.pointer (some ⟨w.heap.size + 1 + 1, 0, none⟩)]) rfl trivial (enters_of Tryz.func129 (by kernel_rfl) rfl)
  (set_stops (3 - 1) (by omega) (w.heap.size + 1 + 1) w.heap.size v hv _ (by simp) (by simp; omega) hg c2.1 (hT.below hg hB0)) belowK_t (belowK_b (by simp; omega)) (Below.refl _ _) (fun _ => rfl)
  (fun pre W => (AllLt n pre ∧ W.cell? ⟨w.heap.size, 0, none⟩ = some (.int .i64 n) ∧ W.cell? ⟨w.heap.size + 1, 0, none⟩ = some (.bool false) ∧ W.frozen? ⟨w.heap.size + 1, 0, none⟩ = false) ∧ Below w.heap.size w W)
  (fun c pre W => (c = .ret ∧ SomeGe n pre ∧ W.cell? ⟨w.heap.size + 1, 0, none⟩ = some (.bool false)) ∧ Below w.heap.size w W)
  (OwnFrom.and (Own.from (fun s A B row hs hg hr => ⟨hs.1, cell_kept hs.2.1 hg hr, cell_kept hs.2.2.1 hg hr, (frozen_kept hs.2.2.1 hg hr).trans hs.2.2.2⟩) _) (ownFrom_below (Nat.le_refl _) (by simp; omega)))
  (fun c => OwnFrom.and (Own.from (fun s A B row hs hg hr => ⟨hs.1, hs.2.1, cell_kept hs.2.2 hg hr⟩) _) (ownFrom_below (Nat.le_refl _) (by simp; omega)))
  ⟨⟨(fun k hk => by cases hk), cell_more _ (cell_more _ c0.1), cell_more _ c1.1, frozen_more _ c1.1 c1.2⟩, hB0⟩
  (fun x => { tmps := #[.int .u64 v, .int .i64 n, undef, .pointer (some ⟨w.heap.size, 0, none⟩), .pointer (some ⟨w.heap.size + 1, 0, none⟩), .int .i64 x, .int .u64 v, .func (.func 129) #[] #[.pointer (some ⟨w.heap.size + 1 + 1, 0, none⟩)], .int .i64 x, undef, undef, undef], defers := [] }) ?assign ?body ?done ?stop
 case assign =>
  intro l x W K hK
  gi_wp2
  exact hK
 case body =>
  rintro l pre x W ⟨⟨hp, hcw, hcr, hfr⟩, hB⟩ _
  gi_wp2
  ·have hx : n ≤ (x : Int) := by assumption
   exact ⟨KeepsOthers.setCell _ _ _, ⟨rfl, ⟨x, by simp, hx⟩, World.cell?_setCell_same' _ _ _ (by rw [hcr]; rfl)⟩, hB.setCell (p := ⟨w.heap.size + 1, 0, none⟩) (by simp) _⟩
  ·have hx : (x : Int) < n := by first | assumption | omega
   exact ⟨KeepsOthers.refl _, Below.refl _ _, ⟨hp.snoc hx, hcw, hcr, hfr⟩, hB⟩
 case done =>
  rintro D ys W hD hall ⟨⟨hlt, _, hcr, hfr⟩, hB⟩ hK
  gi_wp2
  have hK' := (KeepsOthers.setCell W ⟨w.heap.size + 1, 0, none⟩ (.bool true)).same D _ hK rfl
  refine ⟨by simp, .inl ⟨_, _, rfl, run_takeDeferred hK', ?_⟩⟩
  have hc5 := cell_kept (World.cell?_setCell_same' W ⟨w.heap.size + 1, 0, none⟩ (.bool true) (by rw [hcr]; rfl)) (grownBy_putObj' _ D (.deferred none)) (fun r e => by cases e; exact ⟨_, hK', rfl⟩)
  refine ⟨.bool true, ?_, by rw [fits_of_all hall hlt], (hB.setCell (p := ⟨w.heap.size + 1, 0, none⟩) (by simp) _).trans (belowK_b (w := w) (Nat.le_refl _) _ D _ _ (by simp at hD; omega) hK' rfl rfl)⟩
  simp [results, Tryz.f98, go_sem, hc5]
 case stop =>
  rintro D c pre W hD hpre ⟨⟨rfl, hin, hcr⟩, hB⟩ hK
  gi_wp2
  refine ⟨by simp, .inl ⟨_, _, rfl, run_takeDeferred hK, ?_⟩⟩
  have hc5 := cell_kept hcr (grownBy_putObj' _ D (.deferred none)) (fun r e => by cases e; exact ⟨_, hK, rfl⟩)
  refine ⟨.bool false, ?_, by rw [fits_of_some hpre hin], hB.trans (belowK_b (w := w) (Nat.le_refl _) W D _ _ (by simp at hD; omega) hK rfl rfl)⟩
  simp [results, Tryz.f98, go_sem, hc5]
theorem fits_any (v : Nat) (n : Int) (w : World) (hv : v < 2 ^ 64) (hT : TabAt w) (hg : 0 < w.heap.size) :
  Calls Tryz.prog 98 #[.int .u64 v, .int .i64 n] w fun e W' => e = .returned (.bool (fitsB v n)) ∧ Below w.heap.size w W' :=
 callsIn_wide.1 (fits_in v n w hv hT hg)
end CX
end
section
namespace CX
open Go.ChangeShapes Go.WideShapes Go.ChangeAt Go.RowKit
theorem bcell {W w1 : World} (hb : Below W.heap.size W w1) : (∀ b o, b < W.heap.size → w1.cell? ⟨b, o, none⟩ = W.cell? ⟨b, o, none⟩) ∧ (∀ b o, b < W.heap.size → w1.frozen? ⟨b, o, none⟩ = W.frozen? ⟨b, o, none⟩) :=
 ⟨fun b o h => hb.cell (p := ⟨b, o, none⟩) h, fun b o h => hb.frozen (p := ⟨b, o, none⟩) h⟩
theorem below_drewN {B : Nat} {a b : World} (h : Below B a b) (k : Nat) : Below B a (b.drewN k) := by
 induction k with
 | zero => exact h
 | succ k ih => exact ih.drew
def objB (b : Int) : Bool := decide (1 ≤ b ∧ b ≤ 65535)
def guardB (e f : Int) : Bool := decide (0 ≤ f ∧ f ≤ 12 ∧ 0 ≤ e ∧ e < (2 ^ f.toNat : Nat))
def placeB (g h : Int) : Bool := decide (g = 0 ∧ h = 0 ∨ 1 ≤ g ∧ g ≤ 16777215 ∧ 0 ≤ h ∧ h < 512)
def capB (a b c d e f g h : Int) : Bool :=
 if a = 0 ∨ a = 7 then decide (b = 0 ∧ c = 0 ∧ d = 0 ∧ e = 0 ∧ f = 0 ∧ g = 0 ∧ h = 0)
 else if a = 1 ∨ a = 4 ∨ a = 5 ∨ a = 6 ∨ a = 9 then objB b && decide (c = 0 ∧ d = 0 ∧ e = 0 ∧ f = 0 ∧ g = 0 ∧ h = 0)
 else if a = 2 then objB b && guardB e f && decide (c = 0 ∧ d = 0 ∧ g = 0 ∧ h = 0)
 else if a = 3 then objB b && decide (1 ≤ c ∧ c ≤ 3) && placeB g h && decide (d = 0 ∧ e = 0 ∧ f = 0)
 else if a = 8 then objB b && mayB c && decide (d ≤ 16777215) && decide (e = 0 ∧ f = 0 ∧ g = 0 ∧ h = 0)
 else false
abbrev capV (a b c d e f g h : Int) : Value := .agg #[.int .i64 a, .int .i64 b, .int .i64 c, .int .u64 d, .int .i64 e, .int .i64 f, .int .i64 g, .int .i64 h]
theorem obj_any (a b c d e f g h : Int) (W : World) : Calls Tryz.prog 57 #[capV a b c d e f g h] W fun x W' => x = .returned (.bool (objB b)) ∧ Below W.heap.size W W' := by
 go_enter Tryz.func57, Tryz.ntmps57
 go_wp2
 all_goals go_ret
 all_goals refine ⟨ret_bool ?_, (Below.refl _ _).alloc (Nat.le_refl _) _⟩
 all_goals (rw [Bool.eq_iff_iff]; simp [objB]; omega)
theorem obj13_any (b : Int) (W : World) : Calls Tryz.prog 124 #[.int .i64 b] W fun x W' => x = .returned (.bool (objB b)) ∧ W = W' := by
 go_enter Tryz.func124, Tryz.ntmps124
 go_wp2
 all_goals go_ret
 all_goals refine ⟨ret_bool ?_, rfl⟩
 all_goals (rw [Bool.eq_iff_iff]; simp [objB]; omega)
theorem frame_any (a b c d e f g h : Int) (W : World) : Calls Tryz.prog 59 #[capV a b c d e f g h] W fun x W' => x = .returned (.bool (decide (1 ≤ c ∧ c ≤ 3) && placeB g h)) ∧ Below W.heap.size W W' := by
  by_cases hc : 1 ≤ c ∧ c ≤ 3
  · obtain ⟨h1, h2⟩ := hc
    by_cases hg : g = 0
    · subst hg
      by_cases hh : h = 0
      · subst hh
        go_enter Tryz.func59, Tryz.ntmps59
        go_wp2
        all_goals go_ret
        all_goals refine ⟨ret_bool ?_, (Below.refl _ _).alloc (Nat.le_refl _) _⟩
        all_goals (rw [Bool.eq_iff_iff]; simp [placeB]; omega)
      · go_enter Tryz.func59, Tryz.ntmps59
        go_wp2
        all_goals go_ret
        all_goals refine ⟨ret_bool ?_, (Below.refl _ _).alloc (Nat.le_refl _) _⟩
        all_goals (rw [Bool.eq_iff_iff]; simp [placeB]; omega)
    · go_enter Tryz.func59, Tryz.ntmps59
      go_wp2
      all_goals go_ret
      all_goals refine ⟨ret_bool ?_, (Below.refl _ _).alloc (Nat.le_refl _) _⟩
      all_goals (rw [Bool.eq_iff_iff]; simp [placeB]; omega)
  · go_enter Tryz.func59, Tryz.ntmps59
    go_wp2
    all_goals first
      | (exfalso; omega)
      | (go_ret
         refine ⟨ret_bool ?_, (Below.refl _ _).alloc (Nat.le_refl _) _⟩
         first | (rw [Bool.eq_iff_iff]; done) | (rw [Bool.eq_iff_iff]; simp [placeB] <;> omega))
def TabG (w : World) : Prop := TabAt w ∧ 0 < w.heap.size
theorem TabG.below {B : Nat} {w w' : World} (h : TabG w) (hB : 0 < B) (hb : Below B w w') : TabG w' := ⟨h.1.below hB hb, Nat.lt_of_lt_of_le h.2 hb.size⟩
theorem TabG.call {w w' : World} (h : TabG w) (hb : Below w.heap.size w w') : TabG w' := h.below h.2 hb
theorem TabG.alloc {w : World} (h : TabG w) (o : Obj) : TabG (w.alloc o) := h.call ((Below.refl _ _).alloc (Nat.le_refl _) _)
theorem guard_yes (a b c d g h f : Int) (e : Nat) (W : World) (hT : TabG W) (f0 : 0 ≤ f) (f1 : f ≤ 12) (e1 : (e : Int) ≤ 9223372036854775807) : Calls Tryz.prog 58 #[capV a b c d e f g h] W fun x W' => x = .returned (.bool (guardB e f)) ∧ Below W.heap.size W W' := by
 have hk : fitsB e f = guardB e f := by
  unfold fitsB guardB
  rw [Bool.eq_iff_iff]
  simp only [decide_eq_true_eq]
  constructor
  ·intro h; exact ⟨f0, f1, by omega, by exact_mod_cast h⟩
  ·intro h; exact_mod_cast h.2.2.2
 have he : (e : Nat) < 2 ^ 64 := by omega
 have e0 : (0 : Int) ≤ e := by omega
 have HK := hid hk
 clear hk
 go_enter Tryz.func58, Tryz.ntmps58
 go_wp2_with (first | (go_at_call 98; refine (fits_any e f _ he (hT.alloc _).1 (hT.alloc _).2).mono ?_; rintro x w1 ⟨rfl, hb1⟩))
 go_ret
 exact ⟨ret_bool HK.out, bgo (bal (Below.refl _ _) _) hb1⟩
theorem guard_no (a b c d g h f : Int) (e : Int) (W : World) (hn : f < 0 ∨ 12 < f ∨ e < 0) : Calls Tryz.prog 58 #[capV a b c d e f g h] W fun x W' => x = .returned (.bool (guardB e f)) ∧ Below W.heap.size W W' := by
 have hk : guardB e f = false := by unfold guardB; exact decide_eq_false (by omega)
 rw [hk]
 clear hk
 have hn' : f < 0 ∨ (0 ≤ f ∧ 12 < f) ∨ (0 ≤ f ∧ f ≤ 12 ∧ e < 0) := by omega
 clear hn
 rcases hn' with hn | ⟨h0, hn⟩ | ⟨h0, h1, hn⟩
 all_goals
  go_enter Tryz.func58, Tryz.ntmps58
  go_wp2
  go_ret
  exact ⟨rfl, bal (Below.refl _ _) _⟩
theorem guard_any (a b c d e f g h : Int) (W : World) (hT : TabG W) (e1 : e ≤ 9223372036854775807) : Calls Tryz.prog 58 #[capV a b c d e f g h] W fun x W' => x = .returned (.bool (guardB e f)) ∧ Below W.heap.size W W' := by
 by_cases hn : f < 0 ∨ 12 < f ∨ e < 0
 ·exact guard_no a b c d g h f e W hn
 ·obtain ⟨n, rfl⟩ := Int.eq_ofNat_of_zero_le (show 0 ≤ e by omega)
  exact guard_yes a b c d g h f n W hT (by omega) (by omega) e1
theorem none_may (a b c d e f g h : Int) (W : World) (ha : a = 0 ∨ a = 7) : Calls Tryz.prog 15 #[capV a b c d e f g h] W fun x W' => x = .returned (.bool (capB a b c d e f g h)) ∧ Below W.heap.size W W' := by
 rcases ha with rfl | rfl
 all_goals
  go_enter Tryz.func15, Tryz.ntmps15
  go_wp2
  all_goals
   go_ret
   exact ⟨ret_bool (by simp [capB, *]), (by repeat (first | exact Below.refl _ _ | assumption | refine below_drewN ?_ _ | refine Below.setCell ?_ (by first | exact Nat.le_refl _ | (simp; done) | (simp; omega)) _ | refine bal ?_ _ | refine bgo ?_ (by assumption)))⟩
theorem plain_may (a b c d e f g h : Int) (W : World) (ha : a = 1 ∨ a = 4 ∨ a = 5 ∨ a = 6 ∨ a = 9) : Calls Tryz.prog 15 #[capV a b c d e f g h] W fun x W' => x = .returned (.bool (capB a b c d e f g h)) ∧ Below W.heap.size W W' := by
 rcases ha with rfl | rfl | rfl | rfl | rfl
 all_goals
  go_enter Tryz.func15, Tryz.ntmps15
  go_wp2_with (first | (go_at_call 57; refine (obj_any _ _ _ _ _ _ _ _ _).mono ?_; rintro x w1 ⟨rfl, hb1⟩))
  all_goals
   go_ret
   exact ⟨ret_bool (by simp [capB, *]), (by repeat (first | exact Below.refl _ _ | assumption | refine below_drewN ?_ _ | refine Below.setCell ?_ (by first | exact Nat.le_refl _ | (simp; done) | (simp; omega)) _ | refine bal ?_ _ | refine bgo ?_ (by assumption)))⟩
end CX
end
end Go.Proofs.YtchjfeafkmpmbaaGreatDoor
