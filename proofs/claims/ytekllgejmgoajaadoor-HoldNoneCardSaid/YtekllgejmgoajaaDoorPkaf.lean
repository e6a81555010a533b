import Derived.Test.YtekllgejmgoajaaDoorPkae
import Derived.Deep.MidRow
namespace Go.Proofs.YtekllgejmgoajaaDoor
set_option linter.unusedVariables false
set_option linter.unusedSimpArgs false
set_option maxRecDepth 100000
set_option maxHeartbeats 8000000
open Lib (hid)
section
open Go.ChangeShapes Go.WideShapes Go.ChangeAt Go.RowKit
namespace TabS
theorem bsf_none (w : World) (c : Int) (k : Int) (f : Value) : Calls Tryd.prog 77 #[.slice none 0 0, .int .i64 k, f] w fun e w' => e = .returned (.tuple #[.int .i64 0, .bool false]) ∧ w = w' := by
 go_enter Tryd.func77, Tryd.ntmps77
 go_wp2
 refine wp_loop_rounds 1 ?_
 rw [rounds_succ]
 go_wp2
 go_ret2
 exact ⟨by simp, rfl⟩
theorem ins_any (w : World) (base : Nat) (v : Value) (R : List Rw) (r : Rw) (nb p : Nat) (hw : Wide 2 R) (hr : Wide 2 [r]) (hl : R.length ≤ 1000000) (hp : p ≤ R.length) (hown : w.ownsRow base 115 2 v R.length (flat R)) (hb : base ≤ w.heap.size) (hne : v.ownBlock ≠ some nb)
  (hn : w.heap[nb]? = some (.cells (rcells r).toArray 115 (0, 0))) :
  Calls Tryd.prog 71 #[v, .int .i64 p, .slice (some ⟨nb, 0, none⟩) 1 1] w fun e w' => ∃ v', e = .returned v' ∧ InsPost w w' base v v' (R.take p ++ r :: R.drop p) := by
 by_cases h : p = R.length
 ·subst h
  rw [List.take_length, List.drop_length]
  exact ins_end w base v R r nb hw hr hl hown hb hn
 ·rcases hown.2 with ⟨_, h0⟩ | ⟨g, cap, cur, rfl, q1, q2, q3, q4, q5, q6⟩
  ·omega
  ·have hcur : cur = (flat R ++ cur.toList.drop (R.length * 2)).toArray := by
    rw [← q6, List.take_append_drop]
   have hlen : (flat R ++ cur.toList.drop (R.length * 2)).length = cap * 2 := by
    rw [← q5, ← Array.length_toList, ← q6, List.take_append_drop]
   rw [hcur] at q2
   by_cases hroom : R.length + 1 ≤ cap
   ·exact ins_room w base g cap p R _ r nb hw hr hl (by omega) hroom q4 q1 q2 hlen (by intro e; subst e; exact hne rfl) hn
   ·exact ins_grow w base g cap p R _ r nb hw hr hl (by omega) q3 (by omega) hb q2 hn
structure TabAt (w : World) (b o base : Nat) (v : Value) (R : List Rw) : Prop where
 cell : w.cell? ⟨b, o, none⟩ = some v
 froz : w.frozen? ⟨b, o, none⟩ = false
 row : w.ownsRow base 115 2 v R.length (flat R)
 ne : b < base
 base : base ≤ w.heap.size
 wide : Wide 2 R
 asc : Asc R
 le : R.length ≤ 1000000
structure Only (w w' : World) (b o : Nat) (v v' : Value) : Prop where
 os : w'.os = w.os
 tape : w'.tape = w.tape
 output : w'.output = w.output
 size : w.heap.size ≤ w'.heap.size
 block : ∀ k, k < w.heap.size → k ≠ b → v.ownBlock ≠ some k → w'.heap[k]? = w.heap[k]?
 cells : ∀ j, j ≠ o → w'.cell? ⟨b, j, none⟩ = w.cell? ⟨b, j, none⟩
 frozs : ∀ j, w'.frozen? ⟨b, j, none⟩ = w.frozen? ⟨b, j, none⟩
 foot : v'.ownBlock = v.ownBlock ∨ ∃ g, v'.ownBlock = some g ∧ w.heap.size ≤ g
theorem row_of_block {w w' : World} {base : Nat} {e : TypeId} {s : Nat} {v : Value} {n : Nat} {xs : List Value} (h : w.ownsRow base e s v n xs) (k : ∀ g, v.ownBlock = some g → w'.heap[g]? = w.heap[g]?) : w'.ownsRow base e s v n xs := by
 refine ⟨h.1, ?_⟩
 rcases h.2 with h2 | ⟨g, cap, cur, rfl, q1, q2, q3⟩
 ·exact .inl h2
 ·exact .inr ⟨g, cap, cur, rfl, q1, (k g rfl).trans q2, q3⟩
theorem TabAt.lt {w : World} {b o base : Nat} {v : Value} {R : List Rw} (h : TabAt w b o base v R) : b < w.heap.size := Nat.lt_of_lt_of_le h.ne h.base
theorem TabAt.own {w : World} {b o base g : Nat} {v : Value} {R : List Rw} (h : TabAt w b o base v R) (hg : v.ownBlock = some g) : base ≤ g ∧ g < w.heap.size := h.row.lt g hg
theorem TabAt.of {w w' : World} {b o base : Nat} {v : Value} {R : List Rw} (h : TabAt w b o base v R) (hs : w.heap.size ≤ w'.heap.size) (hc : w'.cell? ⟨b, o, none⟩ = w.cell? ⟨b, o, none⟩) (hf : w'.frozen? ⟨b, o, none⟩ = w.frozen? ⟨b, o, none⟩) (hg : ∀ g, v.ownBlock = some g → w'.heap[g]? = w.heap[g]?) : TabAt w' b o base v R :=
 ⟨hc.trans h.cell, hf.trans h.froz, row_of_block h.row hg, h.ne, Nat.le_trans h.base hs, h.wide, h.asc, h.le⟩
theorem TabAt.call {w w' : World} {b o base : Nat} {v : Value} {R : List Rw} (h : TabAt w b o base v R) (hb : Below w.heap.size w w') : TabAt w' b o base v R :=
 h.of hb.size (hb.cell (p := ⟨b, o, none⟩) h.lt) (hb.frozen (p := ⟨b, o, none⟩) h.lt) (fun g hg => hb.block g (h.own hg).2)
theorem TabAt.form {w : World} {b o base : Nat} {v : Value} {R : List Rw} (h : TabAt w b o base v R) : (v = .slice none 0 0 ∧ R = []) ∨ ∃ g c, v = .slice (some ⟨g, 0, none⟩) R.length c ∧ g < w.heap.size ∧ base ≤ g ∧ R.length ≤ c ∧ c ≤ maxLen ∧ RowsIn w g R := by
 rcases h.row.2 with ⟨h1, h2⟩ | ⟨g, cap, cur, rfl, q1, q2, q3, q4, q5, q6⟩
 ·exact .inl ⟨h1, List.length_eq_zero_iff.1 h2⟩
 ·refine .inr ⟨g, cap, rfl, (ags q2).1, q1, q3, q4, fun i j r u hi hj => ?_⟩
  have e := h.row.cells (g := g) rfl _ _ (flat_get h.wide hi hj)
  have ha : ((⟨g, 0, none⟩ : Addr).add (i * 2 + j)) = ⟨g, i * 2 + j, none⟩ := by unfold Addr.add; split <;> simp_all
  rwa [ha] at e
theorem find_any (w : World) (b o base : Nat) (v : Value) (R : List Rw) (k : Int) (h : TabAt w b o base v R) :
  Calls Tryd.prog 70 #[.pointer (some ⟨b, o, none⟩), .int .i64 k] w fun e w' => e = .returned (.tuple #[.int .i64 (posR R k : Nat), .bool (hasR R k)]) ∧ Below w.heap.size w w' := by
 have hc := h.cell
 have HT := hid h
 rcases h.form with ⟨rfl, rfl⟩ | ⟨g, c, rfl, hg, _, _, _, hr⟩
 ·clear h
  go_enter Tryd.func70, Tryd.ntmps70
  go_wp2_with (go_at_call 77; refine (bsf_none _ 0 _ _).mono ?_; rintro e w1 ⟨rfl, rfl⟩)
  go_ret2
  exact ⟨rfl, Below.refl _ _⟩
 ·have HR := hid hr
  clear h hr
  go_enter Tryd.func70, Tryd.ntmps70
  go_wp2_with (go_at_call 77; refine (bsf_any _ g c R k hg HT.out.wide HT.out.asc HT.out.le HR.out).mono ?_; rintro e w1 ⟨rfl, hb1⟩)
  go_ret2
  exact ⟨rfl, hb1⟩
def placeV (v : Value) (p : Nat) : Bool → Value
 | true => .pointer (v.ownBlock.map fun g => ⟨g, p * 2 + 1, none⟩)
 | false => .pointer none
theorem get_any (w : World) (b o base : Nat) (v : Value) (R : List Rw) (k : Int) (h : TabAt w b o base v R) :
  Calls Tryd.prog 56 #[.pointer (some ⟨b, o, none⟩), .int .i64 k] w fun e w' => e = .returned (.tuple #[placeV v (posR R k) (hasR R k), .bool (hasR R k)]) ∧ Below w.heap.size w w' := by
 have HT := hid h
 cases hh : hasR R k with
 | false =>
  have HH := hid hh
  clear h hh
  go_enter Tryd.func56, Tryd.ntmps56
  go_wp2_with (go_at_call 70; refine (find_any _ b o base v R k HT.out).mono ?_; rw [HH.out]; rintro e w1 ⟨rfl, hb1⟩)
  go_ret2
  exact ⟨rfl, hb1⟩
 | true =>
  obtain ⟨x, hx, _⟩ := (hasR_at h.asc).1 hh
  have hpl := (lgs hx).1
  have hle := h.le
  have HH := hid hh
  have hc := h.cell
  have hbl := h.lt
  rcases h.form with ⟨rfl, rfl⟩ | ⟨g, c, rfl, hg, _, _, _, hr⟩
  ·simp at hx
  ·clear h hh hr hx
   generalize hp : posR R k = p at *
   have HP := hid hp
   clear hp
   go_enter Tryd.func56, Tryd.ntmps56
   go_wp2_with (go_at_call 70; refine (find_any _ b o base _ R k HT.out).mono ?_; rw [HH.out, HP.out]; rintro e w1 ⟨rfl, hb1⟩; obtain ⟨hc1, hf1⟩ := bcell hb1; have hz1 : w.heap.size ≤ w1.heap.size := hb1.size)
   go_ret2
   exact ⟨rfl, hb1⟩
theorem asc_ins {R : List Rw} {r : Rw} (hA : Asc R) (hn : hasR R r.1 = false) : Asc (insR R r) := by
 obtain ⟨h1, h2⟩ := posR_facts (k := r.1) hA
 have hne : ∀ x ∈ R, x.1 ≠ r.1 := by
  intro x hx e
  have : hasR R r.1 = true := by unfold hasR; rw [List.any_eq_true]; exact ⟨x, hx, by simpa using e⟩
  rw [hn] at this
  cases this
 unfold insR Asc
 rw [List.map_append, List.map_cons, List.pairwise_append, List.pairwise_cons]
 have hT : ∀ x ∈ (R.take (posR R r.1)).map Prod.fst, x < r.1 := by
  intro x hx
  obtain ⟨y, hy, rfl⟩ := List.mem_map.1 hx
  obtain ⟨j, hj⟩ := List.getElem?_of_mem hy
  have hjl := (lgs hj).1
  rw [List.length_take] at hjl
  rw [List.getElem?_take_of_lt (by omega)] at hj
  exact h1 j y (by omega) hj
 have hD : ∀ x ∈ (R.drop (posR R r.1)).map Prod.fst, r.1 < x := by
  intro x hx
  obtain ⟨y, hy, rfl⟩ := List.mem_map.1 hx
  obtain ⟨j, hj⟩ := List.getElem?_of_mem hy
  rw [List.getElem?_drop] at hj
  have := h2 _ y (by omega) hj
  have := hne y (List.mem_of_getElem? hj)
  omega
 refine ⟨?_, ⟨hD, ?_⟩, ?_⟩
 ·rw [List.map_take]
  exact hA.sublist (List.take_sublist _ _)
 ·rw [List.map_drop]
  exact hA.sublist (List.drop_sublist _ _)
 ·intro x hx y hy
  rcases List.mem_cons.1 hy with rfl | hy
  ·exact hT x hx
  ·exact Int.lt_trans (hT x hx) (hD y hy)
theorem len_ins {R : List Rw} {r : Rw} : (insR R r).length = R.length + 1 := by
 unfold insR
 have := posR_le R r.1
 simp
 omega
theorem wide_ins {C : Nat} {R : List Rw} {r : Rw} (h : Wide C R) (hr : Wide C [r]) : Wide C (insR R r) := by
 intro x hx
 unfold insR at hx
 rcases List.mem_append.1 hx with q | q
 ·exact h x (List.mem_of_mem_take q)
 ·rcases List.mem_cons.1 q with rfl | q
  ·exact hr _ (by simp)
  ·exact h x (List.mem_of_mem_drop q)
theorem tab_store {w w2 : World} {b o base : Nat} {v v' : Value} {R R' : List Rw} (h : TabAt w b o base v R) (hb : b < w2.heap.size)
  (hcell : w2.cell? ⟨b, o, none⟩ = w.cell? ⟨b, o, none⟩) (hf : w2.frozen? ⟨b, o, none⟩ = false) (hr : w2.ownsRow base 115 2 v' R'.length (flat R')) (hsz : w.heap.size ≤ w2.heap.size)
  (hW : Wide 2 R') (hA : Asc R') (hl : R'.length ≤ 1000000) : TabAt (w2.setCell ⟨b, o, none⟩ v') b o base v' R' := by
 refine ⟨?_, ?_, row_of_block hr (fun g hg => ?_), h.ne, by have := h.base; simp; omega, hW, hA, hl⟩
 ·have := h.cell
  rw [← hcell] at this
  simp [go_sem, this, hf]
 ·simpa [go_sem] using hf
 ·have := (hr.lt g hg).1
  have := h.ne
  exact Go.heap_setCell_other _ _ _ _ (by simp; omega)
theorem add_no (w : World) (b o base : Nat) (v : Value) (R : List Rw) (k : Int) (sa : Option Addr) (sn sc : Nat) (h : TabAt w b o base v R) (hh : hasR R k = true) :
  Calls Tryd.prog 55 #[.pointer (some ⟨b, o, none⟩), .int .i64 k, .slice sa sn sc] w fun e w' => e = .returned (.bool false) ∧ Below w.heap.size w w' := by
 have HT := hid h
 have HH := hid hh
 clear h hh
 go_enter Tryd.func55, Tryd.ntmps55
 go_wp2_with (go_at_call 70; refine (find_any _ b o base v R k HT.out).mono ?_; rw [HH.out]; rintro e w1 ⟨rfl, hb1⟩)
 go_ret
 exact ⟨rfl, hb1⟩
theorem add_yes (w : World) (b o base : Nat) (v : Value) (R : List Rw) (k : Int) (sa : Option Addr) (sn sc : Nat) (h : TabAt w b o base v R) (hh : hasR R k = false) (hl : R.length < 1000000) (hx : Wide 2 [(k, [.slice sa sn sc])]) :
  Calls Tryd.prog 55 #[.pointer (some ⟨b, o, none⟩), .int .i64 k, .slice sa sn sc] w fun e w' => e = .returned (.bool true) ∧ ∃ v', TabAt w' b o base v' (insR R (k, [.slice sa sn sc])) ∧ Only w w' b o v v' := by
 have HT := hid h
 have HH := hid hh
 have hbl := h.lt
 have HX := hid hx
 clear h hh hx
 go_enter Tryd.func55, Tryd.ntmps55
 go_upto_region 4 with (go_at_call 70; refine (find_any _ b o base v R k HT.out).mono ?_; rw [HH.out]; rintro e w1 ⟨rfl, hb1⟩)
 have hbz := hb1.size
 have hT1 : TabAt w1 b o base v R := HT.out.call hb1
 have hB1 : Below w.heap.size w w1 := hb1
 have hcb := hT1.cell
 have hfb := hT1.froz
 have hbl1 := hT1.lt
 have hins : ∀ ob, ob = Obj.cells #[.int .i64 k, .slice sa sn sc] 115 →
   Calls Tryd.prog 71 #[v, .int .i64 (posR R k : Nat), .slice (some ⟨w1.heap.size, 0, none⟩) 1 1] (w1.alloc ob) fun e w' =>
    ∃ g c, e = .returned (.slice (some ⟨g, 0, none⟩) (R.length + 1) c) ∧ TabAt (w'.setCell ⟨b, o, none⟩ (.slice (some ⟨g, 0, none⟩) (R.length + 1) c)) b o base (.slice (some ⟨g, 0, none⟩) (R.length + 1) c) (insR R (k, [.slice sa sn sc])) ∧
     Only w (w'.setCell ⟨b, o, none⟩ (.slice (some ⟨g, 0, none⟩) (R.length + 1) c)) b o v (.slice (some ⟨g, 0, none⟩) (R.length + 1) c) ∧ w'.cell? ⟨b, o, none⟩ = some v ∧ w'.frozen? ⟨b, o, none⟩ = false ∧ b < w'.heap.size := by
  rintro ob rfl
  have hbo : Below w1.heap.size w1 (w1.alloc (Obj.cells #[.int .i64 k, .slice sa sn sc] 115)) := bal (Below.refl _ _) _
  have hT2 := hT1.call hbo
  have hown : v.ownBlock ≠ some w1.heap.size := by
   intro e
   have := (hT1.own e).2
   omega
  refine (ins_any _ base v R (k, [.slice sa sn sc]) w1.heap.size (posR R k) hT2.wide HX.out hT2.le (posR_le R k) hT2.row hT2.base hown (heap_alloc_new w1 _)).mono ?_
  rintro e w2 ⟨v', rfl, hrow, hgr, hat⟩
  have hR' : R.take (posR R k) ++ (k, [.slice sa sn sc]) :: R.drop (posR R k) = insR R (k, [.slice sa sn sc]) := rfl
  rw [hR'] at hrow
  have hfm := hrow
  rw [len_ins] at hfm
  obtain ⟨g, c, rfl⟩ := row_form hfm
  have hsz := hgr.size
  simp at hsz
  have hne : some b ≠ v.ownBlock := by
   intro e
   have := (hT1.own e.symm).1
   have := hT1.ne
   omega
  have hbk : w2.heap[b]? = w1.heap[b]? := (hgr.block b (by simp; omega) hne).trans (heap_alloc_old w1 _ hbl1)
  have hc2 : w2.cell? ⟨b, o, none⟩ = w1.cell? ⟨b, o, none⟩ := World.cell?_of_block hbk
  have hf2 : w2.frozen? ⟨b, o, none⟩ = w1.frozen? ⟨b, o, none⟩ := World.frozen?_of_block hbk
  refine ⟨g, c, rfl, ?_, ⟨hgr.os.trans hB1.os, hgr.tape.trans hB1.tape, hgr.output.trans hB1.output, ?_, ?_, ?_, ?_, ?_⟩, hc2.trans hcb, hf2.trans hfb, by omega⟩
  ·have hrow2 := hrow
   rw [len_ins] at hrow
   exact tab_store hT1 (by omega) hc2 (hf2.trans hfb) (by rw [len_ins]; exact hrow) (by omega) (wide_ins hT1.wide HX.out) (asc_ins hT1.asc HH.out) (by rw [len_ins]; omega)
  ·simp; omega
  ·intro j hj hjb hjv
   rw [Go.heap_setCell_other _ _ _ _ (by simpa using hjb)]
   exact (hgr.block j (by simp; omega) (fun e => hjv e.symm)).trans ((heap_alloc_old w1 _ (by omega)).trans (hB1.block j hj))
  ·intro j hj
   have : (w2.setCell ⟨b, o, none⟩ (.slice (some ⟨g, 0, none⟩) (R.length + 1) c)).cell? ⟨b, j, none⟩ = w2.cell? ⟨b, j, none⟩ := by
    apply World.cell?_setCell_other
    intro e
    simp at e
    try exact hj e.symm
   rw [this, show w2.cell? ⟨b, j, none⟩ = w1.cell? ⟨b, j, none⟩ from World.cell?_of_block hbk]
   exact hB1.cell (p := ⟨b, j, none⟩) hbl
  ·intro j
   have : (w2.setCell ⟨b, o, none⟩ (.slice (some ⟨g, 0, none⟩) (R.length + 1) c)).frozen? ⟨b, j, none⟩ = w2.frozen? ⟨b, j, none⟩ := by simp [go_sem]
   rw [this, show w2.frozen? ⟨b, j, none⟩ = w1.frozen? ⟨b, j, none⟩ from World.frozen?_of_block hbk]
   exact hB1.frozen (p := ⟨b, j, none⟩) hbl
  ·rcases hat with h | ⟨g2, h1, h2⟩
   ·exact .inl h
   ·refine .inr ⟨g2, h1, ?_⟩
    simp at h2
    omega
 have HINS := hid hins
 clear hins hT1 hB1
 go_wp2_with (go_at_call 71; with_reducible refine (HINS.out _ rfl).mono ?_; rintro e w2 ⟨g, c, rfl, hT3, hO3, hc3, hf3, hz3⟩; have HT3 := hid hT3; have HO3 := hid hO3; clear hT3 hO3)
 all_goals go_ret
 all_goals exact ⟨rfl, _, HT3.out, HO3.out⟩
end TabS
end
end Go.Proofs.YtekllgejmgoajaaDoor
