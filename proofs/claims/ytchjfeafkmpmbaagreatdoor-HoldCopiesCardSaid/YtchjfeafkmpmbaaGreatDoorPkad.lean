import Derived.Test.YtchjfeafkmpmbaaGreatDoorPkac
import Derived.Laws.MakeOwn
import Derived.Test.YtchjfeafkmpmbaaGreatDoorRows
import Derived.Test.YtchjfeafkmpmbaaGreatDoorFrame
import Derived.WalkKit
import Derived.ProofKit
import Derived.WalkSmall
import Derived.Lib.Hide
import Derived.Lib.TrailingZeros
import Derived.Laws.BitsAllLaws
namespace Go.Proofs.YtchjfeafkmpmbaaGreatDoor
set_option linter.unusedVariables false
set_option linter.unusedSimpArgs false
set_option maxRecDepth 100000
set_option maxHeartbeats 8000000
open Lib (hid)
section
open Go.ChangeShapes Go.WideShapes Go.ChangeAt Go.RowKit Go.Shelf
namespace TabS
structure Cp where
 a : Int
 b : Int
 c : Int
 d : Int
 e : Int
 f : Int
 g : Int
 h : Int
def Cp.L (x : Cp) : List Value := [.int .i64 x.a, .int .i64 x.b, .int .i64 x.c, .int .u64 x.d, .int .i64 x.e, .int .i64 x.f, .int .i64 x.g, .int .i64 x.h]
abbrev Cp.V (x : Cp) : Value := .agg #[.int .i64 x.a, .int .i64 x.b, .int .i64 x.c, .int .u64 x.d, .int .i64 x.e, .int .i64 x.f, .int .i64 x.g, .int .i64 x.h]
def zC : Cp := ⟨0, 0, 0, 0, 0, 0, 0, 0⟩
def flatC (l : List Cp) : List Value := l.flatMap Cp.L
theorem flatC_len (l : List Cp) : (flatC l).length = l.length * 8 := by
 induction l with
 | nil => rfl
 | cons x t ih =>
  have : flatC (x :: t) = x.L ++ flatC t := rfl
  rw [this, List.length_append, ih]
  simp [Cp.L]
  omega
theorem flatC_get {l : List Cp} {i : Nat} {c : Cp} (h : l[i]? = some c) {j : Nat} {u : Value} (hu : c.L[j]? = some u) : (flatC l)[i * 8 + j]? = some u := by
 induction l generalizing i with
 | nil => simp at h
 | cons x t ih =>
  have e : flatC (x :: t) = x.L ++ flatC t := rfl
  have hx : x.L.length = 8 := rfl
  rw [e]
  cases i with
  | zero =>
   simp at h
   subst h
   have := (lgs hu).1
   rw [List.getElem?_append_left (by omega)]
   simpa using hu
  | succ i =>
   rw [List.getElem?_append_right (by omega), show (i + 1) * 8 + j - x.L.length = i * 8 + j by omega]
   exact ih (by simpa using h)
theorem flatC_set {l : List Cp} {i : Nat} (c : Cp) (h : i < l.length) : flatC (l.set i c) = (flatC l).take (i * 8) ++ c.L ++ (flatC l).drop (i * 8 + 8) := by
 induction l generalizing i with
 | nil => simp at h
 | cons x t ih =>
  have hx : x.L.length = 8 := rfl
  have e : flatC (x :: t) = x.L ++ flatC t := rfl
  cases i with
  | zero =>
   show c.L ++ flatC t = _
   rw [e]
   simp [hx]
  | succ i =>
   show x.L ++ flatC (t.set i c) = _
   rw [ih (by simpa using h), e, List.take_append, List.drop_append, List.take_of_length_le (l := x.L) (i := (i + 1) * 8) (by omega), List.drop_of_length_le (l := x.L) (i := (i + 1) * 8 + 8) (by omega), show (i + 1) * 8 - x.L.length = i * 8 by omega, show (i + 1) * 8 + 8 - x.L.length = i * 8 + 8 by omega]
   simp
theorem flatC_zero (n : Nat) : (madeCells (Cp.V zC).cells (n * 8)).toList = flatC (List.replicate n zC) := by
 apply List.ext_getElem?
 intro j
 by_cases hj : j < n * 8
 ·have hd : j = j / 8 * 8 + j % 8 := by omega
  have h8 : j % 8 < 8 := Nat.mod_lt _ (by decide)
  have hl : zC.L[j % 8]? = some (zC.L[j % 8]'h8) := List.getElem?_eq_getElem h8
  have hr : (flatC (List.replicate n zC))[j]? = some (zC.L[j % 8]'h8) := by
   have := flatC_get (l := List.replicate n zC) (i := j / 8) (c := zC) (by rw [List.getElem?_replicate, if_pos (by omega)]) hl
   rwa [← hd] at this
  rw [hr]
  rw [Array.getElem?_toList]
  unfold madeCells
  rw [Array.getElem?_map, Array.getElem?_range, if_pos hj]
  simp only [Option.map_some, Option.some.injEq]
  show (#[Value.int .i64 0, .int .i64 0, .int .i64 0, .int .u64 0, .int .i64 0, .int .i64 0, .int .i64 0, .int .i64 0] : Array Value)[j % 8]! = _
  have hcase : j % 8 = 0 ∨ j % 8 = 1 ∨ j % 8 = 2 ∨ j % 8 = 3 ∨ j % 8 = 4 ∨ j % 8 = 5 ∨ j % 8 = 6 ∨ j % 8 = 7 := by omega
  clear hl hr hd
  generalize j % 8 = q at *
  rcases hcase with rfl | rfl | rfl | rfl | rfl | rfl | rfl | rfl <;> rfl
 ·rw [List.getElem?_eq_none (by simp [size_madeCells]; omega), List.getElem?_eq_none (by rw [flatC_len]; simp; omega)]
theorem putL_eq : ∀ (L : List Value) (cs : List Value) (k : Nat), k + L.length ≤ cs.length → putL cs.toArray k L = (cs.take k ++ L ++ cs.drop (k + L.length)).toArray
 | [], cs, k, h => by simp [putL]
 | v :: t, cs, k, h => by
  simp only [List.length_cons] at h
  unfold putL
  rw [List.setIfInBounds_toArray, putL_eq t (cs.set k v) (k + 1) (by simp; omega)]
  congr 1
  rw [List.take_succ_eq_append_getElem (by simp; omega), List.drop_set_of_lt (by omega), show k + 1 + t.length = k + (v :: t).length by simp; omega, List.take_set_of_le (Nat.le_refl _)]
  simp
structure Sn where
 id : Int
 g : Nat
 l : List Cp
abbrev Sn.v (x : Sn) : Value := .slice (some ⟨x.g, 0, none⟩) x.l.length x.l.length
def rowS (x : Sn) : Rw := (x.id, [x.v])
def rowsS (L : List Sn) : List Rw := L.map rowS
theorem rowsS_len (L : List Sn) : (rowsS L).length = L.length := by simp [rowsS]
theorem rowsS_get {L : List Sn} {k : Nat} : (rowsS L)[k]? = L[k]?.map rowS := by simp [rowsS]
structure SlotsAt (w : World) (b base : Nat) (tv : Value) (L : List Sn) : Prop where
 tab : TabAt w b 0 base tv (rowsS L)
 blk : ∀ x ∈ L, w.heap[x.g]? = some (.cells (flatC x.l).toArray 33 (0, 0)) ∧ base ≤ x.g
 ap : L.Pairwise fun x y => x.g ≠ y.g
 nt : ∀ x ∈ L, tv.ownBlock ≠ some x.g
 bd : ∀ x ∈ L, x.l.length ≤ 16
theorem SlotsAt.lt {w : World} {b base : Nat} {tv : Value} {L : List Sn} (h : SlotsAt w b base tv L) : b < w.heap.size := h.tab.lt
theorem SlotsAt.glt {w : World} {b base : Nat} {tv : Value} {L : List Sn} (h : SlotsAt w b base tv L) {x : Sn} (hx : x ∈ L) : x.g < w.heap.size := (ags (h.blk x hx).1).1
theorem SlotsAt.gne {w : World} {b base : Nat} {tv : Value} {L : List Sn} (h : SlotsAt w b base tv L) {x : Sn} (hx : x ∈ L) : x.g ≠ b := by
 have := h.tab.ne
 have := (h.blk x hx).2
 omega
theorem SlotsAt.call {w w' : World} {b base : Nat} {tv : Value} {L : List Sn} (h : SlotsAt w b base tv L) (hb : Below w.heap.size w w') : SlotsAt w' b base tv L :=
 ⟨h.tab.call hb, fun x hx => ⟨(hb.block x.g (h.glt hx)).trans (h.blk x hx).1, (h.blk x hx).2⟩, h.ap, h.nt, h.bd⟩
theorem SlotsAt.cell {w : World} {b base : Nat} {tv : Value} {L : List Sn} (h : SlotsAt w b base tv L) {x : Sn} (hx : x ∈ L) {i : Nat} {c : Cp} (hi : x.l[i]? = some c) {j : Nat} {u : Value} (hu : c.L[j]? = some u) : w.cell? ⟨x.g, i * 8 + j, none⟩ = some u := by
 rw [cell_of_row _ _ _ _ _ _ (h.blk x hx).1]
 simpa using flatC_get hi hu
theorem SlotsAt.free {w : World} {b base : Nat} {tv : Value} {L : List Sn} (h : SlotsAt w b base tv L) {x : Sn} (hx : x ∈ L) (j : Nat) : w.frozen? ⟨x.g, j, none⟩ = false := by
 simp [World.frozen?, (h.blk x hx).1]
structure SOnly (w w' : World) (b : Nat) (tv tv' : Value) (L L' : List Sn) : Prop where
 os : w'.os = w.os
 tape : w'.tape = w.tape
 output : w'.output = w.output
 size : w.heap.size ≤ w'.heap.size
 block : ∀ k, k < w.heap.size → k ≠ b → tv.ownBlock ≠ some k → (∀ x ∈ L, x.g ≠ k) → w'.heap[k]? = w.heap[k]?
 foot : ∀ k, k < w.heap.size → (tv'.ownBlock = some k ∨ ∃ x ∈ L', x.g = k) → (tv.ownBlock = some k ∨ ∃ x ∈ L, x.g = k)
theorem wideS (x : Sn) : Wide 2 [rowS x] := by
 intro r hr
 simp at hr
 subst hr
 refine ⟨rfl, fun u hu => ?_⟩
 simp [rcells, rowS] at hu
 rcases hu with rfl | rfl <;> rfl
def hasS (L : List Sn) (id : Int) : Bool := hasR (rowsS L) id
def posS (L : List Sn) (id : Int) : Nat := posR (rowsS L) id
def insS (L : List Sn) (x : Sn) : List Sn := L.take (posS L x.id) ++ x :: L.drop (posS L x.id)
theorem rowsS_ins (L : List Sn) (x : Sn) : rowsS (insS L x) = insR (rowsS L) (rowS x) := by
 unfold insS insR rowsS
 rw [List.map_append, List.map_cons, List.map_take, List.map_drop]
 rfl
theorem mem_insS {L : List Sn} {x y : Sn} (h : y ∈ insS L x) : y = x ∨ y ∈ L := by
 unfold insS at h
 rcases List.mem_append.1 h with q | q
 ·exact .inr (List.mem_of_mem_take q)
 ·rcases List.mem_cons.1 q with q | q
  ·exact .inl q
  ·exact .inr (List.mem_of_mem_drop q)
def delS (L : List Sn) (id : Int) : List Sn := L.take (posS L id) ++ L.drop (posS L id + 1)
theorem rowsS_del (L : List Sn) (id : Int) : rowsS (delS L id) = delR (rowsS L) id := by
 unfold delS delR rowsS
 rw [List.map_append, List.map_take, List.map_drop]
 rfl
theorem sub_delS (L : List Sn) (id : Int) : (delS L id).Sublist L := by
 unfold delS
 conv => rhs; rw [← List.take_append_drop (posS L id) L]
 refine List.Sublist.append (List.Sublist.refl _) ?_
 rw [← List.drop_drop]
 exact List.drop_sublist _ _
theorem pair_insS {L : List Sn} (h : L.Pairwise fun x y => x.g ≠ y.g) (x : Sn) (hx : ∀ y ∈ L, y.g ≠ x.g) : (insS L x).Pairwise fun x y => x.g ≠ y.g := by
 have hs := h
 rw [← List.take_append_drop (posS L x.id) L, List.pairwise_append] at hs
 unfold insS
 rw [List.pairwise_append]
 refine ⟨hs.1, List.pairwise_cons.2 ⟨fun y hy => Ne.symm (hx y (List.mem_of_mem_drop hy)), hs.2.1⟩, fun a ha c hc => ?_⟩
 rcases List.mem_cons.1 hc with rfl | hc
 ·exact hx a (List.mem_of_mem_take ha)
 ·exact hs.2.2 a ha c hc
theorem hasS_at {w : World} {b base : Nat} {tv : Value} {L : List Sn} (h : SlotsAt w b base tv L) {id : Int} : hasS L id = true ↔ ∃ x, L[posS L id]? = some x ∧ x.id = id := by
 unfold hasS posS
 rw [hasR_at h.tab.asc]
 constructor
 ·rintro ⟨r, hr, he⟩
  rw [rowsS_get] at hr
  cases hq : L[posR (rowsS L) id]? with
  | none => rw [hq] at hr; cases hr
  | some x => rw [hq] at hr; cases hr; exact ⟨x, rfl, he⟩
 ·rintro ⟨x, hx, he⟩
  exact ⟨rowS x, by rw [rowsS_get, hx]; rfl, he⟩
theorem snew_any' (W : World) : Calls Tryz.prog 73 #[] W fun e w' => e = .returned (.pointer (some ⟨W.heap.size, 0, none⟩)) ∧ SlotsAt w' W.heap.size (W.heap.size + 1) (.slice none 0 0) [] ∧ Below W.heap.size W w' := by
 go_enter Tryz.func73, Tryz.ntmps73
 go_wp2
 go_ret
 refine ⟨rfl, ⟨⟨?_, ?_, World.ownsRow_nil _ _ _ _, Nat.lt_succ_self _, by simp, (fun r hr => by cases hr), List.Pairwise.nil, by simp [rowsS]⟩, (fun x hx => by cases hx), List.Pairwise.nil, (fun x hx => by cases hx), (fun x hx => by cases hx)⟩, bal (Below.refl _ _) _⟩
 ·go_simp
 ·go_simp
theorem infoCap : (Tryz.prog.info? 33).map (fun i => (i.zero, i.size, i.bytes)) = some (some (Cp.V zC), 8, 64) := by kernel_rfl
theorem make_caps (w : World) (n : Nat) (hn : n ≤ 16) : ∃ w1, (Instr.makeSlice 108 (.int .i64 n) (.int .i64 n)).run Tryz.prog w = .ok (.slice (some ⟨w.heap.size, 0, none⟩) n n) w1 ∧
  w1.heap[w.heap.size]? = some (.cells (flatC (List.replicate n zC)).toArray 33 (0, 0)) ∧ Below w.heap.size w w1 := by
 obtain ⟨i0, hi, hz0, hz1, hz2⟩ := info_parts infoCap
 obtain ⟨w1, hrun, hown, hgr⟩ := run_make_full (P := Tryz.prog) w w.heap.size 108 33 i0 _ 8 Tryz.underlying108 hi hz0 hz1 .i64 .i64 n (by rw [hz2]; omega) (by unfold maxLen; omega) (Nat.le_refl _)
 rw [flatC_zero] at hown
 refine ⟨w1, hrun, ?_, (Below.refl _ _).grown hgr (Nat.le_refl _) (fun j e => by cases e)⟩
 rcases hown.2 with ⟨h1, _⟩ | ⟨g, cap, cur, hv, q1, q2, q3, q4, q5, q6⟩
 ·cases h1
 ·simp only [Value.slice.injEq, Option.some.injEq, Addr.mk.injEq, and_true, true_and] at hv
  obtain ⟨rfl, rfl⟩ := hv
  rw [q2]
  have : cur = (flatC (List.replicate n zC)).toArray := by
   rw [← q6, List.take_of_length_le (by rw [Array.length_toList, q5]; exact Nat.le_refl _)]
  rw [this]
theorem SlotsAt.table {w w' : World} {b base : Nat} {tv tv' : Value} {L L' : List Sn} (h : SlotsAt w b base tv L) (hT : TabAt w' b 0 base tv' (rowsS L')) (hO : Only w w' b 0 tv tv') (hL : ∀ x ∈ L', x ∈ L) (hp : L'.Pairwise fun x y => x.g ≠ y.g) :
  SlotsAt w' b base tv' L' ∧ SOnly w w' b tv tv' L L' := by
 refine ⟨⟨hT, fun x hx => ⟨(hO.block x.g (h.glt (hL x hx)) (h.gne (hL x hx)) (h.nt x (hL x hx))).trans (h.blk x (hL x hx)).1, (h.blk x (hL x hx)).2⟩, hp, fun x hx e => ?_, fun x hx => h.bd x (hL x hx)⟩, ⟨hO.os, hO.tape, hO.output, hO.size, fun k hk1 h1 h2 _ => hO.block k hk1 h1 h2, fun k hk1 e => ?_⟩⟩
 ·rcases hO.foot with p | ⟨g, p, hg⟩
  ·exact h.nt x (hL x hx) (p ▸ e)
  ·rw [p] at e
   cases e
   have := h.glt (hL x hx)
   omega
 ·rcases e with e | ⟨x, hx, e⟩
  ·rcases hO.foot with p | ⟨g, p, hg⟩
   ·exact .inl (p ▸ e)
   ·rw [p] at e; cases e; omega
  ·exact .inr ⟨x, hL x hx, e⟩
def addSR (L : List Sn) (id n : Int) : Int := if id < 1 ∨ n < 1 ∨ 16 < n then 2 else if hasS L id then 11 else 0
theorem sadd_arg (w : World) (b : Nat) (id n : Int) (hn : id < 1 ∨ n < 1 ∨ 16 < n) :
  Calls Tryz.prog 75 #[.pointer (some ⟨b, 0, none⟩), .int .i64 id, .int .i64 n] w fun e w' => e = .returned (.int .i64 2) ∧ w = w' := by
 by_cases h1 : id < 1
 ·go_enter Tryz.func75, Tryz.ntmps75
  go_wp2
  go_ret
  exact ⟨rfl, rfl⟩
 ·by_cases h2 : n < 1
  ·go_enter Tryz.func75, Tryz.ntmps75
   go_wp2
   go_ret
   exact ⟨rfl, rfl⟩
  ·have h3 : 16 < n := by omega
   go_enter Tryz.func75, Tryz.ntmps75
   go_wp2
   go_ret
   exact ⟨rfl, rfl⟩
theorem sadd_full (w : World) (b base : Nat) (tv : Value) (L : List Sn) (id : Int) (n : Nat) (h : SlotsAt w b base tv L) (h1 : 1 ≤ id) (h2 : 1 ≤ n) (h3 : n ≤ 16) (hh : hasS L id = true) :
  Calls Tryz.prog 75 #[.pointer (some ⟨b, 0, none⟩), .int .i64 id, .int .i64 n] w fun e w' => e = .returned (.int .i64 11) ∧ Below w.heap.size w w' := by
 obtain ⟨w1, hrun, hblk, hb1⟩ := make_caps w.drew n h3
 have hb0 : Below w.heap.size w w1 := (Below.refl w.heap.size w).drew.trans hb1
 have hT1 := (h.call hb0).tab
 have HADD := hid (add_no w1 b 0 base tv (rowsS L) id (some ⟨w.drew.heap.size, 0, none⟩) n n hT1 hh)
 have h2' : 1 ≤ (n : Int) := by omega
 have h3' : (n : Int) ≤ 16 := by omega
 have HB0 := hid hb0
 clear h hh hblk hb1 hb0 hT1
 go_enter Tryz.func75, Tryz.ntmps75
 go_wp2
 go_region_with (first | (go_at_call 107; refine HADD.out.mono ?_; rintro e w2 ⟨rfl, hb2⟩))
 all_goals
  go_wp2
  go_ret
  exact ⟨rfl, bgo HB0.out hb2⟩
theorem sadd_yes (w : World) (b base : Nat) (tv : Value) (L : List Sn) (id : Int) (n : Nat) (h : SlotsAt w b base tv L) (hl : L.length < 1000000) (h1 : 1 ≤ id) (h2 : 1 ≤ n) (h3 : n ≤ 16) (hh : hasS L id = false) :
  Calls Tryz.prog 75 #[.pointer (some ⟨b, 0, none⟩), .int .i64 id, .int .i64 n] w fun e w' => e = .returned (.int .i64 0) ∧ ∃ tv' g, w.heap.size ≤ g ∧ SlotsAt w' b base tv' (insS L ⟨id, g, List.replicate n zC⟩) ∧ SOnly w w' b tv tv' L (insS L ⟨id, g, List.replicate n zC⟩) := by
 obtain ⟨w1, hrun, hblk, hb1⟩ := make_caps w.drew n h3
 have hb0 : Below w.heap.size w w1 := (Below.refl w.heap.size w).drew.trans hb1
 have hd : w.drew.heap.size = w.heap.size := rfl
 have hS1 := h.call hb0
 have hlt : w.heap.size < w1.heap.size := (ags hblk).1
 have hadd := add_yes w1 b 0 base tv (rowsS L) id (some ⟨w.drew.heap.size, 0, none⟩) n n hS1.tab hh (by rw [rowsS_len]; exact hl) (by have := wideS ⟨id, w.heap.size, List.replicate n zC⟩; simpa [rowS, Sn.v] using this)
 have HADD := hid hadd
 have hfin : ∀ w' v', TabAt w' b 0 base v' (insR (rowsS L) (id, [.slice (some ⟨w.drew.heap.size, 0, none⟩) n n])) → Only w1 w' b 0 tv v' → SlotsAt w' b base v' (insS L ⟨id, w.heap.size, List.replicate n zC⟩) ∧ SOnly w w' b tv v' L (insS L ⟨id, w.heap.size, List.replicate n zC⟩) := by
  intro w' v' t1 o1
  have hne : ∀ y ∈ L, y.g ≠ w.heap.size := fun y hy => Nat.ne_of_lt (h.glt hy)
  have hold : ∀ x ∈ L, w'.heap[x.g]? = some (.cells (flatC x.l).toArray 33 (0, 0)) := fun x hx => (o1.block x.g (hS1.glt hx) (hS1.gne hx) (hS1.nt x hx)).trans (hS1.blk x hx).1
  have hnb : w.heap.size ≠ b := Ne.symm (Nat.ne_of_lt h.lt)
  have hnt : tv.ownBlock ≠ some w.heap.size := fun e => by have := (h.tab.own e).2; omega
  refine ⟨⟨?_, fun x hx => ?_, pair_insS h.ap _ hne, fun x hx e => ?_, fun x hx => ?_⟩, ⟨o1.os.trans hb0.os, o1.tape.trans hb0.tape, o1.output.trans hb0.output, Nat.le_trans (Nat.le_of_lt hlt) o1.size, fun k hk1 p1 p2 _ => (o1.block k (by omega) p1 p2).trans (hb0.block k hk1), fun k hk1 e => ?_⟩⟩
  ·rw [rowsS_ins]
   have : rowS ⟨id, w.heap.size, List.replicate n zC⟩ = (id, [.slice (some ⟨w.drew.heap.size, 0, none⟩) n n]) := by simp [rowS, hd]
   rw [this]
   exact t1
  ·rcases mem_insS hx with rfl | q
   ·exact ⟨(o1.block _ hlt hnb hnt).trans hblk, by have := h.tab.base; exact this⟩
   ·exact ⟨hold x q, (h.blk x q).2⟩
  ·have hx2 : x.g < w1.heap.size ∧ tv.ownBlock ≠ some x.g := by
    rcases mem_insS hx with rfl | q
    ·exact ⟨hlt, hnt⟩
    ·exact ⟨hS1.glt q, h.nt x q⟩
   rcases o1.foot with p | ⟨g, p, hg⟩
   ·exact hx2.2 (p ▸ e)
   ·rw [p] at e
    cases e
    have := hx2.1
    omega
  ·rcases mem_insS hx with rfl | q
   ·simpa using h3
   ·exact h.bd x q
  ·rcases e with e | ⟨x, hx, e⟩
   ·rcases o1.foot with p | ⟨g, p, hg⟩
    ·exact .inl (p ▸ e)
    ·rw [p] at e; cases e; omega
   ·rcases mem_insS hx with rfl | q
    ·exact absurd e (Ne.symm (Nat.ne_of_lt hk1))
    ·exact .inr ⟨x, q, e⟩
 have HF := hid hfin
 have h2' : 1 ≤ (n : Int) := by omega
 have h3' : (n : Int) ≤ 16 := by omega
 clear h hh hblk hb1 hb0 hS1 hfin hadd hd hlt
 go_enter Tryz.func75, Tryz.ntmps75
 go_wp2
 go_region_with (first | (go_at_call 107; refine HADD.out.mono ?_; rintro e w2 ⟨rfl, v', t1, o1⟩; have T1 := hid t1; have O1 := hid o1; clear t1 o1))
 all_goals
  go_wp2
  go_ret
  exact ⟨rfl, v', w.heap.size, Nat.le_refl _, HF.out _ _ T1.out O1.out⟩
theorem SlotsAt.place {w : World} {b base : Nat} {tv : Value} {L : List Sn} (h : SlotsAt w b base tv L) {k : Nat} {x : Sn} (hk : L[k]? = some x) :
  ∃ g c, tv = .slice (some ⟨g, 0, none⟩) L.length c ∧ g < w.heap.size ∧ w.cell? ⟨g, k * 2, none⟩ = some (.int .i64 x.id) ∧ w.cell? ⟨g, k * 2 + 1, none⟩ = some x.v := by
 rcases h.tab.form with ⟨_, h2⟩ | ⟨g, c, h1, hg, _, _, _, hr⟩
 ·have := (lgs hk).1
  have h3 := rowsS_len L
  rw [h2] at h3
  simp at h3
  omega
 ·have hrk : (rowsS L)[k]? = some (rowS x) := by rw [rowsS_get, hk]; rfl
  refine ⟨g, c, by rw [h1, rowsS_len], hg, ?_, ?_⟩
  ·have := hr k 0 (rowS x) (.int .i64 x.id) hrk rfl
   simpa using this
  ·exact hr k 1 (rowS x) x.v hrk rfl
theorem place_eq (g n c p : Nat) : placeV (.slice (some ⟨g, 0, none⟩) n c) p true = .pointer (some ⟨g, p * 2 + 1, none⟩) := rfl
theorem sat_none (w : World) (b base : Nat) (tv : Value) (L : List Sn) (id ix : Int) (h : SlotsAt w b base tv L) (hh : hasS L id = false) :
  Calls Tryz.prog 102 #[.pointer (some ⟨b, 0, none⟩), .agg #[.int .i64 id, .int .i64 ix]] w fun e w' => e = .returned (.tuple #[.pointer none, .int .i64 3]) ∧ Below w.heap.size w w' := by
 have HH := Lib.hid (show hasR (rowsS L) id = false from hh)
 clear hh
 have H := Lib.hid h
 clear h
 go_enter Tryz.func102, Tryz.ntmps102
 go_wp2
 obtain ⟨w1, hw1⟩ : ∃ y, y = w.alloc (.cells #[.int .i64 id, .int .i64 ix] 30) := ⟨_, rfl⟩
 rw [← hw1]
 have x0 : w1.cell? ⟨w.heap.size, 0, none⟩ = some (.int .i64 id) := by rw [hw1]; simp [go_sem]
 have x1 : w1.cell? ⟨w.heap.size, 1, none⟩ = some (.int .i64 ix) := by rw [hw1]; simp [go_sem]
 have xs : w.heap.size < w1.heap.size := by rw [hw1]; simp
 have B1 : Below w.heap.size w w1 := hw1 ▸ bal (Below.refl _ _) _
 have H1 := H.out.call B1
 clear hw1
 have R0 := Lib.hid (fun v (hw : KeptQ w1.heap.size w1 v) => (hw.1.cell (p := ⟨w.heap.size, 0, none⟩) xs).trans x0)
 have RG := Lib.hid (fun v (hw : KeptQ w1.heap.size w1 v) => get_any v b 0 base _ (rowsS L) id (H1.call hw.1).tab)
 refine wp_region_keptQ w1.heap.size w1 (by kernel_rfl) (by kernel_rfl) (KeptQ.refl (Nat.le_refl _)) ?_
 repeat (first
  | go_big_quiet_skip
  | (go_big_quiet_want; first
   | (refine quietQ_load_cell 3 _ rfl ⟨w.heap.size, 0, none⟩ rfl _ R0.out _ Tryz.underlying3 rfl ?_; simp only [Act.put, List.setIfInBounds_toArray, List.set_cons_zero, List.set_cons_succ]; go_big_quiet_on)
   | (go_big_quiet_op; first
    | go_big_quiet_on
    | (refine ⟨_, fun _ _ => rfl, ?_⟩; go_big_quiet_on)
    | go_big_quiet_call ((intro hw; go_at_call 114; refine (RG.out _ hw).mono ?_; rw [HH.out]; rintro e w7 ⟨rfl, hb7⟩; exact ⟨rfl, hw.call hb7⟩)))))
 refine wpQuiet_nil ?_
 intro w2 hw2
 have y1 := (hw2.1.cell (p := ⟨w.heap.size, 1, none⟩) xs).trans x1
 have B2 := hw2.below (m := w.heap.size) (by omega) B1
 clear R0 RG hw2 x0 x1 H1
 go_wp2
 go_quiet (fail)
 go_wp2
 go_ret2
 exact ⟨rfl, below_drewN B2 _⟩
theorem sat_low (w : World) (b base : Nat) (tv : Value) (L : List Sn) (id ix : Int) (x : Sn) (h : SlotsAt w b base tv L) (hx : L[posS L id]? = some x) (hid : x.id = id) (hi : ix < 0) :
  Calls Tryz.prog 102 #[.pointer (some ⟨b, 0, none⟩), .agg #[.int .i64 id, .int .i64 ix]] w fun e w' => e = .returned (.tuple #[.pointer none, .int .i64 3]) ∧ Below w.heap.size w w' := by
 have hh : hasS L id = true := (hasS_at h).2 ⟨x, hx, hid⟩
 obtain ⟨p, hp⟩ : ∃ p, posR (rowsS L) id = p := ⟨_, rfl⟩
 have HH := Lib.hid (show hasR (rowsS L) id = true from hh)
 have HP := Lib.hid hp
 obtain ⟨g, c, rfl, hg, -, c1⟩ := h.place hx
 rw [show posS L id = p from hp] at c1
 obtain ⟨gx, hgx⟩ : ∃ y, y = x.g := ⟨_, rfl⟩
 obtain ⟨n, hn⟩ : ∃ y, y = x.l.length := ⟨_, rfl⟩
 rw [show x.v = .slice (some ⟨gx, 0, none⟩) n n by rw [hgx, hn]] at c1
 have hd : decide (ix < 0) = true := decide_eq_true hi
 clear hh hp hx hid hgx hn
 have H := Lib.hid h
 clear h
 go_enter Tryz.func102, Tryz.ntmps102
 go_wp2
 obtain ⟨w1, hw1⟩ : ∃ y, y = w.alloc (.cells #[.int .i64 id, .int .i64 ix] 30) := ⟨_, rfl⟩
 rw [← hw1]
 have x0 : w1.cell? ⟨w.heap.size, 0, none⟩ = some (.int .i64 id) := by rw [hw1]; simp [go_sem]
 have x1 : w1.cell? ⟨w.heap.size, 1, none⟩ = some (.int .i64 ix) := by rw [hw1]; simp [go_sem]
 have xs : w.heap.size < w1.heap.size := by rw [hw1]; simp
 have B1 : Below w.heap.size w w1 := hw1 ▸ bal (Below.refl _ _) _
 have H1 := H.out.call B1
 have c2 := (B1.cell (p := ⟨g, p * 2 + 1, none⟩) hg).trans c1
 have hg1 : g < w1.heap.size := Nat.lt_of_lt_of_le hg B1.size
 clear hw1
 have R0 := Lib.hid (fun v (hw : KeptQ w1.heap.size w1 v) => (hw.1.cell (p := ⟨w.heap.size, 0, none⟩) xs).trans x0)
 have RG := Lib.hid (fun v (hw : KeptQ w1.heap.size w1 v) => get_any v b 0 base _ (rowsS L) id (H1.call hw.1).tab)
 refine wp_region_keptQ w1.heap.size w1 (by kernel_rfl) (by kernel_rfl) (KeptQ.refl (Nat.le_refl _)) ?_
 repeat (first
  | go_big_quiet_skip
  | (go_big_quiet_want; first
   | (refine quietQ_load_cell 3 _ rfl ⟨w.heap.size, 0, none⟩ rfl _ R0.out _ Tryz.underlying3 rfl ?_; simp only [Act.put, List.setIfInBounds_toArray, List.set_cons_zero, List.set_cons_succ]; go_big_quiet_on)
   | (go_big_quiet_op; first
    | go_big_quiet_on
    | (refine ⟨_, fun _ _ => rfl, ?_⟩; go_big_quiet_on)
    | go_big_quiet_call ((intro hw; go_at_call 114; refine (RG.out _ hw).mono ?_; rw [HH.out, HP.out, place_eq]; rintro e w7 ⟨rfl, hb7⟩; exact ⟨rfl, hw.call hb7⟩)))))
 refine wpQuiet_nil ?_
 intro w2 hw2
 have y1 := (hw2.1.cell (p := ⟨w.heap.size, 1, none⟩) xs).trans x1
 have y2 := (hw2.1.cell (p := ⟨g, p * 2 + 1, none⟩) hg1).trans c2
 clear c1 c2
 have B2 := hw2.below (m := w.heap.size) (by omega) B1
 clear R0 RG hw2 x0 x1 H1
 go_wp2
 go_quiet (fail)
 go_wp2
 go_ret2
 exact ⟨rfl, below_drewN B2 _⟩
theorem sat_high (w : World) (b base : Nat) (tv : Value) (L : List Sn) (id ix : Int) (x : Sn) (h : SlotsAt w b base tv L) (hx : L[posS L id]? = some x) (hid : x.id = id) (hi : (x.l.length : Int) ≤ ix) :
  Calls Tryz.prog 102 #[.pointer (some ⟨b, 0, none⟩), .agg #[.int .i64 id, .int .i64 ix]] w fun e w' => e = .returned (.tuple #[.pointer none, .int .i64 3]) ∧ Below w.heap.size w w' := by
 have hh : hasS L id = true := (hasS_at h).2 ⟨x, hx, hid⟩
 obtain ⟨p, hp⟩ : ∃ p, posR (rowsS L) id = p := ⟨_, rfl⟩
 have HH := Lib.hid (show hasR (rowsS L) id = true from hh)
 have HP := Lib.hid hp
 obtain ⟨g, c, rfl, hg, -, c1⟩ := h.place hx
 rw [show posS L id = p from hp] at c1
 obtain ⟨gx, hgx⟩ : ∃ y, y = x.g := ⟨_, rfl⟩
 obtain ⟨n, hn⟩ : ∃ y, y = x.l.length := ⟨_, rfl⟩
 rw [show x.v = .slice (some ⟨gx, 0, none⟩) n n by rw [hgx, hn]] at c1
 rw [← hn] at hi; have hd : decide (ix < 0) = false := decide_eq_false (by omega); have hd2 : decide ((n : Int) ≤ ix) = true := decide_eq_true hi
 clear hh hp hx hid hgx hn
 have H := Lib.hid h
 clear h
 go_enter Tryz.func102, Tryz.ntmps102
 go_wp2
 obtain ⟨w1, hw1⟩ : ∃ y, y = w.alloc (.cells #[.int .i64 id, .int .i64 ix] 30) := ⟨_, rfl⟩
 rw [← hw1]
 have x0 : w1.cell? ⟨w.heap.size, 0, none⟩ = some (.int .i64 id) := by rw [hw1]; simp [go_sem]
 have x1 : w1.cell? ⟨w.heap.size, 1, none⟩ = some (.int .i64 ix) := by rw [hw1]; simp [go_sem]
 have xs : w.heap.size < w1.heap.size := by rw [hw1]; simp
 have B1 : Below w.heap.size w w1 := hw1 ▸ bal (Below.refl _ _) _
 have H1 := H.out.call B1
 have c2 := (B1.cell (p := ⟨g, p * 2 + 1, none⟩) hg).trans c1
 have hg1 : g < w1.heap.size := Nat.lt_of_lt_of_le hg B1.size
 clear hw1
 have R0 := Lib.hid (fun v (hw : KeptQ w1.heap.size w1 v) => (hw.1.cell (p := ⟨w.heap.size, 0, none⟩) xs).trans x0)
 have RG := Lib.hid (fun v (hw : KeptQ w1.heap.size w1 v) => get_any v b 0 base _ (rowsS L) id (H1.call hw.1).tab)
 refine wp_region_keptQ w1.heap.size w1 (by kernel_rfl) (by kernel_rfl) (KeptQ.refl (Nat.le_refl _)) ?_
 repeat (first
  | go_big_quiet_skip
  | (go_big_quiet_want; first
   | (refine quietQ_load_cell 3 _ rfl ⟨w.heap.size, 0, none⟩ rfl _ R0.out _ Tryz.underlying3 rfl ?_; simp only [Act.put, List.setIfInBounds_toArray, List.set_cons_zero, List.set_cons_succ]; go_big_quiet_on)
   | (go_big_quiet_op; first
    | go_big_quiet_on
    | (refine ⟨_, fun _ _ => rfl, ?_⟩; go_big_quiet_on)
    | go_big_quiet_call ((intro hw; go_at_call 114; refine (RG.out _ hw).mono ?_; rw [HH.out, HP.out, place_eq]; rintro e w7 ⟨rfl, hb7⟩; exact ⟨rfl, hw.call hb7⟩)))))
 refine wpQuiet_nil ?_
 intro w2 hw2
 have y1 := (hw2.1.cell (p := ⟨w.heap.size, 1, none⟩) xs).trans x1
 have y2 := (hw2.1.cell (p := ⟨g, p * 2 + 1, none⟩) hg1).trans c2
 clear c1 c2
 have B2 := hw2.below (m := w.heap.size) (by omega) B1
 clear R0 RG hw2 x0 x1 H1
 go_wp2
 go_quiet (fail)
 go_wp2
 go_ret2
 exact ⟨rfl, below_drewN B2 _⟩
theorem sat_yes (w : World) (b base : Nat) (tv : Value) (L : List Sn) (id : Int) (i : Nat) (x : Sn) (h : SlotsAt w b base tv L) (hx : L[posS L id]? = some x) (hid : x.id = id) (hi : i < x.l.length) :
  Calls Tryz.prog 102 #[.pointer (some ⟨b, 0, none⟩), .agg #[.int .i64 id, .int .i64 i]] w fun e w' => e = .returned (.tuple #[.pointer (some ⟨x.g, i * 8, none⟩), .int .i64 0]) ∧ Below w.heap.size w w' := by
 have hh : hasS L id = true := (hasS_at h).2 ⟨x, hx, hid⟩
 obtain ⟨p, hp⟩ : ∃ p, posR (rowsS L) id = p := ⟨_, rfl⟩
 have HH := Lib.hid (show hasR (rowsS L) id = true from hh)
 have HP := Lib.hid hp
 obtain ⟨g, c, rfl, hg, -, c1⟩ := h.place hx
 rw [show posS L id = p from hp] at c1
 obtain ⟨gx, hgx⟩ : ∃ y, y = x.g := ⟨_, rfl⟩
 obtain ⟨n, hn⟩ : ∃ y, y = x.l.length := ⟨_, rfl⟩
 rw [show x.v = .slice (some ⟨gx, 0, none⟩) n n by rw [hgx, hn]] at c1
 have hn16 : n ≤ 16 := hn ▸ h.bd x (List.mem_of_getElem? hx); rw [← hn] at hi; rw [← hgx]; have hiI : (i : Int) < n := (by omega); have hd : decide ((i : Int) < 0) = false := decide_eq_false (by omega); have hd2 : decide ((n : Int) ≤ i) = false := decide_eq_false (by omega)
 clear hh hp hx hid hgx hn
 have H := Lib.hid h
 clear h
 go_enter Tryz.func102, Tryz.ntmps102
 go_wp2
 obtain ⟨w1, hw1⟩ : ∃ y, y = w.alloc (.cells #[.int .i64 id, .int .i64 i] 30) := ⟨_, rfl⟩
 rw [← hw1]
 have x0 : w1.cell? ⟨w.heap.size, 0, none⟩ = some (.int .i64 id) := by rw [hw1]; simp [go_sem]
 have x1 : w1.cell? ⟨w.heap.size, 1, none⟩ = some (.int .i64 i) := by rw [hw1]; simp [go_sem]
 have xs : w.heap.size < w1.heap.size := by rw [hw1]; simp
 have B1 : Below w.heap.size w w1 := hw1 ▸ bal (Below.refl _ _) _
 have H1 := H.out.call B1
 have c2 := (B1.cell (p := ⟨g, p * 2 + 1, none⟩) hg).trans c1
 have hg1 : g < w1.heap.size := Nat.lt_of_lt_of_le hg B1.size
 clear hw1
 have R0 := Lib.hid (fun v (hw : KeptQ w1.heap.size w1 v) => (hw.1.cell (p := ⟨w.heap.size, 0, none⟩) xs).trans x0)
 have RG := Lib.hid (fun v (hw : KeptQ w1.heap.size w1 v) => get_any v b 0 base _ (rowsS L) id (H1.call hw.1).tab)
 refine wp_region_keptQ w1.heap.size w1 (by kernel_rfl) (by kernel_rfl) (KeptQ.refl (Nat.le_refl _)) ?_
 repeat (first
  | go_big_quiet_skip
  | (go_big_quiet_want; first
   | (refine quietQ_load_cell 3 _ rfl ⟨w.heap.size, 0, none⟩ rfl _ R0.out _ Tryz.underlying3 rfl ?_; simp only [Act.put, List.setIfInBounds_toArray, List.set_cons_zero, List.set_cons_succ]; go_big_quiet_on)
   | (go_big_quiet_op; first
    | go_big_quiet_on
    | (refine ⟨_, fun _ _ => rfl, ?_⟩; go_big_quiet_on)
    | go_big_quiet_call ((intro hw; go_at_call 114; refine (RG.out _ hw).mono ?_; rw [HH.out, HP.out, place_eq]; rintro e w7 ⟨rfl, hb7⟩; exact ⟨rfl, hw.call hb7⟩)))))
 refine wpQuiet_nil ?_
 intro w2 hw2
 have y1 := (hw2.1.cell (p := ⟨w.heap.size, 1, none⟩) xs).trans x1
 have y2 := (hw2.1.cell (p := ⟨g, p * 2 + 1, none⟩) hg1).trans c2
 clear c1 c2
 have B2 := hw2.below (m := w.heap.size) (by omega) B1
 clear R0 RG hw2 x0 x1 H1
 go_wp2
 go_quiet (fail)
 go_wp2
 go_quiet (fail)
 go_wp2
 go_ret2
 exact ⟨by simp, below_drewN (below_drewN B2 _) _⟩
end TabS
end
section
open Go.ChangeShapes Go.WideShapes Go.ChangeAt Go.RowKit Go.Shelf
theorem bs' {w W : World} (h : Below w.heap.size w W) (k j : Nat) (v : Value) : Below w.heap.size w (W.setCell ⟨w.heap.size + k, j, none⟩ v) := h.setCell (p := ⟨w.heap.size + k, j, none⟩) (by simp) v
end
section
namespace CX
open Go.ChangeShapes Go.WideShapes Go.ChangeAt Go.RowKit
theorem ret_bool {a b : Bool} (h : a = b) : Ending.returned (.bool a) = .returned (.bool b) := by rw [h]
theorem ret_int {k : IntKind} {a b : Int} (h : a = b) : Ending.returned (.int k a) = .returned (.int k b) := by rw [h]
def mayB (r : Int) : Bool := decide (0 ≤ r ∧ r ≤ 7)
theorem mayB_mk {r : Int} (h : 0 ≤ r) (h' : r ≤ 7) : mayB r = true := decide_eq_true ⟨h, h'⟩
theorem may_any (r : Int) (w : World) : Calls Tryz.prog 60 #[.int .i64 r] w fun e w' => e = .returned (.bool (mayB r)) ∧ w = w' := by
 go_enter Tryz.func60, Tryz.ntmps60
 go_wp2
 all_goals go_ret
 all_goals refine ⟨ret_bool ?_, rfl⟩
 all_goals rw [Bool.eq_iff_iff]
 all_goals simp [mayB]
 all_goals omega
theorem refMay9 (r : Int) (w : World) : Calls Tryz.prog 111 #[.int .i64 r] w fun e w' => e = .returned (.bool (mayB r)) ∧ w = w' := by
 go_enter Tryz.func111, Tryz.ntmps111
 go_wp2
 all_goals go_ret
 all_goals refine ⟨ret_bool ?_, rfl⟩
 all_goals rw [Bool.eq_iff_iff]
 all_goals simp [mayB]
 all_goals omega
def maskN (a b : Int) : Int := bits BinOp.and IntKind.i64 a b
def hasB (r n : Int) : Bool := maskN r n == n
theorem has_any (a b : Int) (w : World) (h0 : 0 ≤ a) (h1 : a ≤ 7) (h2 : 0 ≤ b) (h3 : b ≤ 7) :
  Calls Tryz.prog 23 #[.int .i64 a, .int .i64 b] w fun e w' => e = .returned (.bool (hasB a b)) ∧ w = w' := by
 have m1 := mayB_mk h0 h1
 have m2 := mayB_mk h2 h3
 go_enter Tryz.func23, Tryz.ntmps23
 go_wp2_with (go_at_call 60; refine (may_any _ _).mono ?_; rintro e w' ⟨rfl, rfl⟩)
 go_ret
 exact ⟨rfl, rfl⟩
def partN (r m : Int) (k : Nat) : Int := (if 0 < k ∧ hasB m 1 = true ∧ hasB r 1 = true then 1 else 0) + (if 1 < k ∧ hasB m 2 = true ∧ hasB r 2 = true then 2 else 0) + (if 2 < k ∧ hasB m 4 = true ∧ hasB r 4 = true then 4 else 0)
theorem part_key : ∀ r : Nat, r < 8 → ∀ m : Nat, m < 8 → partN r m 3 = maskN r m := by decide +kernel
theorem part_mask {r m : Int} (h0 : 0 ≤ r) (h1 : r ≤ 7) (h2 : 0 ≤ m) (h3 : m ≤ 7) : partN r m 3 = maskN r m := by
 obtain ⟨a, rfl⟩ := Int.eq_ofNat_of_zero_le h0
 obtain ⟨b, rfl⟩ := Int.eq_ofNat_of_zero_le h2
 exact part_key a (by omega) b (by omega)
end CX
end
section
theorem low_facts (x : Nat) (h0 : x ≠ 0) (h : x < 2 ^ 64) : Lib.ctz 64 x < 64 ∧ x.testBit (Lib.ctz 64 x) = true ∧ (∀ i, i < Lib.ctz 64 x → x.testBit i = false) ∧
  (∀ i, (x &&& (x - 1)).testBit i = (x.testBit i && decide (i ≠ Lib.ctz 64 x))) := by
 have e : Lib.ctz 64 x = Lib.ctzFrom 64 x := by simp [Lib.ctz, h0]
 obtain ⟨m, hm, hk⟩ := Lib.ctzFrom_spec 64 x (by omega) h
 rw [e]
 generalize Lib.ctzFrom 64 x = k at *
 have hp : 0 < 2 ^ k := Nat.two_pow_pos k
 have e1 : x = 2 ^ k * (2 * m + 1) + 0 := by omega
 have e2 : x - 1 = 2 ^ k * (2 * m) + (2 ^ k - 1) := by rw [hm, Nat.mul_add]; omega
 have b1 : ∀ i, x.testBit i = if i < k then false else (2 * m + 1).testBit (i - k) := fun i => by
  rw [e1, Nat.testBit_two_pow_mul_add _ hp]; simp
 have b2 : ∀ i, (x - 1).testBit i = if i < k then true else (2 * m).testBit (i - k) := fun i => by
  rw [e2, Nat.testBit_two_pow_mul_add _ (by omega)]
  by_cases hi : i < k
  ·simp [hi, Nat.testBit_two_pow_sub_one]
  ·simp [hi]
 refine ⟨hk, ?_, fun i hi => ?_, fun i => ?_⟩
 ·rw [b1]; simp [Nat.testBit_zero]
 ·rw [b1]; simp [hi]
 ·rw [Nat.testBit_and, b1, b2]
  by_cases hi : i < k
  ·simp [hi]
  ·by_cases hik : i = k
   ·subst hik; simp [Nat.testBit_zero]
   ·obtain ⟨j, rfl⟩ : ∃ j, i = k + (j + 1) := ⟨i - k - 1, by omega⟩
    have e3 : k + (j + 1) - k = j + 1 := by omega
    have d1 : (2 * m + 1) / 2 = m := by omega
    have d2 : 2 * m / 2 = m := by omega
    simp only [hi, if_false, e3, Nat.testBit_succ, d1, d2]
    simp
theorem lt_pow_of_bits {v n : Nat} (h : ∀ i, v.testBit i = true → i < n) : v < 2 ^ n :=
 Nat.lt_pow_two_of_testBit v fun i hi => by
  cases hb : v.testBit i with
  | false => rfl
  | true => have := h i hb; omega
theorem bits_of_lt_pow {v n i : Nat} (h : v < 2 ^ n) (hb : v.testBit i = true) : i < n := by
 apply Nat.lt_of_not_le
 intro hle
 rw [Nat.testBit_lt_two_pow (Nat.lt_of_lt_of_le h (Nat.pow_le_pow_right (by decide) hle))] at hb
 cases hb
def SetInv (v : Nat) (pre : List Nat) (rest : Nat) : Prop :=
 (∀ k ∈ pre, v.testBit k = true) ∧ (∀ k, v.testBit k = true → k ∈ pre ∨ rest.testBit k = true) ∧ (∀ k, rest.testBit k = true → v.testBit k = true) ∧ (∀ k, k < pre.length → rest.testBit k = false)
def SetAll (v : Nat) (ys : List Nat) : Prop := (∀ k ∈ ys, v.testBit k = true) ∧ (∀ k, v.testBit k = true → k ∈ ys)
def SetPart (v : Nat) (ys : List Nat) : Prop := ∀ k ∈ ys, v.testBit k = true
theorem SetInv.start (v : Nat) : SetInv v [] v := ⟨by simp, fun k h => .inr h, fun k h => h, by simp⟩
theorem SetInv.done {v : Nat} {pre : List Nat} (h : SetInv v pre 0) : SetAll v pre :=
 ⟨h.1, fun k hk => (h.2.1 k hk).elim id (fun e => by simp at e)⟩
theorem SetInv.len {v rest : Nat} {pre : List Nat} (h : SetInv v pre rest) (h0 : rest ≠ 0) (hr : rest < 2 ^ 64) : pre.length < 64 := by
 obtain ⟨hk, hb, _, _⟩ := low_facts rest h0 hr
 apply Nat.lt_of_not_le
 intro hle
 rw [h.2.2.2 _ (Nat.lt_of_lt_of_le hk hle)] at hb
 cases hb
theorem SetInv.part {v rest : Nat} {pre : List Nat} (h : SetInv v pre rest) (h0 : rest ≠ 0) (hr : rest < 2 ^ 64) : SetPart v (pre ++ [Lib.ctz 64 rest]) := by
 obtain ⟨_, hb, _, _⟩ := low_facts rest h0 hr
 intro k hk
 rcases List.mem_append.1 hk with h' | h'
 ·exact h.1 k h'
 ·simp at h'; subst h'; exact h.2.2.1 _ hb
theorem SetInv.step {v rest : Nat} {pre : List Nat} (h : SetInv v pre rest) (h0 : rest ≠ 0) (hr : rest < 2 ^ 64) : SetInv v (pre ++ [Lib.ctz 64 rest]) (rest &&& (rest - 1)) := by
 have hp := h.part h0 hr
 obtain ⟨hk, hb, hlow, hstep⟩ := low_facts rest h0 hr
 refine ⟨hp, fun k hv => ?_, fun k hv => ?_, fun k hkl => ?_⟩
 ·by_cases e : k = Lib.ctz 64 rest
  ·left; simp [e]
  ·rcases h.2.1 k hv with h' | h'
   ·left; simp [h']
   ·right; rw [hstep, h']; simp [e]
 ·rw [hstep, Bool.and_eq_true] at hv
  exact h.2.2.1 k hv.1
 ·rw [hstep]
  by_cases e : k = Lib.ctz 64 rest
  ·simp [e]
  ·simp only [List.length_append, List.length_cons, List.length_nil] at hkl
   by_cases hl : k < pre.length
   ·rw [h.2.2.2 k hl]; rfl
   ·have hpl : ¬ Lib.ctz 64 rest < pre.length := fun hlt => by rw [h.2.2.2 _ hlt] at hb; cases hb
    rw [hlow k (by omega)]; rfl
theorem step_lt {rest : Nat} (h0 : rest ≠ 0) : rest &&& (rest - 1) < rest := by
 have := Nat.and_le_right (n := rest) (m := rest - 1); omega
end
end Go.Proofs.YtchjfeafkmpmbaaGreatDoor
