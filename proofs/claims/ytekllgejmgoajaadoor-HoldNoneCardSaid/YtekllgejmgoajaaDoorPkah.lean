import Derived.Test.YtekllgejmgoajaaDoorPkaf
import Derived.Test.YtekllgejmgoajaaDoorPkag
import Derived.Laws.MakeOwn
namespace Go.Proofs.YtekllgejmgoajaaDoor
set_option linter.unusedVariables false
set_option linter.unusedSimpArgs false
set_option maxRecDepth 100000
set_option maxHeartbeats 8000000
open Lib (hid)
section
open Go.ChangeShapes Go.WideShapes Go.ChangeAt Go.RowKit Go.Shelf
namespace TabS
structure Cp where
 a : Int
 b : Int
 c : Int
 d : Int
 e : Int
 f : Int
 g : Int
 h : Int
def Cp.L (x : Cp) : List Value := [.int .i64 x.a, .int .i64 x.b, .int .i64 x.c, .int .u64 x.d, .int .i64 x.e, .int .i64 x.f, .int .i64 x.g, .int .i64 x.h]
abbrev Cp.V (x : Cp) : Value := .agg #[.int .i64 x.a, .int .i64 x.b, .int .i64 x.c, .int .u64 x.d, .int .i64 x.e, .int .i64 x.f, .int .i64 x.g, .int .i64 x.h]
def zC : Cp := ⟨0, 0, 0, 0, 0, 0, 0, 0⟩
def flatC (l : List Cp) : List Value := l.flatMap Cp.L
theorem flatC_len (l : List Cp) : (flatC l).length = l.length * 8 := by
 induction l with
 | nil => rfl
 | cons x t ih =>
  have : flatC (x :: t) = x.L ++ flatC t := rfl
  rw [this, List.length_append, ih]
  simp [Cp.L]
  omega
theorem flatC_get {l : List Cp} {i : Nat} {c : Cp} (h : l[i]? = some c) {j : Nat} {u : Value} (hu : c.L[j]? = some u) : (flatC l)[i * 8 + j]? = some u := by
 induction l generalizing i with
 | nil => simp at h
 | cons x t ih =>
  have e : flatC (x :: t) = x.L ++ flatC t := rfl
  have hx : x.L.length = 8 := rfl
  rw [e]
  cases i with
  | zero =>
   simp at h
   subst h
   have := (lgs hu).1
   rw [List.getElem?_append_left (by omega)]
   simpa using hu
  | succ i =>
   rw [List.getElem?_append_right (by omega), show (i + 1) * 8 + j - x.L.length = i * 8 + j by omega]
   exact ih (by simpa using h)
theorem flatC_set {l : List Cp} {i : Nat} (c : Cp) (h : i < l.length) : flatC (l.set i c) = (flatC l).take (i * 8) ++ c.L ++ (flatC l).drop (i * 8 + 8) := by
 induction l generalizing i with
 | nil => simp at h
 | cons x t ih =>
  have hx : x.L.length = 8 := rfl
  have e : flatC (x :: t) = x.L ++ flatC t := rfl
  cases i with
  | zero =>
   show c.L ++ flatC t = _
   rw [e]
   simp [hx]
  | succ i =>
   show x.L ++ flatC (t.set i c) = _
   rw [ih (by simpa using h), e, List.take_append, List.drop_append, List.take_of_length_le (l := x.L) (i := (i + 1) * 8) (by omega), List.drop_of_length_le (l := x.L) (i := (i + 1) * 8 + 8) (by omega), show (i + 1) * 8 - x.L.length = i * 8 by omega, show (i + 1) * 8 + 8 - x.L.length = i * 8 + 8 by omega]
   simp
theorem flatC_zero (n : Nat) : (madeCells (Cp.V zC).cells (n * 8)).toList = flatC (List.replicate n zC) := by
 apply List.ext_getElem?
 intro j
 by_cases hj : j < n * 8
 ·have hd : j = j / 8 * 8 + j % 8 := by omega
  have h8 : j % 8 < 8 := Nat.mod_lt _ (by decide)
  have hl : zC.L[j % 8]? = some (zC.L[j % 8]'h8) := List.getElem?_eq_getElem h8
  have hr : (flatC (List.replicate n zC))[j]? = some (zC.L[j % 8]'h8) := by
   have := flatC_get (l := List.replicate n zC) (i := j / 8) (c := zC) (by rw [List.getElem?_replicate, if_pos (by omega)]) hl
   rwa [← hd] at this
  rw [hr]
  rw [Array.getElem?_toList]
  unfold madeCells
  rw [Array.getElem?_map, Array.getElem?_range, if_pos hj]
  simp only [Option.map_some, Option.some.injEq]
  show (#[Value.int .i64 0, .int .i64 0, .int .i64 0, .int .u64 0, .int .i64 0, .int .i64 0, .int .i64 0, .int .i64 0] : Array Value)[j % 8]! = _
  have hcase : j % 8 = 0 ∨ j % 8 = 1 ∨ j % 8 = 2 ∨ j % 8 = 3 ∨ j % 8 = 4 ∨ j % 8 = 5 ∨ j % 8 = 6 ∨ j % 8 = 7 := by omega
  clear hl hr hd
  generalize j % 8 = q at *
  rcases hcase with rfl | rfl | rfl | rfl | rfl | rfl | rfl | rfl <;> rfl
 ·rw [List.getElem?_eq_none (by simp [size_madeCells]; omega), List.getElem?_eq_none (by rw [flatC_len]; simp; omega)]
theorem putL_eq : ∀ (L : List Value) (cs : List Value) (k : Nat), k + L.length ≤ cs.length → putL cs.toArray k L = (cs.take k ++ L ++ cs.drop (k + L.length)).toArray
 | [], cs, k, h => by simp [putL]
 | v :: t, cs, k, h => by
  simp only [List.length_cons] at h
  unfold putL
  rw [List.setIfInBounds_toArray, putL_eq t (cs.set k v) (k + 1) (by simp; omega)]
  congr 1
  rw [List.take_succ_eq_append_getElem (by simp; omega), List.drop_set_of_lt (by omega), show k + 1 + t.length = k + (v :: t).length by simp; omega, List.take_set_of_le (Nat.le_refl _)]
  simp
structure Sn where
 id : Int
 g : Nat
 l : List Cp
abbrev Sn.v (x : Sn) : Value := .slice (some ⟨x.g, 0, none⟩) x.l.length x.l.length
def rowS (x : Sn) : Rw := (x.id, [x.v])
def rowsS (L : List Sn) : List Rw := L.map rowS
theorem rowsS_len (L : List Sn) : (rowsS L).length = L.length := by simp [rowsS]
theorem rowsS_get {L : List Sn} {k : Nat} : (rowsS L)[k]? = L[k]?.map rowS := by simp [rowsS]
structure SlotsAt (w : World) (b base : Nat) (tv : Value) (L : List Sn) : Prop where
 tab : TabAt w b 0 base tv (rowsS L)
 blk : ∀ x ∈ L, w.heap[x.g]? = some (.cells (flatC x.l).toArray 26 (0, 0)) ∧ base ≤ x.g
 ap : L.Pairwise fun x y => x.g ≠ y.g
 nt : ∀ x ∈ L, tv.ownBlock ≠ some x.g
 bd : ∀ x ∈ L, x.l.length ≤ 16
theorem SlotsAt.lt {w : World} {b base : Nat} {tv : Value} {L : List Sn} (h : SlotsAt w b base tv L) : b < w.heap.size := h.tab.lt
theorem SlotsAt.glt {w : World} {b base : Nat} {tv : Value} {L : List Sn} (h : SlotsAt w b base tv L) {x : Sn} (hx : x ∈ L) : x.g < w.heap.size := (ags (h.blk x hx).1).1
theorem SlotsAt.gne {w : World} {b base : Nat} {tv : Value} {L : List Sn} (h : SlotsAt w b base tv L) {x : Sn} (hx : x ∈ L) : x.g ≠ b := by
 have := h.tab.ne
 have := (h.blk x hx).2
 omega
theorem SlotsAt.call {w w' : World} {b base : Nat} {tv : Value} {L : List Sn} (h : SlotsAt w b base tv L) (hb : Below w.heap.size w w') : SlotsAt w' b base tv L :=
 ⟨h.tab.call hb, fun x hx => ⟨(hb.block x.g (h.glt hx)).trans (h.blk x hx).1, (h.blk x hx).2⟩, h.ap, h.nt, h.bd⟩
theorem SlotsAt.cell {w : World} {b base : Nat} {tv : Value} {L : List Sn} (h : SlotsAt w b base tv L) {x : Sn} (hx : x ∈ L) {i : Nat} {c : Cp} (hi : x.l[i]? = some c) {j : Nat} {u : Value} (hu : c.L[j]? = some u) : w.cell? ⟨x.g, i * 8 + j, none⟩ = some u := by
 rw [cell_of_row _ _ _ _ _ _ (h.blk x hx).1]
 simpa using flatC_get hi hu
theorem SlotsAt.free {w : World} {b base : Nat} {tv : Value} {L : List Sn} (h : SlotsAt w b base tv L) {x : Sn} (hx : x ∈ L) (j : Nat) : w.frozen? ⟨x.g, j, none⟩ = false := by
 simp [World.frozen?, (h.blk x hx).1]
structure SOnly (w w' : World) (b : Nat) (tv tv' : Value) (L L' : List Sn) : Prop where
 os : w'.os = w.os
 tape : w'.tape = w.tape
 output : w'.output = w.output
 size : w.heap.size ≤ w'.heap.size
 block : ∀ k, k < w.heap.size → k ≠ b → tv.ownBlock ≠ some k → (∀ x ∈ L, x.g ≠ k) → w'.heap[k]? = w.heap[k]?
 foot : ∀ k, k < w.heap.size → (tv'.ownBlock = some k ∨ ∃ x ∈ L', x.g = k) → (tv.ownBlock = some k ∨ ∃ x ∈ L, x.g = k)
theorem wideS (x : Sn) : Wide 2 [rowS x] := by
 intro r hr
 simp at hr
 subst hr
 refine ⟨rfl, fun u hu => ?_⟩
 simp [rcells, rowS] at hu
 rcases hu with rfl | rfl <;> rfl
def hasS (L : List Sn) (id : Int) : Bool := hasR (rowsS L) id
def posS (L : List Sn) (id : Int) : Nat := posR (rowsS L) id
def insS (L : List Sn) (x : Sn) : List Sn := L.take (posS L x.id) ++ x :: L.drop (posS L x.id)
theorem rowsS_ins (L : List Sn) (x : Sn) : rowsS (insS L x) = insR (rowsS L) (rowS x) := by
 unfold insS insR rowsS
 rw [List.map_append, List.map_cons, List.map_take, List.map_drop]
 rfl
theorem mem_insS {L : List Sn} {x y : Sn} (h : y ∈ insS L x) : y = x ∨ y ∈ L := by
 unfold insS at h
 rcases List.mem_append.1 h with q | q
 ·exact .inr (List.mem_of_mem_take q)
 ·rcases List.mem_cons.1 q with q | q
  ·exact .inl q
  ·exact .inr (List.mem_of_mem_drop q)
def delS (L : List Sn) (id : Int) : List Sn := L.take (posS L id) ++ L.drop (posS L id + 1)
theorem pair_insS {L : List Sn} (h : L.Pairwise fun x y => x.g ≠ y.g) (x : Sn) (hx : ∀ y ∈ L, y.g ≠ x.g) : (insS L x).Pairwise fun x y => x.g ≠ y.g := by
 have hs := h
 rw [← List.take_append_drop (posS L x.id) L, List.pairwise_append] at hs
 unfold insS
 rw [List.pairwise_append]
 refine ⟨hs.1, List.pairwise_cons.2 ⟨fun y hy => Ne.symm (hx y (List.mem_of_mem_drop hy)), hs.2.1⟩, fun a ha c hc => ?_⟩
 rcases List.mem_cons.1 hc with rfl | hc
 ·exact hx a (List.mem_of_mem_take ha)
 ·exact hs.2.2 a ha c hc
theorem hasS_at {w : World} {b base : Nat} {tv : Value} {L : List Sn} (h : SlotsAt w b base tv L) {id : Int} : hasS L id = true ↔ ∃ x, L[posS L id]? = some x ∧ x.id = id := by
 unfold hasS posS
 rw [hasR_at h.tab.asc]
 constructor
 ·rintro ⟨r, hr, he⟩
  rw [rowsS_get] at hr
  cases hq : L[posR (rowsS L) id]? with
  | none => rw [hq] at hr; cases hr
  | some x => rw [hq] at hr; cases hr; exact ⟨x, rfl, he⟩
 ·rintro ⟨x, hx, he⟩
  exact ⟨rowS x, by rw [rowsS_get, hx]; rfl, he⟩
theorem snew_any' (W : World) : Calls Tryd.prog 61 #[] W fun e w' => e = .returned (.pointer (some ⟨W.heap.size, 0, none⟩)) ∧ SlotsAt w' W.heap.size (W.heap.size + 1) (.slice none 0 0) [] ∧ Below W.heap.size W w' := by
 go_enter Tryd.func61, Tryd.ntmps61
 go_wp2
 go_ret
 refine ⟨rfl, ⟨⟨?_, ?_, World.ownsRow_nil _ _ _ _, Nat.lt_succ_self _, by simp, (fun r hr => by cases hr), List.Pairwise.nil, by simp [rowsS]⟩, (fun x hx => by cases hx), List.Pairwise.nil, (fun x hx => by cases hx), (fun x hx => by cases hx)⟩, bal (Below.refl _ _) _⟩
 ·go_simp
 ·go_simp
theorem infoCap : (Tryd.prog.info? 26).map (fun i => (i.zero, i.size, i.bytes)) = some (some (Cp.V zC), 8, 64) := by kernel_rfl
theorem make_caps (w : World) (n : Nat) (hn : n ≤ 16) : ∃ w1, (Instr.makeSlice 92 (.int .i64 n) (.int .i64 n)).run Tryd.prog w = .ok (.slice (some ⟨w.heap.size, 0, none⟩) n n) w1 ∧
  w1.heap[w.heap.size]? = some (.cells (flatC (List.replicate n zC)).toArray 26 (0, 0)) ∧ Below w.heap.size w w1 := by
 obtain ⟨i0, hi, hz0, hz1, hz2⟩ := info_parts infoCap
 obtain ⟨w1, hrun, hown, hgr⟩ := run_make_full (P := Tryd.prog) w w.heap.size 92 26 i0 _ 8 Tryd.underlying92 hi hz0 hz1 .i64 .i64 n (by rw [hz2]; omega) (by unfold maxLen; omega) (Nat.le_refl _)
 rw [flatC_zero] at hown
 refine ⟨w1, hrun, ?_, (Below.refl _ _).grown hgr (Nat.le_refl _) (fun j e => by cases e)⟩
 rcases hown.2 with ⟨h1, _⟩ | ⟨g, cap, cur, hv, q1, q2, q3, q4, q5, q6⟩
 ·cases h1
 ·simp only [Value.slice.injEq, Option.some.injEq, Addr.mk.injEq, and_true, true_and] at hv
  obtain ⟨rfl, rfl⟩ := hv
  rw [q2]
  have : cur = (flatC (List.replicate n zC)).toArray := by
   rw [← q6, List.take_of_length_le (by rw [Array.length_toList, q5]; exact Nat.le_refl _)]
  rw [this]
def addSR (L : List Sn) (id n : Int) : Int := if id < 1 ∨ n < 1 ∨ 16 < n then 2 else if hasS L id then 11 else 0
theorem sadd_arg (w : World) (b : Nat) (id n : Int) (hn : id < 1 ∨ n < 1 ∨ 16 < n) :
  Calls Tryd.prog 36 #[.pointer (some ⟨b, 0, none⟩), .int .i64 id, .int .i64 n] w fun e w' => e = .returned (.int .i64 2) ∧ w = w' := by
 by_cases h1 : id < 1
 ·go_enter Tryd.func36, Tryd.ntmps36
  go_wp2
  go_ret
  exact ⟨rfl, rfl⟩
 ·by_cases h2 : n < 1
  ·go_enter Tryd.func36, Tryd.ntmps36
   go_wp2
   go_ret
   exact ⟨rfl, rfl⟩
  ·have h3 : 16 < n := by omega
   go_enter Tryd.func36, Tryd.ntmps36
   go_wp2
   go_ret
   exact ⟨rfl, rfl⟩
theorem sadd_full (w : World) (b base : Nat) (tv : Value) (L : List Sn) (id : Int) (n : Nat) (h : SlotsAt w b base tv L) (h1 : 1 ≤ id) (h2 : 1 ≤ n) (h3 : n ≤ 16) (hh : hasS L id = true) :
  Calls Tryd.prog 36 #[.pointer (some ⟨b, 0, none⟩), .int .i64 id, .int .i64 n] w fun e w' => e = .returned (.int .i64 11) ∧ Below w.heap.size w w' := by
 obtain ⟨w1, hrun, hblk, hb1⟩ := make_caps w.drew n h3
 have hb0 : Below w.heap.size w w1 := (Below.refl w.heap.size w).drew.trans hb1
 have hT1 := (h.call hb0).tab
 have HADD := hid (add_no w1 b 0 base tv (rowsS L) id (some ⟨w.drew.heap.size, 0, none⟩) n n hT1 hh)
 have h2' : 1 ≤ (n : Int) := by omega
 have h3' : (n : Int) ≤ 16 := by omega
 have HB0 := hid hb0
 clear h hh hblk hb1 hb0 hT1
 go_enter Tryd.func36, Tryd.ntmps36
 go_wp2
 go_region_with (first | (go_at_call 55; refine HADD.out.mono ?_; rintro e w2 ⟨rfl, hb2⟩))
 all_goals
  go_wp2
  go_ret
  exact ⟨rfl, bgo HB0.out hb2⟩
theorem sadd_yes (w : World) (b base : Nat) (tv : Value) (L : List Sn) (id : Int) (n : Nat) (h : SlotsAt w b base tv L) (hl : L.length < 1000000) (h1 : 1 ≤ id) (h2 : 1 ≤ n) (h3 : n ≤ 16) (hh : hasS L id = false) :
  Calls Tryd.prog 36 #[.pointer (some ⟨b, 0, none⟩), .int .i64 id, .int .i64 n] w fun e w' => e = .returned (.int .i64 0) ∧ ∃ tv' g, w.heap.size ≤ g ∧ SlotsAt w' b base tv' (insS L ⟨id, g, List.replicate n zC⟩) ∧ SOnly w w' b tv tv' L (insS L ⟨id, g, List.replicate n zC⟩) := by
 obtain ⟨w1, hrun, hblk, hb1⟩ := make_caps w.drew n h3
 have hb0 : Below w.heap.size w w1 := (Below.refl w.heap.size w).drew.trans hb1
 have hd : w.drew.heap.size = w.heap.size := rfl
 have hS1 := h.call hb0
 have hlt : w.heap.size < w1.heap.size := (ags hblk).1
 have hadd := add_yes w1 b 0 base tv (rowsS L) id (some ⟨w.drew.heap.size, 0, none⟩) n n hS1.tab hh (by rw [rowsS_len]; exact hl) (by have := wideS ⟨id, w.heap.size, List.replicate n zC⟩; simpa [rowS, Sn.v] using this)
 have HADD := hid hadd
 have hfin : ∀ w' v', TabAt w' b 0 base v' (insR (rowsS L) (id, [.slice (some ⟨w.drew.heap.size, 0, none⟩) n n])) → Only w1 w' b 0 tv v' → SlotsAt w' b base v' (insS L ⟨id, w.heap.size, List.replicate n zC⟩) ∧ SOnly w w' b tv v' L (insS L ⟨id, w.heap.size, List.replicate n zC⟩) := by
  intro w' v' t1 o1
  have hne : ∀ y ∈ L, y.g ≠ w.heap.size := fun y hy => Nat.ne_of_lt (h.glt hy)
  have hold : ∀ x ∈ L, w'.heap[x.g]? = some (.cells (flatC x.l).toArray 26 (0, 0)) := fun x hx => (o1.block x.g (hS1.glt hx) (hS1.gne hx) (hS1.nt x hx)).trans (hS1.blk x hx).1
  have hnb : w.heap.size ≠ b := Ne.symm (Nat.ne_of_lt h.lt)
  have hnt : tv.ownBlock ≠ some w.heap.size := fun e => by have := (h.tab.own e).2; omega
  refine ⟨⟨?_, fun x hx => ?_, pair_insS h.ap _ hne, fun x hx e => ?_, fun x hx => ?_⟩, ⟨o1.os.trans hb0.os, o1.tape.trans hb0.tape, o1.output.trans hb0.output, Nat.le_trans (Nat.le_of_lt hlt) o1.size, fun k hk1 p1 p2 _ => (o1.block k (by omega) p1 p2).trans (hb0.block k hk1), fun k hk1 e => ?_⟩⟩
  ·rw [rowsS_ins]
   have : rowS ⟨id, w.heap.size, List.replicate n zC⟩ = (id, [.slice (some ⟨w.drew.heap.size, 0, none⟩) n n]) := by simp [rowS, hd]
   rw [this]
   exact t1
  ·rcases mem_insS hx with rfl | q
   ·exact ⟨(o1.block _ hlt hnb hnt).trans hblk, by have := h.tab.base; exact this⟩
   ·exact ⟨hold x q, (h.blk x q).2⟩
  ·have hx2 : x.g < w1.heap.size ∧ tv.ownBlock ≠ some x.g := by
    rcases mem_insS hx with rfl | q
    ·exact ⟨hlt, hnt⟩
    ·exact ⟨hS1.glt q, h.nt x q⟩
   rcases o1.foot with p | ⟨g, p, hg⟩
   ·exact hx2.2 (p ▸ e)
   ·rw [p] at e
    cases e
    have := hx2.1
    omega
  ·rcases mem_insS hx with rfl | q
   ·simpa using h3
   ·exact h.bd x q
  ·rcases e with e | ⟨x, hx, e⟩
   ·rcases o1.foot with p | ⟨g, p, hg⟩
    ·exact .inl (p ▸ e)
    ·rw [p] at e; cases e; omega
   ·rcases mem_insS hx with rfl | q
    ·exact absurd e (Ne.symm (Nat.ne_of_lt hk1))
    ·exact .inr ⟨x, q, e⟩
 have HF := hid hfin
 have h2' : 1 ≤ (n : Int) := by omega
 have h3' : (n : Int) ≤ 16 := by omega
 clear h hh hblk hb1 hb0 hS1 hfin hadd hd hlt
 go_enter Tryd.func36, Tryd.ntmps36
 go_wp2
 go_region_with (first | (go_at_call 55; refine HADD.out.mono ?_; rintro e w2 ⟨rfl, v', t1, o1⟩; have T1 := hid t1; have O1 := hid o1; clear t1 o1))
 all_goals
  go_wp2
  go_ret
  exact ⟨rfl, v', w.heap.size, Nat.le_refl _, HF.out _ _ T1.out O1.out⟩
end TabS
end
end Go.Proofs.YtekllgejmgoajaaDoor
