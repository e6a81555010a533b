import Derived.Test.YtekllgejmgoajaaDoorPkau
import Derived.Deep.QuietTactic
import Derived.BigQuiet
import Derived.Deep.RegionWith
import Derived.Deep.AppendLies
import Derived.Deep.RegionLaw
import Derived.OwnWalk
namespace Go.Proofs.YtekllgejmgoajaaDoor
set_option linter.unusedVariables false
set_option linter.unusedSimpArgs false
set_option maxRecDepth 100000
set_option maxHeartbeats 8000000
open Lib (hid)
section
open Go.ChangeShapes Go.WideShapes Go.ChangeAt Go.RowKit
def idx (l : List Nod) (o i : Int) : Option Nat := l.findIdx? fun x => decide (x.o = o ∧ x.i = i)
theorem idx_some {l : List Nod} {o i : Int} {k : Nat} (h : idx l o i = some k) : ∃ x, l[k]? = some x ∧ x.o = o ∧ x.i = i := by
 obtain ⟨hk, hx, _⟩ := List.findIdx?_eq_some_iff_getElem.1 h
 exact ⟨l[k], List.getElem?_eq_getElem hk, by simpa using hx⟩
theorem idx_none {l : List Nod} {o i : Int} (h : idx l o i = none) {k : Nat} {x : Nod} (hk : l[k]? = some x) : ¬ (x.o = o ∧ x.i = i) := by
 have := List.findIdx?_eq_none_iff.1 h x (List.mem_of_getElem? hk)
 simpa using this
theorem TreeAt.find {W : World} {B b m n : Nat} {ps : List Nat} {l : List Nod} {f : Int → Int → Option Nat} (h : TreeAt W B b m n ps l f) {o i : Int} (ho : InS o) (hi : InS i) : f o i = (idx l o i).bind fun k => ps[k]? := by
 cases e : idx l o i with
 | none =>
  cases hf : f o i with
  | none => rfl
  | some p =>
   obtain ⟨k, x, h1, h2, h3⟩ := (h.finds o i p ho hi).1 hf
   exact absurd h3 (idx_none e h2)
 | some k =>
  obtain ⟨x, hx, h3⟩ := idx_some e
  obtain ⟨p, hp⟩ := get_len h.len.symm hx
  show f o i = ps[k]?
  rw [hp]
  exact (h.finds o i p ho hi).2 ⟨k, x, hp, hx, h3⟩
theorem TreeAt.isSome {W : World} {B b m n : Nat} {ps : List Nat} {l : List Nod} {f : Int → Int → Option Nat} (h : TreeAt W B b m n ps l f) {o i : Int} (ho : InS o) (hi : InS i) : (f o i).isSome = (idx l o i).isSome := by
 rw [h.find ho hi]
 cases e : idx l o i with
 | none => rfl
 | some k =>
  obtain ⟨x, hx, h3⟩ := idx_some e
  obtain ⟨p, hp⟩ := get_len h.len.symm hx
  show (ps[k]?).isSome = true
  rw [hp]; rfl
theorem InsPost.only {w0 w w' : World} {B b m n : Nat} {ps : List Nat} {l : List Nod} {f : Int → Int → Option Nat} {p q : Nat} {x : Nod} (h : InsPost w w' B b m n ps l f p q x) (hb : Below w0.heap.size w0 w) (hp : w0.heap.size ≤ p) (hq : q ≤ ps.length) : TOnly w0 w' b m ps (ps.insertIdx q p) :=
  ⟨h.os.trans hb.os, h.tape.trans hb.tape, h.output.trans hb.output, by rw [h.size]; exact hb.size,
   fun k hk hf => (h.block k hf (by omega)).trans (hb.block k hk),
   fun k hk hf => by
     rcases hf with rfl | rfl | ⟨j, hj⟩
     · exact .inl rfl
     · exact .inr (.inl rfl)
     · rcases ins_get hq hj with ⟨_, hr⟩ | ⟨_, rfl⟩ | ⟨j', _, _, hr⟩
       · exact foot_at hr
       · omega
       · exact foot_at hr⟩
def rootA (l : List Nod) (o i : Int) : List Nod × Int := if (idx l o i).isSome then (l, 11) else (l.insertIdx l.length ⟨o, i, 0⟩, 0)
def Left (w w' : World) (B b m n : Nat) (ps : List Nat) (l : List Nod) : Prop := ∃ ps' f', TreeAt w' B b m n ps' l f' ∧ TOnly w w' b m ps ps'
theorem Left.same {w w' : World} {B b m n n' : Nat} {ps : List Nat} {l : List Nod} {f : Int → Int → Option Nat} (h : TreeAt w B b m n ps l f) (hb : Below w.heap.size w w') (hn : n ≤ n') : Left w w' B b m n' ps l :=
 ⟨ps, f, (h.call hb).mono hn, .of_below hb⟩
theorem InsPost.left {w0 w w' : World} {B b m n : Nat} {ps : List Nat} {l : List Nod} {f : Int → Int → Option Nat} {p q : Nat} {x : Nod} (h : InsPost w w' B b m n ps l f p q x) (hb : Below w0.heap.size w0 w) (hp : w0.heap.size ≤ p) (hq : q ≤ ps.length) : Left w0 w' B b m (n + 1) ps (l.insertIdx q x) :=
 ⟨_, _, h.tree, h.only hb hp hq⟩
theorem TreeAt.fresh {W : World} {B b m n : Nat} {ps : List Nat} {l : List Nod} {f : Int → Int → Option Nat} (h : TreeAt W B b m n ps l f) {p : Nat} (hp : W.heap.size ≤ p) : ∀ k : Nat, ps[k]? ≠ some p := fun k e => by
 have := h.lt (foot_at (b := b) (m := m) e)
 omega
theorem root_any (w : World) (B b m n : Nat) (ps : List Nat) (l : List Nod) (f : Int → Int → Option Nat) (o i : Int) (ho : InS o) (hi : InS i) (h : TreeAt w B b m n ps l f) (hn : n < maxLen) (hB : B ≤ w.heap.size) :
  Calls Tryd.prog 26 #[.pointer (some ⟨b, 0, none⟩), slV o i] w fun e w' => e = .returned (.int .i64 (rootA l o i).2) ∧ Left w w' B b m (n + 1) ps (rootA l o i).1 := by
 have his := h.isSome ho hi
 have H := hid h
 have hal : Below w.heap.size w (w.alloc (.cells #[.int .i64 o, .int .i64 i] 23)) := bal (Below.refl _ _) _
 have HA := hid hal
 unfold rootA
 cases hf : f o i
 ·rw [hf] at his
  have e : (idx l o i).isSome = false := his.symm
  simp only [e, Bool.false_eq_true, if_false]
  have HF := hid hf
  clear h hal his e
  go_enter Tryd.func26, Tryd.ntmps26
  go_upto_region 5 with (go_at_call 48; refine (has_any _ B b m n ps l f o i ho hi (H.out.call HA.out)).mono ?_; rw [HF.out]; rintro e w1 ⟨rfl, hb1⟩)
  have hT := H.out.call (HA.out.trans (hb1.mono HA.out.size))
  have hsl : w1.cell? ⟨w.heap.size, 0, none⟩ = some (.int .i64 o) ∧ w1.cell? ⟨w.heap.size, 1, none⟩ = some (.int .i64 i) := by
   obtain ⟨hc, _⟩ := bcell hb1
   constructor
   ·rw [hc _ _ (by simp)]; simp
   ·rw [hc _ _ (by simp)]; simp
  obtain ⟨s0, s1⟩ := hsl
  obtain ⟨c0, c1, c2, cz⟩ := head_cells hT.head
  have hsz : w.heap.size < w1.heap.size := by have := hb1.size; simp at this; omega
  have hbl : b < w1.heap.size := hT.lt (.inl rfl)
  have hB1 : Below w.heap.size w w1 := HA.out.trans (hb1.mono HA.out.size)
  have hins : Calls Tryd.prog 49 #[.pointer (some ⟨b, 0, none⟩), .pointer (some ⟨w1.heap.size, 0, none⟩), ptrV (prv ps ps.length)] (w1.alloc (placeO ⟨o, i, 0⟩ none none)).drew fun e w' => (∃ v, e = .returned v) ∧ Left w w' B b m (n + 1) ps (l.insertIdx l.length ⟨o, i, 0⟩) := by
   have hb2 : Below w1.heap.size w1 (w1.alloc (placeO ⟨o, i, 0⟩ none none)).drew := (bal (Below.refl _ _) _).drew
   have hT2 := hT.call hb2
   refine (insert_any _ B b m n ps l f w1.heap.size ps.length ⟨o, i, 0⟩ hT2 (Nat.le_refl _) (World.alloc_heap_new w1 _) (hT.fresh (Nat.le_refl _)) (by omega) ⟨ho, hi, by simp, by simp; omega⟩ HF.out hn).mono ?_
   rintro e w' ⟨hv, hp⟩
   refine ⟨hv, ?_⟩
   have := hp.left (hB1.trans (hb2.mono hB1.size)) (by omega) (Nat.le_refl _)
   rw [hT.len] at this
   exact this
  have HI := hid hins
  clear hins hT hB1
  go_region_with (go_at_call 49; refine HI.out.mono ?_; rintro e w' ⟨⟨v, rfl⟩, hL⟩)
  all_goals
   go_wp2
   go_ret
   exact ⟨rfl, hL⟩
 ·rw [hf] at his
  have e : (idx l o i).isSome = true := his.symm
  simp only [e, if_true]
  have HF := hid hf
  clear h hal his e
  go_enter Tryd.func26, Tryd.ntmps26
  go_wp2_with (go_at_call 48; refine (has_any _ B b m n ps l f o i ho hi (H.out.call HA.out)).mono ?_; rw [HF.out]; rintro e w1 ⟨rfl, hb1⟩)
  go_ret
  exact ⟨rfl, Left.same H.out (HA.out.trans (hb1.mono HA.out.size)) (Nat.le_succ _)⟩
abbrev slO (o i : Int) : Obj := .cells #[.int .i64 o, .int .i64 i] 23
def childA (l : List Nod) (o i p j : Int) : List Nod × Int :=
 match idx l o i with
 | none => (l, 10)
 | some k => if (idx l p j).isSome then (l, 11) else (l.insertIdx (k + 1) ⟨p, j, (l[k]?.map Nod.d).getD 0 + 1⟩, 0)
theorem TreeAt.look {w W : World} {B b m n : Nat} {ps : List Nat} {l : List Nod} {f : Int → Int → Option Nat} (h : TreeAt w B b m n ps l f) (e : W.heap[m]? = w.heap[m]?) {o i : Int} (ho : InS o) (hi : InS i) :
  (Instr.lookup 72 (.map (some m)) (slV o i) false).run Tryd.prog W = .ok (ptrV (f o i)) W := (h.map.of_block e).look ho hi
theorem TreeAt.look_ok {w W : World} {B b m n : Nat} {ps : List Nat} {l : List Nod} {f : Int → Int → Option Nat} (h : TreeAt w B b m n ps l f) (e : W.heap[m]? = w.heap[m]?) {o i : Int} (ho : InS o) (hi : InS i) :
  (Instr.lookup 72 (.map (some m)) (slV o i) true).run Tryd.prog W = .ok (.tuple #[ptrV (f o i), .bool (f o i).isSome]) W := (h.map.of_block e).look_ok ho hi
theorem child_any (w : World) (B b m n : Nat) (ps : List Nat) (l : List Nod) (f : Int → Int → Option Nat) (o i p j : Int) (ho : InS o) (hi : InS i) (hp : InS p) (hj : InS j) (h : TreeAt w B b m n ps l f) (hn : n < 1000000) (hB : B ≤ w.heap.size) :
  Calls Tryd.prog 28 #[.pointer (some ⟨b, 0, none⟩), slV o i, slV p j] w fun e w' => e = .returned (.int .i64 (childA l o i p j).2) ∧ Left w w' B b m (n + 1) ps (childA l o i p j).1 := by
 have his := h.isSome hp hj
 have hfo := h.find ho hi
 have H := hid h
 have hal : Below w.heap.size w ((w.alloc (slO o i)).alloc (slO p j)) := bal (bal (Below.refl _ _) _) _
 have HA := hid hal
 have hl := h.look_ok (W := ((w.alloc (slO o i)).alloc (slO p j)).drew) (hal.drew.block m (h.lt (.inr (.inl rfl)))) ho hi
 obtain ⟨c0, c1, c2, cz⟩ := head_cells h.head
 have hbl : b < w.heap.size := h.lt (.inl rfl)
 unfold childA
 cases hk : idx l o i with
 | none =>
  rw [hk] at hfo
  change f o i = none at hfo
  rw [hfo] at hl
  simp only [ptrV, Option.isSome] at hl
  clear h hal his hfo hk
  go_enter Tryd.func28, Tryd.ntmps28
  go_upto_region 3 with fail
  go_region
  all_goals
   go_wp2
   go_ret
   exact ⟨rfl, Left.same H.out HA.out.drew (Nat.le_succ _)⟩
 | some k =>
  rw [hk] at hfo
  change f o i = ps[k]? at hfo
  obtain ⟨x, hx, hx1, hx2⟩ := idx_some hk
  obtain ⟨pp, hpp⟩ := get_len h.len.symm hx
  have hr := h.row k pp x hpp hx
  have hxi := h.ins k x hx
  rw [hpp] at hfo
  rw [hfo] at hl
  simp only [ptrV, Option.isSome] at hl
  have hxd : (l[k]?.map Nod.d).getD 0 = x.d := by rw [hx]; rfl
  simp only []
  rw [hxd]
  have hd0 := hxi.2.2.1
  have hd1 := hxi.2.2.2
  generalize hd : x.d = d at hd0 hd1 ⊢
  have hdn : d ≤ 1000000 := by omega
  have hdm : -9223372036854775808 ≤ d := by omega
  obtain ⟨r0, r1, r2, r3, r4, rz⟩ := place_cells hr
  rw [hd] at r2
  have hpl : pp < w.heap.size := h.lt (foot_at hpp)
  have HK := hid (show k < ps.length from (lgs hpp).1)
  have HPP := hid hpp
  cases hf : f p j
  ·rw [hf] at his
   have e : (idx l p j).isSome = false := his.symm
   simp only [e, Bool.false_eq_true, if_false]
   have HF := hid hf
   clear h hal his e r0 r1 r3 r4 hxi hx hx1 hx2 hk hfo hxd hpp hr
   have HR2 := hid r2
   clear r2
   go_enter Tryd.func28, Tryd.ntmps28
   go_upto_region 3 with fail
   go_region
   all_goals
    go_upto_region 8 with (go_at_call 48; refine (has_any _ B b m n ps l f p j hp hj (H.out.call HA.out.drew)).mono ?_; rw [HF.out]; rintro e w1 ⟨rfl, hb1⟩)
    have hB1 : Below w.heap.size w w1 := HA.out.drew.trans (hb1.mono HA.out.size)
    have hT := H.out.call hB1
    have hsl : w1.cell? ⟨w.heap.size + 1, 0, none⟩ = some (.int .i64 p) ∧ w1.cell? ⟨w.heap.size + 1, 1, none⟩ = some (.int .i64 j) := by
     obtain ⟨hc, _⟩ := bcell hb1
     constructor
     ·rw [hc _ _ (by simp)]; simp
     ·rw [hc _ _ (by simp)]; simp
    obtain ⟨s0, s1⟩ := hsl
    have r2 : w1.cell? ⟨pp, 2, none⟩ = some (.int .i64 d) := (hB1.cell (p := ⟨pp, 2, none⟩) hpl).trans HR2.out
    have hsz : w.heap.size + 1 < w1.heap.size := by have := hb1.size; simp at this; omega
    have hpl1 : pp < w1.heap.size := by omega
    have hins : Calls Tryd.prog 49 #[.pointer (some ⟨b, 0, none⟩), .pointer (some ⟨w1.heap.size, 0, none⟩), .pointer (some ⟨pp, 0, none⟩)] (w1.alloc (placeO ⟨p, j, d + 1⟩ none none)).drew fun e w' => (∃ v, e = .returned v) ∧ Left w w' B b m (n + 1) ps (l.insertIdx (k + 1) ⟨p, j, d + 1⟩) := by
     have hb2 : Below w1.heap.size w1 (w1.alloc (placeO ⟨p, j, d + 1⟩ none none)).drew := (bal (Below.refl _ _) _).drew
     have hT2 := hT.call hb2
     have hpr : ptrV (prv ps (k + 1)) = .pointer (some ⟨pp, 0, none⟩) := by show ptrV ps[k]? = _; rw [HPP.out]; rfl
     rw [← hpr]
     refine (insert_any _ B b m n ps l f w1.heap.size (k + 1) ⟨p, j, d + 1⟩ hT2 HK.out (World.alloc_heap_new w1 _) (hT.fresh (Nat.le_refl _)) (by omega) ⟨hp, hj, by show 0 ≤ d + 1; omega, by show d + 1 ≤ _; omega⟩ HF.out (by unfold maxLen; omega)).mono ?_
     rintro e w' ⟨hv, hpo⟩
     exact ⟨hv, hpo.left (hB1.trans (hb2.mono hB1.size)) (by omega) HK.out⟩
    have HI := hid hins
    clear hins hT hB1 c0 c1 c2 hl
    go_region_with (go_at_call 49; rw [IntWalk.i64_in (d + 1) (by omega)]; refine HI.out.mono ?_; rintro e w' ⟨⟨v, rfl⟩, hL⟩)
    all_goals
     go_wp2
     go_ret
     exact ⟨rfl, hL⟩
  ·rw [hf] at his
   have e : (idx l p j).isSome = true := his.symm
   simp only [e, if_true]
   have HF := hid hf
   clear h hal his e hr hpp hxi hx hk hxd r0 r1 r2 r3 r4
   go_enter Tryd.func28, Tryd.ntmps28
   go_upto_region 3 with fail
   go_region
   all_goals
    go_wp2_with (go_at_call 48; refine (has_any _ B b m n ps l f p j hp hj (H.out.call HA.out.drew)).mono ?_; rw [HF.out]; rintro e w1 ⟨rfl, hb1⟩)
    go_ret
    exact ⟨rfl, Left.same H.out (HA.out.drew.trans (hb1.mono HA.out.size)) (Nat.le_succ _)⟩
end
section
open Go.ChangeShapes Go.WideShapes Go.ChangeAt Go.RowKit Go.Shelf
def lenOf : Value → Nat
 | .slice _ n _ => n
 | _ => 0
abbrev nodC (x : Nod) : List Value := [.int .i64 x.o, .int .i64 x.i, .int .i64 x.d]
def nodsC (l : List Nod) : List Value := l.flatMap nodC
theorem news_at (wr W : World) (cs : List Value) (t : TypeId) (h : W.heap = (wr.alloc (.cells cs.toArray t)).heap) : ∀ j u, cs[j]? = some u → W.cell? ((⟨wr.heap.size, 0, none⟩ : Addr).add j) = some u := by
 intro j u hj
 have e : ((⟨wr.heap.size, 0, none⟩ : Addr).add j) = ⟨wr.heap.size, j, none⟩ := by unfold Addr.add; split <;> simp_all
 have hb : W.heap[wr.heap.size]? = some (.cells cs.toArray t (0, 0)) := by rw [h]; exact World.alloc_heap_new _ _
 rw [e]
 simp [World.cell?, hb, hj]
end
end Go.Proofs.YtekllgejmgoajaaDoor
