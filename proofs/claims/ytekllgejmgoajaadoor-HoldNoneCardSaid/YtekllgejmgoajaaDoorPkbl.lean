import Derived.Test.YtekllgejmgoajaaDoorPkbk
import Derived.Deep.QuietTactic
import Derived.BigQuiet
import Derived.Deep.RegionHeld3
import Derived.OwnWalk
namespace Go.Proofs.YtekllgejmgoajaaDoor
set_option linter.unusedVariables false
set_option linter.unusedSimpArgs false
set_option maxRecDepth 100000
set_option maxHeartbeats 8000000
open Lib (hid)
section
open Go.ChangeShapes Go.WideShapes Go.ChangeAt Go.RowKit Go.Shelf
namespace HpS
open TabS (Cp Sn zC mayC sizS getR getN FootP foot_ltP SameS AddRel addSR setN setM rowsS hasS dropSR dropSL heldA hdsC)
open TabP (Two Pr)
variable {W w w' : World} {s : Sh} {hb rhb n n' : Nat} {L M L' M' : List Sn} {l l2 l' l2' : List Nod} {S : Nat → Prop}
theorem hfinal (h : Hd W s hb rhb n L M l l2 S w) (hT0 : CX.TabG W) (o i : Int) (hg : (gt L o i).e ≤ 9223372036854775807) (hHe : ∀ k, (TabS.hdAt (heldA L) k).c.e ≤ 9223372036854775807) (hl : L.length < 1000000) (hn : (heldA L).length < 1000000) :
  Calls Tryd.prog 15 #[.pointer (some ⟨hb, 0, none⟩), slV o i] w fun e w' => e = .returned (.bool (finB L o i)) ∧ Below w.heap.size w w' := by
 unfold finB
 by_cases hon : fullN L o i = 0
 ·rw [decide_eq_true hon, Bool.true_and]
  exact callsIn_wide.1 (hfinal_in h hT0 o i hon hg hHe hl hn)
 ·rw [decide_eq_false hon, Bool.false_and]
  exact hfinal_no h o i hon
theorem hunder (h : Hd W s hb rhb n L M l l2 S w) (o i : Int) (ho : InS o) (hi : InS i) (hn : n < 1000000) :
  Calls Tryd.prog 16 #[.pointer (some ⟨hb, 0, none⟩), slV o i] w fun e w' => ∃ v, e = .returned v ∧ w'.ownsRow w.heap.size 23 2 v (belowA l o i).length (slsC (belowA l o i)) ∧ Below w.heap.size w w' := by
 have hb1 : Below w.heap.size w (w.alloc (slO o i)) := bal (Below.refl _ _) _
 obtain ⟨w1, hw1⟩ : ∃ y, y = w.alloc (slO o i) := ⟨_, rfl⟩
 have hs1 : w1.heap[w.heap.size]? = some (.cells #[.int .i64 o, .int .i64 i] 23 (0, 0)) := by rw [hw1]; exact heap_alloc_new w _
 rw [← hw1] at hb1
 have H1 := hid (h.call hb1)
 have HB1 := hid hb1
 have H1d := hid (H1.out.call (show Below w1.heap.size w1 w1.drew from (Below.refl _ _).drew))
 have HC := hid (H1d.out.bo.under o i ho hi hn)
 have HA : Hid (w1.cell? ⟨hb, 1, none⟩ = some (.pointer (some ⟨s.tb, 0, none⟩)) ∧ w1.cell? ⟨w.heap.size, 0, none⟩ = some (.int .i64 o) ∧ w1.cell? ⟨w.heap.size, 1, none⟩ = some (.int .i64 i)) := hid ⟨H1.out.c.2.1, (slot_cells hs1).1, (slot_cells hs1).2⟩
 have HD : Hid (w1.drew.cell? ⟨hb, 1, none⟩ = some (.pointer (some ⟨s.tb, 0, none⟩)) ∧ w1.drew.cell? ⟨w.heap.size, 0, none⟩ = some (.int .i64 o) ∧ w1.drew.cell? ⟨w.heap.size, 1, none⟩ = some (.int .i64 i)) := hid HA.out
 have HS1 := hid hs1
 have HW := hid hw1
 have hz := h.below.size
 clear h hb1 hs1 hw1 ho hi hn hz
 go_enter Tryd.func16, Tryd.ntmps16
 go_upto_region 3 with fail
 rw [show (w.alloc (slO o i)) = w1 from HW.out.symm]
 go_region_held3 (fun w' => w'.cell? ⟨hb, 1, none⟩ = some (.pointer (some ⟨s.tb, 0, none⟩)) ∧ w'.cell? ⟨w.heap.size, 0, none⟩ = some (.int .i64 o) ∧ w'.cell? ⟨w.heap.size, 1, none⟩ = some (.int .i64 i))
  (first | (with_reducible exact HA.out) | (with_reducible exact HD.out) | (with_reducible exact HF.out))
  (first | (go_at_call 39; (with_reducible refine HC.out.mono ?_); rintro e w3 ⟨v, rfl, h1, h2⟩; have HR := hid h1; have HB : Hid (Below w1.heap.size w1 w3) := hid ((show Below w1.heap.size w1 w1.drew from (Below.refl _ _).drew).trans h2); have hs3 := (HB.out.block _ (ags HS1.out).1).trans HS1.out; have HF : Hid (w3.cell? ⟨hb, 1, none⟩ = some (.pointer (some ⟨s.tb, 0, none⟩)) ∧ w3.cell? ⟨w.heap.size, 0, none⟩ = some (.int .i64 o) ∧ w3.cell? ⟨w.heap.size, 1, none⟩ = some (.int .i64 i)) := hid ⟨(H1.out.call HB.out).c.2.1, (slot_cells hs3).1, (slot_cells hs3).2⟩; clear h1 h2 hs3))
 all_goals
  go_wp2
  go_ret
  exact ⟨_, rfl, own_base HR.out (show w.heap.size ≤ w1.drew.heap.size from HB1.out.size), HB1.out.trans (HB.out.mono HB1.out.size)⟩
end HpS
end
section
open Go.ChangeShapes Go.WideShapes Go.ChangeAt Go.RowKit Go.Shelf
structure Dep (l : List Nod) : Prop where
 zero : ∀ x, l[0]? = some x → x.d = 0
 step : ∀ (k : Nat) (x y : Nod), l[k]? = some x → l[k + 1]? = some y → y.d ≤ x.d + 1
 pos : ∀ (k : Nat) (x : Nod), l[k]? = some x → 0 ≤ x.d
def Once (l : List Nod) : Prop := ∀ (k j : Nat) (x y : Nod), l[k]? = some x → l[j]? = some y → x.o = y.o → x.i = y.i → k = j
theorem neS (a b c d : Int) (w : World) : (binOp .neq 23 (slV a b) (slV c d)).run Tryd.prog w = .ok (.bool (!decide (a = c ∧ b = d))) w := by
 go_simp
 repeat (split <;> simp_all)
def SlotsAt (W : World) (v : Value) (l : List Nod) : Prop :=
 (v = .slice none 0 0 ∧ l = []) ∨ ∃ g c, v = .slice (some ⟨g, 0, none⟩) l.length c ∧ g < W.heap.size ∧ ∀ (k : Nat) (x : Nod), l[k]? = some x → W.cell? ⟨g, k * 2, none⟩ = some (.int .i64 x.o) ∧ W.cell? ⟨g, k * 2 + 1, none⟩ = some (.int .i64 x.i)
theorem SlotsAt.call {W W' : World} {v : Value} {l : List Nod} (h : SlotsAt W v l) (hb : Below W.heap.size W W') : SlotsAt W' v l := by
 rcases h with h | ⟨g, c, rfl, hg, hc⟩
 ·exact .inl h
 ·refine .inr ⟨g, c, rfl, Nat.lt_of_lt_of_le hg hb.size, fun k x hx => ?_⟩
  obtain ⟨a1, a2⟩ := hc k x hx
  exact ⟨(hb.cell (p := ⟨g, _, none⟩) hg).trans a1, (hb.cell (p := ⟨g, _, none⟩) hg).trans a2⟩
theorem slsC_get : ∀ (l : List Nod) (k : Nat) (x : Nod), l[k]? = some x → (slsC l)[k * 2]? = some (.int .i64 x.o) ∧ (slsC l)[k * 2 + 1]? = some (.int .i64 x.i)
 | [], k, x, h => by simp at h
 | y :: l, 0, x, h => by simp at h; subst h; exact ⟨rfl, rfl⟩
 | y :: l, k + 1, x, h => by
  obtain ⟨a1, a2⟩ := slsC_get l k x (by simpa using h)
  have e : slsC (y :: l) = .int .i64 y.o :: .int .i64 y.i :: slsC l := rfl
  rw [e, show (k + 1) * 2 = k * 2 + 1 + 1 by omega]
  exact ⟨a1, a2⟩
theorem slots_row {W : World} {B : Nat} {e : TypeId} {v : Value} {l : List Nod} (h : W.ownsRow B e 2 v l.length (slsC l)) : SlotsAt W v l := by
 have hlt := h.lt
 have hcs := fun g hg => h.cells (g := g) hg
 obtain ⟨hl, ⟨rfl, h⟩ | ⟨g, cap, cur, rfl, hg, hblk, h1, h2, h3, h4⟩⟩ := h
 ·exact .inl ⟨rfl, List.length_eq_zero_iff.1 h⟩
 ·refine .inr ⟨g, cap, rfl, (hlt g rfl).2, fun k x hx => ?_⟩
  have e : ∀ j, ((⟨g, 0, none⟩ : Addr).add j) = ⟨g, j, none⟩ := fun j => by unfold Addr.add; split <;> simp_all
  obtain ⟨a1, a2⟩ := slsC_get l k x hx
  have b1 := hcs g rfl _ _ a1
  have b2 := hcs g rfl _ _ a2
  rw [e] at b1 b2
  exact ⟨b1, b2⟩
def dep (l : List Nod) (k : Nat) : Int := ((l[k]?).map Nod.d).getD 0
def Bel (l : List Nod) (k i : Nat) : Prop := k < i ∧ i < l.length ∧ ∀ t, k < t → t ≤ i → dep l k < dep l t
structure Bx (W : World) (s : Nat) (o i : Int) : Prop where
 c0 : W.cell? ⟨s, 0, none⟩ = some (.int .i64 o)
 c1 : W.cell? ⟨s, 1, none⟩ = some (.int .i64 i)
 fz : ∀ k, W.frozen? ⟨s, k, none⟩ = false
 lt : s < W.heap.size
 blk : W.heap[s]? = some (slO o i)
structure Up (l : List Nod) (i : Nat) (d : Int) (c s : Nat) (U : List Nod) : Prop where
 lt : s < l.length
 dep : dep l s = d - c
 len : U.length = c
 bel : ∀ (k : Nat) (y : Nod), l[k]? = some y → (Bel l k i ↔ (idx U y.o y.i).isSome = true ∨ Bel l k s)
structure UpAt (w2 wr W : World) (l : List Nod) (i : Nat) (d : Int) (c : Nat) (v : Value) : Prop where
 up : ∃ (s : Nat) (U : List Nod) (xs : Nod), Up l i d c s U ∧ l[s]? = some xs ∧ Bx W wr.heap.size xs.o xs.i ∧ W.ownsRow (wr.heap.size + 1) 23 2 v c (slsC U)
 below : Below wr.heap.size wr W
def atI (l : List Nod) (o i : Int) : Int := match idx l o i with
 | none => -1
 | some k => k
theorem slots_form {W : World} {v : Value} {l : List Nod} (h : SlotsAt W v l) : ∃ a c, v = .slice a l.length c := by
 rcases h with ⟨rfl, rfl⟩ | ⟨g, c, rfl, _⟩
 ·exact ⟨none, 0, rfl⟩
 ·exact ⟨_, c, rfl⟩
def sl2_TrSd (x : Nod) : Int × Int := (x.o, x.i)
theorem same_slots (w : World) (u v : Value) (l r : List Nod) (hu : SlotsAt w u l) (hv : SlotsAt w v r) (hn : l.length < 1000000) (hr : r.length < 1000000) :
  Calls Tryd.prog 43 #[u, v] w fun e w' => e = .returned (.bool (decide (l.map sl2_TrSd = r.map sl2_TrSd))) ∧ ∃ j, w' = w.drewN j := by
 by_cases hl : l.length = r.length
 ·rcases hu with ⟨rfl, rfl⟩ | ⟨g, c, rfl, hg, hcg⟩
  ·have hr0 : r = [] := List.length_eq_zero_iff.1 hl.symm
   subst hr0
   obtain ⟨a, c, rfl⟩ := (slots_form hv)
   go_enter Tryd.func43, Tryd.ntmps43
   go_wp2
   refine wp_loop_rounds 1 ?_
   rw [rounds_succ]
   go_wp2
   go_ret
   exact ⟨rfl, 0, rfl⟩
  ·rcases hv with ⟨rfl, rfl⟩ | ⟨q, d, rfl, hq, hcq⟩
   ·have hr0 : l = [] := List.length_eq_zero_iff.1 hl
    subst hr0
    go_enter Tryd.func43, Tryd.ntmps43
    go_wp2
    refine wp_loop_rounds 1 ?_
    rw [rounds_succ]
    go_wp2
    go_ret
    exact ⟨rfl, 0, rfl⟩
   ·have HG := hid hcg
    have HQ := hid hcq
    clear hcg hcq
    rw [← hl]
    generalize hN : l.length = N at *
    go_enter Tryd.func43, Tryd.ntmps43
    go_wp2
    go_loopw [5] (fun i wr => ∃ k : Nat, k ≤ N ∧ i = .int .i64 k ∧ (∃ j, wr = w.drewN j) ∧ Hid ((l.take k).map sl2_TrSd = (r.take k).map sl2_TrSd)) (fun i _ => N - (intOf i).toNat)
    case atStart => exact ⟨0, by omega, rfl, ⟨0, rfl⟩, hid (by simp)⟩
    case round =>
     obtain ⟨k, hk, rfl, ⟨j, rfl⟩, HE⟩ := hrel
     by_cases hlt : k < N
     ·obtain ⟨x, hx⟩ : ∃ x, l[k]? = some x := ⟨l[k]'(by omega), List.getElem?_eq_getElem _⟩
      obtain ⟨y, hy⟩ : ∃ y, r[k]? = some y := ⟨r[k]'(by omega), List.getElem?_eq_getElem _⟩
      obtain ⟨x0, x1⟩ := HG.out k x hx
      obtain ⟨y0, y1⟩ := HQ.out k y hy
      have hne := neS x.o x.i y.o y.i
      have hlt' : (k : Int) < N := by omega
      have HX := hid hx
      have HY := hid hy
      clear hx hy
      by_cases hxy : x.o = y.o ∧ x.i = y.i
      ·simp only [hxy, and_self, decide_true, Bool.not_true] at hne
       rw [hxy.1] at x0
       rw [hxy.2] at x1
       have HXY := hid hxy
       clear hxy
       go_wp2
       go_quiet (fail)
       go_wp2
       go_roundw
       case rel => exact ⟨k + 1, by omega, by go_num, ⟨_, rfl⟩, hid (by rw [List.take_add_one, List.take_add_one, HX.out, HY.out, List.map_append, List.map_append, HE.out]; simp [sl2_TrSd, HXY.out])⟩
       case measure => simp [intOf]; omega
      ·simp only [hxy, decide_false, Bool.not_false] at hne
       have hlr : ¬ l.map sl2_TrSd = r.map sl2_TrSd := fun e => hxy (by
        have h1 : (l.map sl2_TrSd)[k]? = some (sl2_TrSd x) := by rw [List.getElem?_map, HX.out]; rfl
        have h2 : (r.map sl2_TrSd)[k]? = some (sl2_TrSd y) := by rw [List.getElem?_map, HY.out]; rfl
        rw [e, h2] at h1
        injection h1 with h1
        injection h1 with e1 e2
        exact ⟨e1.symm, e2.symm⟩)
       go_wp2
       go_quiet (fail)
       go_wp2
       go_ret
       rw [decide_eq_false hlr]
       exact ⟨rfl, _, World.drewN_drewN _ _ _⟩
     ·have hkN : k = N := by omega
      have hlr : l.map sl2_TrSd = r.map sl2_TrSd := by
       have := HE.out
       rw [List.take_of_length_le (by omega), List.take_of_length_le (by omega)] at this
       exact this
      subst hkN
      go_wp2
      go_ret
      rw [decide_eq_true hlr]
      exact ⟨rfl, _, rfl⟩
 ·have hne : ¬ l.map sl2_TrSd = r.map sl2_TrSd := fun e => hl (by have := congrArg List.length e; simpa using this)
  obtain ⟨a, c, rfl⟩ := (slots_form hu)
  obtain ⟨a', c', rfl⟩ := (slots_form hv)
  have hl' : ¬ (l.length : Int) = r.length := by omega
  simp only [hne, decide_false]
  clear hu hv
  generalize l.length = N at *
  generalize r.length = M at *
  go_enter Tryd.func43, Tryd.ntmps43
  go_wp2
  go_ret
  exact ⟨rfl, 0, rfl⟩
end
end Go.Proofs.YtekllgejmgoajaaDoor
