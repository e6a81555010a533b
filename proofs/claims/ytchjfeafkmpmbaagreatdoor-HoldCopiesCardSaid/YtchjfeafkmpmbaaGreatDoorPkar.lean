import Derived.Test.YtchjfeafkmpmbaaGreatDoorPkaq
import Derived.Deep.RegionHeld3
import Derived.OwnWalk
namespace Go.Proofs.YtchjfeafkmpmbaaGreatDoor
set_option linter.unusedVariables false
set_option linter.unusedSimpArgs false
set_option maxRecDepth 100000
set_option maxHeartbeats 8000000
open Lib (hid)
section
open Go.ChangeShapes Go.WideShapes Go.ChangeAt Go.RowKit Go.Shelf
def SlotsAt (W : World) (v : Value) (l : List Nod) : Prop :=
 (v = .slice none 0 0 ∧ l = []) ∨ ∃ g c, v = .slice (some ⟨g, 0, none⟩) l.length c ∧ g < W.heap.size ∧ ∀ (k : Nat) (x : Nod), l[k]? = some x → W.cell? ⟨g, k * 2, none⟩ = some (.int .i64 x.o) ∧ W.cell? ⟨g, k * 2 + 1, none⟩ = some (.int .i64 x.i)
theorem SlotsAt.call {W W' : World} {v : Value} {l : List Nod} (h : SlotsAt W v l) (hb : Below W.heap.size W W') : SlotsAt W' v l := by
 rcases h with h | ⟨g, c, rfl, hg, hc⟩
 ·exact .inl h
 ·refine .inr ⟨g, c, rfl, Nat.lt_of_lt_of_le hg hb.size, fun k x hx => ?_⟩
  obtain ⟨a1, a2⟩ := hc k x hx
  exact ⟨(hb.cell (p := ⟨g, _, none⟩) hg).trans a1, (hb.cell (p := ⟨g, _, none⟩) hg).trans a2⟩
theorem slsC_get : ∀ (l : List Nod) (k : Nat) (x : Nod), l[k]? = some x → (slsC l)[k * 2]? = some (.int .i64 x.o) ∧ (slsC l)[k * 2 + 1]? = some (.int .i64 x.i)
 | [], k, x, h => by simp at h
 | y :: l, 0, x, h => by simp at h; subst h; exact ⟨rfl, rfl⟩
 | y :: l, k + 1, x, h => by
  obtain ⟨a1, a2⟩ := slsC_get l k x (by simpa using h)
  have e : slsC (y :: l) = .int .i64 y.o :: .int .i64 y.i :: slsC l := rfl
  rw [e, show (k + 1) * 2 = k * 2 + 1 + 1 by omega]
  exact ⟨a1, a2⟩
theorem slots_row {W : World} {B : Nat} {e : TypeId} {v : Value} {l : List Nod} (h : W.ownsRow B e 2 v l.length (slsC l)) : SlotsAt W v l := by
 have hlt := h.lt
 have hcs := fun g hg => h.cells (g := g) hg
 obtain ⟨hl, ⟨rfl, h⟩ | ⟨g, cap, cur, rfl, hg, hblk, h1, h2, h3, h4⟩⟩ := h
 ·exact .inl ⟨rfl, List.length_eq_zero_iff.1 h⟩
 ·refine .inr ⟨g, cap, rfl, (hlt g rfl).2, fun k x hx => ?_⟩
  have e : ∀ j, ((⟨g, 0, none⟩ : Addr).add j) = ⟨g, j, none⟩ := fun j => by unfold Addr.add; split <;> simp_all
  obtain ⟨a1, a2⟩ := slsC_get l k x hx
  have b1 := hcs g rfl _ _ a1
  have b2 := hcs g rfl _ _ a2
  rw [e] at b1 b2
  exact ⟨b1, b2⟩
def dep (l : List Nod) (k : Nat) : Int := ((l[k]?).map Nod.d).getD 0
def Bel (l : List Nod) (k i : Nat) : Prop := k < i ∧ i < l.length ∧ ∀ t, k < t → t ≤ i → dep l k < dep l t
structure Bx (W : World) (s : Nat) (o i : Int) : Prop where
 c0 : W.cell? ⟨s, 0, none⟩ = some (.int .i64 o)
 c1 : W.cell? ⟨s, 1, none⟩ = some (.int .i64 i)
 fz : ∀ k, W.frozen? ⟨s, k, none⟩ = false
 lt : s < W.heap.size
 blk : W.heap[s]? = some (slO o i)
theorem Bx.call {W W' : World} {s : Nat} {o i : Int} (h : Bx W s o i) (hb : Below W.heap.size W W') : Bx W' s o i :=
 ⟨(hb.cell (p := ⟨s, 0, none⟩) h.lt).trans h.c0, (hb.cell (p := ⟨s, 1, none⟩) h.lt).trans h.c1, fun k => (hb.frozen (p := ⟨s, k, none⟩) h.lt).trans (h.fz k), Nat.lt_of_lt_of_le h.lt hb.size, (hb.block _ h.lt).trans h.blk⟩
theorem Bx.fresh (W : World) (o i : Int) : Bx (W.alloc (slO o i)) W.heap.size o i := by
 have hb := World.alloc_heap_new W (slO o i)
 refine ⟨?_, ?_, fun k => Go.frozen_of_row _ _ _ _ _ hb, by simp, hb⟩ <;> (unfold World.cell?; simp only [hb]; rfl)
theorem idx_self {l : List Nod} (hO : Once l) {k : Nat} {y : Nod} (hy : l[k]? = some y) : idx l y.o y.i = some k := by
 cases e : idx l y.o y.i with
 | none => exact absurd ⟨rfl, rfl⟩ (idx_none e hy)
 | some k' =>
  obtain ⟨z, hz, h1, h2⟩ := idx_some e
  rw [hO k' k z y hz hy h1 h2]
structure Up (l : List Nod) (i : Nat) (d : Int) (c s : Nat) (U : List Nod) : Prop where
 lt : s < l.length
 dep : dep l s = d - c
 len : U.length = c
 bel : ∀ (k : Nat) (y : Nod), l[k]? = some y → (Bel l k i ↔ (idx U y.o y.i).isSome = true ∨ Bel l k s)
structure UpAt (w2 wr W : World) (l : List Nod) (i : Nat) (d : Int) (c : Nat) (v : Value) : Prop where
 up : ∃ (s : Nat) (U : List Nod) (xs : Nod), Up l i d c s U ∧ l[s]? = some xs ∧ Bx W wr.heap.size xs.o xs.i ∧ W.ownsRow (wr.heap.size + 1) 30 2 v c (slsC U)
 below : Below wr.heap.size wr W
theorem belowA_len (l : List Nod) (o i : Int) : (belowA l o i).length ≤ l.length := by
 unfold belowA
 split
 ·simp
 ·rw [List.length_take, List.length_drop]; omega
theorem three_cells {w2 W : World} {g k : Nat} {x : Nod} (hg : g < w2.heap.size) (h : w2.cell? ⟨g, k * 3, none⟩ = some (.int .i64 x.o) ∧ w2.cell? ⟨g, k * 3 + 1, none⟩ = some (.int .i64 x.i) ∧ w2.cell? ⟨g, k * 3 + 2, none⟩ = some (.int .i64 x.d)) (hb : Below w2.heap.size w2 W) :
  W.cell? ⟨g, k * 3, none⟩ = some (.int .i64 x.o) ∧ W.cell? ⟨g, k * 3 + 1, none⟩ = some (.int .i64 x.i) ∧ W.cell? ⟨g, k * 3 + 2, none⟩ = some (.int .i64 x.d) :=
 ⟨(hb.cell (p := ⟨g, _, none⟩) hg).trans h.1, (hb.cell (p := ⟨g, _, none⟩) hg).trans h.2.1, (hb.cell (p := ⟨g, _, none⟩) hg).trans h.2.2⟩
structure RefT (W : World) (rb : Nat) (v : Value) (l : List Nod) : Prop where
 blk : W.heap[rb]? = some (.cells #[v] 85 (0, 0))
 row : W.ownsRow 0 44 3 v l.length (nodsC l)
 ne : v.ownBlock ≠ some rb
 le : l.length ≤ 1000
 dep : ∀ x ∈ l, -1000 ≤ x.d ∧ x.d ≤ 1000
theorem RefT.call {W W' : World} {rb : Nat} {v : Value} {l : List Nod} (h : RefT W rb v l) (hb : Below W.heap.size W W') : RefT W' rb v l :=
 { h with
  blk := (hb.block _ (ags h.blk).1).trans h.blk
  row := own_block h.row fun g hg => hb.block g (h.row.lt g hg).2 }
theorem RefT.form {W : World} {rb : Nat} {v : Value} {l : List Nod} (h : RefT W rb v l) : ∃ a c, v = .slice a l.length c := (nodes_row h.row).form
def atI (l : List Nod) (o i : Int) : Int := match idx l o i with
 | none => -1
 | some k => k
theorem atI_none {l : List Nod} {o i : Int} (h : ∀ (j : Nat) (x : Nod), l[j]? = some x → ¬ (x.o = o ∧ x.i = i)) : atI l o i = -1 := by
 unfold atI
 cases e : idx l o i with
 | none => rfl
 | some k =>
  obtain ⟨x, hx, e1⟩ := idx_some e
  exact absurd e1 (h k x hx)
theorem atI_first {l : List Nod} {o i : Int} {k : Nat} {x : Nod} (hx : l[k]? = some x) (he : x.o = o ∧ x.i = i) (h : ∀ (j : Nat) (y : Nod), j < k → l[j]? = some y → ¬ (y.o = o ∧ y.i = i)) : atI l o i = k := by
 unfold atI
 have hk := (lgs hx)
 have : idx l o i = some k := by
  unfold idx
  rw [List.findIdx?_eq_some_iff_getElem]
  refine ⟨hk.1, by rw [hk.2]; simpa using he, fun j hj => ?_⟩
  have := h j (l[j]'(by have := hk.1; omega)) hj (List.getElem?_eq_getElem _)
  simpa using this
 rw [this]
theorem rat_any (w : World) (rb : Nat) (v : Value) (l : List Nod) (o i : Int) (h : RefT w rb v l) :
  Calls Tryz.prog 95 #[.pointer (some ⟨rb, 0, none⟩), slV o i] w fun e w' => e = .returned (.int .i64 (atI l o i)) ∧ Below w.heap.size w w' := by
 have hN := nodes_row h.row
 have hrl := (ags h.blk).1
 have hle := h.le
 obtain ⟨r0, rz⟩ := cell_box h.blk
 rcases hN with ⟨rfl, rfl⟩ | ⟨g, c, rfl, hg, hc⟩
 ·go_enter Tryz.func95, Tryz.ntmps95
  go_wp2
  refine wp_loop_rounds 1 ?_
  rw [rounds_succ]
  go_wp2
  go_ret
  exact ⟨rfl, bal (Below.refl _ _) _⟩
 ·have HC := hid hc
  have HS := hid (Sl2.fresh w o i)
  have HB : Hid (Below w.heap.size w (w.alloc (slO o i))) := hid (bal (Below.refl _ _) _)
  clear hc h
  generalize hL : l.length = L at *
  have HL := hid hL
  clear hL
  go_enter Tryz.func95, Tryz.ntmps95
  go_wp2
  obtain ⟨w1, hw1⟩ : ∃ x, x = w.alloc (slO o i) := ⟨_, rfl⟩
  rw [show w.alloc (.cells #[.int .i64 o, .int .i64 i] 30) = w1 from hw1.symm]
  have hS : Sl2 w1 w.heap.size o i := hw1 ▸ HS.out
  have hB : Below w.heap.size w w1 := hw1 ▸ HB.out
  obtain ⟨s0, s1, sl⟩ := hS
  have q0 := (hB.cell (p := ⟨rb, 0, none⟩) hrl).trans r0
  have HB1 := hid hB
  clear hw1 hB HS HB r0 rz
  go_loopw [5] (fun t wr => ∃ (k z : Nat), k ≤ L ∧ t = .int .i64 k ∧ wr = w1.drewN z ∧ Hid (∀ (j : Nat) (x : Nod), j < k → l[j]? = some x → ¬ (x.o = o ∧ x.i = i))) (fun t _ => L - (intOf t).toNat)
  case atStart => exact ⟨0, 0, by omega, rfl, rfl, hid (fun j x h => by omega)⟩
  case round =>
   obtain ⟨k, z, hk, rfl, rfl, HN⟩ := hrel
   by_cases hlt : k < L
   ·have hLL := HL.out
    obtain ⟨x, hx⟩ : ∃ x, l[k]? = some x := ⟨l[k]'(by omega), List.getElem?_eq_getElem _⟩
    obtain ⟨y0, y1, y2⟩ := HC.out k x hx
    have x0 := (HB1.out.cell (p := ⟨g, _, none⟩) hg).trans y0
    have x1 := (HB1.out.cell (p := ⟨g, _, none⟩) hg).trans y1
    have hlt' : (k : Int) < L := by omega
    have hes := eqS x.o x.i o i
    have HX := hid hx
    clear hLL y0 y1 y2 hx
    by_cases he : x.o = o ∧ x.i = i
    ·have HSO := hid (atI_first HX.out he HN.out)
     simp only [he, and_self, decide_true] at hes
     rw [he.1] at x0
     rw [he.2] at x1
     clear he
     go_wp2
     go_quiet (fail)
     go_wp2
     go_ret
     rw [HSO.out]
     exact ⟨rfl, below_drewN (below_drewN HB1.out _) _⟩
    ·simp only [he, decide_false] at hes
     have HE := hid he
     clear he
     go_wp2
     go_quiet (fail)
     go_wp2
     go_roundw
     case rel => exact ⟨k + 1, z + nq, by omega, by go_num, by first | rfl | simp, hid (fun j y h1 h2 => by
      rcases Nat.lt_or_ge j k with h3 | h3
      ·exact HN.out j y h3 h2
      ·have : j = k := by omega
       rw [this, HX.out] at h2
       cases h2
       exact HE.out)⟩
     case measure => first | (simp [intOf]; done) | (simp [intOf]; omega)
   ·obtain rfl : k = L := by omega
    have HNO := hid (atI_none (l := l) (o := o) (i := i) (fun j x hj => HN.out j x (by have := (lgs hj).1; have := HL.out; omega) hj))
    go_wp2
    go_ret
    rw [HNO.out]
    exact ⟨rfl, below_drewN HB1.out _⟩
theorem RefT.getg {W : World} {rb : Nat} {v : Value} {l : List Nod} (h : RefT W rb v l) (h0 : 0 < l.length) : ∃ g c, v = .slice (some ⟨g, 0, none⟩) l.length c ∧ g < W.heap.size ∧ g ≠ rb ∧ ∀ (k : Nat) (x : Nod), l[k]? = some x → W.cell? ⟨g, k * 3, none⟩ = some (.int .i64 x.o) ∧ W.cell? ⟨g, k * 3 + 1, none⟩ = some (.int .i64 x.i) ∧ W.cell? ⟨g, k * 3 + 2, none⟩ = some (.int .i64 x.d) := by
 rcases nodes_row h.row with ⟨_, rfl⟩ | ⟨g, c, rfl, hg, hc⟩
 ·cases h0
 ·exact ⟨g, c, rfl, hg, fun e => h.ne (by rw [← e]; rfl), hc⟩
theorem rend_any (w : World) (rb : Nat) (v : Value) (l : List Nod) (k : Nat) (y : Nod) (h : RefT w rb v l) (hy : l[k]? = some y) :
  Calls Tryz.prog 96 #[.pointer (some ⟨rb, 0, none⟩), .int .i64 (k : Int)] w fun e w' => e = .returned (.int .i64 ((k + 1 + belowN l k : Nat) : Int)) ∧ Below w.heap.size w w' := by
 have hkl := (lgs hy).1
 have hle := h.le
 obtain ⟨g, c, rfl, hg, hgr, hc⟩ := h.getg (by omega)
 obtain ⟨r0, rz⟩ := cell_box h.blk
 have hble := belowN_le hkl
 have HC := hid hc
 have HY := hid hy
 obtain ⟨y0, y1, y2⟩ := hc k y hy
 have hkL : (k : Int) < l.length := by omega
 clear hc h rz y0 y1 hy
 generalize hL : l.length = L at *
 have HL := hid hL
 clear hL
 generalize hyd : y.d = yd at y2
 have HYD := hid hyd
 clear hyd
 go_enter Tryz.func96, Tryz.ntmps96
 go_wp2
 go_loopw [5] (fun t wr => ∃ (cc z : Nat), cc ≤ belowN l k ∧ t = .int .i64 ((k + 1 + cc : Nat) : Int) ∧ wr = w.drewN z) (fun t _ => L - (intOf t).toNat)
 case atStart => exact ⟨0, 0, by omega, by first | rfl | go_num, rfl⟩
 case round =>
  obtain ⟨cc, z, hcc, rfl, rfl⟩ := hrel
  obtain ⟨i, hi⟩ : ∃ i, k + 1 + cc = i := ⟨_, rfl⟩
  rw [hi]
  by_cases hiL : i < L
  ·have hLL := HL.out
   obtain ⟨x, hx⟩ : ∃ x, l[i]? = some x := ⟨l[i]'(by omega), List.getElem?_eq_getElem _⟩
   obtain ⟨x0, x1, x2⟩ := HC.out i x hx
   have hiL' : (i : Int) < L := by omega
   by_cases hlt : cc < belowN l k
   ·have hgt : yd < x.d := by
     obtain ⟨x', hx', hd⟩ := belowN_in HY.out hlt
     rw [hi, hx] at hx'
     cases hx'
     rw [← HYD.out]; exact hd
    have hcmp : decide (yd < x.d) = true := decide_eq_true hgt
    have HI := hid hi
    generalize x.d = xd at *
    clear hx x0 x1 hLL hi
    go_wp2
    go_quiet (fail)
    go_wp2
    go_roundw
    case rel => exact ⟨cc + 1, z + nq, by omega, by
     have := HI.out
     have e : ((k + 1 + (cc + 1) : Nat) : Int) = (i : Int) + 1 := by omega
     rw [e], by first | rfl | simp⟩
    case measure => first | (simp [intOf]; done) | (simp [intOf]; omega)
   ·have hce : cc = belowN l k := by omega
    have hle2 : x.d ≤ yd := by
     rw [← HYD.out]
     exact belowN_out HY.out (by rw [← hce, hi]; exact hx)
    have hcmp : decide (yd < x.d) = false := decide_eq_false (by omega)
    have HI := hid (show k + 1 + belowN l k = i by omega)
    generalize x.d = xd at *
    clear hx x0 x1 hLL hi
    go_wp2
    go_quiet (fail)
    go_wp2
    go_ret
    rw [HI.out]
    exact ⟨rfl, below_drewN (below_drewN (Below.refl _ _) _) _⟩
  ·have HI := hid (show k + 1 + belowN l k = i by omega)
   have hiL' : ¬ (i : Int) < L := by omega
   have hiL2 : decide ((i : Int) < L) = false := decide_eq_false hiL'
   have hiL3 : decide (i < L) = false := decide_eq_false hiL
   go_wp2
   go_quiet (fail)
   go_wp2
   go_ret
   rw [HI.out]
   exact ⟨rfl, below_drewN (below_drewN (Below.refl _ _) _) _⟩
theorem slots_form {W : World} {v : Value} {l : List Nod} (h : SlotsAt W v l) : ∃ a c, v = .slice a l.length c := by
 rcases h with ⟨rfl, rfl⟩ | ⟨g, c, rfl, _⟩
 ·exact ⟨none, 0, rfl⟩
 ·exact ⟨_, c, rfl⟩
def sl2_TrSd (x : Nod) : Int × Int := (x.o, x.i)
theorem same_slots (w : World) (u v : Value) (l r : List Nod) (hu : SlotsAt w u l) (hv : SlotsAt w v r) (hn : l.length < 1000000) (hr : r.length < 1000000) :
  Calls Tryz.prog 25 #[u, v] w fun e w' => e = .returned (.bool (decide (l.map sl2_TrSd = r.map sl2_TrSd))) ∧ ∃ j, w' = w.drewN j := by
 by_cases hl : l.length = r.length
 ·rcases hu with ⟨rfl, rfl⟩ | ⟨g, c, rfl, hg, hcg⟩
  ·have hr0 : r = [] := List.length_eq_zero_iff.1 hl.symm
   subst hr0
   obtain ⟨a, c, rfl⟩ := (slots_form hv)
   go_enter Tryz.func25, Tryz.ntmps25
   go_wp2
   refine wp_loop_rounds 1 ?_
   rw [rounds_succ]
   go_wp2
   go_ret
   exact ⟨rfl, 0, rfl⟩
  ·rcases hv with ⟨rfl, rfl⟩ | ⟨q, d, rfl, hq, hcq⟩
   ·have hr0 : l = [] := List.length_eq_zero_iff.1 hl
    subst hr0
    go_enter Tryz.func25, Tryz.ntmps25
    go_wp2
    refine wp_loop_rounds 1 ?_
    rw [rounds_succ]
    go_wp2
    go_ret
    exact ⟨rfl, 0, rfl⟩
   ·have HG := hid hcg
    have HQ := hid hcq
    clear hcg hcq
    rw [← hl]
    generalize hN : l.length = N at *
    go_enter Tryz.func25, Tryz.ntmps25
    go_wp2
    go_loopw [5] (fun i wr => ∃ k : Nat, k ≤ N ∧ i = .int .i64 k ∧ (∃ j, wr = w.drewN j) ∧ Hid ((l.take k).map sl2_TrSd = (r.take k).map sl2_TrSd)) (fun i _ => N - (intOf i).toNat)
    case atStart => exact ⟨0, by omega, rfl, ⟨0, rfl⟩, hid (by simp)⟩
    case round =>
     obtain ⟨k, hk, rfl, ⟨j, rfl⟩, HE⟩ := hrel
     by_cases hlt : k < N
     ·obtain ⟨x, hx⟩ : ∃ x, l[k]? = some x := ⟨l[k]'(by omega), List.getElem?_eq_getElem _⟩
      obtain ⟨y, hy⟩ : ∃ y, r[k]? = some y := ⟨r[k]'(by omega), List.getElem?_eq_getElem _⟩
      obtain ⟨x0, x1⟩ := HG.out k x hx
      obtain ⟨y0, y1⟩ := HQ.out k y hy
      have hne := neS x.o x.i y.o y.i
      have hlt' : (k : Int) < N := by omega
      have HX := hid hx
      have HY := hid hy
      clear hx hy
      by_cases hxy : x.o = y.o ∧ x.i = y.i
      ·simp only [hxy, and_self, decide_true, Bool.not_true] at hne
       rw [hxy.1] at x0
       rw [hxy.2] at x1
       have HXY := hid hxy
       clear hxy
       go_wp2
       go_quiet (fail)
       go_wp2
       go_roundw
       case rel => exact ⟨k + 1, by omega, by go_num, ⟨_, rfl⟩, hid (by rw [List.take_add_one, List.take_add_one, HX.out, HY.out, List.map_append, List.map_append, HE.out]; simp [sl2_TrSd, HXY.out])⟩
       case measure => simp [intOf]; omega
      ·simp only [hxy, decide_false, Bool.not_false] at hne
       have hlr : ¬ l.map sl2_TrSd = r.map sl2_TrSd := fun e => hxy (by
        have h1 : (l.map sl2_TrSd)[k]? = some (sl2_TrSd x) := by rw [List.getElem?_map, HX.out]; rfl
        have h2 : (r.map sl2_TrSd)[k]? = some (sl2_TrSd y) := by rw [List.getElem?_map, HY.out]; rfl
        rw [e, h2] at h1
        injection h1 with h1
        injection h1 with e1 e2
        exact ⟨e1.symm, e2.symm⟩)
       go_wp2
       go_quiet (fail)
       go_wp2
       go_ret
       rw [decide_eq_false hlr]
       exact ⟨rfl, _, World.drewN_drewN _ _ _⟩
     ·have hkN : k = N := by omega
      have hlr : l.map sl2_TrSd = r.map sl2_TrSd := by
       have := HE.out
       rw [List.take_of_length_le (by omega), List.take_of_length_le (by omega)] at this
       exact this
      subst hkN
      go_wp2
      go_ret
      rw [decide_eq_true hlr]
      exact ⟨rfl, _, rfl⟩
 ·have hne : ¬ l.map sl2_TrSd = r.map sl2_TrSd := fun e => hl (by have := congrArg List.length e; simpa using this)
  obtain ⟨a, c, rfl⟩ := (slots_form hu)
  obtain ⟨a', c', rfl⟩ := (slots_form hv)
  have hl' : ¬ (l.length : Int) = r.length := by omega
  simp only [hne, decide_false]
  clear hu hv
  generalize l.length = N at *
  generalize r.length = M at *
  go_enter Tryz.func25, Tryz.ntmps25
  go_wp2
  go_ret
  exact ⟨rfl, 0, rfl⟩
theorem grown_cell (w : World) (g i : Nat) (u : Value) : w.grownBy (w.setCell ⟨g, i, none⟩ u) (some g) :=
 ⟨rfl, rfl, rfl, by simp, fun k _ hk => Go.heap_setCell_other _ _ _ _ (fun e => hk (by rw [e]))⟩
def Apart (x y : Nod) : Prop := ¬ (x.o = y.o ∧ x.i = y.i)
def cur (l : List Nod) (D : Int) (i : Nat) : List Nod := (l.take i).filter (fun x => decide (x.d < D)) ++ (l.drop i).filter (fun x => decide (x.d < D + 1))
theorem take_at {l : List Nod} {i : Nat} {x : Nod} (hx : l[i]? = some x) : l.take (i + 1) = l.take i ++ [x] := by
 rw [List.take_add_one, hx]; rfl
def rem (l : List Nod) (k : Nat) : List Nod := (low l k (belowN l k)).eraseIdx k
theorem rem_get {l : List Nod} {k j : Nat} : (rem l k)[j]? = (low l k (belowN l k))[back k j]? := del_back
theorem rem_slot {l : List Nod} {k j : Nat} {y : Nod} (h : (rem l k)[j]? = some y) : ∃ x, l[back k j]? = some x ∧ y.o = x.o ∧ y.i = x.i := by
 rw [rem_get] at h
 exact low_slot h
def fwd (k t : Nat) : Nat := if t < k then t else t - 1
theorem back_fwd {k t : Nat} (h : t ≠ k) : back k (fwd k t) = t := by
 unfold back fwd
 by_cases h1 : t < k
 ·simp [h1]
 ·have h2 : ¬ t - 1 < k := by omega
  simp only [h1, h2, if_false]
  omega
theorem rem_at {l : List Nod} {k t : Nat} {x : Nod} (h : t ≠ k) (hx : l[t]? = some x) : ∃ y, (rem l k)[fwd k t]? = some y ∧ y.o = x.o ∧ y.i = x.i := by
 rw [rem_get, back_fwd h, low_get, hx]
 refine ⟨_, rfl, ?_⟩
 split <;> exact ⟨rfl, rfl⟩
theorem rem_len {l : List Nod} {k : Nat} (hk : k < l.length) : (rem l k).length + 1 = l.length := by
 unfold rem
 rw [List.length_eraseIdx, low_len, if_pos hk]
 omega
theorem rem_gone {l : List Nod} (hO : Once l) {k : Nat} {p : Nod} (hp : l[k]? = some p) : idx (rem l k) p.o p.i = none := by
 cases e : idx (rem l k) p.o p.i with
 | none => rfl
 | some j =>
  obtain ⟨y, hy, h1, h2⟩ := idx_some e
  obtain ⟨z, hz, q1, q2⟩ := rem_slot hy
  exact absurd (hO _ _ _ _ hz hp (by omega) (by omega)) (back_ne k j)
theorem remove_eq {l : List Nod} (hO : Once l) {k : Nat} {p : Nod} (hp : l[k]? = some p) : removeA l p.o p.i = (rem l k, 0) := by
 unfold removeA
 rw [idx_self hO hp]
 rfl
def OwnR (W : World) (rb g : Nat) : Prop := ∃ v, W.cell? ⟨rb, 0, none⟩ = some v ∧ v.ownBlock = some g
structure OnlyR (rb : Nat) (w w' : World) : Prop where
 os : w'.os = w.os
 tape : w'.tape = w.tape
 output : w'.output = w.output
 size : w.heap.size ≤ w'.heap.size
 block : ∀ k, k < w.heap.size → k ≠ rb → w'.heap[k]? = w.heap[k]?
 own : rb < w.heap.size → ∀ g, OwnR w' rb g → OwnR w rb g ∨ w.heap.size ≤ g
theorem OnlyR.of_below {rb : Nat} {w w' : World} (h : Below w.heap.size w w') : OnlyR rb w w' := ⟨h.os, h.tape, h.output, h.size, fun k hk _ => h.block k hk, fun hr g ⟨v, e, q⟩ => .inl ⟨v, (h.cell (p := ⟨rb, 0, none⟩) hr).symm.trans e, q⟩⟩
theorem OnlyR.trans {rb : Nat} {a b c : World} (h : OnlyR rb a b) (k : OnlyR rb b c) : OnlyR rb a c :=
 ⟨k.os.trans h.os, k.tape.trans h.tape, k.output.trans h.output, Nat.le_trans h.size k.size, fun j h1 h2 => (k.block j (Nat.lt_of_lt_of_le h1 h.size) h2).trans (h.block j h1 h2), fun hr g q => (k.own (Nat.lt_of_lt_of_le hr h.size) g q).elim (h.own hr g) (fun q => .inr (Nat.le_trans h.size q))⟩
theorem RefT.store {w W : World} {rb : Nat} {v u : Value} {l l' : List Nod} (h : RefT w rb v l) (hb : Below w.heap.size w W) (hrow : W.ownsRow w.heap.size 44 3 u l'.length (nodsC l')) (hl : l'.length ≤ 1000) (hd : ∀ x ∈ l', -1000 ≤ x.d ∧ x.d ≤ 1000) :
  RefT (W.setCell ⟨rb, 0, none⟩ u) rb u l' ∧ OnlyR rb w (W.setCell ⟨rb, 0, none⟩ u) := by
 have hrl := (ags h.blk).1
 have hgr : ∀ g, u.ownBlock = some g → g ≠ rb := fun g hg e => by have := (hrow.lt g hg).1; omega
 have hbk : (W.setCell ⟨rb, 0, none⟩ u).heap[rb]? = some (.cells #[u] 85 (0, 0)) := Go.heap_setCell_same _ _ _ _ _ _ ((hb.block _ hrl).trans h.blk)
 refine ⟨⟨hbk, ?_, fun e => hgr rb e rfl, hl, hd⟩, hb.os, hb.tape, hb.output, by simp; exact hb.size, fun k hk hn => (Go.heap_setCell_other _ _ _ _ hn).trans (hb.block k hk), fun _ g ⟨v', e, q⟩ => .inr ?_⟩
 ·exact own_block (own_base hrow (Nat.zero_le _)) (fun g hg => Go.heap_setCell_other _ _ _ _ (hgr g hg))
 ·have := (cell_box hbk).1.symm.trans e
  cases this
  exact (hrow.lt g q).1
def remP (l : List Nod) (k i : Nat) : List Nod := ((low l k (belowN l k)).take i).eraseIdx k
theorem low_take_len (l : List Nod) (k c i : Nat) (h : i ≤ l.length) : ((low l k c).take i).length = i := by rw [List.length_take, low_len]; omega
theorem remP_skip {l : List Nod} {k : Nat} (h : k < l.length) : remP l k (k + 1) = remP l k k := by
 unfold remP
 apply List.ext_getElem?
 intro j
 have h1 := low_take_len l k (belowN l k) k (by omega)
 have h2 := low_take_len l k (belowN l k) (k + 1) (by omega)
 rw [del_back, del_back, List.getElem?_take, List.getElem?_take]
 unfold back
 by_cases hh : j < k
 ·simp [hh, show j < k + 1 by omega]
 ·simp [hh]; omega
theorem remP_step {l : List Nod} {k i : Nat} {z : Nod} (hk : k < l.length) (hne : i ≠ k) (hz : (low l k (belowN l k))[i]? = some z) : remP l k (i + 1) = remP l k i ++ [z] := by
 have hi := (lgs hz).1
 rw [low_len] at hi
 unfold remP
 rw [take_at hz]
 have hl := low_take_len l k (belowN l k) i (by omega)
 rcases Nat.lt_or_ge k i with h | h
 ·rw [List.eraseIdx_append_of_lt_length (by omega)]
 ·rw [List.eraseIdx_of_length_le (by simp; omega), List.eraseIdx_of_length_le (by omega)]
theorem remP_all {l : List Nod} {k : Nat} : remP l k l.length = rem l k := by
 unfold remP rem
 rw [List.take_of_length_le (by rw [low_len]; exact Nat.le_refl _)]
theorem remP_len {l : List Nod} {k i : Nat} (hi : i ≤ l.length) : (remP l k i).length ≤ i := by
 unfold remP
 exact Nat.le_trans (List.length_eraseIdx_le _ _) (by rw [low_take_len l k _ i hi]; exact Nat.le_refl _)
theorem news_at2 (w4 : World) (o : Obj) (cs : List Value) (t : TypeId) : ∀ j u, cs[j]? = some u → ((w4.alloc o).alloc (.cells cs.toArray t)).cell? ((⟨w4.heap.size + 1, 0, none⟩ : Addr).add j) = some u := by
 have := news_at (w4.alloc o) _ cs t rfl
 rwa [World.size_alloc] at this
theorem nodsC_snoc (l : List Nod) (x : Nod) : nodsC (l ++ [x]) = nodsC l ++ nodC x := by simp [nodsC]
theorem rem_bound {l : List Nod} {k : Nat} (h : ∀ x ∈ l, -1000 ≤ x.d ∧ x.d ≤ 1000) (hP : Dep l) : ∀ x ∈ rem l k, -1000 ≤ x.d ∧ x.d ≤ 1000 := by
 intro x hx
 obtain ⟨j, hj⟩ := List.getElem?_of_mem hx
 rw [rem_get, low_get] at hj
 obtain ⟨y, hy, e⟩ := Option.map_eq_some_iff.1 hj
 have h1 := h y (List.mem_of_getElem? hy)
 have h2 := hP.pos _ _ hy
 rw [← e]
 split
 ·show -1000 ≤ y.d - 1 ∧ y.d - 1 ≤ 1000
  omega
 ·exact h1
theorem rremove_any (w : World) (rb : Nat) (v : Value) (l : List Nod) (o i : Int) (h : RefT w rb v l) (hP : Dep l) :
  Calls Tryz.prog 93 #[.pointer (some ⟨rb, 0, none⟩), slV o i] w fun e w' => e = .returned (.int .i64 (removeA l o i).2) ∧ (∃ u, RefT w' rb u (removeA l o i).1) ∧ OnlyR rb w w' := by
 have hal : Below w.heap.size w (w.alloc (slO o i)) := bal (Below.refl _ _) _
 have HA := hid hal
 have HR := hid h
 unfold removeA
 cases hk : idx l o i with
 | none =>
  have hat : atI l o i = -1 := by unfold atI; rw [hk]
  have HAT := hid hat
  clear h hal hk hat
  go_enter Tryz.func93, Tryz.ntmps93
  go_wp2_with (go_at_call 95; with_reducible refine (rat_any _ rb v l o i (HR.out.call HA.out)).mono ?_; rw [HAT.out]; rintro e w1 ⟨rfl, hb1⟩)
  go_ret
  have hb := HA.out.trans (hb1.mono HA.out.size)
  exact ⟨rfl, ⟨_, HR.out.call hb⟩, .of_below hb⟩
 | some k =>
  obtain ⟨x, hx, hxs⟩ := idx_some hk
  have hkl := (lgs hx).1
  have hat : atI l o i = (k : Int) := by unfold atI; rw [hk]
  have HAT := hid hat
  have hle := h.le
  have HBD := hid h.dep
  obtain ⟨i0, hi0, hz0, hz1, hz2⟩ := info_parts infoNd
  have HI0 := hid hi0
  obtain ⟨g, c, rfl, hg, hgr, hc⟩ := h.getg (by omega)
  have HC := hid hc
  have HX := hid hx
  have HG := hid hg
  have hble := belowN_le hkl
  clear h hal hk hat hx hc hg hi0
  generalize hL : l.length = L at *
  have HL := hid hL
  clear hL
  have hkx : ¬ (k : Int) < 0 := by omega
  obtain ⟨E, hE⟩ : ∃ E, k + 1 + belowN l k = E := ⟨_, rfl⟩
  have HE := hid hE
  clear hE
  go_enter Tryz.func93, Tryz.ntmps93
  go_wp2_with (first
   | (go_at_call 95; with_reducible refine (rat_any _ rb _ l o i (HR.out.call HA.out)).mono ?_; rw [HAT.out]; rintro e w1 ⟨rfl, hb1⟩; have HB1 := hid (HA.out.trans (hb1.mono HA.out.size)); clear hb1)
   | (go_at_call 96; with_reducible refine (rend_any _ rb _ l k x (HR.out.call HB1.out) HX.out).mono ?_; rw [HE.out]; rintro e w2 ⟨rfl, hb2⟩; have HB2 := hid (HB1.out.trans (hb2.mono HB1.out.size)); clear hb2))
  go_loopw [7, 8] (fun u t wr => ∃ (j : Nat), j ≤ L ∧ t = .int .i64 (j : Int) ∧ Hid (wr.ownsRow w.heap.size 44 3 u (remP l k j).length (nodsC (remP l k j)) ∧ Below w.heap.size w wr)) (fun _ t _ => L - (intOf t).toNat)
  case atStart => exact ⟨0, by omega, by first | rfl | go_num, hid ⟨by simp [remP, nodsC]; exact World.ownsRow_nil _ _ _ _, HB2.out⟩⟩
  case round =>
   obtain ⟨j, hj, rfl, HST⟩ := hrel
   have hblk := (HR.out.call HST.out.2).blk
   obtain ⟨r0, rz⟩ := cell_box hblk
   have hrl := (ags hblk).1
   by_cases hjL : j < L
   ·have hLL := HL.out
    obtain ⟨y, hy⟩ : ∃ y, l[j]? = some y := ⟨l[j]'(by omega), List.getElem?_eq_getElem _⟩
    obtain ⟨y0, y1, y2⟩ := three_cells HG.out (HC.out j y hy) HST.out.2
    have hjL' : (j : Int) < L := by omega
    have hyb := HBD.out y (List.mem_of_getElem? hy)
    have HRL := hid (remP_len (l := l) (k := k) (i := j) (by omega))
    have HY := hid hy
    have hcb : (remP l k j).length ≤ 1000 := by have := HRL.out; omega
    clear hLL hy rz hblk
    by_cases hjk : j = k
    ·have HSK := hid (remP_skip (l := l) (k := k) (by have := HL.out; omega))
     have hjk' : ((j : Int) == (k : Int)) = true := by simp [hjk]
     have hgt : decide ((k : Int) < (j : Int)) = false := decide_eq_false (by omega)
     have hgt2 : decide (k < j) = false := decide_eq_false (by omega)
     have HJK := hid hjk
     clear hjk
     go_wp2
     go_roundw
     case rel =>
      have e := HJK.out
      refine ⟨j + 1, by omega, by go_num, hid ?_⟩
      have h1 := HST.out.1
      have h2 := HST.out.2
      rw [e] at h1
      rw [e, HSK.out]
      exact ⟨own_block h1 (fun g hg => Below.heap_alloc _ _ _ (h1.lt g hg).2), h2.alloc h2.size _⟩
     case measure => first | (simp [intOf]; done) | (simp [intOf]; omega)
    ·have hne : ((j : Int) == (k : Int)) = false := beq_eq_false_iff_ne.2 (by omega)
     by_cases hin : k < j ∧ j < E
     ·have hz : (low l k (belowN l k))[j]? = some { y with d := y.d - 1 } := by
       rw [low_get, HY.out]
       show some (if _ then _ else _) = _
       rw [if_pos ⟨hin.1, by have := HE.out; omega⟩]
      have HSTEP := hid (remP_step (by have := HL.out; omega) hjk hz)
      have hgt : decide ((k : Int) < (j : Int)) = true := decide_eq_true (by omega)
      have hgt2 : decide (k < j) = true := decide_eq_true (by omega)
      have hlt2 : decide ((j : Int) < (E : Int)) = true := decide_eq_true (by omega)
      have hlt3 : decide (j < E) = true := decide_eq_true (by omega)
      have hkj : k < j := hin.1
      have hjE : j < E := hin.2
      clear hz hin hjk
      go_wp2_with (at_builtin; refine wpList_append_own _ rfl _ _ 41 rfl w.heap.size 44 i0 (.agg #[.int .i64 0, .int .i64 0, .int .i64 0]) 3 24 Tryz.underlying41 HI0.out hz0 hz1 hz2 rfl (by decide) _ _ _ rfl ((HST.out.1.alloc _).alloc _) ⟨wr.heap.size + 1, 0, none⟩ 1 1 (nodC { y with d := y.d - 1 }) rfl rfl (news_at2 wr _ (nodC { y with d := y.d - 1 }) _) (by simp [Value.oneCell']) (by unfold maxLen; omega) (by omega) (by have := HST.out.2.size; simp; omega) ?_; intro u' w3 hown hgrow _; have HOW := hid hown; have HGR := hid hgrow; clear hown hgrow)
      go_roundw
      case rel =>
       refine ⟨j + 1, by omega, by go_num, hid ?_⟩
       rw [HSTEP.out, nodsC_snoc, List.length_append]
       refine ⟨HOW.out, ?_⟩
       exact ((HST.out.2.alloc HST.out.2.size _).alloc (Nat.le_trans HST.out.2.size (by simp)) _).grown HGR.out (by have := HST.out.2.size; simp; omega) (fun j ej => (HST.out.1.lt j ej).1)
      case measure => first | (simp [intOf]; done) | (simp [intOf]; omega)
     ·have hz : (low l k (belowN l k))[j]? = some y := by
       rw [low_out (by have := HE.out; omega)]
       exact HY.out
      have HSTEP := hid (remP_step (by have := HL.out; omega) hjk hz)
      by_cases hkj : k < j
      ·have hgt : decide ((k : Int) < (j : Int)) = true := decide_eq_true (by omega)
       have hgt2 : decide (k < j) = true := decide_eq_true (by omega)
       have hlt2 : decide ((j : Int) < (E : Int)) = false := decide_eq_false (by omega)
       have hlt3 : decide (j < E) = false := decide_eq_false (by omega)
       have hjE : ¬ j < E := by omega
       clear hz hin hjk
       go_wp2_with (at_builtin; refine wpList_append_own _ rfl _ _ 41 rfl w.heap.size 44 i0 (.agg #[.int .i64 0, .int .i64 0, .int .i64 0]) 3 24 Tryz.underlying41 HI0.out hz0 hz1 hz2 rfl (by decide) _ _ _ rfl ((HST.out.1.alloc _).alloc _) ⟨wr.heap.size + 1, 0, none⟩ 1 1 (nodC y) rfl rfl (news_at2 wr _ (nodC y) _) (by simp [Value.oneCell']) (by unfold maxLen; omega) (by omega) (by have := HST.out.2.size; simp; omega) ?_; intro u' w3 hown hgrow _; have HOW := hid hown; have HGR := hid hgrow; clear hown hgrow)
       go_roundw
       case rel =>
        refine ⟨j + 1, by omega, by go_num, hid ?_⟩
        rw [HSTEP.out, nodsC_snoc, List.length_append]
        refine ⟨HOW.out, ?_⟩
        exact ((HST.out.2.alloc HST.out.2.size _).alloc (Nat.le_trans HST.out.2.size (by simp)) _).grown HGR.out (by have := HST.out.2.size; simp; omega) (fun j ej => (HST.out.1.lt j ej).1)
       case measure => first | (simp [intOf]; done) | (simp [intOf]; omega)
      ·have hgt : decide ((k : Int) < (j : Int)) = false := decide_eq_false (by omega)
       have hgt2 : decide (k < j) = false := decide_eq_false (by omega)
       clear hz hin hjk
       go_wp2_with (at_builtin; refine wpList_append_own _ rfl _ _ 41 rfl w.heap.size 44 i0 (.agg #[.int .i64 0, .int .i64 0, .int .i64 0]) 3 24 Tryz.underlying41 HI0.out hz0 hz1 hz2 rfl (by decide) _ _ _ rfl ((HST.out.1.alloc _).alloc _) ⟨wr.heap.size + 1, 0, none⟩ 1 1 (nodC y) rfl rfl (news_at2 wr _ (nodC y) _) (by simp [Value.oneCell']) (by unfold maxLen; omega) (by omega) (by have := HST.out.2.size; simp; omega) ?_; intro u' w3 hown hgrow _; have HOW := hid hown; have HGR := hid hgrow; clear hown hgrow)
       go_roundw
       case rel =>
        refine ⟨j + 1, by omega, by go_num, hid ?_⟩
        rw [HSTEP.out, nodsC_snoc, List.length_append]
        refine ⟨HOW.out, ?_⟩
        exact ((HST.out.2.alloc HST.out.2.size _).alloc (Nat.le_trans HST.out.2.size (by simp)) _).grown HGR.out (by have := HST.out.2.size; simp; omega) (fun j ej => (HST.out.1.lt j ej).1)
       case measure => first | (simp [intOf]; done) | (simp [intOf]; omega)
   ·have hjE : j = L := by omega
    have hfull := HST.out.1
    have hHL := HL.out
    rw [hjE, ← hHL, remP_all] at hfull
    have hlen2 : (rem l k).length ≤ 1000 := by have := rem_len (l := l) (k := k) (by omega); omega
    have HFIN := hid (HR.out.store HST.out.2 hfull hlen2 (rem_bound HBD.out hP))
    have hjL' : ¬ (j : Int) < L := by omega
    obtain ⟨a9, c9, hu⟩ := (nodes_row HST.out.1).form
    clear hfull hHL hblk hjE
    subst hu
    go_wp2
    go_ret
    exact ⟨rfl, ⟨_, HFIN.out.1⟩, HFIN.out.2⟩
end
end Go.Proofs.YtchjfeafkmpmbaaGreatDoor
