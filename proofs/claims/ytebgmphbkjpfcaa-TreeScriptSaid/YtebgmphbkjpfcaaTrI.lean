/- package tree: Swap, Move. -/
import Derived.Test.YtebgmphbkjpfcaaTrH
namespace Go.Proofs.Ytebgmphbkjpfcaa
set_option linter.unusedVariables false
set_option linter.unusedSimpArgs false
open Go.ChangeShapes Go.WideShapes Go.ChangeAt Go.RowKit

theorem found {W : World} {B b m n : Nat} {ps : List Nat} {l : List Nod} {f : Int → Int → Option Nat} (h : TreeAt W B b m n ps l f) {o i : Int} (ho : InS o) (hi : InS i) :
    ∃ x : Nod, ∃ u v : Option Nat, ∀ p, f o i = some p → W.heap[p]? = some (placeO x u v) ∧ ∃ k : Nat, ps[k]? = some p ∧ l[k]? = some x ∧ x.o = o ∧ x.i = i ∧ u = prv ps k ∧ v = ps[k + 1]? := by
  cases hf : f o i with
  | none => exact ⟨⟨0, 0, 0⟩, none, none, fun p e => by cases e⟩
  | some p =>
    obtain ⟨k, x, h1, h2, h3, h4⟩ := (h.finds o i p ho hi).1 hf
    refine ⟨x, prv ps k, ps[k + 1]?, fun q e => ?_⟩
    cases e
    exact ⟨h.row k p x h1 h2, k, h1, h2, h3, h4, rfl, rfl⟩
theorem swap_end {w w1 w2 w3 : World} {B b m n : Nat} {ps : List Nat} {l : List Nod} {f : Int → Int → Option Nat} {o i p j : Int} {x y y' : Nod} {u v u' v' : Option Nat} (ho : InS o) (hi : InS i) (hp : InS p) (hj : InS j) (h : TreeAt w B b m n ps l f)
    (hb : Below w.heap.size w w1)
    (hx : ∀ r, f o i = some r → w.heap[r]? = some (placeO x u v) ∧ ∃ k : Nat, ps[k]? = some r ∧ l[k]? = some x ∧ x.o = o ∧ x.i = i ∧ u = prv ps k ∧ v = ps[k + 1]?)
    (hy : ∀ r, f p j = some r → w.heap[r]? = some (placeO y u' v') ∧ ∃ k : Nat, ps[k]? = some r ∧ l[k]? = some y ∧ y.o = p ∧ y.i = j ∧ u' = prv ps k ∧ v' = ps[k + 1]?)
    (hy' : y'.d = y.d) (q1 : PutPost w1 w2 m n f (f o i) x u v p j) (q2 : PutPost w2 w3 m (n + 1) (fset f p j (f o i)) (f p j) y' u' v' o i) : Left w w3 B b m (n + 1 + 1) ps (swapA l o i p j) := by
  have hml := h.map.lt
  have hbl : b < w.heap.size := h.lt (.inl rfl)
  have hbm := map_head h.head h.map
  have sz1 := hb.size
  have sz2 := q1.size
  have sz3 := q2.size
  have hk : ∀ k, k < w.heap.size → k ≠ m → f o i ≠ some k → f p j ≠ some k → w3.heap[k]? = w.heap[k]? := fun k hk h1 h2 h3 =>
    (q2.block k (by omega) h1 h3).trans ((q1.block k (by omega) h1 h2).trans (hb.block k hk))
  have hnb : ∀ (r : Nat), f o i = some r ∨ f p j = some r → r ≠ b := by
    rintro r (hr | hr) rfl
    · exact head_place h.head (hx _ hr).1 rfl
    · exact head_place h.head (hy _ hr).1 rfl
  refine ⟨ps, _, swap_tree ho hi hp hj h ?_ ?_ q2.map, ?_⟩
  · exact hk b hbl hbm.symm (fun e => hnb b (.inl e) rfl) (fun e => hnb b (.inr e) rfl)
  · intro k r z hr hz
    have hrw := h.row k r z hr hz
    have hrl : r < w.heap.size := h.lt (foot_at hr)
    have hrm : r ≠ m := (map_place hrw h.map).symm
    by_cases e2 : f p j = some r
    · obtain ⟨_, k', a1, a2, a3, a4, a5, a6⟩ := hy r e2
      obtain rfl := h.inj _ _ _ a1 hr
      rw [hz] at a2
      cases a2
      rw [q2.at_ r e2, a5, a6, hy']
      have : sw o i p j y = ⟨o, i, y.d⟩ := by
        unfold sw
        split
        · rename_i hc
          rw [a3, a4] at hc
          rw [hc.1, hc.2]
        · rw [if_pos ⟨a3, a4⟩]
      rw [this]
    · by_cases e1 : f o i = some r
      · obtain ⟨_, k', a1, a2, a3, a4, a5, a6⟩ := hx r e1
        obtain rfl := h.inj _ _ _ a1 hr
        rw [hz] at a2
        cases a2
        rw [q2.block r (by omega) hrm e2, q1.at_ r e1, a5, a6]
        have : sw o i p j x = ⟨p, j, x.d⟩ := by
          unfold sw
          rw [if_pos ⟨a3, a4⟩]
        rw [this]
      · rw [hk r hrl hrm e1 e2, hrw]
        obtain ⟨z1, z2, _⟩ := h.ins k z hz
        have : sw o i p j z = z := by
          unfold sw
          rw [if_neg (fun e => e1 ((h.finds o i r ho hi).2 ⟨k, z, hr, hz, e⟩)), if_neg (fun e => e2 ((h.finds p j r hp hj).2 ⟨k, z, hr, hz, e⟩))]
        rw [this]
  · refine ⟨q2.os.trans (q1.os.trans hb.os), q2.tape.trans (q1.tape.trans hb.tape), q2.output.trans (q1.output.trans hb.output), by omega, fun k hkl hf => ?_, fun k _ h => h⟩
    refine hk k hkl (fun e => hf (.inr (.inl e))) (fun e => ?_) (fun e => ?_)
    · obtain ⟨_, k', a1, _⟩ := hx k e
      exact hf (foot_at a1)
    · obtain ⟨_, k', a1, _⟩ := hy k e
      exact hf (foot_at a1)
def moveA (l : List Nod) (o i p j : Int) : List Nod × Int := if (idx l o i).isSome then (if (idx l p j).isSome then (l, 11) else (swapA l o i p j, 0)) else (l, 10)
structure Sl2 (W : World) (s : Nat) (o i : Int) : Prop where
  c0 : W.cell? ⟨s, 0, none⟩ = some (.int .i64 o)
  c1 : W.cell? ⟨s, 1, none⟩ = some (.int .i64 i)
  lt : s < W.heap.size
theorem Sl2.call {W W' : World} {s : Nat} {o i : Int} (h : Sl2 W s o i) (hb : Below W.heap.size W W') : Sl2 W' s o i :=
  ⟨(hb.cell (p := ⟨s, 0, none⟩) h.lt).trans h.c0, (hb.cell (p := ⟨s, 1, none⟩) h.lt).trans h.c1, Nat.lt_of_lt_of_le h.lt hb.size⟩
theorem Sl2.of_block {W W' : World} {s : Nat} {o i : Int} (h : Sl2 W s o i) (e : W'.heap[s]? = W.heap[s]?) (hs : W.heap.size ≤ W'.heap.size) : Sl2 W' s o i := by
  have q : ∀ k, W'.cell? ⟨s, k, none⟩ = W.cell? ⟨s, k, none⟩ := fun k => by unfold World.cell?; simp only [e]
  exact ⟨(q 0).trans h.c0, (q 1).trans h.c1, Nat.lt_of_lt_of_le h.lt hs⟩
theorem Sl2.fresh (W : World) (o i : Int) : Sl2 (W.alloc (slO o i)) W.heap.size o i := by
  have hb := World.alloc_heap_new W (slO o i)
  refine ⟨?_, ?_, by simp⟩ <;> (unfold World.cell?; simp only [hb]; rfl)
theorem Sl2.fresh2 (W : World) (o i p j : Int) : Sl2 ((W.alloc (slO o i)).alloc (slO p j)) W.heap.size o i ∧ Sl2 ((W.alloc (slO o i)).alloc (slO p j)) (W.heap.size + 1) p j := by
  refine ⟨(Sl2.fresh W o i).call (bal (Below.refl _ _) _), ?_⟩
  have := Sl2.fresh (W.alloc (slO o i)) p j
  rw [World.size_alloc] at this
  exact this
theorem swap_slot {w w1 w2 : World} {B b m n : Nat} {ps : List Nat} {l : List Nod} {f : Int → Int → Option Nat} {o i p j : Int} {x : Nod} {u v fo : Option Nat} (h : TreeAt w B b m n ps l f) (hb : Below w.heap.size w w1)
    (hx : ∀ r, fo = some r → w.heap[r]? = some (placeO x u v) ∧ ∃ k : Nat, ps[k]? = some r ∧ l[k]? = some x ∧ x.o = o ∧ x.i = i ∧ u = prv ps k ∧ v = ps[k + 1]?) (hfo : f o i = fo)
    (hs : Sl2 w1 w.heap.size o i) (q1 : PutPost w1 w2 m n f fo x u v p j) : Sl2 w2 w.heap.size o i := by
  refine hs.of_block (q1.block _ hs.lt ?_ ?_) q1.size
  · have := h.map.lt; omega
  · intro e
    obtain ⟨_, k, a1, _⟩ := hx _ e
    have := h.lt (foot_at (b := b) (m := m) a1)
    omega
theorem swap_second {w w1 w2 : World} {B b m n : Nat} {ps : List Nat} {l : List Nod} {f : Int → Int → Option Nat} {o i p j : Int} {x y : Nod} {u v u' v' fo fp : Option Nat} (ho : InS o) (hi : InS i) (hp : InS p) (hj : InS j) (h : TreeAt w B b m n ps l f) (hb : Below w.heap.size w w1)
    (hx : ∀ r, fo = some r → w.heap[r]? = some (placeO x u v) ∧ ∃ k : Nat, ps[k]? = some r ∧ l[k]? = some x ∧ x.o = o ∧ x.i = i ∧ u = prv ps k ∧ v = ps[k + 1]?)
    (hy : ∀ r, fp = some r → w.heap[r]? = some (placeO y u' v') ∧ ∃ k : Nat, ps[k]? = some r ∧ l[k]? = some y ∧ y.o = p ∧ y.i = j ∧ u' = prv ps k ∧ v' = ps[k + 1]?)
    (hfo : f o i = fo) (hfp : f p j = fp) (hn : n < 1000000) (q1 : PutPost w1 w2 m n f fo x u v p j) :
    Calls Try.prog 42 #[.pointer (some ⟨b, 0, none⟩), ptrV fp, slV o i] w2 fun e w' => (∃ v, e = .returned v) ∧ PutPost w2 w' m (n + 1) (fset f p j fo) fp y u' v' o i := by
  have hbm := map_head h.head h.map
  have hbl : b < w.heap.size := h.lt (.inl rfl)
  have sz := hb.size
  refine put_any w2 b m (n + 1) (fset f p j fo) fp y u' v' ps[0]? (prv ps ps.length) o i ho hi ?_ q1.map (by unfold maxLen; omega) ?_
  · refine (q1.block b (by omega) hbm.symm ?_).trans ((hb.block b hbl).trans h.head)
    intro e
    exact head_place h.head (hx b e).1 rfl
  · intro r e
    obtain ⟨hr, k, a1, a2, a3, a4, a5, a6⟩ := hy r e
    have hrl : r < w.heap.size := h.lt (foot_at a1)
    by_cases e1 : fo = some r
    · obtain ⟨_, k', c1, c2, c3, c4, c5, c6⟩ := hx r e1
      obtain rfl := h.inj _ _ _ a1 c1
      rw [a2] at c2
      cases c2
      rw [q1.at_ r e1, c5, c6, a5, a6]
      obtain ⟨yo, yi, yd⟩ := x
      simp only at a3 a4
      rw [a3, a4]
    · exact (q1.block r (by omega) (map_place hr h.map).symm e1).trans ((hb.block r hrl).trans hr)
set_option maxRecDepth 100000 in
set_option maxHeartbeats 1000000 in
theorem swap_any (w : World) (B b m n : Nat) (ps : List Nat) (l : List Nod) (f : Int → Int → Option Nat) (o i p j : Int) (ho : InS o) (hi : InS i) (hp : InS p) (hj : InS j) (h : TreeAt w B b m n ps l f) (hn : n < 1000000) :
    Calls Try.prog 28 #[.pointer (some ⟨b, 0, none⟩), slV o i, slV p j] w fun e w' => e = .returned (.int .i64 0) ∧ Left w w' B b m (n + 1 + 1) ps (swapA l o i p j) := by
  have hal : Below w.heap.size w ((w.alloc (slO o i)).alloc (slO p j)).drew := (bal (bal (Below.refl _ _) _) _).drew
  have HA := Lib.hid hal
  have hl1 := h.look (W := ((w.alloc (slO o i)).alloc (slO p j)).drew) (hal.block m (h.lt (.inr (.inl rfl)))) ho hi
  have hl2 := h.look (W := ((w.alloc (slO o i)).alloc (slO p j)).drew) (hal.block m (h.lt (.inr (.inl rfl)))) hp hj
  obtain ⟨c0, c1, c2, cz⟩ := head_cells h.head
  have hbl : b < w.heap.size := h.lt (.inl rfl)
  obtain ⟨x, u, v, hx⟩ := found h ho hi
  obtain ⟨y, u', v', hy⟩ := found h hp hj
  have H := Lib.hid h
  have HX := Lib.hid hx
  have HY := Lib.hid hy
  clear h hal hx hy
  go_enter Try.func28, Try.ntmps28
  go_upto_region 3 with fail
  go_region
  all_goals
    have hbb : Below w.heap.size w ((w.alloc (slO o i)).alloc (slO p j)).drew := HA.out
    have hS := Sl2.fresh2 w o i p j
    have hput := fun hh hm hx' => put_any ((w.alloc (slO o i)).alloc (slO p j)).drew b m n f (f o i) x u v ps[0]? (prv ps ps.length) p j hp hj hh hm (by unfold maxLen; omega) hx'
    have HPUT := Lib.hid (hput ((hbb.block b hbl).trans H.out.head) (H.out.map.of_block (hbb.block m (H.out.lt (.inr (.inl rfl))))) (fun r e => (hbb.block r (by
        obtain ⟨_, k, a1, _⟩ := HX.out r e
        exact H.out.lt (foot_at a1))).trans (HX.out r e).1))
    have HS := Lib.hid hS
    clear hbb hput hS hl1 hl2 c0 c1 c2 cz
    generalize hfo : f o i = fo at *
    generalize hfp : f p j = fp at *
    have HFO := Lib.hid hfo
    have HFP := Lib.hid hfp
    clear hfo hfp
    go_wp2_with (first
      | (go_at_call 42; with_reducible refine HPUT2.out.mono ?_; rintro e w3 ⟨⟨v9, rfl⟩, q2⟩; have HQ2 := Lib.hid q2; clear q2)
      | (go_at_call 42; with_reducible refine HPUT.out.mono ?_; rintro e w2 ⟨⟨v8, rfl⟩, q1⟩; have HQ1 := Lib.hid q1; clear q1;
         have HPUT2 := Lib.hid (swap_second ho hi hp hj H.out HA.out HX.out HY.out HFO.out HFP.out hn HQ1.out);
         obtain ⟨a0, a1, alt⟩ := swap_slot H.out HA.out HX.out HFO.out (HS.out.1.call (Below.drew (Below.refl _ _))) HQ1.out))
    go_ret
    refine ⟨rfl, ?_⟩
    have hfo := HFO.out
    have hfp := HFP.out
    subst hfo hfp
    exact swap_end ho hi hp hj H.out HA.out HX.out HY.out rfl HQ1.out HQ2.out
theorem move_any (w : World) (B b m n : Nat) (ps : List Nat) (l : List Nod) (f : Int → Int → Option Nat) (o i p j : Int) (ho : InS o) (hi : InS i) (hp : InS p) (hj : InS j) (h : TreeAt w B b m n ps l f) (hn : n < 1000000) :
    Calls Try.prog 29 #[.pointer (some ⟨b, 0, none⟩), slV o i, slV p j] w fun e w' => e = .returned (.int .i64 (moveA l o i p j).2) ∧ Left w w' B b m (n + 1 + 1) ps (moveA l o i p j).1 := by
  have his := h.isSome ho hi
  have hjs := h.isSome hp hj
  have H := Lib.hid h
  have hal : Below w.heap.size w ((w.alloc (slO o i)).alloc (slO p j)) := bal (bal (Below.refl _ _) _) _
  have HA := Lib.hid hal
  have HS := Lib.hid (Sl2.fresh2 w o i p j)
  unfold moveA
  cases hf : f o i
  · rw [hf] at his
    have e : (idx l o i).isSome = false := his.symm
    simp only [e, Bool.false_eq_true, if_false]
    have HF := Lib.hid hf
    clear h hal his hjs e
    go_enter Try.func29, Try.ntmps29
    go_wp2_with (go_at_call 17; refine (has_any _ B b m n ps l f o i ho hi (H.out.call HA.out)).mono ?_; rw [HF.out]; rintro e w1 ⟨rfl, hb1⟩)
    go_ret
    exact ⟨rfl, Left.same H.out (HA.out.trans (hb1.mono HA.out.size)) (by omega)⟩
  · rw [hf] at his
    have e : (idx l o i).isSome = true := his.symm
    simp only [e, if_true]
    cases hg : f p j
    · rw [hg] at hjs
      have e2 : (idx l p j).isSome = false := hjs.symm
      simp only [e2, Bool.false_eq_true, if_false]
      have HF := Lib.hid hf
      have HG := Lib.hid hg
      clear h hal his hjs e e2
      go_enter Try.func29, Try.ntmps29
      go_wp2_with (first
        | (go_at_call 17; with_reducible refine (has_any _ B b m n ps l f p j hp hj (H.out.call HB1.out)).mono ?_; rw [HG.out]; rintro e w2 ⟨rfl, hb2⟩; have HB2 := Lib.hid (HB1.out.trans (hb2.mono HB1.out.size)); obtain ⟨a0, a1, al⟩ := HT1.out.1.call hb2; obtain ⟨d0, d1, dl⟩ := HT1.out.2.call hb2)
        | (go_at_call 17; with_reducible refine (has_any _ B b m n ps l f o i ho hi (H.out.call HA.out)).mono ?_; rw [HF.out]; rintro e w1 ⟨rfl, hb1⟩; have HB1 := Lib.hid (HA.out.trans (hb1.mono HA.out.size)); have HT1 := Lib.hid (show Sl2 w1 w.heap.size o i ∧ Sl2 w1 (w.heap.size + 1) p j from ⟨HS.out.1.call hb1, HS.out.2.call hb1⟩); obtain ⟨d0, d1, dl⟩ := HT1.out.2)
        | (go_at_call 28; with_reducible refine (swap_any _ B b m n ps l f o i p j ho hi hp hj (H.out.call HB2.out) hn).mono ?_; rintro e w3 ⟨rfl, hL⟩))
      go_ret
      obtain ⟨ps', f', hT, hO⟩ := hL
      exact ⟨rfl, ps', f', hT, (TOnly.of_below HB2.out).trans hO⟩
    · rw [hg] at hjs
      have e2 : (idx l p j).isSome = true := hjs.symm
      simp only [e2, if_true]
      have HF := Lib.hid hf
      have HG := Lib.hid hg
      clear h hal his hjs e e2
      go_enter Try.func29, Try.ntmps29
      go_wp2_with (first
        | (go_at_call 17; with_reducible refine (has_any _ B b m n ps l f p j hp hj (H.out.call HB1.out)).mono ?_; rw [HG.out]; rintro e w2 ⟨rfl, hb2⟩; have HB2 := Lib.hid (HB1.out.trans (hb2.mono HB1.out.size)))
        | (go_at_call 17; with_reducible refine (has_any _ B b m n ps l f o i ho hi (H.out.call HA.out)).mono ?_; rw [HF.out]; rintro e w1 ⟨rfl, hb1⟩; have HB1 := Lib.hid (HA.out.trans (hb1.mono HA.out.size)); have HT1 := Lib.hid (show Sl2 w1 w.heap.size o i ∧ Sl2 w1 (w.heap.size + 1) p j from ⟨HS.out.1.call hb1, HS.out.2.call hb1⟩); obtain ⟨d0, d1, dl⟩ := HT1.out.2))
      go_ret
      exact ⟨rfl, Left.same H.out HB2.out (by omega)⟩
end Go.Proofs.Ytebgmphbkjpfcaa
