/- package ends, over tables of any number of rows: find. -/
import Derived.Test.YtmbjaemflmbljaaEn3
namespace Go.Proofs.Ytmbjaemflmbljaa
set_option linter.unusedVariables false
set_option linter.unusedSimpArgs false
open Go.ChangeShapes Go.WideShapes Go.ChangeAt Go.RowKit Go.Shelf
open TabE
attribute [local go_sem] Oper.semAt_some

theorem wpIn_scope_wide {P : Program} {n : Nat} {c : Code} {Q : Exit → Act → World → Prop} {a : Act} {w : World} (h : c.wpIn Fence.wide n P (Exit.noGoto Q) a w) : (Code.scope c).wpIn Fence.wide n P Q a w :=
  wpIn_wide.2 (wp_scope_straight (wpIn_wide.1 h))
/-- Where a thread waits. -/
def FindAt (L : List En) (t : Int) (i : Nat) (x : En) (j : Nat) : Prop := L[i]? = some x ∧ IdxAt x.l t j ∧ ∀ (k : Nat) (y : En), k < i → L[k]? = some y → t ∉ y.l
theorem idx_ex : ∀ {l : List Int} {t : Int}, t ∈ l → ∃ j, IdxAt l t j
  | [], t, h => by cases h
  | z :: l, t, h => by
    by_cases e : z = t
    · subst e
      exact ⟨0, rfl, fun i y hi _ => by omega⟩
    · obtain ⟨j, h1, h2⟩ := idx_ex (l := l) ((List.mem_cons.1 h).resolve_left (fun q => e q.symm))
      refine ⟨j + 1, by simpa using h1, fun i y hi hy => ?_⟩
      cases i with
      | zero => simp at hy; subst hy; exact e
      | succ i => exact h2 i y (by omega) (by simpa using hy)
theorem idx_uniq {l : List Int} {t : Int} {i j : Nat} (h : IdxAt l t i) (k : IdxAt l t j) : i = j := by
  rcases Nat.lt_trichotomy i j with q | q | q
  · exact absurd rfl (k.2 i t q h.1)
  · exact q
  · exact absurd rfl (h.2 j t q k.1)
theorem idx_mem {l : List Int} {t : Int} {i : Nat} (h : IdxAt l t i) : t ∈ l := List.mem_of_getElem? h.1
theorem idx_no (w : World) (B : Nat) (v : Value) (l : List Int) (t : Int) (h : w.ownsRow B 3 1 v l.length (l.map (Value.int .i64))) (hm : l.length ≤ 1000000) (hn : t ∉ l) :
    Calls Try.prog 37 #[v, .int .i64 t] w fun e w' => e = .returned (.int .i64 (-1)) ∧ w = w' :=
  (idx_any w B v l t h hm).mono fun e w' ⟨hc, hw⟩ => by
    rcases hc with ⟨j, _, hj⟩ | ⟨he, _⟩
    · exact absurd (idx_mem hj) hn
    · exact ⟨he, hw⟩
theorem idx_at (w : World) (B : Nat) (v : Value) (l : List Int) (t : Int) (j : Nat) (h : w.ownsRow B 3 1 v l.length (l.map (Value.int .i64))) (hm : l.length ≤ 1000000) (hj : IdxAt l t j) :
    Calls Try.prog 37 #[v, .int .i64 t] w fun e w' => e = .returned (.int .i64 j) ∧ w = w' :=
  (idx_any w B v l t h hm).mono fun e w' ⟨hc, hw⟩ => by
    rcases hc with ⟨i, he, hi⟩ | ⟨_, hn⟩
    · rw [idx_uniq hj hi]; exact ⟨he, hw⟩
    · exact absurd (idx_mem hj) hn
theorem HiKept.setCell {E : TypeId} {B k o : Nat} {a b : World} {u : Value} (h : HiKept E B a b) (hk : k < B) : HiKept E B a (b.setCell ⟨k, o, none⟩ u) :=
  ⟨by simpa using h.1, fun j ob hj hl ho => (Go.heap_setCell_other _ _ _ _ (by simp; omega)).trans (h.2 j ob hj hl ho)⟩
theorem putObj_neE {W : World} {k b : Nat} {o : Obj} (h : k ≠ b) : (W.putObj b o).heap[k]? = W.heap[k]? := by
  simp [World.putObj, Array.getElem?_setIfInBounds, h.symm]
/-- The five boxes of find. -/
structure Box5 (w Wc : World) (b : Nat) (t : Int) : Prop where
  sz : Wc.heap.size = w.heap.size + 5
  bl : Below w.heap.size w Wc
  x0 : Wc.cell? ⟨w.heap.size, 0, none⟩ = some (.int .i64 t)
  x1 : Wc.cell? ⟨w.heap.size + 1, 0, none⟩ = some (.pointer none)
  x2 : Wc.cell? ⟨w.heap.size + 1 + 1, 0, none⟩ = some (.int .i64 0)
  x3 : Wc.cell? ⟨w.heap.size + 1 + 1 + 1, 0, none⟩ = some (.bool false)
  x4 : Wc.cell? ⟨w.heap.size + 1 + 1 + 1 + 1, 0, none⟩ = some (.pointer (some ⟨b, 0, none⟩))
  f1 : Wc.frozen? ⟨w.heap.size + 1, 0, none⟩ = false
  f2 : Wc.frozen? ⟨w.heap.size + 1 + 1, 0, none⟩ = false
  f3 : Wc.frozen? ⟨w.heap.size + 1 + 1 + 1, 0, none⟩ = false
theorem box5 (w : World) (b : Nat) (t : Int) : Box5 w (((((w.alloc (.cells #[.int .i64 t] 3)).alloc (.cells #[.pointer none] 65)).alloc (.cells #[.int .i64 0] 3)).alloc (.cells #[.bool false] 4)).alloc (.cells #[.pointer (some ⟨b, 0, none⟩)] 24)) b t :=
  ⟨by simp, bal (bal (bal (bal (bal (Below.refl _ _) _) _) _) _) _, by go_simp, by go_simp, by go_simp, by go_simp, by go_simp, by go_simp, by go_simp, by go_simp⟩
set_option maxRecDepth 100000 in
set_option maxHeartbeats 2000000 in
theorem find_in (w : World) (b base : Nat) (tv : Value) (L : List En) (t : Int) (h : EndsAt w b base tv L) (hl : L.length < 1000000) (hm : ∀ x ∈ L, x.l.length ≤ 1000000) :
    CallsIn Fence.wide 3 Try.prog 29 #[.pointer (some ⟨b, 0, none⟩), .int .i64 t] w fun e W' => ((∃ i x j, FindAt L t i x j ∧ e = .returned (.tuple #[.pointer (tv.ownBlock.map fun g => ⟨g, i * 3 + 1, none⟩), .int .i64 (j : Nat), .bool true])) ∨ (e = .returned (.tuple #[.pointer none, .int .i64 0, .bool false]) ∧ ∀ x ∈ L, t ∉ x.l)) ∧ Below w.heap.size w W' := by
  have HA := Lib.hid h
  have hbl := h.lt
  have HM := Lib.hid hm
  have HLN := Lib.hid hl
  clear h hm hl
  refine callsIn_of_wp_marks Try.func29 rfl trivial ?_ rfl
  simp only [Try.ntmps29, List.size_toArray, List.length_cons, List.length_nil, Nat.reduceAdd, Nat.reduceSub, Array.replicate_succ, Array.replicate_zero, List.push_toArray, List.append_toArray, List.nil_append, List.cons_append]
  gi_wp2
  refine wpIn_scope_wide ?_
  gi_wp2
  refine wpIn_label ?_
  gi_wp2_with (refine ⟨trivial, ?_⟩; gi_at_call 36; refine (own_in _ _ _).mono ?_; rintro e w' ⟨rfl, rfl⟩)
  have hbx := box5 w b t
  obtain ⟨Wc, hWc⟩ : ∃ y, y = (((((w.alloc (.cells #[.int .i64 t] 3)).alloc (.cells #[.pointer none] 65)).alloc (.cells #[.int .i64 0] 3)).alloc (.cells #[.bool false] 4)).alloc (.cells #[.pointer (some ⟨b, 0, none⟩)] 24)) := ⟨_, rfl⟩
  rw [← hWc] at hbx ⊢
  clear hWc
  have HBX := Lib.hid hbx
  have hll : (rowsN L).length = L.length := rowsN_len L
  have hv : (tv = .slice none 0 0 ∧ L.length = 0) ∨ ∃ g c, tv = .slice (some ⟨g, 0, none⟩) L.length c := by
    rcases HA.out.tab.form with ⟨h1, h2⟩ | ⟨g, c, h1, _⟩
    · exact .inl ⟨h1, by rw [← hll, h2]; rfl⟩
    · exact .inr ⟨g, c, by rw [← hll]; exact h1⟩
  have hkey : ∀ U : World, Below w.heap.size w U → ∀ g, tv.ownBlock = some g → ∀ (k j : Nat) (y : En) (u : Value), L[k]? = some y → (rcells (rowN y))[j]? = some u → U.cell? ⟨g, k * 3 + j, none⟩ = some u := by
    intro U hU g hg k j y u hk hj
    rcases (HA.out.call hU).tab.form with ⟨h1, _⟩ | ⟨g', c, h1, _, _, _, _, hR⟩
    · rw [h1] at hg; cases hg
    · rw [h1] at hg
      cases hg
      exact hR k j (rowN y) u (by rw [rowsN_get, hk]; rfl) hj
  have HK := Lib.hid hkey
  have HV := Lib.hid hv
  clear hbx hll hv hkey
  refine wpIn_range_px rfl (by decide) (gf := 43) (lb := #[.pointer (some ⟨w.heap.size + 1 + 1 + 1 + 1, 0, none⟩)]) rfl trivial (enters_of Try.func43 (by kernel_rfl) rfl)
    (encs := fun k => #[.pointer (tv.ownBlock.map fun g => ⟨g, k * 3 + 1, none⟩)]) (N := L.length) 3 (fun k U => Below Wc.heap.size Wc U ∧ ∀ (i : Nat) (y : En), i < k → L[i]? = some y → t ∉ y.l)
    (fun c k U => c = .ret ∧ (∃ x j, FindAt L t k x j ∧ U.cell? ⟨w.heap.size + 1, 0, none⟩ = some (.pointer (tv.ownBlock.map fun g => ⟨g, k * 3 + 1, none⟩)) ∧ U.cell? ⟨w.heap.size + 1 + 1, 0, none⟩ = some (.int .i64 (j : Nat)) ∧ U.cell? ⟨w.heap.size + 1 + 1 + 1, 0, none⟩ = some (.bool true)) ∧ Below w.heap.size w U)
    (own_px 3 (by kernel_rfl) (by kernel_rfl) 0 (w.heap.size + 1 + 1 + 1 + 1) b L.length _ tv (fun k => (L[k]?.map En.id).getD 0) _ HV.out (by have := HLN.out; omega) (fun g hg => by have := (HA.out.tab.own hg).1; have := HA.out.tab.ne; omega) ?hI0) (fun _ => rfl) ?hI ?hIx ⟨Below.refl _ _, fun i y h => by omega⟩
    (fun x => { tmps := #[.pointer (some ⟨b, 0, none⟩), .int .i64 t, undef, .pointer (some ⟨w.heap.size, 0, none⟩), .pointer (some ⟨w.heap.size + 1, 0, none⟩), .pointer (some ⟨w.heap.size + 1 + 1, 0, none⟩), .pointer (some ⟨w.heap.size + 1 + 1 + 1, 0, none⟩), .pointer (tv.ownBlock.map fun g => ⟨g, x * 3 + 1, none⟩), undef, .pointer (some ⟨b, 0, none⟩), .func (.func 43) #[] #[.pointer (some ⟨w.heap.size + 1 + 1 + 1 + 1, 0, none⟩)], .pointer (tv.ownBlock.map fun g => ⟨g, x * 3 + 1, none⟩), undef, undef, undef, undef, undef, undef, undef, undef, undef, undef], defers := [] }) ?hassign ?hbody ?hdone ?hstop
  case hI0 =>
    rintro k U ⟨hU, -⟩
    have hsz := HBX.out.sz
    have hB := HBX.out.bl.trans (hU.mono (by omega))
    refine ⟨(hU.cell (p := ⟨w.heap.size + 1 + 1 + 1 + 1, 0, none⟩) (by simp; omega)).trans HBX.out.x4, (HA.out.call hB).tab.cell, fun g hg j hj => ?_⟩
    have hy : L[j]? = some (L[j]'hj) := List.getElem?_eq_getElem hj
    have := HK.out U hB g hg j 0 _ _ hy rfl
    rw [hy]
    exact this
  case hI =>
    intro s A C row h hgr hr
    exact ⟨h.1.trans (((Below.refl _ A).grown hgr h.1.size (fun k hk => (hr k hk).1))), h.2⟩
  case hIx =>
    intro c s A C row h hgr hr
    have hsz := HBX.out.sz
    have e : ∀ k, k < Wc.heap.size → some k ≠ row := fun k hk e => by have := (hr k e.symm).1; omega
    obtain ⟨h1, ⟨x, j, y0, y1, y2, y3⟩, h3⟩ := h
    exact ⟨h1, ⟨x, j, y0, hgr.cell y1 (e _ (by simp; omega)), hgr.cell y2 (e _ (by simp; omega)), hgr.cell y3 (e _ (by simp; omega))⟩, h3.grown hgr h3.size (fun k hk => by have := (hr k hk).1; omega)⟩
  case hassign =>
    intro l x W K hK
    gi_wp2
    exact hK
  case hbody =>
    rintro l k U hkN ⟨hU, hno⟩
    obtain ⟨y, hy⟩ : ∃ y, L[k]? = some y := ⟨L[k]'hkN, List.getElem?_eq_getElem hkN⟩
    rcases HV.out with ⟨_, h0⟩ | ⟨g, c, rfl⟩
    · omega
    have hsz := HBX.out.sz
    have hBU : Below w.heap.size w U := HBX.out.bl.trans (hU.mono (by omega))
    have u0 : U.cell? ⟨w.heap.size, 0, none⟩ = some (.int .i64 t) := (hU.cell (p := ⟨w.heap.size, 0, none⟩) (by simp; omega)).trans HBX.out.x0
    have u1 : U.cell? ⟨g, k * 3 + 1, none⟩ = some y.v := HK.out U hBU g rfl k 1 y _ hy rfl
    have x1 : U.cell? ⟨w.heap.size + 1, 0, none⟩ = some (.pointer none) := (hU.cell (p := ⟨w.heap.size + 1, 0, none⟩) (by simp; omega)).trans HBX.out.x1
    have x2 : U.cell? ⟨w.heap.size + 1 + 1, 0, none⟩ = some (.int .i64 0) := (hU.cell (p := ⟨w.heap.size + 1 + 1, 0, none⟩) (by simp; omega)).trans HBX.out.x2
    have x3 : U.cell? ⟨w.heap.size + 1 + 1 + 1, 0, none⟩ = some (.bool false) := (hU.cell (p := ⟨w.heap.size + 1 + 1 + 1, 0, none⟩) (by simp; omega)).trans HBX.out.x3
    have f1 : U.frozen? ⟨w.heap.size + 1, 0, none⟩ = false := (hU.frozen (p := ⟨w.heap.size + 1, 0, none⟩) (by simp; omega)).trans HBX.out.f1
    have f2 : U.frozen? ⟨w.heap.size + 1 + 1, 0, none⟩ = false := (hU.frozen (p := ⟨w.heap.size + 1 + 1, 0, none⟩) (by simp; omega)).trans HBX.out.f2
    have f3 : U.frozen? ⟨w.heap.size + 1 + 1 + 1, 0, none⟩ = false := (hU.frozen (p := ⟨w.heap.size + 1 + 1 + 1, 0, none⟩) (by simp; omega)).trans HBX.out.f3
    have hym := List.mem_of_getElem? hy
    have hown := (HA.out.call hBU.drew).own y hym
    have hmy := HM.out y hym
    have HU := Lib.hid hU
    have HNO := Lib.hid hno
    have HY := Lib.hid hy
    have HBU := Lib.hid hBU
    have hs1 : w.heap.size + 1 + 1 + 1 < Wc.heap.size := by omega
    have HS1 := Lib.hid hs1
    simp only [Value.ownBlock, Option.map]
    by_cases ht : t ∈ y.l
    · obtain ⟨j, hj⟩ := idx_ex ht
      have HIX := Lib.hid (idx_at U.drew base y.v y.l t j hown hmy hj)
      have HJ := Lib.hid hj
      have hj0 : ¬ (j : Int) < 0 := by omega
      generalize y.v = yv at *
      clear hU hno hy hBU hym hsz hs1 hown hmy ht hj
      gi_wp2
      gi_region_with (first | (refine ⟨trivial, ?_⟩; gi_at_call 37; refine (calls_round HIX.out).mono ?_; rintro e w3 ⟨rfl, rfl⟩) | (gi_at_call 37; refine (calls_round HIX.out).mono ?_; rintro e w3 ⟨rfl, rfl⟩))
      all_goals
        gi_wp2
        have hs1 := HS1.out
        refine ⟨?_, rfl, ⟨y, j, ⟨HY.out, HJ.out, HNO.out⟩, by go_simp, by go_simp, by go_simp⟩, ?_⟩
        · exact (((HiKept.refl _ _ _).setCell (by omega)).setCell (by omega)).setCell (by omega)
        · exact Below.setCell (Below.setCell (Below.setCell HBU.out.drew (by first | (simp; done) | (simp; omega)) _) (by first | (simp; done) | (simp; omega)) _) (by first | (simp; done) | (simp; omega)) _
    · have HIX := Lib.hid (idx_no U.drew base y.v y.l t hown hmy ht)
      have HT := Lib.hid ht
      generalize y.v = yv at *
      clear hU hno hy hBU hym hsz hs1 hown hmy ht x1 x2 x3 f1 f2 f3
      gi_wp2
      gi_region_with (first | (refine ⟨trivial, ?_⟩; gi_at_call 37; refine (calls_round HIX.out).mono ?_; rintro e w3 ⟨rfl, rfl⟩) | (gi_at_call 37; refine (calls_round HIX.out).mono ?_; rintro e w3 ⟨rfl, rfl⟩))
      all_goals
        gi_wp2
        refine ⟨⟨Nat.le_refl _, fun _ _ _ h _ => h⟩, HU.out.drew, fun i z hi hz => ?_⟩
        rcases Nat.lt_or_ge i k with q | q
        · exact HNO.out i z q hz
        · obtain rfl : i = k := by omega
          rw [HY.out] at hz
          cases hz
          exact HT.out
  case hdone =>
    rintro D W hD ⟨hB, hno⟩ hK
    have hsz := HBX.out.sz
    have hnone : ∀ x ∈ L, t ∉ x.l := fun x hx => by
      obtain ⟨i, hi⟩ := List.getElem?_of_mem hx
      exact hno i x (List.getElem?_eq_some_iff.1 hi).1 hi
    have HNN := Lib.hid hnone
    have d0 : W.cell? ⟨w.heap.size + 1, 0, none⟩ = some (.pointer none) := (hB.cell (p := ⟨w.heap.size + 1, 0, none⟩) (by simp; omega)).trans HBX.out.x1
    have d1 : W.cell? ⟨w.heap.size + 1 + 1, 0, none⟩ = some (.int .i64 0) := (hB.cell (p := ⟨w.heap.size + 1 + 1, 0, none⟩) (by simp; omega)).trans HBX.out.x2
    have d2 : W.cell? ⟨w.heap.size + 1 + 1 + 1, 0, none⟩ = some (.bool false) := (hB.cell (p := ⟨w.heap.size + 1 + 1 + 1, 0, none⟩) (by simp; omega)).trans HBX.out.x3
    have f0 : W.frozen? ⟨w.heap.size + 1, 0, none⟩ = false := (hB.frozen (p := ⟨w.heap.size + 1, 0, none⟩) (by simp; omega)).trans HBX.out.f1
    have f1 : W.frozen? ⟨w.heap.size + 1 + 1, 0, none⟩ = false := (hB.frozen (p := ⟨w.heap.size + 1 + 1, 0, none⟩) (by simp; omega)).trans HBX.out.f2
    have f2 : W.frozen? ⟨w.heap.size + 1 + 1 + 1, 0, none⟩ = false := (hB.frozen (p := ⟨w.heap.size + 1 + 1 + 1, 0, none⟩) (by simp; omega)).trans HBX.out.f3
    have BI : Below w.heap.size w W := HBX.out.bl.trans (hB.mono (by omega))
    have hsw := hB.size
    clear hB hno hnone
    gi_wp2
    have q0 : (((W.setCell ⟨w.heap.size + 1, 0, none⟩ (.pointer none)).setCell ⟨w.heap.size + 1 + 1, 0, none⟩ (.int .i64 0)).setCell ⟨w.heap.size + 1 + 1 + 1, 0, none⟩ (.bool false)).cell? ⟨w.heap.size + 1, 0, none⟩ = some (.pointer none) := by go_simp
    have q1 : (((W.setCell ⟨w.heap.size + 1, 0, none⟩ (.pointer none)).setCell ⟨w.heap.size + 1 + 1, 0, none⟩ (.int .i64 0)).setCell ⟨w.heap.size + 1 + 1 + 1, 0, none⟩ (.bool false)).cell? ⟨w.heap.size + 1 + 1, 0, none⟩ = some (.int .i64 0) := by go_simp
    have q2 : (((W.setCell ⟨w.heap.size + 1, 0, none⟩ (.pointer none)).setCell ⟨w.heap.size + 1 + 1, 0, none⟩ (.int .i64 0)).setCell ⟨w.heap.size + 1 + 1 + 1, 0, none⟩ (.bool false)).cell? ⟨w.heap.size + 1 + 1 + 1, 0, none⟩ = some (.bool false) := by go_simp
    have hKU : (((W.setCell ⟨w.heap.size + 1, 0, none⟩ (.pointer none)).setCell ⟨w.heap.size + 1 + 1, 0, none⟩ (.int .i64 0)).setCell ⟨w.heap.size + 1 + 1 + 1, 0, none⟩ (.bool false)).heap[D]? = some (.deferred (some [])) := by
      rw [Go.heap_setCell_other _ _ _ _ (by simp; omega), Go.heap_setCell_other _ _ _ _ (by simp; omega), Go.heap_setCell_other _ _ _ _ (by simp; omega)]
      exact hK
    have BU : Below w.heap.size w (((W.setCell ⟨w.heap.size + 1, 0, none⟩ (.pointer none)).setCell ⟨w.heap.size + 1 + 1, 0, none⟩ (.int .i64 0)).setCell ⟨w.heap.size + 1 + 1 + 1, 0, none⟩ (.bool false)) := Below.setCell (Below.setCell (Below.setCell BI (by first | (simp; done) | (simp; omega)) _) (by first | (simp; done) | (simp; omega)) _) (by first | (simp; done) | (simp; omega)) _
    obtain ⟨U, hU⟩ : ∃ U, U = (((W.setCell ⟨w.heap.size + 1, 0, none⟩ (.pointer none)).setCell ⟨w.heap.size + 1 + 1, 0, none⟩ (.int .i64 0)).setCell ⟨w.heap.size + 1 + 1 + 1, 0, none⟩ (.bool false)) := ⟨_, rfl⟩
    rw [← hU] at q0 q1 q2 hKU BU ⊢
    clear hU d0 d1 d2 f0 f1 f2
    rw [Exit.noGoto_ret]
    refine ⟨by simp, .inl ⟨_, _, rfl, run_takeDeferred hKU, ?_⟩⟩
    have g0 : (U.putObj D (.deferred none)).cell? ⟨w.heap.size + 1, 0, none⟩ = some (.pointer none) := (cell_of_block (putObj_neE (by omega))).trans q0
    have g1 : (U.putObj D (.deferred none)).cell? ⟨w.heap.size + 1 + 1, 0, none⟩ = some (.int .i64 0) := (cell_of_block (putObj_neE (by omega))).trans q1
    have g2 : (U.putObj D (.deferred none)).cell? ⟨w.heap.size + 1 + 1 + 1, 0, none⟩ = some (.bool false) := (cell_of_block (putObj_neE (by omega))).trans q2
    exact ⟨.tuple #[.pointer none, .int .i64 0, .bool false], by simp [results, Try.results29, go_sem, g0, g1, g2], .inr ⟨rfl, HNN.out⟩, BU.trans (belowK_b (w := w) (Nat.le_refl _) U D _ _ (by omega) hKU rfl rfl)⟩
  case hstop =>
    rintro D c k U hD hkN ⟨rfl, ⟨x, j, hf, q0, q1, q2⟩, hB⟩ hKU
    have hsz := HBX.out.sz
    have HF := Lib.hid hf
    gi_wp2
    rw [Exit.noGoto_ret]
    refine ⟨by simp, .inl ⟨_, _, rfl, run_takeDeferred hKU, ?_⟩⟩
    have g0 : (U.putObj D (.deferred none)).cell? ⟨w.heap.size + 1, 0, none⟩ = some (.pointer (tv.ownBlock.map fun g => ⟨g, k * 3 + 1, none⟩)) := (cell_of_block (putObj_neE (by omega))).trans q0
    have g1 : (U.putObj D (.deferred none)).cell? ⟨w.heap.size + 1 + 1, 0, none⟩ = some (.int .i64 (j : Nat)) := (cell_of_block (putObj_neE (by omega))).trans q1
    have g2 : (U.putObj D (.deferred none)).cell? ⟨w.heap.size + 1 + 1 + 1, 0, none⟩ = some (.bool true) := (cell_of_block (putObj_neE (by omega))).trans q2
    exact ⟨.tuple #[.pointer (tv.ownBlock.map fun g => ⟨g, k * 3 + 1, none⟩), .int .i64 (j : Nat), .bool true], by simp [results, Try.results29, go_sem, g0, g1, g2], .inl ⟨k, x, j, HF.out, rfl⟩, hB.trans (belowK_b (w := w) (Nat.le_refl _) U D _ _ (by omega) hKU rfl rfl)⟩
theorem find_uniq {L : List En} {t : Int} {i j i' j' : Nat} {x x' : En} (h : FindAt L t i x j) (k : FindAt L t i' x' j') : i = i' ∧ x = x' ∧ j = j' := by
  have e : i = i' := by
    rcases Nat.lt_trichotomy i i' with q | q | q
    · exact absurd (idx_mem h.2.1) (k.2.2 i x q h.1)
    · exact q
    · exact absurd (idx_mem k.2.1) (h.2.2 i' x' q k.1)
  subst e
  have e2 : x = x' := by have := h.1.symm.trans k.1; cases this; rfl
  subst e2
  exact ⟨rfl, rfl, idx_uniq h.2.1 k.2.1⟩
theorem find_no (w : World) (b base : Nat) (tv : Value) (L : List En) (t : Int) (h : EndsAt w b base tv L) (hl : L.length < 1000000) (hm : ∀ x ∈ L, x.l.length ≤ 1000000) (hn : ∀ x ∈ L, t ∉ x.l) :
    Calls Try.prog 29 #[.pointer (some ⟨b, 0, none⟩), .int .i64 t] w fun e w' => e = .returned (.tuple #[.pointer none, .int .i64 0, .bool false]) ∧ Below w.heap.size w w' :=
  (callsIn_wide.1 (find_in w b base tv L t h hl hm)).mono fun e w' ⟨hc, hb⟩ => by
    rcases hc with ⟨i, x, j, hf, _⟩ | ⟨he, _⟩
    · exact absurd (idx_mem hf.2.1) (hn x (List.mem_of_getElem? hf.1))
    · exact ⟨he, hb⟩
theorem find_at (w : World) (b base : Nat) (tv : Value) (L : List En) (t : Int) (i j : Nat) (x : En) (h : EndsAt w b base tv L) (hl : L.length < 1000000) (hm : ∀ x ∈ L, x.l.length ≤ 1000000) (hf : FindAt L t i x j) :
    Calls Try.prog 29 #[.pointer (some ⟨b, 0, none⟩), .int .i64 t] w fun e w' => e = .returned (.tuple #[.pointer (tv.ownBlock.map fun g => ⟨g, i * 3 + 1, none⟩), .int .i64 (j : Nat), .bool true]) ∧ Below w.heap.size w w' :=
  (callsIn_wide.1 (find_in w b base tv L t h hl hm)).mono fun e w' ⟨hc, hb⟩ => by
    rcases hc with ⟨i', x', j', hf', he⟩ | ⟨_, hn⟩
    · obtain ⟨rfl, rfl, rfl⟩ := find_uniq hf hf'
      exact ⟨he, hb⟩
    · exact absurd (idx_mem hf.2.1) (hn x (List.mem_of_getElem? hf.1))
end Go.Proofs.Ytmbjaemflmbljaa
