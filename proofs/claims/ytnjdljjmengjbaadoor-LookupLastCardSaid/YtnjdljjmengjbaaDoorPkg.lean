import Derived.Test.YtnjdljjmengjbaaDoorPkf
import Derived.Test.YtnjdljjmengjbaaDoorPka
import Derived.Outline
import Derived.StillTailTactics
import Derived.Maps.AppendAt
namespace Go.Proofs.YtnjdljjmengjbaaDoor
/- chapter 12: objects do not meet. -/
section
set_option linter.unusedVariables false
set_option linter.unusedSimpArgs false
open Go.ChangeShapes Go.WideShapes Go.ChangeAt Go.RowKit Go.Shelf
open TabA

/-- No two of the objects are where they may not be. -/
def NoC (L : List Ob) : Prop := ∀ x ∈ L, ∀ y ∈ L, x.id ≠ y.id → collideA x y = false
theorem near_comm (a n b k : Int) : nearB a n b k = nearB b k a n := by
  unfold nearB
  rw [Bool.eq_iff_iff]
  simp
  omega
theorem meet_comm (a n b k : Int) : meetB a n b k = meetB b k a n := by
  unfold meetB
  rw [near_comm a n b k, Bool.eq_iff_iff]
  simp
  omega
theorem collide_comm (x y : Ob) : collideA x y = collideA y x := by
  unfold collideA
  rw [meet_comm]
  cases meetB y.fi y.fr x.fi x.fr <;> cases aroundA x y <;> cases aroundA y x <;> rfl
theorem collide_same {x y x' y' : Ob} (h1 : x'.kd = x.kd ∧ x'.fi = x.fi ∧ x'.fr = x.fr) (h2 : y'.kd = y.kd ∧ y'.fi = y.fi ∧ y'.fr = y.fr) : collideA x' y' = collideA x y := by
  obtain ⟨a1, a2, a3⟩ := h1
  obtain ⟨b1, b2, b3⟩ := h2
  unfold collideA aroundA
  rw [a1, a2, a3, b1, b2, b3]
theorem mem_ins {L : List Ob} {x y : Ob} (h : y ∈ insO L x) : y = x ∨ y ∈ L := by
  unfold insO at h
  rcases List.mem_append.1 h with q | q
  · exact .inr (List.mem_of_mem_take q)
  · rcases List.mem_cons.1 q with q | q
    · exact .inl q
    · exact .inr (List.mem_of_mem_drop q)
theorem addA_none {cnt : List Int} {L : List Ob} {x : Ob} (h : (addA cnt L x).2 = 0) : ∀ y ∈ L, collideA x y = false := by
  unfold addA at h
  split at h
  · cases h
  · rename_i hn
    intro y hy
    rw [Bool.not_eq_true, List.any_eq_false] at hn
    simpa using hn y hy
theorem noC_add {F : Nat} {cnt : List Int} {L : List Ob} {kd sz fi : Int} (h : NoC L) : NoC (addL F cnt L kd sz fi) := by
  unfold addL
  split
  · rename_i hz
    have hz2 : (addA cnt L (newO kd sz fi)).2 = 0 := by
      unfold addR at hz
      split at hz
      · cases hz
      · split at hz
        · cases hz
        · exact hz
    have hn := addA_none hz2
    intro x hx y hy hid
    rcases mem_ins hx with rfl | hx <;> rcases mem_ins hy with rfl | hy
    · exact absurd rfl hid
    · exact (collide_same ⟨rfl, rfl, rfl⟩ ⟨rfl, rfl, rfl⟩).trans (hn y hy)
    · rw [collide_comm]
      exact (collide_same ⟨rfl, rfl, rfl⟩ ⟨rfl, rfl, rfl⟩).trans (hn x hx)
    · exact h x hx y hy hid
  · exact h
theorem noC_set {L : List Ob} {p : Nat} {x0 y0 : Ob} (h : NoC L) (hx : L[p]? = some x0) (e : y0.id = x0.id ∧ y0.kd = x0.kd ∧ y0.fi = x0.fi ∧ y0.fr = x0.fr) : NoC (L.set p y0) := by
  have q : ∀ z ∈ L.set p y0, ∃ z0 ∈ L, z.id = z0.id ∧ z.kd = z0.kd ∧ z.fi = z0.fi ∧ z.fr = z0.fr := by
    intro z hz
    rcases List.mem_or_eq_of_mem_set hz with q | q
    · exact ⟨z, q, rfl, rfl, rfl, rfl⟩
    · subst q; exact ⟨x0, List.mem_of_getElem? hx, e⟩
  intro x hx y hy hid
  obtain ⟨x1, hx1, a0, a1, a2, a3⟩ := q x hx
  obtain ⟨y1, hy1, b0, b1, b2, b3⟩ := q y hy
  rw [collide_same ⟨a1, a2, a3⟩ ⟨b1, b2, b3⟩]
  exact h x1 hx1 y1 hy1 (by rw [← a0, ← b0]; exact hid)
theorem getO_at {L : List Ob} {id : Int} {x : Ob} (h : getO L id = some x) : L[posO L id]? = some x := by
  unfold getO at h
  split at h
  · exact h
  · cases h
theorem noC_play (D : Nat → ActT) : ∀ n, NoC (playS D n).2
  | 0 => fun x hx => by cases hx
  | n + 1 => by
    have ih := noC_play D n
    show NoC (stepS (playS D n) (D n)).2
    unfold stepS
    split
    · exact noC_add ih
    · split
      · exact fun x hx y hy => ih x (dropL_sub hx) y (dropL_sub hy)
      · split
        · show NoC (markL _ _ _)
          unfold markL
          split
          · exact ih
          · rename_i o x0 hq
            split
            · have hx0 := getO_at hq
              exact noC_set ih hx0 ⟨rfl, rfl, rfl, rfl⟩
            · exact ih
        · split
          · show NoC (placeL _ _ _ _ _)
            unfold placeL
            split
            · exact ih
            · rename_i o x0 hq
              split
              · have hx0 := getO_at hq
                exact noC_set ih hx0 ⟨rfl, rfl, rfl, rfl⟩
              · exact ih
          · exact ih
/-- A slice of objects. -/
def ObsAt (w : World) (g : Nat) (L : List Ob) : Prop := ∀ (i j : Nat) (x : Ob) (u : Value), L[i]? = some x → x.cells[j]? = some u → w.cell? ⟨g, i * 9 + j, none⟩ = some u
theorem ObsAt.call {w w' : World} {g : Nat} {L : List Ob} (h : ObsAt w g L) (hg : g < w.heap.size) (hb : Below w.heap.size w w') : ObsAt w' g L := fun i j x u hi hj => (hb.cell (p := ⟨g, _, none⟩) hg).trans (h i j x u hi hj)
theorem objs_get : ∀ (L : List Ob) (i j : Nat) (x : Ob) (u : Value), L[i]? = some x → x.cells[j]? = some u → (objsC L)[i * 9 + j]? = some u
  | [], i, j, x, u, hi, _ => by simp at hi
  | y :: L, 0, j, x, u, hi, hj => by
    simp at hi
    subst hi
    have e : objsC (y :: L) = y.cells ++ objsC L := rfl
    have hl : y.cells.length = 9 := rfl
    rw [e, List.getElem?_append_left (by have := (List.getElem?_eq_some_iff.1 hj).1; omega)]
    simpa using hj
  | y :: L, i + 1, j, x, u, hi, hj => by
    have e : objsC (y :: L) = y.cells ++ objsC L := rfl
    have hl : y.cells.length = 9 := rfl
    rw [e, List.getElem?_append_right (by omega), hl, show (i + 1) * 9 + j - 9 = i * 9 + j by omega]
    exact objs_get L i j x u (by simpa using hi) hj
theorem obs_of {w : World} {base : Nat} {r : Value} {L : List Ob} (h : w.ownsRow base 84 9 r L.length (objsC L)) : ∃ ra rc, r = .slice ra L.length rc ∧ L.length ≤ rc ∧ ∀ i, i < L.length → ∃ g, ra = some ⟨g, 0, none⟩ ∧ g < w.heap.size ∧ ObsAt w g L := by
  have hlt := h.lt
  have hcs := fun g hg => h.cells (g := g) hg
  rcases h.2 with ⟨rfl, h0⟩ | ⟨g, cap, cur, rfl, q1, q2, q3, q4, q5, q6⟩
  · exact ⟨none, 0, by rw [h0], by omega, fun i hi => by omega⟩
  · refine ⟨_, _, rfl, q3, fun _ _ => ⟨g, rfl, (hlt g rfl).2, fun i j x u hi hj => ?_⟩⟩
    have := hcs g rfl _ _ (objs_get L i j x u hi hj)
    have ha : ((⟨g, 0, none⟩ : Addr).add (i * 9 + j)) = ⟨g, i * 9 + j, none⟩ := by unfold Addr.add; split <;> simp_all
    rwa [ha] at this
end
/- chapter 12: the walk of ArenaApart. -/
section
set_option linter.unusedVariables false
set_option linter.unusedSimpArgs false
open Go.ChangeShapes Go.WideShapes Go.ChangeAt Go.RowKit Go.Shelf
open TabA

/-- What the law asks of any two. -/
structure PairOk (L : List Ob) : Prop where
  lo : ∀ x ∈ L, 0 ≤ x.fi ∧ 1 ≤ x.fr ∧ x.fi + x.fr ≤ 16
  asc : ∀ (i j : Nat) (x y : Ob), i < j → L[i]? = some x → L[j]? = some y → x.id < y.id
  noC : NoC L
theorem pair_ok {W w : World} {b n : Nat} {D : Nat → ActT} (h : StA W w b (playS D n)) : PairOk (playS D n).2 := by
  obtain ⟨ab, base, v, hA, _⟩ := h
  refine ⟨fun x hx => ?_, fun i j x y hij hi hj => ?_, noC_play D n⟩
  · obtain ⟨h1, h2, h3, _⟩ := hA.good x hx
    exact ⟨h1, h2, h3⟩
  · exact hA.tab.asc.at hij (x := rowO x) (y := rowO y) (by rw [rows_get, hi]; rfl) (by rw [rows_get, hj]; rfl)
abbrev obA (x : Ob) : Array Value := #[.int .i64 x.id, .int .i64 x.kd, .int .i64 x.sz, .int .i64 x.fi, .int .i64 x.fr, .int .i64 x.ma, .int .i64 x.se, .int .i64 x.pg, .int .i64 x.lv]
theorem col_cases {i1 k1 s1 f1 n1 m1 e1 p1 l1 i2 k2 s2 f2 n2 m2 e2 p2 l2 : Int} (h : collideA ⟨i1, k1, s1, f1, n1, m1, e1, p1, l1⟩ ⟨i2, k2, s2, f2, n2, m2, e2, p2, l2⟩ = false) (hm : meetB f1 n1 f2 n2 = true) :
    (k1 = 1 ∧ withinB f2 n2 f1 n1 = true) ∨ (k1 = 1 ∧ withinB f2 n2 f1 n1 = false ∧ k2 = 1 ∧ withinB f1 n1 f2 n2 = true) ∨ (¬ k1 = 1 ∧ k2 = 1 ∧ withinB f1 n1 f2 n2 = true) := by
  simp only [collideA, aroundA, hm, Bool.true_and, Bool.and_eq_false_iff, Bool.not_eq_false', Bool.and_eq_true, decide_eq_true_eq] at h
  by_cases hk : k1 = 1
  · cases hw : withinB f2 n2 f1 n1
    · simp [hk, hw] at h
      exact .inr (.inl ⟨hk, rfl, h.1, h.2⟩)
    · exact .inl ⟨hk, rfl⟩
  · simp [hk] at h
    exact .inr (.inr ⟨hk, h.1, h.2⟩)
/-- The cells that the inner round reads. -/
theorem keepAp {w w' : World} {xB yB : Nat} {x1 x3 x4 y1 y3 y4 : Int} (a1 : w.cell? ⟨xB, 1, none⟩ = some (.int .i64 x1)) (a3 : w.cell? ⟨xB, 3, none⟩ = some (.int .i64 x3)) (a4 : w.cell? ⟨xB, 4, none⟩ = some (.int .i64 x4))
    (b1 : w.cell? ⟨yB, 1, none⟩ = some (.int .i64 y1)) (b3 : w.cell? ⟨yB, 3, none⟩ = some (.int .i64 y3)) (b4 : w.cell? ⟨yB, 4, none⟩ = some (.int .i64 y4)) (lx : xB < w.heap.size) (ly : yB < w.heap.size) (h : Below w.heap.size w w') :
    (w'.cell? ⟨xB, 1, none⟩ = some (.int .i64 x1) ∧ w'.cell? ⟨xB, 3, none⟩ = some (.int .i64 x3) ∧ w'.cell? ⟨xB, 4, none⟩ = some (.int .i64 x4) ∧
    w'.cell? ⟨yB, 1, none⟩ = some (.int .i64 y1) ∧ w'.cell? ⟨yB, 3, none⟩ = some (.int .i64 y3) ∧ w'.cell? ⟨yB, 4, none⟩ = some (.int .i64 y4) ∧ Below w.heap.size w w') :=
  ⟨(h.cell (p := ⟨xB, 1, none⟩) lx).trans a1, (h.cell (p := ⟨xB, 3, none⟩) lx).trans a3, (h.cell (p := ⟨xB, 4, none⟩) lx).trans a4, (h.cell (p := ⟨yB, 1, none⟩) ly).trans b1, (h.cell (p := ⟨yB, 3, none⟩) ly).trans b3, (h.cell (p := ⟨yB, 4, none⟩) ly).trans b4, h⟩
end
/- chapter 12: an object dropped, and one of its size added there: the data. -/
section
set_option linter.unusedVariables false
set_option linter.unusedSimpArgs false
open Go.ChangeShapes Go.WideShapes Go.ChangeAt Go.RowKit Go.Shelf
open TabA

theorem addC_cnt {F n : Nat} {cnt : List Int} {L : List Ob} {kd sz fi : Int} (h : ∀ c ∈ cnt, 0 ≤ c ∧ c ≤ n) : ∀ c ∈ addC F cnt L kd sz fi, 0 ≤ c ∧ c ≤ (n + 1 : Nat) := by
  intro c hc
  unfold addC at hc
  split at hc
  · rcases List.mem_or_eq_of_mem_set hc with q | q
    · have := h c q; omega
    · cases hg : cnt[fi.toNat]? with
      | none => rw [hg] at q; simp at q; omega
      | some d =>
        rw [hg] at q
        have := h d (List.mem_of_getElem? hg)
        simp at q
        omega
  · have := h c hc; omega
theorem play_cnt (D : Nat → ActT) : ∀ n, ∀ c ∈ (playS D n).1, 0 ≤ c ∧ c ≤ n
  | 0 => by
    intro c hc
    have : c = 0 := by
      have hc' : c ∈ zerosA 16 := hc
      revert hc'
      simp [zerosA]
    omega
  | n + 1 => by
    have ih := play_cnt D n
    have up : ∀ c ∈ (playS D n).1, 0 ≤ c ∧ c ≤ (n + 1 : Nat) := fun c hc => by have := ih c hc; omega
    show ∀ c ∈ (stepS (playS D n) (D n)).1, _
    unfold stepS
    split
    · exact addC_cnt ih
    · split
      · exact up
      · split
        · exact up
        · split
          · exact up
          · exact up
/-- What becomes of an object that is dropped, and added anew. -/
structure GoneAt (s : List Int × List Ob) (x : Ob) : Prop where
  r0 : dropR s.2 x.id = 0
  r1 : dropR (dropL s.2 x.id) x.id = 2
  l1 : dropL (dropL s.2 x.id) x.id = dropL s.2 x.id
  g1 : getO (dropL s.2 x.id) x.id = none
  ad : ∃ id, addR 16 s.1 (dropL s.2 x.id) x.kd x.sz x.fi = (id, 0) ∧ x.id < id
  ln : (addL 16 s.1 (dropL s.2 x.id) x.kd x.sz x.fi).length = s.2.length
  ke : ∀ y ∈ s.2, y.id ≠ x.id → y ∈ addL 16 s.1 (dropL s.2 x.id) x.kd x.sz x.fi
theorem asc_id {L : List Ob} (h : Asc (rowsO L)) {i j : Nat} {x y : Ob} (hij : i < j) (hi : L[i]? = some x) (hj : L[j]? = some y) : x.id < y.id :=
  h.at hij (x := rowO x) (y := rowO y) (by rw [rows_get, hi]; rfl) (by rw [rows_get, hj]; rfl)
theorem has_mem {L : List Ob} {x : Ob} (h : x ∈ L) : hasR (rowsO L) x.id = true := by
  unfold hasR
  rw [List.any_eq_true]
  exact ⟨rowO x, by unfold rowsO; exact List.mem_map_of_mem h, by simp [rowO]⟩
theorem pos_at {L : List Ob} (hA : Asc (rowsO L)) {k : Nat} {x : Ob} (hx : L[k]? = some x) : posR (rowsO L) x.id = k := by
  obtain ⟨r, hr, e⟩ := (hasR_at hA).1 (has_mem (List.mem_of_getElem? hx))
  rw [rows_get] at hr
  cases hz : L[posR (rowsO L) x.id]? with
  | none => rw [hz] at hr; cases hr
  | some z =>
    rw [hz] at hr
    cases hr
    have e' : z.id = x.id := e
    rcases Nat.lt_trichotomy (posR (rowsO L) x.id) k with q | q | q
    · have := asc_id hA q hz hx; omega
    · exact q
    · have := asc_id hA q hx hz; omega
theorem get_at {L : List Ob} (hA : Asc (rowsO L)) {y : Ob} (hy : y ∈ L) : getO L y.id = some y := by
  obtain ⟨k, hk⟩ := List.getElem?_of_mem hy
  unfold getO posO
  rw [has_mem hy, if_pos rfl, pos_at hA hk, hk]
theorem mem_at {L : List Ob} {k : Nat} {z : Ob} (h : z ∈ L.take k ++ L.drop (k + 1)) : ∃ i, i ≠ k ∧ L[i]? = some z := by
  rcases List.mem_append.1 h with q | q
  · obtain ⟨i, hi⟩ := List.getElem?_of_mem q
    rw [List.getElem?_take] at hi
    split at hi
    · exact ⟨i, by omega, hi⟩
    · cases hi
  · obtain ⟨i, hi⟩ := List.getElem?_of_mem q
    rw [List.getElem?_drop] at hi
    exact ⟨_, by omega, hi⟩
theorem at_mem {L : List Ob} {k i : Nat} {z : Ob} (hz : L[i]? = some z) (h : i ≠ k) : z ∈ L.take k ++ L.drop (k + 1) := by
  rcases Nat.lt_or_gt_of_ne h with q | q
  · refine List.mem_append.2 (.inl (List.mem_of_getElem? (i := i) ?_))
    rw [List.getElem?_take, if_pos q]
    exact hz
  · refine List.mem_append.2 (.inr (List.mem_of_getElem? (i := i - (k + 1)) ?_))
    rw [List.getElem?_drop, show k + 1 + (i - (k + 1)) = i by omega]
    exact hz
theorem ins_mem {L : List Ob} {x y : Ob} (h : y ∈ L) : y ∈ insO L x := by
  unfold insO
  have h2 : y ∈ L.take (posR (rowsO L) x.id) ++ L.drop (posR (rowsO L) x.id) := by rw [List.take_append_drop]; exact h
  rcases List.mem_append.1 h2 with q | q
  · exact List.mem_append.2 (.inl q)
  · exact List.mem_append.2 (.inr (List.mem_cons_of_mem _ q))
theorem drop_none {L : List Ob} {id : Int} (h : hasR (rowsO L) id = false) : dropL L id = L := by
  unfold dropL
  rw [h]
  rfl
theorem gone_at {W w : World} {b n k : Nat} {D : Nat → ActT} {x : Ob} (h : StA W w b (playS D n)) (hn : n ≤ 100) (hx : (playS D n).2[k]? = some x) : GoneAt (playS D n) x := by
  obtain ⟨ab, base, v, hA, _⟩ := h
  have hC := play_cnt D n
  have hN := noC_play D n
  have hT := hA.tab.asc
  have hG := hA.good x (List.mem_of_getElem? hx)
  clear hA
  generalize playS D n = s at *
  obtain ⟨cnt, L⟩ := s
  simp only [] at *
  have hk := (List.getElem?_eq_some_iff.1 hx).1
  have hp := pos_at hT hx
  have hh := has_mem (List.mem_of_getElem? hx)
  have hd : dropL L x.id = L.take k ++ L.drop (k + 1) := by unfold dropL; rw [hh, if_pos rfl, hp]
  have hne : ∀ z ∈ dropL L x.id, z ∈ L ∧ z.id ≠ x.id := by
    intro z hz
    rw [hd] at hz
    obtain ⟨i, hi, hzi⟩ := mem_at hz
    refine ⟨List.mem_of_getElem? hzi, ?_⟩
    rcases Nat.lt_or_gt_of_ne hi with q | q
    · have := asc_id hT q hzi hx; omega
    · have := asc_id hT q hx hzi; omega
  have hno : hasR (rowsO (dropL L x.id)) x.id = false := by
    unfold hasR
    rw [List.any_eq_false]
    intro r hr
    unfold rowsO at hr
    obtain ⟨z, hz, rfl⟩ := List.mem_map.1 hr
    have := (hne z hz).2
    show ¬ (decide (z.id = x.id) = true)
    simpa using this
  obtain ⟨g1, g2, g3, g4, c, m, g5, g6, g7, g8⟩ := hG
  have hm := hC m (List.mem_of_getElem? g7)
  have hnx : nextA cnt x.fi = x.fi + 1 + 64 * m := by
    unfold nextA
    rw [if_neg (by omega), g7]
    show (if 65535 < x.fi + 1 + 64 * m then 0 else x.fi + 1 + 64 * m) = _
    rw [if_neg (by omega)]
  have hany : (dropL L x.id).any (collideA (newO x.kd x.sz x.fi)) = false := by
    rw [List.any_eq_false]
    intro z hz
    obtain ⟨z1, z2⟩ := hne z hz
    have := hN x (List.mem_of_getElem? hx) z z1 (fun e => z2 e.symm)
    rw [collide_same (x := x) (y := z) (x' := newO x.kd x.sz x.fi) (y' := z) ⟨rfl, rfl, g4.symm⟩ ⟨rfl, rfl, rfl⟩, this]
    decide
  have hR : addR 16 cnt (dropL L x.id) x.kd x.sz x.fi = (x.fi + 1 + 64 * m, 0) := by
    unfold addR
    rw [if_neg (by omega), if_neg (by omega)]
    unfold addA
    rw [hany]
    show (if nextA cnt x.fi = 0 then ((0 : Int), (11 : Int)) else (nextA cnt x.fi, 0)) = _
    rw [hnx, if_neg (by omega)]
  have hL : addL 16 cnt (dropL L x.id) x.kd x.sz x.fi = insO (dropL L x.id) { newO x.kd x.sz x.fi with id := x.fi + 1 + 64 * m } := by
    unfold addL
    rw [hR]
    exact if_pos rfl
  refine ⟨?_, ?_, ?_, ?_, ⟨_, hR, by omega⟩, ?_, ?_⟩
  · unfold dropR; rw [hh]; rfl
  · unfold dropR; rw [hno]; rfl
  · exact drop_none hno
  · unfold getO; rw [hno]; rfl
  · rw [hL]
    unfold insO
    have := posR_le (rowsO (dropL L x.id)) (x.fi + 1 + 64 * m)
    rw [rows_len] at this
    have hl : (dropL L x.id).length = L.length - 1 := by rw [hd]; simp; omega
    simp
    omega
  · intro y hy hne'
    rw [hL]
    obtain ⟨i, hi⟩ := List.getElem?_of_mem hy
    refine ins_mem ?_
    rw [hd]
    exact at_mem hi (fun e => by subst e; rw [hx] at hi; cases hi; exact hne' rfl)
theorem StA.find {W w : World} {b : Nat} {s : List Int × List Ob} (h : StA W w b s) {y : Ob} (hy : y ∈ s.2) : getO s.2 y.id = some y := by
  obtain ⟨ab, base, v, hA, _⟩ := h
  exact get_at hA.tab.asc hy
end
/- chapter 12's own answer: Next, May, At, Get. -/
section
set_option linter.unusedVariables false
set_option linter.unusedSimpArgs false
open Go.ChangeShapes Go.WideShapes Go.ChangeAt Go.RowKit Go.Shelf
open TabA

/-- The own answer's arena: how many frames, its objects, how many began at each frame. -/
structure RefA (w : World) (rb base : Nat) (F : Int) (v : Value) (L : List Ob) (G : List Int) : Prop where
  blk : w.heap[rb]? = some (.cells (Value.int .i64 F :: v :: G.map (Value.int .i64)).toArray 69 (0, 0))
  gl : G.length = 64
  row : w.ownsRow base 84 9 v L.length (objsC L)
  lt : rb < base
  bs : base ≤ w.heap.size
  cn : ∀ g ∈ G, 0 ≤ g ∧ g ≤ 1024
theorem RefA.call {w w' : World} {rb base : Nat} {F : Int} {v : Value} {L : List Ob} {G : List Int} (h : RefA w rb base F v L G) (hb : Below w.heap.size w w') : RefA w' rb base F v L G :=
  ⟨(hb.block rb (Nat.lt_of_lt_of_le h.lt h.bs)).trans h.blk, h.gl, row_of_block h.row (fun g hg => hb.block g (h.row.lt g hg).2), h.lt, Nat.le_trans h.bs hb.size, h.cn⟩
theorem RefA.c0 {w : World} {rb base : Nat} {F : Int} {v : Value} {L : List Ob} {G : List Int} (h : RefA w rb base F v L G) : w.cell? ⟨rb, 0, none⟩ = some (.int .i64 F) := cell_cur h.blk 0
theorem RefA.c1 {w : World} {rb base : Nat} {F : Int} {v : Value} {L : List Ob} {G : List Int} (h : RefA w rb base F v L G) : w.cell? ⟨rb, 1, none⟩ = some v := cell_cur h.blk 1
theorem RefA.cg {w : World} {rb base : Nat} {F : Int} {v : Value} {L : List Ob} {G : List Int} (h : RefA w rb base F v L G) {k : Nat} {c : Int} (hk : G[k]? = some c) : w.cell? ⟨rb, 2 + k, none⟩ = some (.int .i64 c) := by
  rw [cell_cur h.blk, show 2 + k = k + 1 + 1 by omega, List.getElem?_cons_succ, List.getElem?_cons_succ, List.getElem?_map, hk]
  rfl
/-- What the own Next answers. -/
def nextR (F : Int) (G : List Int) (first : Int) : Int :=
  if first < 0 ∨ F ≤ first then 0 else match G[first.toNat]? with
    | none => 0
    | some c => if 65535 < first + 1 + 64 * c then 0 else first + 1 + 64 * c
set_option maxRecDepth 100000 in
set_option maxHeartbeats 1000000 in
theorem rnext_any (w : World) (rb base : Nat) (F : Int) (v : Value) (L : List Ob) (G : List Int) (first : Int) (h : RefA w rb base F v L G) (hF : 1 ≤ F ∧ F ≤ 64) :
    Calls Tryd.prog 41 #[.pointer (some ⟨rb, 0, none⟩), .int .i64 first] w fun e w' => e = .returned (.int .i64 (nextR F G first)) ∧ w = w' := by
  have c0 := h.c0
  by_cases h0 : first < 0
  · have e : nextR F G first = 0 := by unfold nextR; rw [if_pos (.inl h0)]
    rw [e]
    clear h e
    go_enter Tryd.func41, Tryd.ntmps41
    go_wp2
    go_ret
    exact ⟨rfl, rfl⟩
  · by_cases h1 : F ≤ first
    · have e : nextR F G first = 0 := by unfold nextR; rw [if_pos (.inr h1)]
      rw [e]
      clear h e
      go_enter Tryd.func41, Tryd.ntmps41
      go_wp2
      go_ret
      exact ⟨rfl, rfl⟩
    · obtain ⟨c, hc⟩ : ∃ c, G[first.toNat]? = some c := ⟨G[first.toNat]'(by have := h.gl; omega), List.getElem?_eq_getElem _⟩
      obtain ⟨b0, b1⟩ := h.cn c (List.mem_of_getElem? hc)
      have cg := h.cg hc
      have e : nextR F G first = if 65535 < first + 1 + 64 * c then 0 else first + 1 + 64 * c := by unfold nextR; rw [if_neg (by omega), hc]
      rw [e]
      clear h e hc
      have h64 : first < 64 := by omega
      by_cases h2 : 65535 < first + 1 + 64 * c
      · rw [if_pos h2]
        go_enter Tryd.func41, Tryd.ntmps41
        go_wp2
        go_ret
        exact ⟨rfl, rfl⟩
      · rw [if_neg h2]
        go_enter Tryd.func41, Tryd.ntmps41
        go_wp2
        go_ret
        exact ⟨rfl, rfl⟩
set_option maxRecDepth 100000 in
set_option maxHeartbeats 2000000 in
theorem may_any (w : World) (x y : Ob) : Calls Tryd.prog 40 #[obV x, obV y] w fun e w' => e = .returned (.bool (!collideA x y)) ∧ Below w.heap.size w w' := by
  obtain ⟨i1, k1, s1, f1, n1, m1, e1, p1, l1⟩ := x
  obtain ⟨i2, k2, s2, f2, n2, m2, e2, p2, l2⟩ := y
  have hB2 : Below w.heap.size w ((w.alloc (.cells #[.int .i64 i1, .int .i64 k1, .int .i64 s1, .int .i64 f1, .int .i64 n1, .int .i64 m1, .int .i64 e1, .int .i64 p1, .int .i64 l1] 84)).alloc (.cells #[.int .i64 i2, .int .i64 k2, .int .i64 s2, .int .i64 f2, .int .i64 n2, .int .i64 m2, .int .i64 e2, .int .i64 p2, .int .i64 l2] 84)) := bal (bal (Below.refl _ _) _) _
  have HB2 := Lib.hid hB2
  clear hB2
  cases hm : meetB f1 n1 f2 n2
  · have e : (!collideA ⟨i1, k1, s1, f1, n1, m1, e1, p1, l1⟩ ⟨i2, k2, s2, f2, n2, m2, e2, p2, l2⟩) = true := by simp [collideA, hm]
    rw [e]
    have HM := Lib.hid hm
    clear hm e
    go_enter Tryd.func40, Tryd.ntmps40
    go_wp2_with (go_at_call 60; refine (refMeet_any _ _ _ _ _).mono ?_; rw [HM.out]; rintro e w1 ⟨rfl, rfl⟩)
    go_ret
    exact ⟨rfl, HB2.out⟩
  · have e : (!collideA ⟨i1, k1, s1, f1, n1, m1, e1, p1, l1⟩ ⟨i2, k2, s2, f2, n2, m2, e2, p2, l2⟩) = ((decide (k1 = 1) && withinB f2 n2 f1 n1) || (decide (k2 = 1) && withinB f1 n1 f2 n2)) := by
      simp only [collideA, aroundA, hm, Bool.true_and]
      cases decide (k1 = 1) <;> cases decide (k2 = 1) <;> cases withinB f2 n2 f1 n1 <;> cases withinB f1 n1 f2 n2 <;> rfl
    rw [e]
    have HM := Lib.hid hm
    clear hm e
    obtain ⟨P, hP⟩ : ∃ P, withinB f2 n2 f1 n1 = P := ⟨_, rfl⟩
    obtain ⟨Q, hQ⟩ : ∃ Q, withinB f1 n1 f2 n2 = Q := ⟨_, rfl⟩
    rw [hP, hQ]
    have HP := Lib.hid hP
    have HQ := Lib.hid hQ
    clear hP hQ
    by_cases hk1 : k1 = 1
    · subst hk1
      by_cases hk2 : k2 = 1
      · subst hk2
        cases P
        all_goals
          go_enter Tryd.func40, Tryd.ntmps40
          go_wp2_with (first
            | (go_at_call 60; refine (refMeet_any _ _ _ _ _).mono ?_; rw [HM.out]; rintro e w1 ⟨rfl, rfl⟩)
            | (go_at_call 61; refine (refWithin_any _ _ _ _ _).mono ?_; (first | rw [HP.out] | rw [HQ.out]); rintro e w1 ⟨rfl, rfl⟩))
          go_ret
          exact ⟨ret_bool (by simp), HB2.out⟩
      · cases P
        all_goals
          go_enter Tryd.func40, Tryd.ntmps40
          go_wp2_with (first
            | (go_at_call 60; refine (refMeet_any _ _ _ _ _).mono ?_; rw [HM.out]; rintro e w1 ⟨rfl, rfl⟩)
            | (go_at_call 61; refine (refWithin_any _ _ _ _ _).mono ?_; (first | rw [HP.out] | rw [HQ.out]); rintro e w1 ⟨rfl, rfl⟩))
          go_ret
          exact ⟨ret_bool (by simp [hk2]), HB2.out⟩
    · by_cases hk2 : k2 = 1
      · subst hk2
        go_enter Tryd.func40, Tryd.ntmps40
        go_wp2_with (first
            | (go_at_call 60; refine (refMeet_any _ _ _ _ _).mono ?_; rw [HM.out]; rintro e w1 ⟨rfl, rfl⟩)
            | (go_at_call 61; refine (refWithin_any _ _ _ _ _).mono ?_; (first | rw [HP.out] | rw [HQ.out]); rintro e w1 ⟨rfl, rfl⟩))
        go_ret
        exact ⟨ret_bool (by simp [hk1]), HB2.out⟩
      · go_enter Tryd.func40, Tryd.ntmps40
        go_wp2_with (go_at_call 60; refine (refMeet_any _ _ _ _ _).mono ?_; rw [HM.out]; rintro e w1 ⟨rfl, rfl⟩)
        go_ret
        exact ⟨ret_bool (by simp [hk1, hk2]), HB2.out⟩
set_option maxRecDepth 100000 in
set_option maxHeartbeats 1000000 in
theorem at_no (w : World) (rb base : Nat) (F : Int) (v : Value) (L : List Ob) (G : List Int) (id : Int) (h : RefA w rb base F v L G) (hl : L.length < 1000000) (hn : ∀ x ∈ L, x.id ≠ id) :
    Calls Tryd.prog 50 #[.pointer (some ⟨rb, 0, none⟩), .int .i64 id] w fun e w' => e = .returned (.int .i64 (-1)) ∧ w = w' := by
  obtain ⟨ra, rc, rfl, hrc, hra⟩ := obs_of h.row
  have c1 := h.c1
  have HRA := Lib.hid hra
  have HN := Lib.hid hn
  clear h hra hn
  go_enter Tryd.func50, Tryd.ntmps50
  go_wp2
  go_loopw [5] (fun i wr => ∃ t : Nat, t ≤ L.length ∧ i = .int .i64 t ∧ w = wr) (fun i _ => L.length - (intOf i).toNat)
  case atStart => exact ⟨0, Nat.zero_le _, rfl, rfl⟩
  case round =>
    obtain ⟨t, ht, rfl, rfl⟩ := hrel
    by_cases htL : t < L.length
    · have htI : (t : Int) < L.length := by omega
      obtain ⟨g, rfl, hgl, hobs⟩ := HRA.out t htL
      obtain ⟨y, hy⟩ : ∃ y, L[t]? = some y := ⟨L[t]'htL, List.getElem?_eq_getElem _⟩
      have hne := HN.out y (List.mem_of_getElem? hy)
      have v0 := hobs t 0 y _ hy rfl
      simp only [Nat.add_zero] at v0
      clear hobs hy
      generalize y.id = yi at *
      go_wp2
      go_roundw
      case rel => exact ⟨t + 1, by omega, by go_num, trivial⟩
      case measure => first | (simp [intOf]; done) | (simp [intOf]; omega)
    · obtain rfl : t = L.length := by omega
      go_wp2
      go_ret
      exact ⟨rfl, rfl⟩
set_option maxRecDepth 100000 in
set_option maxHeartbeats 1000000 in
theorem at_yes (w : World) (rb base : Nat) (F : Int) (v : Value) (L : List Ob) (G : List Int) (id : Int) (h : RefA w rb base F v L G) (hl : L.length < 1000000) (k : Nat) (x : Ob) (hk : L[k]? = some x) (hid : x.id = id) (hn : ∀ i y, i < k → L[i]? = some y → y.id ≠ id) :
    Calls Tryd.prog 50 #[.pointer (some ⟨rb, 0, none⟩), .int .i64 id] w fun e w' => e = .returned (.int .i64 k) ∧ w = w' := by
  obtain ⟨ra, rc, rfl, hrc, hra⟩ := obs_of h.row
  have c1 := h.c1
  have HN := Lib.hid hn
  have hkL := (List.getElem?_eq_some_iff.1 hk).1
  obtain ⟨g, rfl, hgl, hobs⟩ := hra k hkL
  have HOB := Lib.hid hobs
  have HK := Lib.hid hk
  subst hid
  clear h hra hn hobs hk
  go_enter Tryd.func50, Tryd.ntmps50
  go_wp2
  go_loopw [5] (fun i wr => ∃ t : Nat, t ≤ k ∧ i = .int .i64 t ∧ w = wr) (fun i _ => k - (intOf i).toNat)
  case atStart => exact ⟨0, Nat.zero_le _, rfl, rfl⟩
  case round =>
    obtain ⟨t, ht, rfl, rfl⟩ := hrel
    have htI : (t : Int) < L.length := by omega
    by_cases htk : t < k
    · obtain ⟨y, hy⟩ : ∃ y, L[t]? = some y := ⟨L[t]'(by omega), List.getElem?_eq_getElem _⟩
      have hne := HN.out t y htk hy
      have v0 := HOB.out t 0 y _ hy rfl
      simp only [Nat.add_zero] at v0
      clear hy
      generalize y.id = yi at *
      generalize x.id = xi at *
      go_wp2
      go_roundw
      case rel => exact ⟨t + 1, by omega, by go_num, trivial⟩
      case measure => first | (simp [intOf]; done) | (simp [intOf]; omega)
    · obtain rfl : t = k := by omega
      have v0 := HOB.out t 0 x _ HK.out rfl
      simp only [Nat.add_zero] at v0
      generalize x.id = xi at *
      go_wp2
      go_ret
      exact ⟨rfl, rfl⟩
end
/- Chapter 0's Low. -/
section
set_option linter.unusedVariables false
set_option linter.unusedSimpArgs false
open Go.ChangeShapes Go.WideShapes Go.ChangeAt Go.RowKit

def lowI (x n : Int) : Int := (x % 18446744073709551616) % n
theorem lowI_0 (x n : Int) (h : 0 < n) : 0 ≤ lowI x n := Int.emod_nonneg _ (by omega)
theorem lowI_1 (x n : Int) (h : 0 < n) : lowI x n < n := Int.emod_lt_of_pos _ h
theorem low_any (x n : Int) (w : World) (hx : -9223372036854775808 ≤ x ∧ x ≤ 9223372036854775807) (h0 : 0 < n) (h1 : n ≤ 1000000) :
    Calls Tryd.prog 17 #[.int .i64 x, .int .i64 n] w fun e w' => e = .returned (.int .i64 (lowI x n)) ∧ w = w' := by
  have l0 := lowI_0 x n h0
  have l1 := lowI_1 x n h0
  obtain ⟨hx0, hx1⟩ := hx
  by_cases h : 0 ≤ x
  · go_enter Tryd.func17, Tryd.ntmps17
    go_wp2
    go_ret
    refine ⟨?_, rfl⟩
    refine ret_int ?_
    have e : lowI x n = x % n := by unfold lowI; rw [Int.emod_eq_of_lt h (by omega)]
    rw [(show ∀ m : Int, -9223372036854775808 ≤ m ∧ m ≤ 9223372036854775807 → wrap64 m = m from fun m h => by unfold wrap64; omega) _ (by rw [← e]; omega), e]
  · have hm : x < 0 := by omega
    go_enter Tryd.func17, Tryd.ntmps17
    go_wp2
    go_ret
    refine ⟨?_, rfl⟩
    refine ret_int ?_
    have e : IntKind.u64.wrap x = x + 18446744073709551616 := by rw [IntKind.wrap_u64]; omega
    have e2 : lowI x n = (x + 18446744073709551616) % n := by unfold lowI; rw [show x % 18446744073709551616 = x + 18446744073709551616 by omega]
    rw [e, Int.tmod_eq_emod_of_nonneg (by omega), ← e2, (show ∀ m : Int, -9223372036854775808 ≤ m ∧ m ≤ 9223372036854775807 → wrap64 m = m from fun m h => by unfold wrap64; omega) _ (by omega)]
end
/- chapter 12: the walk of ArenaGone. -/
section
set_option linter.unusedVariables false
set_option linter.unusedSimpArgs false
open Go.ChangeShapes Go.WideShapes Go.ChangeAt Go.RowKit Go.Shelf
open TabA

set_option maxHeartbeats 1000000 in
theorem eqSame (i k s f r m e p l : Int) (w : World) : (binOp .eql 84 (.agg #[.int .i64 i, .int .i64 k, .int .i64 s, .int .i64 f, .int .i64 r, .int .i64 m, .int .i64 e, .int .i64 p, .int .i64 l]) (.agg #[.int .i64 i, .int .i64 k, .int .i64 s, .int .i64 f, .int .i64 r, .int .i64 m, .int .i64 e, .int .i64 p, .int .i64 l])).run Tryd.prog w = .ok (.bool true) w := by
  go_simp
theorem neq_of_eql (t : TypeId) (xs ys : Array Value) (w : World) (b : Bool) (hg : Tryd.prog.eqGuardType 10000 t = false) (h : (binOp .eql t (.agg xs) (.agg ys)).run Tryd.prog w = .ok (.bool b) w) : (binOp .neq t (.agg xs) (.agg ys)).run Tryd.prog w = .ok (.bool (!b)) w := by
  rw [run_eql_struct] at h
  rw [run_neq_struct]
  cases hr : (Op.equalIn 10000 t (.agg xs) (.agg ys)).run Tryd.prog w with
  | ok r w1 =>
    rw [hr] at h
    simp only [Result.andThen_ok] at h ⊢
    cases h
    rfl
  | halt c w1 =>
    rw [hr] at h
    cases h
theorem neSame (i k s f r m e p l : Int) (w : World) : (binOp .neq 84 (.agg #[.int .i64 i, .int .i64 k, .int .i64 s, .int .i64 f, .int .i64 r, .int .i64 m, .int .i64 e, .int .i64 p, .int .i64 l]) (.agg #[.int .i64 i, .int .i64 k, .int .i64 s, .int .i64 f, .int .i64 r, .int .i64 m, .int .i64 e, .int .i64 p, .int .i64 l])).run Tryd.prog w = .ok (.bool false) w :=
  neq_of_eql _ _ _ w true (by kernel_rfl) (eqSame i k s f r m e p l w)
attribute [local go_sem] neSame
/-- The arena, the list that All gave, and the object at hand. -/
structure GoneW (W w : World) (b g xB : Nat) (s : List Int × List Ob) (L : List Ob) (x : Ob) : Prop where
  st : ∃ ab base v, ArAt w b ab base 16 s.1 v s.2 ∧ W.heap.size ≤ b ∧ W.heap.size ≤ ab ∧ (g ≠ b ∧ g ≠ ab ∧ v.ownBlock ≠ some g) ∧ (xB ≠ b ∧ xB ≠ ab ∧ v.ownBlock ≠ some xB)
  bl : Below W.heap.size W w
  gl : g < w.heap.size
  xl : xB < w.heap.size
  ob : ObsAt w g L
  xc : ∀ j u, x.cells[j]? = some u → w.cell? ⟨xB, j, none⟩ = some u
theorem GoneW.call {W w w' : World} {b g xB : Nat} {s : List Int × List Ob} {L : List Ob} {x : Ob} (h : GoneW W w b g xB s L x) (hb : Below w.heap.size w w') : GoneW W w' b g xB s L x := by
  obtain ⟨ab, base, v, hA, h1, h2, h3, h4⟩ := h.st
  exact ⟨⟨ab, base, v, hA.call hb, h1, h2, h3, h4⟩, h.bl.trans (hb.mono h.bl.size), Nat.lt_of_lt_of_le h.gl hb.size, Nat.lt_of_lt_of_le h.xl hb.size, h.ob.call h.gl hb, fun j u hj => (hb.cell (p := ⟨xB, j, none⟩) h.xl).trans (h.xc j u hj)⟩
theorem GoneW.act {W w w' : World} {b g xB ab base : Nat} {v v' : Value} {s s' : List Int × List Ob} {L : List Ob} {x : Ob} (h : GoneW W w b g xB s L x) (hA : ArAt w b ab base 16 s.1 v s.2) (h1 : W.heap.size ≤ b) (h2 : W.heap.size ≤ ab)
    (h3 : g ≠ b ∧ g ≠ ab ∧ v.ownBlock ≠ some g) (h4 : xB ≠ b ∧ xB ≠ ab ∧ v.ownBlock ≠ some xB) (hA' : ArAt w' b ab base 16 s'.1 v' s'.2) (hO : OnlyA w w' b ab v v') : GoneW W w' b g xB s' L x := by
  have eg := hO.block g h.gl h3.1 h3.2.1 h3.2.2
  have ex := hO.block xB h.xl h4.1 h4.2.1 h4.2.2
  have gl := h.gl
  have xl := h.xl
  have ow : ∀ k, k < w.heap.size → v.ownBlock ≠ some k → v'.ownBlock ≠ some k := by
    intro k hk hv
    rcases hO.foot with q | ⟨r, q, hr⟩
    · rw [q]; exact hv
    · rw [q]; intro e; cases e; omega
  exact ⟨⟨ab, base, v', hA', h1, h2, ⟨h3.1, h3.2.1, ow g gl h3.2.2⟩, ⟨h4.1, h4.2.1, ow xB xl h4.2.2⟩⟩, h.bl.trans (hO.below hA h1 h2), Nat.lt_of_lt_of_le gl hO.size, Nat.lt_of_lt_of_le xl hO.size,
    fun i j y u hi hj => (World.cell?_of_block (a := ⟨g, _, none⟩) eg).trans (h.ob i j y u hi hj), fun j u hj => (World.cell?_of_block (a := ⟨xB, j, none⟩) ex).trans (h.xc j u hj)⟩
theorem GoneW.add {W w : World} {b g xB : Nat} {s : List Int × List Ob} {L : List Ob} {x : Ob} (h : GoneW W w b g xB s L x) (hl : s.2.length < 1000000) (x1 x2 x3 : Int) (wf : -9223372036854775808 ≤ x3 ∧ x3 ≤ 9223372036854775807) :
    Calls Tryd.prog 21 #[.pointer (some ⟨b, 0, none⟩), .int .i64 x1, .int .i64 x2, .int .i64 x3] w fun e w' => e = .returned (.tuple #[.int .i64 (addR 16 s.1 s.2 x1 x2 x3).1, .int .i64 (addR 16 s.1 s.2 x1 x2 x3).2]) ∧ GoneW W w' b g xB (addC 16 s.1 s.2 x1 x2 x3, addL 16 s.1 s.2 x1 x2 x3) L x := by
  obtain ⟨ab, base, v, hA, h1, h2, h3, h4⟩ := h.st
  exact (add_any w b ab base 16 s.1 v s.2 x1 x2 x3 hA wf hl).mono fun e w' ⟨he, v', hA', hO⟩ => ⟨he, h.act hA h1 h2 h3 h4 hA' hO⟩
theorem GoneW.add_yes {W w : World} {b g xB : Nat} {cnt : List Int} {M L : List Ob} {x : Ob} (h : GoneW W w b g xB (cnt, M) L x) (hl : M.length < 1000000) (x1 x2 x3 id : Int) (wf : -9223372036854775808 ≤ x3 ∧ x3 ≤ 9223372036854775807) (hr : addR 16 cnt M x1 x2 x3 = (id, 0)) :
    Calls Tryd.prog 21 #[.pointer (some ⟨b, 0, none⟩), .int .i64 x1, .int .i64 x2, .int .i64 x3] w fun e w' => e = .returned (.tuple #[.int .i64 id, .int .i64 0]) ∧ GoneW W w' b g xB (addC 16 cnt M x1 x2 x3, addL 16 cnt M x1 x2 x3) L x := by
  have := h.add hl x1 x2 x3 wf
  simp only [] at this
  rw [hr] at this
  exact this
theorem GoneW.sta {W w : World} {b g xB : Nat} {s : List Int × List Ob} {L : List Ob} {x : Ob} (h : GoneW W w b g xB s L x) : StA W w b s := by
  obtain ⟨ab, base, v, hA, h1, h2, _⟩ := h.st
  exact ⟨ab, base, v, hA, h1, h2, h.bl⟩
theorem GoneW.get_at {W w : World} {b g xB : Nat} {cnt : List Int} {M L : List Ob} {x y : Ob} (h : GoneW W w b g xB (cnt, M) L x) (hy : y ∈ M) :
    Calls Tryd.prog 70 #[.pointer (some ⟨b, 0, none⟩), .int .i64 y.id] w fun e w' => e = .returned (.tuple #[obV y, .bool true]) ∧ Below w.heap.size w w' := by
  have := h.sta.get y.id
  rw [h.sta.find hy] at this
  exact this
theorem GoneW.get_some {W w : World} {b g xB : Nat} {s : List Int × List Ob} {L : List Ob} {x : Ob} (h : GoneW W w b g xB s L x) (id : Int) :
    Calls Tryd.prog 70 #[.pointer (some ⟨b, 0, none⟩), .int .i64 id] w fun e w' => ∃ (a1 a2 a3 a4 a5 a6 a7 a8 a9 : Int) (hs : Bool), e = .returned (.tuple #[.agg #[.int .i64 a1, .int .i64 a2, .int .i64 a3, .int .i64 a4, .int .i64 a5, .int .i64 a6, .int .i64 a7, .int .i64 a8, .int .i64 a9], .bool hs]) ∧ Below w.heap.size w w' :=
  (h.sta.get id).mono fun e w' ⟨he, hb⟩ => ⟨_, _, _, _, _, _, _, _, _, _, he, hb⟩
theorem gone_start {W w1 w2 : World} {b g : Nat} {s : List Int × List Ob} {x : Ob} (h : StA W w1 b s) (hb : Below w1.heap.size w1 w2) (hg : w1.heap.size ≤ g) (hg2 : g < w2.heap.size) (ho : ObsAt w2 g s.2) :
    GoneW W (w2.alloc (.cells (obA x) 84)) b g w2.heap.size s s.2 x := by
  obtain ⟨ab, base, v, hA, h1, h2, h3⟩ := h
  have b1 := hA.bl
  have b2 := hA.al
  have b3 := hb.size
  have own : ∀ k, w1.heap.size ≤ k → v.ownBlock ≠ some k := fun k hk e => by have := (hA.tab.own e).2; omega
  have hal : Below w2.heap.size w2 (w2.alloc (.cells (obA x) 84)) := bal (Below.refl _ _) _
  exact ⟨⟨ab, base, v, (hA.call hb).call hal, h1, h2, ⟨by omega, by omega, own g hg⟩, ⟨by omega, by omega, own _ b3⟩⟩, (h3.trans (hb.mono h3.size)).trans (hal.mono (Nat.le_trans h3.size b3)), Nat.lt_of_lt_of_le hg2 hal.size, by simp, ho.call hg2 hal,
    fun j u hj => (cell_cur (cur := x.cells) (t := 84) (show (w2.alloc (.cells (obA x) 84)).heap[w2.heap.size]? = some (.cells x.cells.toArray 84 (0, 0)) from heap_alloc_new w2 _) j).trans hj⟩
theorem i64_ofV {n : Int} (h : (Lit.int .i64 n).wf = true) : -9223372036854775808 ≤ n ∧ n ≤ 9223372036854775807 := by
  simp [Lit.wf, IntKind.min, IntKind.max, IntKind.signed, IntKind.bits] at h
  exact ⟨by omega, by omega⟩
end
/- chapter 12's own answer: New, Get; lists of objects compared, and written over. -/
section
set_option linter.unusedVariables false
set_option linter.unusedSimpArgs false
open Go.ChangeShapes Go.WideShapes Go.ChangeAt Go.RowKit Go.Shelf
open TabA
attribute [local go_sem] neSame
/-- A slice of objects, nil included. -/
def ObsIs (w : World) (a : Option Addr) (L : List Ob) : Prop := ∀ i, i < L.length → ∃ g, a = some ⟨g, 0, none⟩ ∧ g < w.heap.size ∧ ObsAt w g L
theorem grown_cellX (w : World) (g i : Nat) (u : Value) : w.grownBy (w.setCell ⟨g, i, none⟩ u) (some g) :=
  ⟨rfl, rfl, rfl, by simp, fun k _ hk => Go.heap_setCell_other _ _ _ _ (fun e => hk (by rw [e]))⟩
theorem at_no_of {L : List Ob} {id : Int} (h : hasR (rowsO L) id = false) : ∀ x ∈ L, x.id ≠ id := by
  intro x hx e
  have := has_mem hx
  rw [e, h] at this
  cases this
theorem run_loadVar_one {w : World} {a : Addr} {v : Value} (h : w.cell? a = some v) : (loadVar 66 a).run Tryd.prog w = .ok v w := by
  simp [go_sem, h]
attribute [-go_sem] loadVar
set_option maxRecDepth 100000 in
set_option maxHeartbeats 2000000 in
theorem rget_any (w : World) (rb base : Nat) (F : Int) (v : Value) (L : List Ob) (G : List Int) (id : Int) (h : RefA w rb base F v L G) (hA : Asc (rowsO L)) (hl : L.length < 1000000) :
    Calls Tryd.prog 29 #[.pointer (some ⟨rb, 0, none⟩), .int .i64 id] w fun e w' => e = .returned (.tuple #[obD (getO L id), .bool (getO L id).isSome]) ∧ Below w.heap.size w w' := by
  have hal : Below w.heap.size w (w.alloc (.cells #[.int .i64 0, .int .i64 0, .int .i64 0, .int .i64 0, .int .i64 0, .int .i64 0, .int .i64 0, .int .i64 0, .int .i64 0] 84)) := bal (Below.refl _ _) _
  have hR := h.call hal
  have HR := Lib.hid hR
  have HAL := Lib.hid hal
  have hfin : ∀ (x : Ob), (w.alloc (.cells #[.int .i64 0, .int .i64 0, .int .i64 0, .int .i64 0, .int .i64 0, .int .i64 0, .int .i64 0, .int .i64 0, .int .i64 0] 84)).heap[w.heap.size]? = some (.cells #[.int .i64 0, .int .i64 0, .int .i64 0, .int .i64 0, .int .i64 0, .int .i64 0, .int .i64 0, .int .i64 0, .int .i64 0] 84 (0, 0)) ∧ (loadVar 84 ⟨w.heap.size, 0, none⟩).run Tryd.prog ((w.alloc (.cells #[.int .i64 0, .int .i64 0, .int .i64 0, .int .i64 0, .int .i64 0, .int .i64 0, .int .i64 0, .int .i64 0, .int .i64 0] 84)).setRow w.heap.size x.cells.toArray) = .ok (obV x) ((w.alloc (.cells #[.int .i64 0, .int .i64 0, .int .i64 0, .int .i64 0, .int .i64 0, .int .i64 0, .int .i64 0, .int .i64 0, .int .i64 0] 84)).setRow w.heap.size x.cells.toArray) ∧ Below w.heap.size w ((w.alloc (.cells #[.int .i64 0, .int .i64 0, .int .i64 0, .int .i64 0, .int .i64 0, .int .i64 0, .int .i64 0, .int .i64 0, .int .i64 0] 84)).setRow w.heap.size x.cells.toArray) := by
    intro x
    have hk := heap_alloc_new w (.cells #[.int .i64 0, .int .i64 0, .int .i64 0, .int .i64 0, .int .i64 0, .int .i64 0, .int .i64 0, .int .i64 0, .int .i64 0] 84)
    exact ⟨hk, run_loadVar_row _ _ _ _ _ _ _ (setRow_heap _ _ _ _ _ _ hk) Tryd.underlying84 rfl (by kernel_rfl), below_row HAL.out (Nat.le_refl _) _⟩
  have HF := Lib.hid hfin
  clear hfin
  cases hh : hasR (rowsO L) id with
  | false =>
    have hg : getO L id = none := by unfold getO; rw [hh]; rfl
    rw [hg]
    have hno := at_no_of hh
    have HNO := Lib.hid hno
    have HB := Lib.hid (HF.out ⟨0, 0, 0, 0, 0, 0, 0, 0, 0⟩)
    clear h hR hal hh hg hno hA HF
    go_enter Tryd.func29, Tryd.ntmps29
    go_wp2_with (first
      | (go_at_call 50; refine (at_no _ rb base F v L G id HR.out hl HNO.out).mono ?_; rintro e w1 ⟨rfl, rfl⟩)
      | (refine wpList_store_row rfl 84 _ _ rfl w.heap.size (Ob.cells ⟨0, 0, 0, 0, 0, 0, 0, 0, 0⟩).toArray rfl rfl _ _ HB.out.1 (by kernel_rfl) rfl (ob_one _) ?_))
    have hl := HB.out.2.1
    exact bodyPost_ret (v := .tuple #[obD none, .bool false]) (by simp [results, Tryd.results29, go_sem, asAddr, hl]) rfl ⟨rfl, HB.out.2.2⟩
  | true =>
    obtain ⟨r, hr, e⟩ := (hasR_at hA).1 hh
    rw [rows_get] at hr
    obtain ⟨x, hx⟩ : ∃ x, L[posR (rowsO L) id]? = some x := by
      cases hz : L[posR (rowsO L) id]? with
      | none => rw [hz] at hr; cases hr
      | some z => exact ⟨z, rfl⟩
    have hxid : x.id = id := by rw [hx] at hr; cases hr; exact e
    have hg : getO L id = some x := by unfold getO posO; rw [hh, if_pos rfl, hx]
    rw [hg]
    have hbef : ∀ i y, i < posR (rowsO L) id → L[i]? = some y → y.id ≠ id := by
      intro i y hi hy e'
      have := asc_id hA hi hy hx
      omega
    generalize posR (rowsO L) id = p at *
    have hpL := (List.getElem?_eq_some_iff.1 hx).1
    obtain ⟨ra, rc, rfl, hrc, hra⟩ := obs_of hR.row
    obtain ⟨g, rfl, hgl, hobs⟩ := hra p hpL
    have hld : ∀ j u, x.cells[j]? = some u → (w.alloc (.cells #[.int .i64 0, .int .i64 0, .int .i64 0, .int .i64 0, .int .i64 0, .int .i64 0, .int .i64 0, .int .i64 0, .int .i64 0] 84)).cell? ((⟨g, p * 9, none⟩ : Addr).add j) = some u := add_cells_off (fun j u hj => hobs p j x u hx hj)
    have HLD := Lib.hid hld
    have HX := Lib.hid hx
    have HXI := Lib.hid hxid
    have HBE := Lib.hid hbef
    have HB := Lib.hid (HF.out x)
    have c1 := hR.c1
    have hpI : (p : Int) < L.length := by omega
    have q1 : (loadVar 66 ⟨rb, 1, none⟩).run Tryd.prog (w.alloc (.cells #[.int .i64 0, .int .i64 0, .int .i64 0, .int .i64 0, .int .i64 0, .int .i64 0, .int .i64 0, .int .i64 0, .int .i64 0] 84)) = .ok (.slice (some ⟨g, 0, none⟩) L.length rc) (w.alloc (.cells #[.int .i64 0, .int .i64 0, .int .i64 0, .int .i64 0, .int .i64 0, .int .i64 0, .int .i64 0, .int .i64 0, .int .i64 0] 84)) := run_loadVar_one c1
    clear h hR hal hh hg hA HF hra hobs hld hx hbef hr hxid
    go_enter Tryd.func29, Tryd.ntmps29
    go_wp2_with (first
      | (go_at_call 50; refine (at_yes _ rb base F _ L G id HR.out hl p x HX.out HXI.out HBE.out).mono ?_; rintro e w1 ⟨rfl, rfl⟩)
      | (refine wpList_load_list (by first | rfl | simp [Region.wanted, yielded]) 84 _ rfl ⟨g, p * 9, none⟩ rfl x.cells HLD.out _ Tryd.underlying84 rfl (by kernel_rfl) ?_)
      | (refine wpList_store_row rfl 84 _ _ rfl w.heap.size x.cells.toArray rfl rfl _ _ HB.out.1 (by kernel_rfl) rfl (ob_one _) ?_))
    have hl := HB.out.2.1
    exact bodyPost_ret (v := .tuple #[obD (some x), .bool true]) (by simp [results, Tryd.results29, go_sem, asAddr, hl]) rfl ⟨rfl, HB.out.2.2⟩
end
/- chapter 12's own answer: New; SetMark, SetPlace; a list written over. -/
section
set_option linter.unusedVariables false
set_option linter.unusedSimpArgs false
open Go.ChangeShapes Go.WideShapes Go.ChangeAt Go.RowKit Go.Shelf
open TabA

theorem news_at (wr W : World) (cs : List Value) (t : TypeId) (h : W.heap = (wr.alloc (.cells cs.toArray t)).heap) : ∀ j u, cs[j]? = some u → W.cell? ((⟨wr.heap.size, 0, none⟩ : Addr).add j) = some u := by
  intro j u hj
  have e : ((⟨wr.heap.size, 0, none⟩ : Addr).add j) = ⟨wr.heap.size, j, none⟩ := by unfold Addr.add; split <;> simp_all
  have hb : W.heap[wr.heap.size]? = some (.cells cs.toArray t (0, 0)) := by rw [h]; exact World.alloc_heap_new _ _
  rw [e]
  simp [World.cell?, hb, hj]
def zA : Array Value := (Value.int .i64 0 :: Value.slice none 0 0 :: List.replicate 64 (Value.int .i64 0)).toArray
theorem zero_ref : ∀ w, (zeroValue 69).run Tryd.prog w = .ok (.agg zA) w := fun _ => by kernel_rfl
theorem zA_ne : ¬ zA = #[] := by simp [zA]
def zF (F : Int) : Array Value := zA.setIfInBounds 0 (.int .i64 F)
def zeroG : List Int := List.replicate 64 0
set_option maxRecDepth 100000 in
set_option maxHeartbeats 1000000 in
theorem rnew_no (w : World) (F : Int) (hF : F < 1 ∨ 64 < F) :
    Calls Tryd.prog 20 #[.int .i64 F] w fun e w' => e = .returned (.tuple #[.pointer none, .int .i64 3]) ∧ w = w' := by
  have h2 : F < 1 ∨ (¬ F < 1 ∧ 64 < F) := by omega
  clear hF
  rcases h2 with h | ⟨h, h'⟩
  all_goals
    go_enter Tryd.func20, Tryd.ntmps20
    go_wp2
    go_ret2
    exact ⟨rfl, rfl⟩
theorem ref_new (w w' : World) (F : Int) (hB : w'.heap[w.heap.size]? = some (.cells (Value.int .i64 F :: Value.slice none 0 0 :: zeroG.map (Value.int .i64)).toArray 69 (0, 0))) (hs : w'.heap.size = w.heap.size + 1) : RefA w' w.heap.size (w.heap.size + 1) F (.slice none 0 0) [] zeroG :=
  ⟨hB, by decide, World.ownsRow_nil _ _ _ _, by omega, by omega, by intro g hg; simp [zeroG] at hg; omega⟩
set_option maxRecDepth 100000 in
set_option maxHeartbeats 1000000 in
theorem rnew_yes (w : World) (F : Int) (h0 : ¬ F < 1) (h1 : ¬ 64 < F) :
    Calls Tryd.prog 20 #[.int .i64 F] w fun e w' => ∃ rb, e = .returned (.tuple #[.pointer (some ⟨rb, 0, none⟩), .int .i64 0]) ∧ RefA w' rb (rb + 1) F (.slice none 0 0) [] zeroG ∧ Below w.heap.size w w' ∧ rb = w.heap.size := by
  have hz := zero_ref
  have hne := zA_ne
  have hzf : zA.setIfInBounds 0 (.int .i64 F) = zF F := rfl
  have hsz : (zF F).size = 66 := by simp [zF, zA]
  go_enter Tryd.func20, Tryd.ntmps20
  go_wp2
  go_ret2
  exact ⟨w.heap.size, rfl, ref_new w _ F (heap_alloc_new w _) (by simp), bal (Below.refl _ _) _, rfl⟩
end
/- chapter 12's own answer: SetMark, SetPlace. -/
section
set_option linter.unusedVariables false
set_option linter.unusedSimpArgs false
open Go.ChangeShapes Go.WideShapes Go.ChangeAt Go.RowKit Go.Shelf
open TabA

theorem own_set {w : World} {B s g n c i : Nat} {e : TypeId} {xs : List Value} (u : Value) (h : w.ownsRow B e s (.slice (some ⟨g, 0, none⟩) n c) n xs) : (w.setCell ⟨g, i, none⟩ u).ownsRow B e s (.slice (some ⟨g, 0, none⟩) n c) n (xs.set i u) := by
  rcases h.2 with ⟨h1, _⟩ | ⟨g', cap, cur, h1, q1, q2, q3, q4, q5, q6⟩
  · cases h1
  · cases h1
    refine ⟨by simpa using h.1, .inr ⟨_, _, cur.setIfInBounds i u, rfl, q1, Go.heap_setCell_same _ _ _ _ _ _ q2, q3, q4, by simpa using q5, ?_⟩⟩
    rw [← q6, Array.toList_setIfInBounds, List.take_set]
theorem objsC_set : ∀ (L : List Ob) (p : Nat) {x y : Ob} {j : Nat} {u : Value}, L[p]? = some x → j < 9 → y.cells = x.cells.set j u → objsC (L.set p y) = (objsC L).set (p * 9 + j) u
  | [], p, x, y, j, u, hx, _, _ => by simp at hx
  | z :: L, 0, x, y, j, u, hx, hj, hy => by
    simp at hx
    subst hx
    have e1 : objsC (y :: L) = y.cells ++ objsC L := rfl
    have e2 : objsC (z :: L) = z.cells ++ objsC L := rfl
    have hl : z.cells.length = 9 := rfl
    rw [List.set_cons_zero, e1, e2, hy, List.set_append_left _ _ (by omega)]
    simp
  | z :: L, p + 1, x, y, j, u, hx, hj, hy => by
    have e1 : objsC (z :: L.set p y) = z.cells ++ objsC (L.set p y) := rfl
    have e2 : objsC (z :: L) = z.cells ++ objsC L := rfl
    have hl : z.cells.length = 9 := rfl
    rw [List.set_cons_succ, e1, e2, List.set_append_right _ _ (by omega), hl, show (p + 1) * 9 + j - 9 = p * 9 + j by omega, objsC_set L p (by simpa using hx) hj hy]
theorem RefA.put {w : World} {rb base g c p j : Nat} {F : Int} {L : List Ob} {G : List Int} {x y : Ob} {u : Value} (h : RefA w rb base F (.slice (some ⟨g, 0, none⟩) L.length c) L G) (hx : L[p]? = some x) (hj : j < 9) (hy : y.cells = x.cells.set j u) :
    RefA (w.setCell ⟨g, p * 9 + j, none⟩ u) rb base F (.slice (some ⟨g, 0, none⟩) L.length c) (L.set p y) G ∧ OnlyA w (w.setCell ⟨g, p * 9 + j, none⟩ u) rb rb (.slice (some ⟨g, 0, none⟩) L.length c) (.slice (some ⟨g, 0, none⟩) L.length c) := by
  have hlt := h.row.lt g rfl
  have hr := own_set (i := p * 9 + j) u h.row
  rw [← objsC_set L p hx hj hy] at hr
  have o : ∀ k, k ≠ g → (w.setCell ⟨g, p * 9 + j, none⟩ u).heap[k]? = w.heap[k]? := fun k hk => Go.heap_setCell_other _ _ _ _ hk
  have hn := h.lt
  exact ⟨⟨(o rb (by omega)).trans h.blk, h.gl, by rw [List.length_set]; exact hr, h.lt, by simpa using h.bs, h.cn⟩, ⟨rfl, rfl, rfl, by simp, fun k hk h1 h2 h3 => o k (fun e => h3 (by rw [e]; rfl)), .inl rfl⟩⟩
/-- The place of a number. -/
theorem at_facts {L : List Ob} {id : Int} (hA : Asc (rowsO L)) (hh : hasR (rowsO L) id = true) : ∃ x p, L[p]? = some x ∧ x.id = id ∧ getO L id = some x ∧ posO L id = p ∧ ∀ i y, i < p → L[i]? = some y → y.id ≠ id := by
  obtain ⟨r, hr, e⟩ := (hasR_at hA).1 hh
  rw [rows_get] at hr
  cases hz : L[posR (rowsO L) id]? with
  | none => rw [hz] at hr; cases hr
  | some z =>
    have hxid : z.id = id := by rw [hz] at hr; cases hr; exact e
    refine ⟨z, _, hz, hxid, by unfold getO posO; rw [hh, if_pos rfl, hz], rfl, fun i y hi hy e' => ?_⟩
    have := asc_id hA hi hy hz
    omega
theorem RefA.froz {w : World} {rb base g c : Nat} {F : Int} {L : List Ob} {G : List Int} (h : RefA w rb base F (.slice (some ⟨g, 0, none⟩) L.length c) L G) (j : Nat) : w.frozen? ⟨g, j, none⟩ = false := by
  rcases h.row.2 with ⟨h1, _⟩ | ⟨g', cap, cur, h1, _, q2, _⟩
  · cases h1
  · cases h1
    exact froz_row q2
theorem refl_onlyA (w : World) (rb : Nat) (v : Value) : OnlyA w w rb rb v v := OnlyA.of_below (Below.refl _ _)
end
/- chapter 12's own answer: SetPlace. -/
section
set_option linter.unusedVariables false
set_option linter.unusedSimpArgs false
open Go.ChangeShapes Go.WideShapes Go.ChangeAt Go.RowKit Go.Shelf
open TabA

theorem RefA.put3 {w : World} {rb base g c p : Nat} {F : Int} {L : List Ob} {G : List Int} {x : Ob} (se pg lv : Int) (h : RefA w rb base F (.slice (some ⟨g, 0, none⟩) L.length c) L G) (hx : L[p]? = some x) :
    RefA (((w.setCell ⟨g, p * 9 + 6, none⟩ (.int .i64 se)).setCell ⟨g, p * 9 + 7, none⟩ (.int .i64 pg)).setCell ⟨g, p * 9 + 8, none⟩ (.int .i64 lv)) rb base F (.slice (some ⟨g, 0, none⟩) L.length c) (L.set p { x with se := se, pg := pg, lv := lv }) G ∧
    OnlyA w (((w.setCell ⟨g, p * 9 + 6, none⟩ (.int .i64 se)).setCell ⟨g, p * 9 + 7, none⟩ (.int .i64 pg)).setCell ⟨g, p * 9 + 8, none⟩ (.int .i64 lv)) rb rb (.slice (some ⟨g, 0, none⟩) L.length c) (.slice (some ⟨g, 0, none⟩) L.length c) := by
  have hpl := (List.getElem?_eq_some_iff.1 hx).1
  obtain ⟨a1, o1⟩ := h.put (j := 6) (u := .int .i64 se) (y := { x with se := se }) hx (by decide) rfl
  have l1 : L.length = (L.set p { x with se := se }).length := by simp
  rw [l1] at a1 o1
  obtain ⟨a2, o2⟩ := a1.put (j := 7) (u := .int .i64 pg) (x := { x with se := se }) (y := { x with se := se, pg := pg }) (List.getElem?_set_self hpl) (by decide) rfl
  rw [List.set_set] at a2
  have l2 : (L.set p { x with se := se }).length = (L.set p { x with se := se, pg := pg }).length := by simp
  rw [l2] at a2 o1 o2
  obtain ⟨a3, o3⟩ := a2.put (j := 8) (u := .int .i64 lv) (x := { x with se := se, pg := pg }) (y := { x with se := se, pg := pg, lv := lv }) (List.getElem?_set_self hpl) (by decide) rfl
  rw [List.set_set] at a3
  have l3 : (L.set p { x with se := se, pg := pg }).length = L.length := by simp
  rw [l3] at a3 o1 o2 o3
  exact ⟨a3, (o1.trans o2).trans o3⟩
theorem OnlyA.drew_in {w w' : World} {rb : Nat} {v v' : Value} (h : OnlyA w.drew w' rb rb v v') : OnlyA w w' rb rb v v' := ⟨h.os, h.tape, h.output, h.size, h.block, h.foot⟩
end
/- chapter 12's own answer: Drop. -/
section
set_option linter.unusedVariables false
set_option linter.unusedSimpArgs false
open Go.ChangeShapes Go.WideShapes Go.ChangeAt Go.RowKit Go.Shelf
open TabA
attribute [-go_sem] Builtin.append_
/-- What an act of the own answer leaves: only its own blocks are turned. -/
structure OnlyR (w w' : World) (rb : Nat) (v v' : Value) : Prop where
  os : w'.os = w.os
  tape : w'.tape = w.tape
  output : w'.output = w.output
  size : w.heap.size ≤ w'.heap.size
  block : ∀ k, k < w.heap.size → k ≠ rb → v.ownBlock ≠ some k → w'.heap[k]? = w.heap[k]?
  foot : ∀ k, k < w.heap.size → v'.ownBlock = some k → v.ownBlock = some k
theorem OnlyR.of {w w' : World} {rb : Nat} {v v' : Value} (h : OnlyA w w' rb rb v v') : OnlyR w w' rb v v' :=
  ⟨h.os, h.tape, h.output, h.size, fun k hk h1 h2 => h.block k hk h1 h1 h2, fun k hk e => by
    rcases h.foot with q | ⟨g, q, hg⟩
    · rw [← q]; exact e
    · rw [q] at e; cases e; omega⟩
theorem own_weak {w : World} {B B' s n : Nat} {e : TypeId} {v : Value} {xs : List Value} (h : w.ownsRow B e s v n xs) (hB : B' ≤ B) : w.ownsRow B' e s v n xs := by
  refine ⟨h.1, ?_⟩
  rcases h.2 with h2 | ⟨g, cap, cur, rfl, q1, q2⟩
  · exact .inl h2
  · exact .inr ⟨g, cap, cur, rfl, Nat.le_trans hB q1, q2⟩
theorem RefA.store {w w2 : World} {rb base : Nat} {F : Int} {v u : Value} {L L' : List Ob} {G : List Int} (h : RefA w rb base F v L G) (hb : Below w.heap.size w w2) (ho : w2.ownsRow w.heap.size 84 9 u L'.length (objsC L')) :
    RefA (w2.setCell ⟨rb, 1, none⟩ u) rb base F u L' G ∧ OnlyR w (w2.setCell ⟨rb, 1, none⟩ u) rb v u := by
  have hlt := h.lt
  have hbs := h.bs
  have hk := (hb.block rb (by omega)).trans h.blk
  have hn : u.ownBlock ≠ some rb := fun e => by have := (ho.lt rb e).1; omega
  refine ⟨⟨Go.heap_setCell_same _ _ _ _ _ _ hk, h.gl, own_weak (ownsRow_setCell_other ho hn u) hbs, hlt, by simpa using Nat.le_trans hbs hb.size, h.cn⟩, ⟨hb.os, hb.tape, hb.output, by simpa using hb.size, fun k hk' h1 h2 => ?_, fun k hk' e => ?_⟩⟩
  · exact (Go.heap_setCell_other _ _ _ _ h1).trans (hb.block k hk')
  · have := (ho.lt k e).1; omega
theorem objs_one {L : List Ob} : ∀ u ∈ objsC L, u.oneCell' = true := by
  intro u hu
  unfold objsC at hu
  obtain ⟨x, hx, hux⟩ := List.mem_flatMap.1 hu
  simp [Ob.cells] at hux
  rcases hux with rfl | rfl | rfl | rfl | rfl | rfl | rfl | rfl | rfl <;> rfl
theorem objs_len : ∀ (L : List Ob), (objsC L).length = L.length * 9
  | [] => rfl
  | x :: L => by
    have e : objsC (x :: L) = x.cells ++ objsC L := rfl
    have hl : x.cells.length = 9 := rfl
    rw [e, List.length_append, objs_len L, hl, List.length_cons]
    omega
theorem objs_app (A B : List Ob) : objsC (A ++ B) = objsC A ++ objsC B := by simp [objsC]
theorem objs_pre {L : List Ob} {p : Nat} (hp : p ≤ L.length) {j : Nat} {u : Value} (h : (objsC (L.take p))[j]? = some u) : (objsC L)[j]? = some u := by
  have e : objsC L = objsC (L.take p) ++ objsC (L.drop p) := by rw [← objs_app, List.take_append_drop]
  rw [e, List.getElem?_append_left (List.getElem?_eq_some_iff.1 h).1]
  exact h
theorem objs_suf {L : List Ob} {p : Nat} (hp : p ≤ L.length) {j : Nat} {u : Value} (h : (objsC (L.drop p))[j]? = some u) : (objsC L)[p * 9 + j]? = some u := by
  have e : objsC L = objsC (L.take p) ++ objsC (L.drop p) := by rw [← objs_app, List.take_append_drop]
  have hl : (objsC (L.take p)).length = p * 9 := by rw [objs_len, List.length_take, Nat.min_eq_left hp]
  rw [e, List.getElem?_append_right (by omega), hl, Nat.add_sub_cancel_left]
  exact h
theorem row_cells {w : World} {base : Nat} {g c n : Nat} {xs : List Value} (h : w.ownsRow base 84 9 (.slice (some ⟨g, 0, none⟩) n c) n xs) {j : Nat} {u : Value} (hj : xs[j]? = some u) : w.cell? ⟨g, j, none⟩ = some u := by
  have := h.cells (g := g) rfl _ _ hj
  have ha : ((⟨g, 0, none⟩ : Addr).add j) = ⟨g, j, none⟩ := by unfold Addr.add; split <;> simp_all
  rwa [ha] at this
theorem own_slice {w : World} {B s n : Nat} {e : TypeId} {v : Value} {xs : List Value} (h : w.ownsRow B e s v n xs) : ∃ a k c, v = .slice a k c := by
  rcases h.2 with ⟨rfl, _⟩ | ⟨g, cap, cur, rfl, _⟩
  · exact ⟨_, _, _, rfl⟩
  · exact ⟨_, _, _, rfl⟩
end
/- chapter 12's own answer: Add, up to the search for what it meets. -/
section
set_option linter.unusedVariables false
set_option linter.unusedSimpArgs false
open Go.ChangeShapes Go.WideShapes Go.ChangeAt Go.RowKit Go.Shelf
open TabA

set_option maxHeartbeats 1000000 in
theorem framesR_any (k s : Int) (w : World) : Calls Tryd.prog 39 #[.int .i64 k, .int .i64 s] w fun e w' => e = .returned (.int .i64 (framesN k s)) ∧ w = w' := by
  go_enter Tryd.func39, Tryd.ntmps39
  go_wp2
  all_goals go_ret
  all_goals refine ⟨ret_int ?_, rfl⟩
  all_goals (try simp only [beq_iff_eq, beq_eq_false_iff_ne, ne_eq] at *)
  all_goals unfold framesN
  all_goals ((repeat' split) <;> omega)
set_option maxRecDepth 100000 in
set_option maxHeartbeats 1000000 in
theorem radd_arg (w : World) (rb : Nat) (kd sz fi : Int) (hf : framesN kd sz = 0) :
    Calls Tryd.prog 22 #[.pointer (some ⟨rb, 0, none⟩), .int .i64 kd, .int .i64 sz, .int .i64 fi] w fun e w' => e = .returned (.tuple #[.int .i64 0, .int .i64 2]) ∧ w = w' := by
  have HF := Lib.hid hf
  clear hf
  go_enter Tryd.func22, Tryd.ntmps22
  go_wp2_with (go_at_call 39; refine (framesR_any _ _ _).mono ?_; rw [HF.out]; rintro e w1 ⟨rfl, rfl⟩)
  go_ret2
  exact ⟨rfl, rfl⟩
set_option maxRecDepth 100000 in
set_option maxHeartbeats 1000000 in
theorem radd_range (w : World) (rb base : Nat) (F : Int) (v : Value) (L : List Ob) (G : List Int) (kd sz fi : Int) (h : RefA w rb base F v L G) (hF : 1 ≤ F ∧ F ≤ 64) (hf : framesN kd sz ≠ 0) (hr : fi < 0 ∨ F - framesN kd sz < fi) :
    Calls Tryd.prog 22 #[.pointer (some ⟨rb, 0, none⟩), .int .i64 kd, .int .i64 sz, .int .i64 fi] w fun e w' => e = .returned (.tuple #[.int .i64 0, .int .i64 3]) ∧ w = w' := by
  obtain ⟨hb1, hb2⟩ := frames_bd hf
  have c0 := h.c0
  clear h
  generalize hfr : framesN kd sz = fr at *
  have HF := Lib.hid hfr
  clear hfr
  have h3 : fi < 0 ∨ (¬ fi < 0 ∧ F < fi) ∨ (¬ fi < 0 ∧ ¬ F < fi ∧ F - fi < fr) := by omega
  clear hr
  rcases h3 with h1 | ⟨h1, h2⟩ | ⟨h1, h2, h4⟩
  · go_enter Tryd.func22, Tryd.ntmps22
    go_wp2_with (go_at_call 39; refine (framesR_any _ _ _).mono ?_; rw [HF.out]; rintro e w1 ⟨rfl, rfl⟩)
    go_ret2
    exact ⟨rfl, rfl⟩
  · go_enter Tryd.func22, Tryd.ntmps22
    go_wp2_with (go_at_call 39; refine (framesR_any _ _ _).mono ?_; rw [HF.out]; rintro e w1 ⟨rfl, rfl⟩)
    go_ret2
    exact ⟨rfl, rfl⟩
  · go_enter Tryd.func22, Tryd.ntmps22
    go_wp2_with (go_at_call 39; refine (framesR_any _ _ _).mono ?_; rw [HF.out]; rintro e w1 ⟨rfl, rfl⟩)
    go_ret2
    exact ⟨rfl, rfl⟩
/-- The own arena, and the object at hand. -/
structure OwnO (w wr : World) (rb base oB : Nat) (F : Int) (v : Value) (L : List Ob) (G : List Int) (x : Ob) : Prop where
  ref : RefA wr rb base F v L G
  ox : ∀ j u, x.cells[j]? = some u → wr.cell? ⟨oB, j, none⟩ = some u
  of : ∀ j, wr.frozen? ⟨oB, j, none⟩ = false
  ol : oB < wr.heap.size
  ob : oB = w.heap.size
  bl : Below w.heap.size w wr
theorem OwnO.call {w wr w' : World} {rb base oB : Nat} {F : Int} {v : Value} {L : List Ob} {G : List Int} {x : Ob} (h : OwnO w wr rb base oB F v L G x) (hb : Below wr.heap.size wr w') : OwnO w w' rb base oB F v L G x :=
  ⟨h.ref.call hb, fun j u hj => (hb.cell (p := ⟨oB, j, none⟩) h.ol).trans (h.ox j u hj), fun j => (hb.frozen (p := ⟨oB, j, none⟩) h.ol).trans (h.of j), Nat.lt_of_lt_of_le h.ol hb.size, h.ob, h.bl.trans (hb.mono h.bl.size)⟩
theorem own_first {w : World} {rb base : Nat} {F : Int} {v : Value} {L : List Ob} {G : List Int} (x : Ob) (h : RefA w rb base F v L G) : OwnO w (w.alloc (.cells (obA x) 84)) rb base w.heap.size F v L G x := by
  have hal : Below w.heap.size w (w.alloc (.cells (obA x) 84)) := bal (Below.refl _ _) _
  have hn : (w.alloc (.cells (obA x) 84)).heap[w.heap.size]? = some (.cells x.cells.toArray 84 (0, 0)) := heap_alloc_new w _
  exact ⟨h.call hal, fun j u hj => (cell_cur hn j).trans hj, fun j => froz_row hn, by simp, rfl, hal⟩
set_option maxRecDepth 100000 in
set_option maxHeartbeats 4000000 in
theorem radd_busy (w : World) (rb base : Nat) (F : Int) (v : Value) (L : List Ob) (G : List Int) (kd sz fi : Int) (h : RefA w rb base F v L G) (hF : 1 ≤ F ∧ F ≤ 64) (hl : L.length < 1000000) (hf : framesN kd sz ≠ 0) (hr : ¬ (fi < 0 ∨ F - framesN kd sz < fi)) (hany : L.any (collideA (newO kd sz fi)) = true) :
    Calls Tryd.prog 22 #[.pointer (some ⟨rb, 0, none⟩), .int .i64 kd, .int .i64 sz, .int .i64 fi] w fun e w' => e = .returned (.tuple #[.int .i64 0, .int .i64 16]) ∧ Below w.heap.size w w' := by
  obtain ⟨hb1, hb2⟩ := frames_bd hf
  have c0 := h.c0
  have how := own_first (newO kd sz fi) h
  have HAN : Hid (∃ i y, L[i]? = some y ∧ collideA (newO kd sz fi) y = true) := Lib.hid (by
    rw [List.any_eq_true] at hany
    obtain ⟨y, hy, hc⟩ := hany
    obtain ⟨i, hi⟩ := List.getElem?_of_mem hy
    exact ⟨i, y, hi, hc⟩)
  obtain ⟨ra, rc, rfl, hrc, _⟩ := obs_of h.row
  clear h hany
  have hn : newO kd sz fi = ⟨0, kd, sz, fi, framesN kd sz, 0, 0, 0, 0⟩ := rfl
  rw [hn] at how HAN
  clear hn
  generalize hfr : framesN kd sz = fr at *
  have HF := Lib.hid hfr
  have HOW := Lib.hid how
  clear hfr how
  have h1 : ¬ fi < 0 := by omega
  have h2 : ¬ F < fi := by omega
  have h4 : ¬ F - fi < fr := by omega
  clear hr
  go_enter Tryd.func22, Tryd.ntmps22
  go_upto_region 7 with (go_at_call 39; refine (framesR_any _ _ _).mono ?_; rw [HF.out]; rintro e w1 ⟨rfl, rfl⟩)
  obtain ⟨w1, hw1⟩ : ∃ y, y = w.alloc (.cells (obA ⟨0, kd, sz, fi, fr, 0, 0, 0, 0⟩) 84) := ⟨_, rfl⟩
  rw [← hw1]
  rw [← hw1] at HOW
  clear hw1 c0
  generalize w.heap.size = oB at *
  go_wp2
  go_loopw [12] (fun i wr => ∃ t : Nat, t ≤ L.length ∧ i = .int .i64 t ∧ Hid (OwnO w wr rb base oB F (.slice ra L.length rc) L G ⟨0, kd, sz, fi, fr, 0, 0, 0, 0⟩) ∧ Hid (∀ i y, i < t → L[i]? = some y → collideA ⟨0, kd, sz, fi, fr, 0, 0, 0, 0⟩ y = false)) (fun i _ => L.length - (intOf i).toNat)
  case atStart => exact ⟨0, Nat.zero_le _, rfl, HOW, Lib.hid (fun i y hi => absurd hi (by omega))⟩
  case round =>
    obtain ⟨t, ht, rfl, HO, HNC⟩ := hrel
    clear HOW
    have c1 := HO.out.ref.c1
    by_cases htL : t < L.length
    · have htI : (t : Int) < L.length := by omega
      obtain ⟨y, hy⟩ : ∃ y, L[t]? = some y := ⟨L[t]'htL, List.getElem?_eq_getElem _⟩
      obtain ⟨ra', rc', hv, _, hra⟩ := obs_of HO.out.ref.row
      cases hv
      obtain ⟨g, rfl, hgl, hobs⟩ := hra t htL
      have HY := Lib.hid hy
      obtain ⟨yi, yk, ys, yf, yr, ym, ye, yp, yl⟩ := y
      have y0 := hobs t 0 _ _ hy rfl
      simp only [Nat.add_zero] at y0
      have y1 := hobs t 1 _ _ hy rfl
      have y2 := hobs t 2 _ _ hy rfl
      have y3 := hobs t 3 _ _ hy rfl
      have y4 := hobs t 4 _ _ hy rfl
      have y5 := hobs t 5 _ _ hy rfl
      have y6 := hobs t 6 _ _ hy rfl
      have y7 := hobs t 7 _ _ hy rfl
      have y8 := hobs t 8 _ _ hy rfl
      have x0 := HO.out.ox 0 _ rfl
      have x1 := HO.out.ox 1 _ rfl
      have x2 := HO.out.ox 2 _ rfl
      have x3 := HO.out.ox 3 _ rfl
      have x4 := HO.out.ox 4 _ rfl
      have x5 := HO.out.ox 5 _ rfl
      have x6 := HO.out.ox 6 _ rfl
      have x7 := HO.out.ox 7 _ rfl
      have x8 := HO.out.ox 8 _ rfl
      clear hy hra hobs
      go_upto_region 10 with fail
      go_still_tail 8, (by kernel_rfl)
      change wpList _ _ _ _ _ wr.drew
      have HO2 : Hid (OwnO w wr.drew rb base oB F (.slice (some ⟨g, 0, none⟩) L.length rc) L G ⟨0, kd, sz, fi, fr, 0, 0, 0, 0⟩) := Lib.hid (HO.out.call (Below.refl _ _).drew)
      clear y0 y1 y2 y3 y4 y5 y6 y7 y8 x0 x1 x2 x3 x4 x5 x6 x7 x8 c1 HO hgl
      generalize wr.drew = wd at *
      cases hc : collideA ⟨0, kd, sz, fi, fr, 0, 0, 0, 0⟩ ⟨yi, yk, ys, yf, yr, ym, ye, yp, yl⟩ with
      | true =>
        have HC := Lib.hid hc
        clear hc
        go_wp2_with (go_at_call 40; refine (may_any _ ⟨0, kd, sz, fi, fr, 0, 0, 0, 0⟩ ⟨yi, yk, ys, yf, yr, ym, ye, yp, yl⟩).mono ?_; rw [HC.out]; rintro e w3 ⟨rfl, hb3⟩)
        go_ret2
        exact ⟨rfl, (HO2.out.call hb3).bl⟩
      | false =>
        have HC := Lib.hid hc
        clear hc
        go_wp2_with (go_at_call 40; refine (may_any _ ⟨0, kd, sz, fi, fr, 0, 0, 0, 0⟩ ⟨yi, yk, ys, yf, yr, ym, ye, yp, yl⟩).mono ?_; rw [HC.out]; rintro e w3 ⟨rfl, hb3⟩)
        go_roundw
        case rel => exact ⟨t + 1, by omega, by go_num, Lib.hid (HO2.out.call hb3), Lib.hid (fun i z hi hz => by
          rcases Nat.lt_or_ge i t with q | q
          · exact HNC.out i z q hz
          · have : i = t := by omega
            subst this
            rw [HY.out] at hz
            cases hz
            exact HC.out)⟩
        case measure => first | (simp [intOf]; done) | (simp [intOf]; omega)
    · exfalso
      obtain ⟨i, y, hi, hc⟩ := HAN.out
      have := HNC.out i y (by have := (List.getElem?_eq_some_iff.1 hi).1; omega) hi
      rw [hc] at this
      cases this
end
/- chapter 12's own answer: Add, that finds no number. -/
section
set_option linter.unusedVariables false
set_option linter.unusedSimpArgs false
open Go.ChangeShapes Go.WideShapes Go.ChangeAt Go.RowKit Go.Shelf
open TabA

set_option maxRecDepth 100000 in
set_option maxHeartbeats 4000000 in
theorem radd_full (w : World) (rb base : Nat) (F : Int) (v : Value) (L : List Ob) (G : List Int) (kd sz fi : Int) (h : RefA w rb base F v L G) (hF : 1 ≤ F ∧ F ≤ 64) (hl : L.length < 1000000) (hf : framesN kd sz ≠ 0) (hr : ¬ (fi < 0 ∨ F - framesN kd sz < fi)) (hany : L.any (collideA (newO kd sz fi)) = false) (hnx : nextR F G fi = 0) :
    Calls Tryd.prog 22 #[.pointer (some ⟨rb, 0, none⟩), .int .i64 kd, .int .i64 sz, .int .i64 fi] w fun e w' => e = .returned (.tuple #[.int .i64 0, .int .i64 11]) ∧ Below w.heap.size w w' := by
  obtain ⟨hb1, hb2⟩ := frames_bd hf
  have c0 := h.c0
  have how := own_first (newO kd sz fi) h
  have HAN : Hid (∀ y ∈ L, collideA (newO kd sz fi) y = false) := Lib.hid (fun y hy => by
    rw [List.any_eq_false] at hany
    simpa using hany y hy)
  have HNX := Lib.hid hnx
  clear hnx
  obtain ⟨ra, rc, rfl, hrc, _⟩ := obs_of h.row
  clear h hany
  have hn : newO kd sz fi = ⟨0, kd, sz, fi, framesN kd sz, 0, 0, 0, 0⟩ := rfl
  rw [hn] at how HAN
  clear hn
  generalize hfr : framesN kd sz = fr at *
  have HF := Lib.hid hfr
  have HOW := Lib.hid how
  clear hfr how
  have h1 : ¬ fi < 0 := by omega
  have h2 : ¬ F < fi := by omega
  have h4 : ¬ F - fi < fr := by omega
  clear hr
  go_enter Tryd.func22, Tryd.ntmps22
  go_upto_region 7 with (go_at_call 39; refine (framesR_any _ _ _).mono ?_; rw [HF.out]; rintro e w1 ⟨rfl, rfl⟩)
  obtain ⟨w1, hw1⟩ : ∃ y, y = w.alloc (.cells (obA ⟨0, kd, sz, fi, fr, 0, 0, 0, 0⟩) 84) := ⟨_, rfl⟩
  rw [← hw1]
  rw [← hw1] at HOW
  clear hw1 c0
  obtain ⟨oB, hoB⟩ : ∃ y, y = w.heap.size := ⟨_, rfl⟩
  rw [← hoB] at HOW ⊢
  have HOB := Lib.hid hoB
  clear hoB
  go_wp2
  go_loopw [12] (fun i wr => ∃ t : Nat, t ≤ L.length ∧ i = .int .i64 t ∧ Hid (OwnO w wr rb base oB F (.slice ra L.length rc) L G ⟨0, kd, sz, fi, fr, 0, 0, 0, 0⟩) ) (fun i _ => L.length - (intOf i).toNat)
  case atStart => exact ⟨0, Nat.zero_le _, rfl, HOW⟩
  case round =>
    obtain ⟨t, ht, rfl, HO⟩ := hrel
    clear HOW
    have c1 := HO.out.ref.c1
    by_cases htL : t < L.length
    · have htI : (t : Int) < L.length := by omega
      obtain ⟨y, hy⟩ : ∃ y, L[t]? = some y := ⟨L[t]'htL, List.getElem?_eq_getElem _⟩
      obtain ⟨ra', rc', hv, _, hra⟩ := obs_of HO.out.ref.row
      cases hv
      obtain ⟨g, rfl, hgl, hobs⟩ := hra t htL
      have HY := Lib.hid hy
      obtain ⟨yi, yk, ys, yf, yr, ym, ye, yp, yl⟩ := y
      have y0 := hobs t 0 _ _ hy rfl
      simp only [Nat.add_zero] at y0
      have y1 := hobs t 1 _ _ hy rfl
      have y2 := hobs t 2 _ _ hy rfl
      have y3 := hobs t 3 _ _ hy rfl
      have y4 := hobs t 4 _ _ hy rfl
      have y5 := hobs t 5 _ _ hy rfl
      have y6 := hobs t 6 _ _ hy rfl
      have y7 := hobs t 7 _ _ hy rfl
      have y8 := hobs t 8 _ _ hy rfl
      have x0 := HO.out.ox 0 _ rfl
      have x1 := HO.out.ox 1 _ rfl
      have x2 := HO.out.ox 2 _ rfl
      have x3 := HO.out.ox 3 _ rfl
      have x4 := HO.out.ox 4 _ rfl
      have x5 := HO.out.ox 5 _ rfl
      have x6 := HO.out.ox 6 _ rfl
      have x7 := HO.out.ox 7 _ rfl
      have x8 := HO.out.ox 8 _ rfl
      clear hy hra hobs
      go_upto_region 10 with fail
      go_still_tail 8, (by kernel_rfl)
      change wpList _ _ _ _ _ wr.drew
      have HO2 : Hid (OwnO w wr.drew rb base oB F (.slice (some ⟨g, 0, none⟩) L.length rc) L G ⟨0, kd, sz, fi, fr, 0, 0, 0, 0⟩) := Lib.hid (HO.out.call (Below.refl _ _).drew)
      clear y0 y1 y2 y3 y4 y5 y6 y7 y8 x0 x1 x2 x3 x4 x5 x6 x7 x8 c1 HO hgl
      generalize wr.drew = wd at *
      have HC := Lib.hid (HAN.out _ (List.mem_of_getElem? HY.out))
      go_wp2_with (go_at_call 40; refine (may_any _ ⟨0, kd, sz, fi, fr, 0, 0, 0, 0⟩ ⟨yi, yk, ys, yf, yr, ym, ye, yp, yl⟩).mono ?_; rw [HC.out]; rintro e w3 ⟨rfl, hb3⟩)
      go_roundw
      case rel => exact ⟨t + 1, by omega, by go_num, Lib.hid (HO2.out.call hb3)⟩
      case measure => first | (simp [intOf]; done) | (simp [intOf]; omega)
    · obtain rfl : t = L.length := by omega
      have x0 := HO.out.ox 0 _ rfl
      have xf := HO.out.of 0
      have xl := HO.out.ol
      have hBL : Below w.heap.size w (wr.setCell ⟨oB, 0, none⟩ (.int .i64 0)) := Below.setCell HO.out.bl (by show _ ≤ oB; rw [HO.out.ob]; exact Nat.le_refl _) _
      have HBL := Lib.hid hBL
      clear hBL
      go_wp2_with (go_at_call 41; refine (rnext_any _ rb base F _ L G fi HO.out.ref hF).mono ?_; rw [HNX.out]; rintro e w4 ⟨rfl, rfl⟩)
      go_ret2
      exact ⟨rfl, HBL.out⟩
end
end Go.Proofs.YtnjdljjmengjbaaDoor
