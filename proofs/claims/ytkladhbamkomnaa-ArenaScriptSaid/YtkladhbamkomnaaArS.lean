/- chapter 12: objects do not meet. -/
import Derived.Test.YtkladhbamkomnaaArP
namespace Go.Proofs.Ytkladhbamkomnaa
set_option linter.unusedVariables false
set_option linter.unusedSimpArgs false
open Go.ChangeShapes Go.WideShapes Go.ChangeAt Go.RowKit Go.Shelf
open TabA

/-- No two of the objects are where they may not be. -/
def NoC (L : List Ob) : Prop := ∀ x ∈ L, ∀ y ∈ L, x.id ≠ y.id → collideA x y = false
theorem near_comm (a n b k : Int) : nearB a n b k = nearB b k a n := by
  unfold nearB
  rw [Bool.eq_iff_iff]
  simp
  omega
theorem meet_comm (a n b k : Int) : meetB a n b k = meetB b k a n := by
  unfold meetB
  rw [near_comm a n b k, Bool.eq_iff_iff]
  simp
  omega
theorem collide_comm (x y : Ob) : collideA x y = collideA y x := by
  unfold collideA
  rw [meet_comm]
  cases meetB y.fi y.fr x.fi x.fr <;> cases aroundA x y <;> cases aroundA y x <;> rfl
theorem collide_same {x y x' y' : Ob} (h1 : x'.kd = x.kd ∧ x'.fi = x.fi ∧ x'.fr = x.fr) (h2 : y'.kd = y.kd ∧ y'.fi = y.fi ∧ y'.fr = y.fr) : collideA x' y' = collideA x y := by
  obtain ⟨a1, a2, a3⟩ := h1
  obtain ⟨b1, b2, b3⟩ := h2
  unfold collideA aroundA
  rw [a1, a2, a3, b1, b2, b3]
theorem mem_ins {L : List Ob} {x y : Ob} (h : y ∈ insO L x) : y = x ∨ y ∈ L := by
  unfold insO at h
  rcases List.mem_append.1 h with q | q
  · exact .inr (List.mem_of_mem_take q)
  · rcases List.mem_cons.1 q with q | q
    · exact .inl q
    · exact .inr (List.mem_of_mem_drop q)
theorem addA_none {cnt : List Int} {L : List Ob} {x : Ob} (h : (addA cnt L x).2 = 0) : ∀ y ∈ L, collideA x y = false := by
  unfold addA at h
  split at h
  · cases h
  · rename_i hn
    intro y hy
    rw [Bool.not_eq_true, List.any_eq_false] at hn
    simpa using hn y hy
theorem noC_add {F : Nat} {cnt : List Int} {L : List Ob} {kd sz fi : Int} (h : NoC L) : NoC (addL F cnt L kd sz fi) := by
  unfold addL
  split
  · rename_i hz
    have hz2 : (addA cnt L (newO kd sz fi)).2 = 0 := by
      unfold addR at hz
      split at hz
      · cases hz
      · split at hz
        · cases hz
        · exact hz
    have hn := addA_none hz2
    intro x hx y hy hid
    rcases mem_ins hx with rfl | hx <;> rcases mem_ins hy with rfl | hy
    · exact absurd rfl hid
    · exact (collide_same ⟨rfl, rfl, rfl⟩ ⟨rfl, rfl, rfl⟩).trans (hn y hy)
    · rw [collide_comm]
      exact (collide_same ⟨rfl, rfl, rfl⟩ ⟨rfl, rfl, rfl⟩).trans (hn x hx)
    · exact h x hx y hy hid
  · exact h
theorem noC_set {L : List Ob} {p : Nat} {x0 y0 : Ob} (h : NoC L) (hx : L[p]? = some x0) (e : y0.id = x0.id ∧ y0.kd = x0.kd ∧ y0.fi = x0.fi ∧ y0.fr = x0.fr) : NoC (L.set p y0) := by
  have q : ∀ z ∈ L.set p y0, ∃ z0 ∈ L, z.id = z0.id ∧ z.kd = z0.kd ∧ z.fi = z0.fi ∧ z.fr = z0.fr := by
    intro z hz
    rcases List.mem_or_eq_of_mem_set hz with q | q
    · exact ⟨z, q, rfl, rfl, rfl, rfl⟩
    · subst q; exact ⟨x0, List.mem_of_getElem? hx, e⟩
  intro x hx y hy hid
  obtain ⟨x1, hx1, a0, a1, a2, a3⟩ := q x hx
  obtain ⟨y1, hy1, b0, b1, b2, b3⟩ := q y hy
  rw [collide_same ⟨a1, a2, a3⟩ ⟨b1, b2, b3⟩]
  exact h x1 hx1 y1 hy1 (by rw [← a0, ← b0]; exact hid)
theorem getO_at {L : List Ob} {id : Int} {x : Ob} (h : getO L id = some x) : L[posO L id]? = some x := by
  unfold getO at h
  split at h
  · exact h
  · cases h
theorem noC_play (D : Nat → ActT) : ∀ n, NoC (playS D n).2
  | 0 => fun x hx => by cases hx
  | n + 1 => by
    have ih := noC_play D n
    show NoC (stepS (playS D n) (D n)).2
    unfold stepS
    split
    · exact noC_add ih
    · split
      · exact fun x hx y hy => ih x (dropL_sub hx) y (dropL_sub hy)
      · split
        · show NoC (markL _ _ _)
          unfold markL
          split
          · exact ih
          · rename_i o x0 hq
            split
            · have hx0 := getO_at hq
              exact noC_set ih hx0 ⟨rfl, rfl, rfl, rfl⟩
            · exact ih
        · split
          · show NoC (placeL _ _ _ _ _)
            unfold placeL
            split
            · exact ih
            · rename_i o x0 hq
              split
              · have hx0 := getO_at hq
                exact noC_set ih hx0 ⟨rfl, rfl, rfl, rfl⟩
              · exact ih
          · exact ih
/-- A slice of objects. -/
def ObsAt (w : World) (g : Nat) (L : List Ob) : Prop := ∀ (i j : Nat) (x : Ob) (u : Value), L[i]? = some x → x.cells[j]? = some u → w.cell? ⟨g, i * 9 + j, none⟩ = some u
theorem ObsAt.call {w w' : World} {g : Nat} {L : List Ob} (h : ObsAt w g L) (hg : g < w.heap.size) (hb : Below w.heap.size w w') : ObsAt w' g L := fun i j x u hi hj => (hb.cell (p := ⟨g, _, none⟩) hg).trans (h i j x u hi hj)
theorem objs_get : ∀ (L : List Ob) (i j : Nat) (x : Ob) (u : Value), L[i]? = some x → x.cells[j]? = some u → (objsC L)[i * 9 + j]? = some u
  | [], i, j, x, u, hi, _ => by simp at hi
  | y :: L, 0, j, x, u, hi, hj => by
    simp at hi
    subst hi
    have e : objsC (y :: L) = y.cells ++ objsC L := rfl
    have hl : y.cells.length = 9 := rfl
    rw [e, List.getElem?_append_left (by have := (List.getElem?_eq_some_iff.1 hj).1; omega)]
    simpa using hj
  | y :: L, i + 1, j, x, u, hi, hj => by
    have e : objsC (y :: L) = y.cells ++ objsC L := rfl
    have hl : y.cells.length = 9 := rfl
    rw [e, List.getElem?_append_right (by omega), hl, show (i + 1) * 9 + j - 9 = i * 9 + j by omega]
    exact objs_get L i j x u (by simpa using hi) hj
theorem obs_of {w : World} {base : Nat} {r : Value} {L : List Ob} (h : w.ownsRow base 37 9 r L.length (objsC L)) : ∃ ra rc, r = .slice ra L.length rc ∧ L.length ≤ rc ∧ ∀ i, i < L.length → ∃ g, ra = some ⟨g, 0, none⟩ ∧ g < w.heap.size ∧ ObsAt w g L := by
  have hlt := h.lt
  have hcs := fun g hg => h.cells (g := g) hg
  rcases h.2 with ⟨rfl, h0⟩ | ⟨g, cap, cur, rfl, q1, q2, q3, q4, q5, q6⟩
  · exact ⟨none, 0, by rw [h0], by omega, fun i hi => by omega⟩
  · refine ⟨_, _, rfl, q3, fun _ _ => ⟨g, rfl, (hlt g rfl).2, fun i j x u hi hj => ?_⟩⟩
    have := hcs g rfl _ _ (objs_get L i j x u hi hj)
    have ha : ((⟨g, 0, none⟩ : Addr).add (i * 9 + j)) = ⟨g, i * 9 + j, none⟩ := by unfold Addr.add; split <;> simp_all
    rwa [ha] at this
end Go.Proofs.Ytkladhbamkomnaa
