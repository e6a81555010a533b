/- cap's table of places, as the text lays it. -/
import Derived.Test.YtoepbcaldlgnjaaDoorVars
import Derived.Deep.Strs
import Derived.OpenShut
import Derived.ChangeArms
import Derived.Test.YtoepbcaldlgnjaaDoorFrame
namespace Go.Proofs.YtoepbcaldlgnjaaDoor
set_option linter.unusedVariables false
open Go.ChangeShapes Go.WideShapes Go.ChangeAt Go.RowKit Go.Deep

/-- The places of Kind, Rights, Obj, Page, Serial, Badge, Guard and Bits: word, at, bits. -/
def layT : List (Nat × Nat × Nat) := [(0, 0, 4), (0, 4, 3), (0, 8, 16), (0, 24, 9), (0, 40, 24), (1, 0, 24), (1, 24, 12), (1, 36, 4)]
def layV (p : Nat × Nat × Nat) : List Value := [.int .i64 p.1, .int .i64 p.2.1, .int .i64 p.2.2]
def layD {H : Type} (p : Nat × Nat × Nat) : DataW H := .agg [.lit (.int .i64 p.1), .lit (.int .i64 p.2.1), .lit (.int .i64 p.2.2)]
theorem int_cell {H : Type} {enc : TypeId × Value → H} {w : World} {base : Nat} {spare : Nat → Bool} {held : Bool} {fuel : Nat} {cs : List Value} {y : DataW H × List MemPlace} {a : Int} (h : DataW.trod enc Tryd.prog w base spare held fuel 3 cs = some y) (hd : y.1 = .lit (.int .i64 a)) : cs = [.int .i64 a] := by
  obtain ⟨n, rfl, rfl, _⟩ := DataW.trod_int Tryd.underlying3 h
  simp only [DataW.lit.injEq, Lit.int.injEq, true_and] at hd
  rw [hd]
theorem field_cells {H : Type} {enc : TypeId × Value → H} {w : World} {base : Nat} {spare : Nat → Bool} {held : Bool} {fuel : Nat} {cs : List Value} {x : DataW H × List MemPlace} {p : Nat × Nat × Nat} (h : DataW.trod enc Tryd.prog w base spare held fuel 48 cs = some x) (hd : x.1 = layD p) : cs = layV p := by
  obtain ⟨y0, y1, y2, n, rfl, hl, h0, h1, h2⟩ := trod_struct3 Tryd.underlying48 h
  simp only [layD, DataW.agg.injEq, List.cons.injEq, and_true] at hd
  obtain ⟨d0, d1, d2⟩ := hd
  have k0 := int_cell h0 d0
  have k1 := int_cell h1 d1
  have k2 := int_cell h2 d2
  have hc : Tryd.prog.cellsOf 48 = 3 := by kernel_rfl
  have hi : Tryd.prog.cellsOf 3 = 1 := by kernel_rfl
  rw [hc] at hl
  rw [hi] at k0 k1 k2
  match cs, hl with
  | [a, b, c], _ =>
    simp at k0 k1 k2
    subst k0; subst k1; subst k2
    rfl
def LaidV_laid_seisin_cap_layout (W : World) : Prop := (∀ i p, layT[i]? = some p → ∀ j v, (layV p)[j]? = some v → W.cell? ⟨0, i * 3 + j, none⟩ = some v) ∧ 0 < W.heap.size
theorem laidV_laid_seisin_cap_layout {l : List (String × DataW Unit)} {W : World} (hm : ("seisin/cap.layout", (Rows.laid_seisin_cap_layout : DataW Unit)) ∈ l) (h : laidMet Tryd.prog l W) : LaidV_laid_seisin_cap_layout W := by
  obtain ⟨_, hv, _⟩ := h
  obtain ⟨g, t, cs, fuel, p, hg, hty, hvar, hd⟩ := listed_reads hv _ _ hm
  have k1 : Tryd.prog.globalNamed "seisin/cap.layout" = some 0 := by kernel_rfl
  have k2 : (Tryd.prog.globals[0]?).map (·.type) = some 54 := by kernel_rfl
  obtain rfl := Option.some.inj (k1.symm.trans hg)
  obtain rfl := Option.some.inj (k2.symm.trans hty)
  have e : (Rows.laid_seisin_cap_layout : DataW Unit) = .agg (layT.map layD) := by kernel_rfl
  rw [e] at hd
  have hc : Tryd.prog.cellsOf 48 = 3 := by kernel_rfl
  obtain ⟨xs, m, _, hx, hl, hlen, hi⟩ := DataW.trod_array Tryd.underlying54 hd
  simp only [Prod.mk.injEq, DataW.agg.injEq] at hx
  refine ⟨fun i q hq j v hj => ?_, size_of_var hg hvar⟩
  have hi8 : i < 8 := by
    have := (List.getElem?_eq_some_iff.1 hq).1
    simpa [layT] using this
  have hj3 : j < 3 := by
    have := (List.getElem?_eq_some_iff.1 hj).1
    simpa [layV] using this
  have h1 := hi i hi8
  rw [hc] at h1
  have hxi : i < xs.length := by omega
  rw [List.getElem?_eq_getElem hxi] at h1
  have hd1 : (xs[i]).1 = layD q := by
    have := congrArg (·[i]?) hx.1
    simp only [List.getElem?_map, hq, Option.map_some, List.getElem?_eq_getElem hxi, Option.some.injEq] at this
    exact this.symm
  have hcs := field_cells h1 hd1
  have hv2 := World.var?_cell hg hvar (i * 3 + j)
  rw [hv2, ← Array.getElem?_toList]
  rw [← hcs, List.getElem?_take_of_lt hj3, List.getElem?_drop] at hj
  exact hj
theorem LaidV_laid_seisin_cap_layout.call {w w' : World} (h : LaidV_laid_seisin_cap_layout w) (k : Below w.heap.size w w') : LaidV_laid_seisin_cap_layout w' :=
  ⟨fun i p hp j v hv => (k.cell (p := ⟨0, i * 3 + j, none⟩) h.2).trans (h.1 i p hp j v hv), Nat.lt_of_lt_of_le h.2 k.size⟩
end Go.Proofs.YtoepbcaldlgnjaaDoor
