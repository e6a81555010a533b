/- chapter 35: an event's parts, by the own answer. -/
import Derived.Test.YthgmanncmekeeaaDoorSd3
namespace Go.Proofs.YthgmanncmekeeaaDoor
set_option linter.unusedVariables false
set_option linter.unusedSimpArgs false
open Go.ChangeShapes Go.WideShapes Go.ChangeAt Go.RowKit Go.Shelf
attribute [-go_sem] binOp_string_add binOp_string_eql binOp_string_neq run_index_string
attribute [local go_sem] Sc.bs_size
namespace Sc
/-- A row of numbers. -/
def IntR (K : IntKind) (w : World) (v : Value) (L : List Int) : Prop := ∃ p cap, v = .slice p L.length cap ∧ L.length ≤ cap ∧ ∀ k x, L[k]? = some x → ∃ g, p = some ⟨g, 0, none⟩ ∧ g < w.heap.size ∧ w.cell? ⟨g, k, none⟩ = some (.int K x)
theorem IntR.call {K : IntKind} {w w' : World} {v : Value} {L : List Int} (h : IntR K w v L) (hb : Below w.heap.size w w') : IntR K w' v L := by
  obtain ⟨p, cap, h1, hc, h2⟩ := h
  refine ⟨p, cap, h1, hc, fun k x hk => ?_⟩
  obtain ⟨g, e, hg, hv⟩ := h2 k x hk
  exact ⟨g, e, Nat.lt_of_lt_of_le hg hb.size, (World.cell?_of_block (hb.block g hg)).trans hv⟩
theorem IntR.nil (K : IntKind) (w : World) : IntR K w (.slice none 0 0) [] := ⟨none, 0, rfl, Nat.le_refl _, fun k x h => by simp at h⟩
theorem IntR.block {K : IntKind} {w : World} {g : Nat} {T : TypeId} (L : List Int) (n : Nat) (hn : L.length = n) (h : w.heap[g]? = some (.cells (L.map (Value.int K)).toArray T (0, 0))) : IntR K w (.slice (some ⟨g, 0, none⟩) n n) L := by
  subst hn
  refine ⟨_, _, rfl, Nat.le_refl _, fun k x hk => ⟨g, rfl, (Array.getElem?_eq_some_iff.1 h).1, ?_⟩⟩
  rw [row_cell h]
  simp [hk]
theorem IntR.own {K : IntKind} {w : World} {B n : Nat} {T : TypeId} {v : Value} {L : List Int} (hn : L.length = n) (h : w.ownsRow B T 1 v n (L.map (Value.int K))) : IntR K w v L := by
  subst hn
  have hlt := h.lt
  have hcs := fun g hg => h.cells (g := g) hg
  rcases h.2 with ⟨rfl, h0⟩ | ⟨g, cap, cur, rfl, _, _, h1, _⟩
  · rw [List.length_eq_zero_iff.1 h0]; exact IntR.nil K w
  · refine ⟨_, _, rfl, h1, fun k x hk => ⟨g, rfl, (hlt g rfl).2, ?_⟩⟩
    have := hcs g rfl k (.int K x) (by rw [List.getElem?_map, hk]; rfl)
    rw [addr_add] at this
    exact this
/-- A kind's fields, and its words. -/
def flds (k : Int) : List Nat := if k = 1 then [1, 2] else if k = 5 then [1, 12, 13] else if k = 6 then [1, 14] else [1]
def wrds (k : Int) : List Nat := if k = 2 then [3, 4, 5, 6, 7, 8, 9] else if k = 3 then [10] else if k = 4 then [10, 11] else []
theorem places_fw (k : Int) : places k = (flds k).map (fun i => (false, i)) ++ (wrds k).map (fun i => (true, i)) := by
  unfold places flds wrds
  by_cases h1 : k = 1
  · subst h1; rfl
  by_cases h2 : k = 2
  · subst h2; rfl
  by_cases h3 : k = 3
  · subst h3; rfl
  by_cases h4 : k = 4
  · subst h4; rfl
  by_cases h5 : k = 5
  · subst h5; rfl
  by_cases h6 : k = 6
  · subst h6; rfl
  simp [h1, h2, h3, h4, h5, h6]
def PartsRes (c : Ev) (w : World) (e : Ending) (w' : World) : Prop := ∃ u v, e = .returned (.tuple #[.string (bs (nm (c 0))), u, v]) ∧ (nm (c 0) ≠ [] → IntR .i64 w' u ((flds (c 0)).map c) ∧ IntR .u64 w' v ((wrds (c 0)).map c)) ∧ Below w.heap.size w w'
end Sc
end Go.Proofs.YthgmanncmekeeaaDoor
