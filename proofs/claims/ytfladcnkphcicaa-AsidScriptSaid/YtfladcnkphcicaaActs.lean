/- A slice of structs handed in: the cells of each element, each of its own kind, structs in structs too. Of no program of its own. -/
import Derived.Test.YtfladcnkphcicaaBase
import Derived.Deep.Slices
import Derived.OpenShut
import Derived.DataReads
namespace Go.Proofs.Ytfladcnkphcicaa
set_option linter.unusedVariables false
open Go.ChangeShapes Go.WideShapes Go.ChangeAt Go.RowKit Go.Deep

/-- The kind of a cell. -/
inductive FK where
  | i (k : IntKind)
  | b
def FK.ok : FK → Value → Prop
  | .i k, v => ∃ n, v = .int k n ∧ (Lit.int k n).wf = true
  | .b, v => ∃ x, v = .bool x
/-- The kind of the cell at an offset of a type. -/
def kindAt (P : Program) : Nat → TypeId → Nat → Option FK
  | 0, _, _ => none
  | d + 1, t, j => match P.underlying t with
    | some (.int k) => if j = 0 then some (.i k) else none
    | some .bool => if j = 0 then some .b else none
    | some (.struct fs) => fs.toList.findSome? fun f => if f.offset ≤ j && j < f.offset + P.cellsOf f.type then kindAt P d f.type (j - f.offset) else none
    | some (.array n e) => if j / P.cellsOf e < n && 0 < P.cellsOf e then kindAt P d e (j % P.cellsOf e) else none
    | _ => none
section
variable {H : Type} {enc : TypeId × Value → H} {P : Program} {w : World} {base : Nat} {spare : Nat → Bool} {held : Bool}
theorem kind_trod : ∀ (d fuel : Nat) (t : TypeId) (cs : List Value) (x : DataW H × List MemPlace) (j : Nat) (k : FK), DataW.trod enc P w base spare held fuel t cs = some x → kindAt P d t j = some k → ∃ v, cs[j]? = some v ∧ k.ok v
  | 0, _, _, _, _, _, _, _, h => by simp [kindAt] at h
  | d + 1, fuel, t, cs, x, j, k, hx, h => by
    unfold kindAt at h
    cases hu : P.underlying t with
    | none => simp [hu] at h
    | some u =>
      rw [hu] at h
      cases u with
      | int q =>
        simp only [Option.ite_none_right_eq_some, Option.some.injEq] at h
        obtain ⟨rfl, rfl⟩ := h
        obtain ⟨n, rfl, _, hw⟩ := DataW.trod_int hu hx
        exact ⟨_, rfl, n, rfl, hw⟩
      | bool =>
        simp only [Option.ite_none_right_eq_some, Option.some.injEq] at h
        obtain ⟨rfl, rfl⟩ := h
        obtain ⟨n, rfl, _⟩ := DataW.trod_bool hu hx
        exact ⟨_, rfl, n, rfl⟩
      | struct fs =>
        simp only at h
        obtain ⟨f, hf, hk⟩ := List.exists_of_findSome?_eq_some h
        obtain ⟨i, hi, hfi⟩ := List.mem_iff_getElem.1 hf
        split at hk
        · rename_i hc
          simp only [Bool.and_eq_true, decide_eq_true_eq] at hc
          obtain ⟨xs, n, _, _, hl, hlen, hg⟩ := DataW.trod_struct hu hx
          have hfs : fs[i]? = some f := by rw [← Array.getElem?_toList, List.getElem?_eq_getElem hi, hfi]
          have hgi := hg i f hfs
          have hil : i < xs.length := by rw [hlen]; simpa using hi
          rw [List.getElem?_eq_getElem hil] at hgi
          obtain ⟨v, hv, ok⟩ := kind_trod d n f.type _ _ _ _ hgi hk
          refine ⟨v, ?_, ok⟩
          rw [List.getElem?_take_of_lt (by omega), List.getElem?_drop] at hv
          rw [← hv]
          congr 1
          omega
        · cases hk
      | array n e =>
        simp only at h
        split at h
        · rename_i hc
          simp only [Bool.and_eq_true, decide_eq_true_eq] at hc
          obtain ⟨xs, m, _, _, hl, hlen, hg⟩ := DataW.trod_array hu hx
          have hgi := hg _ hc.1
          rw [List.getElem?_eq_getElem (by omega)] at hgi
          obtain ⟨v, hv, ok⟩ := kind_trod d m e _ _ _ _ hgi h
          refine ⟨v, ?_, ok⟩
          rw [List.getElem?_take_of_lt (Nat.mod_lt _ hc.2), List.getElem?_drop] at hv
          rw [← hv]
          congr 1
          exact (Nat.div_add_mod' j (P.cellsOf e)).symm
        · cases h
      | _ => simp at h
/-- What a cell holds, as a number and as a truth. -/
def intAt (w : World) (b o : Nat) : Int := match w.cell? ⟨b, o, none⟩ with
  | some (.int _ n) => n
  | _ => 0
def boolAt (w : World) (b o : Nat) : Bool := match w.cell? ⟨b, o, none⟩ with
  | some (.bool x) => x
  | _ => false
/-- The cell at a place is of that kind. -/
def KindIs (w : World) (b o : Nat) : FK → Prop
  | .i k => w.cell? ⟨b, o, none⟩ = some (.int k (intAt w b o)) ∧ (Lit.int k (intAt w b o)).wf = true
  | .b => w.cell? ⟨b, o, none⟩ = some (.bool (boolAt w b o))
theorem kindIs_of {b o : Nat} {v : Value} {k : FK} (h : w.cell? ⟨b, o, none⟩ = some v) (hk : k.ok v) : KindIs w b o k := by
  cases k with
  | i k =>
    obtain ⟨n, rfl, hw⟩ := hk
    have e : intAt w b o = n := by simp [intAt, h]
    exact ⟨by rw [e]; exact h, by rw [e]; exact hw⟩
  | b =>
    obtain ⟨x, rfl⟩ := hk
    show _ = _
    rw [h]
    simp [boolAt, h]
/-- A slice of things of C cells each, n of them: where they lie, and each cell's kind. -/
def RowsAt (P : Program) (w : World) (e : TypeId) (C : Nat) (p : Option Addr) (n : Nat) : Prop :=
  ∃ b off, (0 < n → p = some ⟨b, off, none⟩ ∧ b < w.heap.size) ∧ ∀ i, i < n → ∀ j k, kindAt P 9 e j = some k → KindIs w b (off + (i * C + j)) k
theorem open_rows {r : Reach} {b0 : Nat} {t e : TypeId} {C : Nat} {v : Value} {d : DataW H} {ps : List MemPlace} (ht : P.underlying t = some (.slice e)) (hC : P.cellsOf e = C) (h0 : (kindAt P 9 e 0).isSome = true) (h0C : 0 < C)
    (hval : Value.okWide P w r b0 t v) (hd : DataW.Trod enc P w base spare held t v d ps) :
    ∃ p n c, v = .slice p n c ∧ n ≤ c ∧ c ≤ maxLen ∧ RowsAt P w e C p n := by
  obtain ⟨p0, l0, c0, rfl⟩ := okWide_slice ht hval
  obtain ⟨fuel, hf⟩ := hd
  rcases open_slice ht hf with ⟨h1, _⟩ | ⟨a, len, cap, m, n, D, Pl, hcs, hb, hl, hm, hmm, hx, hi⟩
  · have : Value.slice p0 l0 c0 = .slice none 0 0 := by simpa [Value.cells] using h1
    cases this
    exact ⟨_, _, _, rfl, Nat.le_refl _, by unfold maxLen; omega, 0, 0, fun h => absurd h (by omega), fun i hi => absurd hi (by omega)⟩
  · have : Value.slice p0 l0 c0 = .slice (some a) len cap := by simpa [Value.cells] using hcs
    cases this
    refine ⟨_, _, _, rfl, hl, hm, a.block, a.off, fun hn => ?_, fun i hil j k hk => ?_⟩
    · obtain ⟨cs', hc, _⟩ := hi 0 (by rw [hmm]; split <;> omega)
      obtain ⟨_, hlen, hcell⟩ := World.cells?_some hc
      rw [hC] at hlen hcell
      have h1 := hcell 0 h0C
      rw [List.getElem?_eq_getElem (by omega)] at h1
      simp only [Nat.zero_mul, Addr.add, if_true] at h1
      have hs := World.cell?_spot h1
      have hb := World.block_lt_of_cell? _ _ h1
      obtain ⟨b, o, s⟩ := a
      simp only at hs
      subst hs
      exact ⟨rfl, hb⟩
    · obtain ⟨cs', hc, ht'⟩ := hi i (by rw [hmm]; split <;> omega)
      obtain ⟨u, hu, ok⟩ := kind_trod 9 _ _ _ _ _ _ ht' hk
      obtain ⟨_, hlen, hcell⟩ := World.cells?_some hc
      rw [hC] at hlen hcell
      have hCj : j < C := hlen ▸ (List.getElem?_eq_some_iff.1 hu).1
      have h1 := hcell j hCj
      rw [hu] at h1
      refine kindIs_of (v := u) ?_ ok
      have hs := World.cell?_spot h1
      rw [← h1]
      congr 1
      obtain ⟨b, o, s⟩ := a
      simp only [Addr.add] at hs ⊢
      by_cases g1 : i * C = 0
      · by_cases g2 : j = 0
        · subst g2
          simp only [g1, if_true] at hs ⊢
          subst hs
          rfl
        · simp [g1, g2]
      · by_cases g2 : j = 0
        · subst g2; simp [g1]
        · simp [g1, g2, Nat.add_assoc]
end
end Go.Proofs.Ytfladcnkphcicaa
