/- chapter 35: append to a row that a conversion of a string has made. -/
import Derived.Test.YthgmanncmekeeaaDoorScE
import Derived.Lib.AppendStr
import Derived.Lib.FrozenHead
import Derived.Lib.ConvBytes
import Derived.Lib.OthersKept
namespace Go.Proofs.YthgmanncmekeeaaDoor
set_option linter.unusedVariables false
set_option linter.unusedSimpArgs false
open Go.ChangeShapes Go.WideShapes Go.ChangeAt Go.RowKit
namespace Sc
/-- No cell of the first n is frozen. -/
def FreeZ (fz : Nat × Nat) (n : Nat) : Prop := ∀ j, j < n → ¬ (fz.1 ≤ j ∧ j < fz.2)
theorem freeZ_zero (n : Nat) : FreeZ (0, 0) n := fun j _ h => by simp at h
theorem freeZ_past (k : Nat) : FreeZ (k, k + 1) k := fun j h q => by simp at q; omega
/-- Bytes in a row of one's own, made at or above B; a mark may lie behind its end. -/
def RowM (w : World) (B : Nat) (v : Value) (n : Nat) (xs : List Value) : Prop :=
  xs.length = n ∧ ∃ g cap cur fz, v = .slice (some ⟨g, 0, none⟩) n cap ∧ B ≤ g ∧ w.heap[g]? = some (.cells cur 5 fz) ∧ FreeZ fz cur.size ∧ n ≤ cap ∧ cap ≤ maxLen ∧ cur.size = cap ∧ cur.toList.take n = xs
theorem RowM.lt {w : World} {B n : Nat} {v : Value} {xs : List Value} (h : RowM w B v n xs) {g : Nat} (hg : v.ownBlock = some g) : B ≤ g ∧ g < w.heap.size := by
  obtain ⟨_, g', cap, cur, fz, rfl, h1, h2, _⟩ := h
  simp only [Value.ownBlock, Option.some.injEq] at hg
  subst hg
  exact ⟨h1, (Array.getElem?_eq_some_iff.1 h2).1⟩
theorem RowM.ty {w : World} {B n : Nat} {v : Value} {xs : List Value} (h : RowM w B v n xs) {g : Nat} (hg : v.ownBlock = some g) : ∃ c fz, w.heap[g]? = some (.cells c 5 fz) := by
  obtain ⟨_, g', cap, cur, fz, rfl, h1, h2, _⟩ := h
  simp only [Value.ownBlock, Option.some.injEq] at hg
  subst hg
  exact ⟨_, _, h2⟩
theorem RowM.kept {w w' : World} {B n : Nat} {v : Value} {xs : List Value} (h : RowM w B v n xs) (k : ∀ g, v.ownBlock = some g → w'.heap[g]? = w.heap[g]?) : RowM w' B v n xs := by
  obtain ⟨h0, g, cap, cur, fz, rfl, h1, h2, h3⟩ := h
  exact ⟨h0, g, cap, cur, fz, rfl, h1, (k g rfl).trans h2, h3⟩
theorem RowM.cells {w : World} {B n : Nat} {v : Value} {xs : List Value} (h : RowM w B v n xs) {g : Nat} (hg : v.ownBlock = some g) : ∀ j u, xs[j]? = some u → w.cell? ((⟨g, 0, none⟩ : Addr).add j) = some u := by
  obtain ⟨h0, g', cap, cur, fz, rfl, h1, h2, h3, h4, h5, h6, h7⟩ := h
  simp only [Value.ownBlock, Option.some.injEq] at hg
  subst hg
  intro j u hu
  rw [addr_add, row_cell h2]
  rw [← h7, List.getElem?_take] at hu
  split at hu
  · simpa using hu
  · cases hu
theorem run_storeM (P : Program) (g o : Nat) (t : TypeId) (fz : Nat × Nat) : ∀ (vs : List Value) (i : Nat) (cur : Array Value) (w : World), w.heap[g]? = some (.cells cur t fz) → FreeZ fz cur.size → o + i + vs.length ≤ cur.size → (∀ v ∈ vs, v.oneCell' = true) →
    (storeCells ⟨g, o, none⟩ vs i).run P w = .ok () (w.setRow g (cur.toList.take (o + i) ++ vs ++ cur.toList.drop (o + i + vs.length)).toArray)
  | [], i, cur, w, hg, _, _, _ => by
    simp only [storeCells, List.append_nil, List.length_nil, Nat.add_zero, List.take_append_drop, Array.toArray_toList]
    rw [setRow_self w g cur t fz hg]
    rfl
  | v :: rest, i, cur, w, hg, hfz, hl, h1 => by
    have hi : o + i < cur.size := by simp at hl; omega
    have hadd : (⟨g, o, none⟩ : Addr).add i = ⟨g, o + i, none⟩ := by unfold Addr.add; split <;> simp_all
    have hcell : w.cell? ⟨g, o + i, none⟩ = some cur[o + i] := by simp [World.cell?, hg, hi]
    have hfro : w.frozen? ⟨g, o + i, none⟩ = false := by
      have := hfz (o + i) hi
      obtain ⟨lo, hh⟩ := fz
      simp only [World.frozen?, hg]
      simpa using this
    have hst : (store ((⟨g, o, none⟩ : Addr).add i) v).run P w = .ok () (w.setRow g (cur.setIfInBounds (o + i) v)) := by
      rw [hadd, run_store P w _ v _ (h1 v (by simp)), hcell]
      simp [hfro, setCell_eq_setRow w g (o + i) cur t fz v hg]
    have ih := run_storeM P g o t fz rest (i + 1) (cur.setIfInBounds (o + i) v) (w.setRow g (cur.setIfInBounds (o + i) v)) (setRow_heap w g cur _ t _ hg) (by simpa using hfz) (by simp at hl ⊢; omega) (fun x hx => h1 x (by simp [hx]))
    simp only [storeCells, Sem.run_bind, hst, Result.andThen_ok, ih, setRow_setRow]
    congr 3
    have e := list_seg_step cur.toList (o + i) v rest (by simp at hl ⊢; omega)
    simpa [Array.toList_setIfInBounds, Nat.add_assoc] using e
theorem infoByte : (Tryd.prog.info? 5).map (fun i => (i.zero, i.size, i.bytes)) = some (some (.int .u8 0), 1, 1) := by kernel_rfl
/-- What an append leaves, in a row with room or in a new one. -/
theorem rowM_room {w : World} {B g n cap : Nat} {cur : Array Value} {fz : Nat × Nat} {xs news : List Value} (hB : B ≤ g) (hg : w.heap[g]? = some (.cells cur 5 fz)) (hfz : FreeZ fz cur.size) (hcm : cap ≤ maxLen) (hcs : cur.size = cap) (ht : cur.toList.take n = xs) (hx : xs.length = n) (hroom : n + news.length ≤ cap) :
    RowM (w.setRow g (cur.toList.take n ++ news ++ cur.toList.drop (n + news.length)).toArray) B (.slice (some ⟨g, 0, none⟩) (n + news.length) cap) (n + news.length) (xs ++ news) ∧ w.grownBy (w.setRow g (cur.toList.take n ++ news ++ cur.toList.drop (n + news.length)).toArray) (some g) := by
  have hsz : (cur.toList.take n ++ news ++ cur.toList.drop (n + news.length)).toArray.size = cur.size := by
    simp only [List.size_toArray, List.length_append, List.length_take, List.length_drop, Array.length_toList]
    omega
  refine ⟨⟨by simp [hx], g, cap, _, fz, rfl, hB, setRow_heap w g cur _ _ _ hg, by rw [hsz]; exact hfz, hroom, hcm, by rw [hsz]; exact hcs, ?_⟩, ⟨rfl, rfl, rfl, by simp, fun k _ hk => setRow_other w g k _ (fun e => hk (by rw [e]))⟩⟩
  rw [ht]
  have : (xs ++ news).length = n + news.length := by simp [hx]
  rw [← this]
  exact List.take_left
theorem rowM_new {w : World} {B n old : Nat} {xs news : List Value} (hB : B ≤ w.heap.size) (hx : xs.length = n) (h63 : n + news.length ≤ maxLen) (row : Option Nat) :
    RowM (w.drew.alloc (.cells (xs.toArray ++ news.toArray ++ Builtin.zeroCells (Value.int .u8 0).cells (grownCap w (n + news.length) old 5 - (n + news.length))) 5)) B (.slice (some ⟨w.heap.size, 0, none⟩) (n + news.length) (grownCap w (n + news.length) old 5)) (n + news.length) (xs ++ news) ∧ w.grownBy (w.drew.alloc (.cells (xs.toArray ++ news.toArray ++ Builtin.zeroCells (Value.int .u8 0).cells (grownCap w (n + news.length) old 5 - (n + news.length))) 5)) row := by
  have hge := grownCap_ge w (n + news.length) old 5
  have hcm := grownCap_le_maxLen w (n + news.length) old 5 h63
  have hz1 : (Value.int IntKind.u8 0).cells.size = 1 := rfl
  refine ⟨⟨by simp [hx], w.heap.size, _, _, (0, 0), rfl, hB, heap_alloc_new w.drew _, freeZ_zero _, hge, hcm, ?_, ?_⟩, ⟨rfl, rfl, rfl, by simp, fun k hk _ => Below.heap_alloc w.drew _ k hk⟩⟩
  · simp only [Array.size_append, List.size_toArray, size_zeroCells, hz1, hx]
    omega
  · simp only [Array.toList_append, List.append_assoc]
    have : (xs ++ news).length = n + news.length := by simp [hx]
    rw [← List.append_assoc, ← this]
    exact List.take_left
theorem appM {w : World} {B n : Nat} {v : Value} {xs : List Value} (h : RowM w B v n xs) (a : Addr) (m c : Nat) (news : List Value) (hl : news.length = m) (hnews : ∀ j u, news[j]? = some u → w.cell? (a.add j) = some u) (h1 : ∀ u ∈ news, u.oneCell' = true) (hn : n + m ≤ 140737488355328) (hB : B ≤ w.heap.size) :
    ∃ v' w', (Builtin.append_ #[48, 48] 48 #[v, .slice (some a) m c]).run Tryd.prog w = .ok v' w' ∧ RowM w' B v' (n + m) (xs ++ news) ∧ w.grownBy w' v.ownBlock := by
  obtain ⟨i0, hi0, hz0, hz1, hz2⟩ := info_parts infoByte
  subst hl
  obtain ⟨h0, g, cap, cur, fz, rfl, hg1, hg, hfz, hnc, hcm, hcs, ht⟩ := h
  by_cases hroom : n + news.length ≤ cap
  · have hf := run_firstCells_some (P := Tryd.prog) w 1 news.length a news.length c news (by omega) hnews
    have hst := run_storeM Tryd.prog g n 5 fz news 0 cur w hg hfz (by omega) h1
    simp only [Nat.add_zero] at hst
    obtain ⟨q1, q2⟩ := rowM_room (news := news) hg1 hg hfz hcm hcs ht h0 hroom
    refine ⟨_, _, ?_, q1, q2⟩
    simp [Builtin.append_, run_underlying Tryd.underlying48, sizeOf, typeInfo, hi0, hz1, Builtin.lenOf, hroom, hf, Addr.add_lit, hst]
  · have holds : ∀ j u, xs[j]? = some u → w.cell? ((⟨g, 0, none⟩ : Addr).add j) = some u := RowM.cells ⟨h0, g, cap, cur, fz, rfl, hg1, hg, hfz, hnc, hcm, hcs, ht⟩ (g := g) rfl
    have hr := run_append_grow (P := Tryd.prog) w 48 48 5 i0 (.int .u8 0) Tryd.underlying48 hi0 hz0 ⟨g, 0, none⟩ n cap xs (by rw [hz1, h0, Nat.mul_one]) holds a news.length c news (by rw [hz1, Nat.mul_one]) hnews (by omega) (by omega) (by rw [hz2]; exact growslice_fits (by omega) (by omega))
    obtain ⟨q1, q2⟩ := rowM_new (w := w) (B := B) (old := cap) (xs := xs) (news := news) hB h0 (by unfold maxLen; omega) (some g)
    exact ⟨_, _, hr, q1, q2⟩
theorem appS {w : World} {B n : Nat} {v : Value} {xs : List Value} (h : RowM w B v n xs) (s : ByteArray) (hn : n + s.size ≤ 140737488355328) (hB : B ≤ w.heap.size) :
    ∃ v' w', (Builtin.append_ #[48, 9] 48 #[v, .string s]).run Tryd.prog w = .ok v' w' ∧ RowM w' B v' (n + s.size) (xs ++ Lib.strCells s) ∧ w.grownBy w' v.ownBlock := by
  obtain ⟨i0, hi0, hz0, hz1, hz2⟩ := info_parts infoByte
  obtain ⟨h0, g, cap, cur, fz, rfl, hg1, hg, hfz, hnc, hcm, hcs, ht⟩ := h
  have hsl := Lib.strCells_length s
  by_cases hroom : n + s.size ≤ cap
  · have hf := Lib.run_firstCells_string (P := Tryd.prog) w 1 s
    have hst := run_storeM Tryd.prog g n 5 fz (Lib.strCells s) 0 cur w hg hfz (by omega) (Lib.strCells_oneCell s)
    simp only [Nat.add_zero] at hst
    obtain ⟨q1, q2⟩ := rowM_room (news := Lib.strCells s) hg1 hg hfz hcm hcs ht h0 (by omega)
    rw [hsl] at q1 q2 hst
    refine ⟨_, _, ?_, q1, q2⟩
    simp [Builtin.append_, run_underlying Tryd.underlying48, run_underlying Tryd.underlying9, sizeOf, typeInfo, hi0, hz1, Builtin.lenOf, hroom, hf, Addr.add_lit, hst]
  · have holds : ∀ j u, xs[j]? = some u → w.cell? ((⟨g, 0, none⟩ : Addr).add j) = some u := RowM.cells ⟨h0, g, cap, cur, fz, rfl, hg1, hg, hfz, hnc, hcm, hcs, ht⟩ (g := g) rfl
    have hr := Lib.run_append_grow_string (P := Tryd.prog) w 48 9 48 5 i0 (.int .u8 0) Tryd.underlying48 Tryd.underlying9 hi0 hz0 ⟨g, 0, none⟩ n cap xs (by rw [hz1, h0, Nat.mul_one]) holds s (by omega) (by omega) (by rw [hz2]; exact growslice_fits (by omega) (by omega))
    obtain ⟨q1, q2⟩ := rowM_new (w := w) (B := B) (old := cap) (xs := xs) (news := Lib.strCells s) hB h0 (by unfold maxLen; omega) (some g)
    rw [hsl] at q1 q2
    exact ⟨_, _, hr, q1, q2⟩
/-- The conversion itself. -/
theorem rowM_conv (w : World) (l : Bs) (hl : l.length ≤ 1000000) : (convert 9 48 (.string (bs l))).run Tryd.prog w = .ok (.slice (some ⟨w.heap.size, 0, none⟩) l.length (grownCap w l.length 0 5)) (Lib.bytesWorld w 5 (bs l)) ∧ RowM (Lib.bytesWorld w 5 (bs l)) w.heap.size (.slice (some ⟨w.heap.size, 0, none⟩) l.length (grownCap w l.length 0 5)) l.length (Lib.byteCells l) := by
  have hs := bs_size l
  have h1 := Lib.run_convert_string_bytes (P := Tryd.prog) w 9 48 5 (bs l) Tryd.underlying9 Tryd.underlying48 Tryd.underlying5
  rw [hs] at h1
  refine ⟨h1, by simp [Lib.byteCells], w.heap.size, _, _, _, rfl, Nat.le_refl _, Lib.bytesWorld_at_new w _ _, freeZ_past _, grownCap_ge _ _ _ _, grownCap_le_maxLen _ _ _ _ (by unfold maxLen; omega), ?_, ?_⟩
  · have := grownCap_ge w l.length 0 5
    unfold Lib.bytesCells
    simp only [Array.size_append, Array.size_map, Array.size_replicate, hs]
    have : (bs l).data.size = l.length := hs
    omega
  · unfold Lib.bytesCells
    simp only [Array.toList_append, Array.toList_map]
    have e : (List.map (fun b : UInt8 => Value.int .u8 (b.toNat : Int)) (bs l).data.toList) = Lib.byteCells l := rfl
    rw [e, List.take_append_of_le_length (by simp [Lib.byteCells]), List.take_of_length_le (by simp [Lib.byteCells])]
end Sc
end Go.Proofs.YthgmanncmekeeaaDoor
