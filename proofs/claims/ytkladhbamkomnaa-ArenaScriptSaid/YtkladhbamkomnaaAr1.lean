/- package arena: what it holds; Next. -/
import Derived.Test.YtkladhbamkomnaaArC
import Derived.Test.YtkladhbamkomnaaTab9A
import Derived.Test.YtkladhbamkomnaaTabJA
import Derived.Laws.MakeOwn
namespace Go.Proofs.Ytkladhbamkomnaa
set_option linter.unusedVariables false
set_option linter.unusedSimpArgs false
open Go.ChangeShapes Go.WideShapes Go.ChangeAt Go.RowKit
open TabA

def rowO (x : Ob) : Rw := (x.id, x.cells)
def rowsO (L : List Ob) : List Rw := L.map rowO
/-- The objects are what Add makes: each number is told by its place and by how many began there. -/
def GoodO (F : Nat) (cnt : List Int) (L : List Ob) : Prop :=
  ∀ x ∈ L, 0 ≤ x.fi ∧ 1 ≤ x.fr ∧ x.fi + x.fr ≤ F ∧ x.fr = framesN x.kd x.sz ∧ ∃ c m : Int, 0 ≤ c ∧ c < m ∧ cnt[x.fi.toNat]? = some m ∧ x.id = x.fi + 1 + 64 * c
structure ArAt (w : World) (b ab base F : Nat) (cnt : List Int) (v : Value) (L : List Ob) : Prop where
  c0 : w.cell? ⟨b, 0, none⟩ = some (.slice (some ⟨ab, 0, none⟩) F F)
  ad : w.heap[ab]? = some (.cells (cnt.map (Value.int .i64)).toArray 3 (0, 0))
  fl : cnt.length = F
  f1 : 1 ≤ F ∧ F ≤ 64
  tab : TabAt w b 1 base v (rowsO L)
  abl : ab < base
  ne : ab ≠ b
  cn : ∀ c ∈ cnt, 0 ≤ c ∧ c ≤ 1024
  good : GoodO F cnt L
theorem ArAt.bl {w : World} {b ab base F : Nat} {cnt : List Int} {v : Value} {L : List Ob} (h : ArAt w b ab base F cnt v L) : b < w.heap.size := h.tab.lt
theorem ArAt.al {w : World} {b ab base F : Nat} {cnt : List Int} {v : Value} {L : List Ob} (h : ArAt w b ab base F cnt v L) : ab < w.heap.size := Nat.lt_of_lt_of_le h.abl h.tab.base
theorem ArAt.call {w w' : World} {b ab base F : Nat} {cnt : List Int} {v : Value} {L : List Ob} (h : ArAt w b ab base F cnt v L) (hb : Below w.heap.size w w') : ArAt w' b ab base F cnt v L :=
  ⟨(hb.cell (p := ⟨b, 0, none⟩) h.bl).trans h.c0, (hb.block ab h.al).trans h.ad, h.fl, h.f1, h.tab.call hb, h.abl, h.ne, h.cn, h.good⟩
theorem rows_len (L : List Ob) : (rowsO L).length = L.length := by simp [rowsO]
theorem rows_get {L : List Ob} {k : Nat} : (rowsO L)[k]? = L[k]?.map rowO := by simp [rowsO]
theorem wideO (x : Ob) : Wide 10 [rowO x] := by
  intro r hr
  simp at hr
  subst hr
  refine ⟨rfl, ?_⟩
  intro u hu
  simp [rowO, rcells, Ob.cells] at hu
  rcases hu with rfl | rfl | rfl | rfl | rfl | rfl | rfl | rfl | rfl | rfl <;> rfl
theorem count_get {w : World} {b ab base F : Nat} {cnt : List Int} {v : Value} {L : List Ob} (h : ArAt w b ab base F cnt v L) {k : Nat} {c : Int} (hk : cnt[k]? = some c) : w.cell? ⟨ab, k, none⟩ = some (.int .i64 c) := by
  have := h.ad
  rw [cell_cur (cur := cnt.map (Value.int .i64)) this, List.getElem?_map, hk]
  rfl
/-- What Next answers. -/
def nextA (cnt : List Int) (first : Int) : Int :=
  if first < 0 then 0 else match cnt[first.toNat]? with
    | none => 0
    | some c => if 65535 < first + 1 + 64 * c then 0 else first + 1 + 64 * c
set_option maxRecDepth 100000 in
set_option maxHeartbeats 2000000 in
theorem next_any (w : World) (b ab base F : Nat) (cnt : List Int) (v : Value) (L : List Ob) (first : Int) (h : ArAt w b ab base F cnt v L) :
    Calls Try.prog 13 #[.pointer (some ⟨b, 0, none⟩), .int .i64 first] w fun e w' => e = .returned (.int .i64 (nextA cnt first)) ∧ w' = w := by
  have hc0 := h.c0
  have hF := h.f1
  unfold nextA
  by_cases hn : first < 0
  · rw [if_pos hn]
    clear h
    go_enter Try.func13, Try.ntmps13
    go_wp2
    go_ret
    exact ⟨rfl, rfl⟩
  · rw [if_neg hn]
    cases hk : cnt[first.toNat]? with
    | none =>
      have hge : ¬ first < F := by
        intro q
        have := List.getElem?_eq_none_iff.1 hk
        rw [h.fl] at this
        omega
      have hge2 : (F : Int) ≤ first := by omega
      clear h hk
      go_enter Try.func13, Try.ntmps13
      go_wp2
      go_ret
      exact ⟨rfl, rfl⟩
    | some c =>
      have hlt : first < F := by
        have := (List.getElem?_eq_some_iff.1 hk).1
        rw [h.fl] at this
        omega
      obtain ⟨k, rfl⟩ : ∃ k : Nat, first = (k : Int) := ⟨first.toNat, by omega⟩
      have hcell := count_get h (k := k) (c := c) (by simpa using hk)
      have hcb := h.cn c (List.mem_of_getElem? hk)
      have hnge : ¬ (F : Int) ≤ k := by omega
      simp only []
      clear h hk
      by_cases hbig : 65535 < (k : Int) + 1 + 64 * c
      · rw [if_pos hbig]
        go_enter Try.func13, Try.ntmps13
        go_wp2
        go_ret
        exact ⟨rfl, rfl⟩
      · rw [if_neg hbig]
        go_enter Try.func13, Try.ntmps13
        go_wp2
        go_ret
        exact ⟨rfl, rfl⟩
end Go.Proofs.Ytkladhbamkomnaa
