/- package tree: Child. -/
import Derived.Test.YtebgmphbkjpfcaaTr9
namespace Go.Proofs.Ytebgmphbkjpfcaa
set_option linter.unusedVariables false
set_option linter.unusedSimpArgs false
open Go.ChangeShapes Go.WideShapes Go.ChangeAt Go.RowKit

abbrev slO (o i : Int) : Obj := .cells #[.int .i64 o, .int .i64 i] 31
def childA (l : List Nod) (o i p j : Int) : List Nod × Int :=
  match idx l o i with
  | none => (l, 10)
  | some k => if (idx l p j).isSome then (l, 11) else (l.insertIdx (k + 1) ⟨p, j, (l[k]?.map Nod.d).getD 0 + 1⟩, 0)
theorem TreeAt.look {w W : World} {B b m n : Nat} {ps : List Nat} {l : List Nod} {f : Int → Int → Option Nat} (h : TreeAt w B b m n ps l f) (e : W.heap[m]? = w.heap[m]?) {o i : Int} (ho : InS o) (hi : InS i) :
    (Instr.lookup 59 (.map (some m)) (slV o i) false).run Try.prog W = .ok (ptrV (f o i)) W := (h.map.of_block e).look ho hi
theorem TreeAt.look_ok {w W : World} {B b m n : Nat} {ps : List Nat} {l : List Nod} {f : Int → Int → Option Nat} (h : TreeAt w B b m n ps l f) (e : W.heap[m]? = w.heap[m]?) {o i : Int} (ho : InS o) (hi : InS i) :
    (Instr.lookup 59 (.map (some m)) (slV o i) true).run Try.prog W = .ok (.tuple #[ptrV (f o i), .bool (f o i).isSome]) W := (h.map.of_block e).look_ok ho hi
set_option maxRecDepth 100000 in
theorem child_any (w : World) (B b m n : Nat) (ps : List Nat) (l : List Nod) (f : Int → Int → Option Nat) (o i p j : Int) (ho : InS o) (hi : InS i) (hp : InS p) (hj : InS j) (h : TreeAt w B b m n ps l f) (hn : n < 1000000) (hB : B ≤ w.heap.size) :
    Calls Try.prog 31 #[.pointer (some ⟨b, 0, none⟩), slV o i, slV p j] w fun e w' => e = .returned (.int .i64 (childA l o i p j).2) ∧ Left w w' B b m (n + 1) ps (childA l o i p j).1 := by
  have his := h.isSome hp hj
  have hfo := h.find ho hi
  have H := Lib.hid h
  have hal : Below w.heap.size w ((w.alloc (slO o i)).alloc (slO p j)) := bal (bal (Below.refl _ _) _) _
  have HA := Lib.hid hal
  have hl := h.look_ok (W := ((w.alloc (slO o i)).alloc (slO p j)).drew) (hal.drew.block m (h.lt (.inr (.inl rfl)))) ho hi
  obtain ⟨c0, c1, c2, cz⟩ := head_cells h.head
  have hbl : b < w.heap.size := h.lt (.inl rfl)
  unfold childA
  cases hk : idx l o i with
  | none =>
    rw [hk] at hfo
    change f o i = none at hfo
    rw [hfo] at hl
    simp only [ptrV, Option.isSome] at hl
    clear h hal his hfo hk
    go_enter Try.func31, Try.ntmps31
    go_upto_region 3 with fail
    go_region
    all_goals
      go_wp2
      go_ret
      exact ⟨rfl, Left.same H.out HA.out.drew (Nat.le_succ _)⟩
  | some k =>
    rw [hk] at hfo
    change f o i = ps[k]? at hfo
    obtain ⟨x, hx, hx1, hx2⟩ := idx_some hk
    obtain ⟨pp, hpp⟩ := get_len h.len.symm hx
    have hr := h.row k pp x hpp hx
    have hxi := h.ins k x hx
    rw [hpp] at hfo
    rw [hfo] at hl
    simp only [ptrV, Option.isSome] at hl
    have hxd : (l[k]?.map Nod.d).getD 0 = x.d := by rw [hx]; rfl
    simp only []
    rw [hxd]
    have hd0 := hxi.2.2.1
    have hd1 := hxi.2.2.2
    generalize hd : x.d = d at hd0 hd1 ⊢
    have hdn : d ≤ 1000000 := by omega
    have hdm : -9223372036854775808 ≤ d := by omega
    obtain ⟨r0, r1, r2, r3, r4, rz⟩ := place_cells hr
    rw [hd] at r2
    have hpl : pp < w.heap.size := h.lt (foot_at hpp)
    have HK := Lib.hid (show k < ps.length from (List.getElem?_eq_some_iff.1 hpp).1)
    have HPP := Lib.hid hpp
    cases hf : f p j
    · rw [hf] at his
      have e : (idx l p j).isSome = false := his.symm
      simp only [e, Bool.false_eq_true, if_false]
      have HF := Lib.hid hf
      clear h hal his e r0 r1 r3 r4 hxi hx hx1 hx2 hk hfo hxd hpp hr
      have HR2 := Lib.hid r2
      clear r2
      go_enter Try.func31, Try.ntmps31
      go_upto_region 3 with fail
      go_region
      all_goals
        go_upto_region 8 with (go_at_call 17; refine (has_any _ B b m n ps l f p j hp hj (H.out.call HA.out.drew)).mono ?_; rw [HF.out]; rintro e w1 ⟨rfl, hb1⟩)
        have hB1 : Below w.heap.size w w1 := HA.out.drew.trans (hb1.mono HA.out.size)
        have hT := H.out.call hB1
        have hsl : w1.cell? ⟨w.heap.size + 1, 0, none⟩ = some (.int .i64 p) ∧ w1.cell? ⟨w.heap.size + 1, 1, none⟩ = some (.int .i64 j) := by
          obtain ⟨hc, _⟩ := bcell hb1
          constructor
          · rw [hc _ _ (by simp)]; simp
          · rw [hc _ _ (by simp)]; simp
        obtain ⟨s0, s1⟩ := hsl
        have r2 : w1.cell? ⟨pp, 2, none⟩ = some (.int .i64 d) := (hB1.cell (p := ⟨pp, 2, none⟩) hpl).trans HR2.out
        have hsz : w.heap.size + 1 < w1.heap.size := by have := hb1.size; simp at this; omega
        have hpl1 : pp < w1.heap.size := by omega
        have hins : Calls Try.prog 43 #[.pointer (some ⟨b, 0, none⟩), .pointer (some ⟨w1.heap.size, 0, none⟩), .pointer (some ⟨pp, 0, none⟩)] (w1.alloc (placeO ⟨p, j, d + 1⟩ none none)).drew fun e w' => (∃ v, e = .returned v) ∧ Left w w' B b m (n + 1) ps (l.insertIdx (k + 1) ⟨p, j, d + 1⟩) := by
          have hb2 : Below w1.heap.size w1 (w1.alloc (placeO ⟨p, j, d + 1⟩ none none)).drew := (bal (Below.refl _ _) _).drew
          have hT2 := hT.call hb2
          have hpr : ptrV (prv ps (k + 1)) = .pointer (some ⟨pp, 0, none⟩) := by show ptrV ps[k]? = _; rw [HPP.out]; rfl
          rw [← hpr]
          refine (insert_any _ B b m n ps l f w1.heap.size (k + 1) ⟨p, j, d + 1⟩ hT2 HK.out (World.alloc_heap_new w1 _) (hT.fresh (Nat.le_refl _)) (by omega) ⟨hp, hj, by show 0 ≤ d + 1; omega, by show d + 1 ≤ _; omega⟩ HF.out (by unfold maxLen; omega)).mono ?_
          rintro e w' ⟨hv, hpo⟩
          exact ⟨hv, hpo.left (hB1.trans (hb2.mono hB1.size)) (by omega) HK.out⟩
        have HI := Lib.hid hins
        clear hins hT hB1 c0 c1 c2 hl
        go_region_with (go_at_call 43; rw [IntWalk.i64_in (d + 1) (by omega)]; refine HI.out.mono ?_; rintro e w' ⟨⟨v, rfl⟩, hL⟩)
        all_goals
          go_wp2
          go_ret
          exact ⟨rfl, hL⟩
    · rw [hf] at his
      have e : (idx l p j).isSome = true := his.symm
      simp only [e, if_true]
      have HF := Lib.hid hf
      clear h hal his e hr hpp hxi hx hk hxd r0 r1 r2 r3 r4
      go_enter Try.func31, Try.ntmps31
      go_upto_region 3 with fail
      go_region
      all_goals
        go_wp2_with (go_at_call 17; refine (has_any _ B b m n ps l f p j hp hj (H.out.call HA.out.drew)).mono ?_; rw [HF.out]; rintro e w1 ⟨rfl, hb1⟩)
        go_ret
        exact ⟨rfl, Left.same H.out (HA.out.drew.trans (hb1.mono HA.out.size)) (Nat.le_succ _)⟩
end Go.Proofs.Ytebgmphbkjpfcaa
