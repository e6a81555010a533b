/- package thread, over tables of any number of rows: New, Add, Drop. -/
import Derived.Test.YtiagkoiikmmgdaaTab9T
import Derived.Test.YtiagkoiikmmgdaaTabKT
import Derived.Test.YtiagkoiikmmgdaaTabIT
import Derived.Test.YtiagkoiikmmgdaaBase
import Derived.Deep.RegionHeld3
namespace Go.Proofs.Ytiagkoiikmmgdaa
set_option linter.unusedVariables false
set_option linter.unusedSimpArgs false
open Go.ChangeShapes Go.WideShapes Go.ChangeAt Go.RowKit Go.Shelf
open TabT

structure Th where
  id : Int
  st : Int
  pr : Int
  m0 : Int
  m1 : Int
  m2 : Int
  m3 : Int
  bd : Int
  got : Bool
  ca : Int
  wa : Int
  o0 : Int
  o1 : Int
  o2 : Int
  o3 : Int
  ob : Int
  gi : Int
  nn : Int
  cs : Bool
  fl : Bool
  rh : Bool
  rw : Bool
  va : Int
  vl : Int
def Th.cells (x : Th) : List Value := [.int .i64 x.id, .int .i64 x.st, .int .i64 x.pr, .int .u64 x.m0, .int .u64 x.m1, .int .u64 x.m2, .int .u64 x.m3, .int .u64 x.bd, .bool x.got, .int .i64 x.ca, .int .i64 x.wa, .int .u64 x.o0, .int .u64 x.o1, .int .u64 x.o2, .int .u64 x.o3, .int .u64 x.ob, .int .i64 x.gi, .int .i64 x.nn, .bool x.cs, .bool x.fl, .bool x.rh, .bool x.rw, .int .u64 x.va, .int .u64 x.vl]
abbrev thV (x : Th) : Value := .agg x.cells.toArray
/-- What Add puts in. -/
def newT (id : Int) : Th := ⟨id, 0, 0, 0, 0, 0, 0, 0, false, 0, 0, 0, 0, 0, 0, 0, 4096, 4096, false, false, false, false, 0, 0⟩
def zeroT : Th := ⟨0, 0, 0, 0, 0, 0, 0, 0, false, 0, 0, 0, 0, 0, 0, 0, 0, 0, false, false, false, false, 0, 0⟩
def rowH (x : Th) : Rw := (x.id, x.cells)
def rowsH (L : List Th) : List Rw := L.map rowH
theorem rowsH_len (L : List Th) : (rowsH L).length = L.length := by simp [rowsH]
theorem rowsH_get {L : List Th} {k : Nat} : (rowsH L)[k]? = L[k]?.map rowH := by simp [rowsH]
theorem th_one (x : Th) : ∀ u ∈ x.cells, u.oneCell' = true := by
  intro u hu
  simp [Th.cells] at hu
  rcases hu with rfl | rfl | rfl | rfl | rfl | rfl | rfl | rfl | rfl | rfl | rfl | rfl | rfl | rfl | rfl | rfl | rfl | rfl | rfl | rfl | rfl | rfl | rfl | rfl <;> rfl
theorem th_one' (x : Th) : x.cells.toArray.all (·.oneCell') = true := by
  rw [Array.all_eq_true_iff_forall_mem]
  intro u hu
  exact th_one x u (by simpa using hu)
theorem wideH (x : Th) : Wide 25 [rowH x] := by
  intro r hr
  simp at hr
  subst hr
  refine ⟨rfl, fun u hu => ?_⟩
  rcases List.mem_cons.1 hu with rfl | hu
  · rfl
  · exact th_one x u hu
def insH (L : List Th) (x : Th) : List Th := L.take (posR (rowsH L) x.id) ++ x :: L.drop (posR (rowsH L) x.id)
theorem rowsH_ins (L : List Th) (x : Th) : rowsH (insH L x) = insR (rowsH L) (rowH x) := by
  unfold insH insR rowsH
  rw [List.map_append, List.map_cons, List.map_take, List.map_drop]
  rfl
def hasH (L : List Th) (id : Int) : Bool := hasR (rowsH L) id
def posH (L : List Th) (id : Int) : Nat := posR (rowsH L) id
def delH (L : List Th) (id : Int) : List Th := L.take (posH L id) ++ L.drop (posH L id + 1)
theorem rowsH_del (L : List Th) (id : Int) : rowsH (delH L id) = delR (rowsH L) id := by
  unfold delH delR rowsH
  rw [List.map_append, List.map_take, List.map_drop]
  rfl
/-- What Add answers, and what it leaves. -/
def addTR (L : List Th) (id : Int) : Int := if id < 1 then 2 else if hasH L id then 11 else 0
def addTL (L : List Th) (id : Int) : List Th := if id < 1 then L else if hasH L id then L else insH L (newT id)
def dropTR (L : List Th) (id : Int) : Int := if hasH L id then 0 else 2
def dropTL (L : List Th) (id : Int) : List Th := if hasH L id then delH L id else L
/-- The records of threads. -/
def ThrAt (w : World) (b base : Nat) (v : Value) (L : List Th) : Prop := TabAt w b 0 base v (rowsH L)
theorem ThrAt.call {w w' : World} {b base : Nat} {v : Value} {L : List Th} (h : ThrAt w b base v L) (hb : Below w.heap.size w w') : ThrAt w' b base v L := TabAt.call h hb
theorem ThrAt.lt {w : World} {b base : Nat} {v : Value} {L : List Th} (h : ThrAt w b base v L) : b < w.heap.size := TabAt.lt h
theorem Only.of_below {w w' : World} {b : Nat} {v : Value} (hb : Below w.heap.size w w') (hl : b < w.heap.size) : Only w w' b 0 v v :=
  ⟨hb.os, hb.tape, hb.output, hb.size, fun k hk _ _ => hb.block k hk, fun j _ => hb.cell (p := ⟨b, j, none⟩) hl, fun j => hb.frozen (p := ⟨b, j, none⟩) hl, .inl rfl⟩
set_option maxRecDepth 100000 in
set_option maxHeartbeats 1000000 in
theorem tnew_any (W : World) : Calls Try.prog 7 #[] W fun e w' => e = .returned (.pointer (some ⟨W.heap.size, 0, none⟩)) ∧ ThrAt w' W.heap.size (W.heap.size + 1) (.slice none 0 0) [] ∧ Below W.heap.size W w' := by
  go_enter Try.func7, Try.ntmps7
  go_wp2
  go_ret
  refine ⟨rfl, ⟨?_, ?_, World.ownsRow_nil _ _ _ _, Nat.lt_succ_self _, by simp, (fun r hr => by cases hr), List.Pairwise.nil, by simp [rowsH]⟩, bal (Below.refl _ _) _⟩
  · go_simp
  · go_simp
set_option maxRecDepth 100000 in
set_option maxHeartbeats 1000000 in
theorem tadd_any (w : World) (b base : Nat) (v : Value) (L : List Th) (id : Int) (h : ThrAt w b base v L) (hl : L.length < 1000000) :
    Calls Try.prog 9 #[.pointer (some ⟨b, 0, none⟩), .int .i64 id] w fun e w' => e = .returned (.int .i64 (addTR L id)) ∧ ∃ v', ThrAt w' b base v' (addTL L id) ∧ Only w w' b 0 v v' := by
  have hbl := h.lt
  have H := Lib.hid h
  unfold addTR addTL
  by_cases h1 : id < 1
  · rw [if_pos h1, if_pos h1]
    clear h
    go_enter Try.func9, Try.ntmps9
    go_wp2
    go_ret
    exact ⟨rfl, v, H.out, Only.of_below (Below.refl _ _) hbl⟩
  · rw [if_neg h1, if_neg h1]
    cases hh : hasH L id with
    | true =>
      have HH := Lib.hid (show hasR (rowsH L) id = true from hh)
      clear h hh
      simp only [if_true]
      go_enter Try.func9, Try.ntmps9
      go_wp2_with (go_at_call 25; refine (add_no _ b 0 base v (rowsH L) id _ _ _ _ _ _ _ _ _ _ _ _ _ _ _ _ _ _ _ _ _ _ _ _ H.out HH.out).mono ?_; rintro e w1 ⟨rfl, hb1⟩)
      go_ret
      exact ⟨rfl, v, H.out.call hb1, Only.of_below hb1 hbl⟩
    | false =>
      have HH := Lib.hid (show hasR (rowsH L) id = false from hh)
      have HL := Lib.hid (show (rowsH L).length < 1000000 by rw [rowsH_len]; exact hl)
      clear h hh
      simp only [Bool.false_eq_true, if_false]
      go_enter Try.func9, Try.ntmps9
      go_wp2_with (go_at_call 25; refine (add_yes _ b 0 base v (rowsH L) id _ _ _ _ _ _ _ _ _ _ _ _ _ _ _ _ _ _ _ _ _ _ _ _ H.out HH.out HL.out (wideH (newT id))).mono ?_; rintro e w1 ⟨rfl, v', t1, o1⟩; have T1 := Lib.hid t1; have O1 := Lib.hid o1; clear t1 o1)
      go_ret
      refine ⟨rfl, v', ?_, O1.out⟩
      unfold ThrAt
      rw [rowsH_ins]
      exact T1.out
set_option maxRecDepth 100000 in
set_option maxHeartbeats 1000000 in
theorem tdrop_any (w : World) (b base : Nat) (v : Value) (L : List Th) (id : Int) (h : ThrAt w b base v L) :
    Calls Try.prog 11 #[.pointer (some ⟨b, 0, none⟩), .int .i64 id] w fun e w' => e = .returned (.int .i64 (dropTR L id)) ∧ ∃ v', ThrAt w' b base v' (dropTL L id) ∧ Only w w' b 0 v v' := by
  have hbl := h.lt
  have H := Lib.hid h
  unfold dropTR dropTL
  cases hh : hasH L id with
  | false =>
    have HH := Lib.hid (show hasR (rowsH L) id = false from hh)
    clear h hh
    simp only [Bool.false_eq_true, if_false]
    go_enter Try.func11, Try.ntmps11
    go_wp2_with (go_at_call 27; refine (drop_no _ b 0 base v (rowsH L) id H.out HH.out).mono ?_; rintro e w1 ⟨rfl, hb1⟩)
    go_ret
    exact ⟨rfl, v, H.out.call hb1, Only.of_below hb1 hbl⟩
  | true =>
    have HH := Lib.hid (show hasR (rowsH L) id = true from hh)
    clear h hh
    simp only [if_true]
    go_enter Try.func11, Try.ntmps11
    go_wp2_with (go_at_call 27; refine (drop_yes _ b 0 base v (rowsH L) id H.out HH.out).mono ?_; rintro e w1 ⟨rfl, v', t1, o1⟩; have T1 := Lib.hid t1; have O1 := Lib.hid o1; clear t1 o1)
    go_ret
    refine ⟨rfl, v', ?_, O1.out⟩
    unfold ThrAt
    rw [rowsH_del]
    exact T1.out
end Go.Proofs.Ytiagkoiikmmgdaa
