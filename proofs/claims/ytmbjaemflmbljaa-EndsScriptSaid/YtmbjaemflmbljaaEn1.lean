/- package ends, over tables of any number of rows: what it holds; New, Add. -/
import Derived.Test.YtmbjaemflmbljaaTab9E
import Derived.Test.YtmbjaemflmbljaaTabKE
import Derived.Test.YtmbjaemflmbljaaTabJE
import Derived.Test.YtmbjaemflmbljaaBase
import Derived.Laws.MakeOwn
namespace Go.Proofs.Ytmbjaemflmbljaa
set_option linter.unusedVariables false
set_option linter.unusedSimpArgs false
open Go.ChangeShapes Go.WideShapes Go.ChangeAt Go.RowKit Go.Shelf
open TabE

/-- An endpoint: its number, who waits, for what; and the slice that holds them. -/
structure En where
  id : Int
  l : List Int
  s : Bool
  v : Value
def En.cells (x : En) : List Value := [x.v, .bool x.s]
def rowN (x : En) : Rw := (x.id, x.cells)
def rowsN (L : List En) : List Rw := L.map rowN
theorem rowsN_len (L : List En) : (rowsN L).length = L.length := by simp [rowsN]
theorem rowsN_get {L : List En} {k : Nat} : (rowsN L)[k]? = L[k]?.map rowN := by simp [rowsN]
/-- Two endpoints' slices lie apart. -/
def ApE (x y : En) : Prop := ∀ k, x.v.ownBlock = some k → y.v.ownBlock ≠ some k
theorem ApE.symm {x y : En} (h : ApE x y) : ApE y x := fun k e q => h k q e
structure EndsAt (w : World) (b base : Nat) (tv : Value) (L : List En) : Prop where
  tab : TabAt w b 0 base tv (rowsN L)
  own : ∀ x ∈ L, w.ownsRow base 3 1 x.v x.l.length (x.l.map (Value.int .i64))
  ap : L.Pairwise ApE
  nt : ∀ x ∈ L, ∀ k, x.v.ownBlock = some k → tv.ownBlock ≠ some k
theorem EndsAt.lt {w : World} {b base : Nat} {tv : Value} {L : List En} (h : EndsAt w b base tv L) : b < w.heap.size := h.tab.lt
theorem EndsAt.call {w w' : World} {b base : Nat} {tv : Value} {L : List En} (h : EndsAt w b base tv L) (hb : Below w.heap.size w w') : EndsAt w' b base tv L :=
  ⟨h.tab.call hb, fun x hx => row_of_block (h.own x hx) (fun g hg => hb.block g ((h.own x hx).lt g hg).2), h.ap, h.nt⟩
/-- What an act leaves of the world: only the own blocks are turned. -/
structure EOnly (w w' : World) (b : Nat) (tv tv' : Value) (L L' : List En) : Prop where
  os : w'.os = w.os
  tape : w'.tape = w.tape
  output : w'.output = w.output
  size : w.heap.size ≤ w'.heap.size
  block : ∀ k, k < w.heap.size → k ≠ b → tv.ownBlock ≠ some k → (∀ x ∈ L, x.v.ownBlock ≠ some k) → w'.heap[k]? = w.heap[k]?
  foot : ∀ k, k < w.heap.size → (tv'.ownBlock = some k ∨ ∃ x ∈ L', x.v.ownBlock = some k) → (tv.ownBlock = some k ∨ ∃ x ∈ L, x.v.ownBlock = some k)
theorem EOnly.of_below {w w' : World} {b : Nat} {tv : Value} {L : List En} (h : Below w.heap.size w w') : EOnly w w' b tv tv L L :=
  ⟨h.os, h.tape, h.output, h.size, fun k hk _ _ _ => h.block k hk, fun k _ e => e⟩
theorem EOnly.below {w w' : World} {b base n : Nat} {tv tv' : Value} {L L' : List En} (h : EOnly w w' b tv tv' L L') (hA : EndsAt w b base tv L) (hn : n ≤ b) : Below n w w' :=
  ⟨h.os, h.tape, h.output, h.size, fun k hk => by
    have h1 := hA.lt
    have h2 := hA.tab.ne
    exact h.block k (by omega) (by omega) (fun e => by have := (hA.tab.own e).1; omega) (fun x hx e => by have := ((hA.own x hx).lt k e).1; omega)⟩
theorem wideN (x : En) (h : x.v.oneCell' = true) : Wide 3 [rowN x] := by
  intro r hr
  simp at hr
  subst hr
  refine ⟨rfl, fun u hu => ?_⟩
  simp [rcells, rowN, En.cells] at hu
  rcases hu with rfl | rfl | rfl
  · rfl
  · exact h
  · rfl
def newN (id : Int) : En := ⟨id, [], false, .slice none 0 0⟩
def insN (L : List En) (x : En) : List En := L.take (posR (rowsN L) x.id) ++ x :: L.drop (posR (rowsN L) x.id)
theorem rowsN_ins (L : List En) (x : En) : rowsN (insN L x) = insR (rowsN L) (rowN x) := by
  unfold insN insR rowsN
  rw [List.map_append, List.map_cons, List.map_take, List.map_drop]
  rfl
theorem mem_insN {L : List En} {x y : En} (h : y ∈ insN L x) : y = x ∨ y ∈ L := by
  unfold insN at h
  rcases List.mem_append.1 h with q | q
  · exact .inr (List.mem_of_mem_take q)
  · rcases List.mem_cons.1 q with q | q
    · exact .inl q
    · exact .inr (List.mem_of_mem_drop q)
def hasN (L : List En) (id : Int) : Bool := hasR (rowsN L) id
def posN (L : List En) (id : Int) : Nat := posR (rowsN L) id
def delN (L : List En) (id : Int) : List En := L.take (posN L id) ++ L.drop (posN L id + 1)
theorem rowsN_del (L : List En) (id : Int) : rowsN (delN L id) = delR (rowsN L) id := by
  unfold delN delR rowsN
  rw [List.map_append, List.map_take, List.map_drop]
  rfl
theorem sub_delN (L : List En) (id : Int) : (delN L id).Sublist L := by
  unfold delN
  conv => rhs; rw [← List.take_append_drop (posN L id) L]
  refine List.Sublist.append (List.Sublist.refl _) ?_
  rw [← List.drop_drop]
  exact List.drop_sublist _ _
theorem pair_insN {L : List En} (h : L.Pairwise ApE) (x : En) (hx : x.v.ownBlock = none) : (insN L x).Pairwise ApE := by
  have h1 : ∀ y, ApE x y := fun y k e => by rw [hx] at e; cases e
  have hs := h
  rw [← List.take_append_drop (posR (rowsN L) x.id) L, List.pairwise_append] at hs
  unfold insN
  rw [List.pairwise_append]
  refine ⟨hs.1, List.pairwise_cons.2 ⟨fun y _ => h1 y, hs.2.1⟩, fun a ha c hc => ?_⟩
  rcases List.mem_cons.1 hc with rfl | hc
  · exact (h1 a).symm
  · exact hs.2.2 a ha c hc
/-- An act of the table alone. -/
theorem EndsAt.table {w w' : World} {b base : Nat} {tv tv' : Value} {L L' : List En} (h : EndsAt w b base tv L) (hT : TabAt w' b 0 base tv' (rowsN L')) (hO : Only w w' b 0 tv tv') (hL : ∀ x ∈ L', x ∈ L ∨ (x.v = .slice none 0 0 ∧ x.l = [])) (hp : L'.Pairwise ApE) :
    EndsAt w' b base tv' L' ∧ EOnly w w' b tv tv' L L' := by
  have hk : ∀ x ∈ L, ∀ k, x.v.ownBlock = some k → k < w.heap.size ∧ k ≠ b ∧ tv.ownBlock ≠ some k := fun x hx k e => by
    have h1 := (h.own x hx).lt k e
    have h2 := h.tab.ne
    exact ⟨h1.2, by omega, h.nt x hx k e⟩
  refine ⟨⟨hT, fun x hx => ?_, hp, fun x hx k e => ?_⟩, ⟨hO.os, hO.tape, hO.output, hO.size, fun k hk1 h1 h2 _ => hO.block k hk1 h1 h2, fun k hk1 e => ?_⟩⟩
  · rcases hL x hx with q | ⟨q1, q2⟩
    · exact row_of_block (h.own x q) (fun g hg => hO.block g (hk x q g hg).1 (hk x q g hg).2.1 (hk x q g hg).2.2)
    · rw [q1, q2]; exact World.ownsRow_nil _ _ _ _
  · rcases hL x hx with q | ⟨q1, _⟩
    · obtain ⟨k1, k2, k3⟩ := hk x q k e
      rcases hO.foot with p | ⟨g, p, hg⟩
      · rw [p]; exact k3
      · rw [p]; intro e2; cases e2; omega
    · rw [q1] at e; cases e
  · rcases e with e | ⟨x, hx, e⟩
    · rcases hO.foot with p | ⟨g, p, hg⟩
      · rw [p] at e; exact .inl e
      · rw [p] at e; cases e; omega
    · rcases hL x hx with q | ⟨q1, _⟩
      · exact .inr ⟨x, q, e⟩
      · rw [q1] at e; cases e
set_option maxRecDepth 100000 in
set_option maxHeartbeats 1000000 in
theorem enew_any (W : World) : Calls Try.prog 8 #[] W fun e w' => e = .returned (.pointer (some ⟨W.heap.size, 0, none⟩)) ∧ EndsAt w' W.heap.size (W.heap.size + 1) (.slice none 0 0) [] ∧ Below W.heap.size W w' := by
  go_enter Try.func8, Try.ntmps8
  go_wp2
  go_ret
  refine ⟨rfl, ⟨⟨?_, ?_, World.ownsRow_nil _ _ _ _, Nat.lt_succ_self _, by simp, (fun r hr => by cases hr), List.Pairwise.nil, by simp [rowsN]⟩, (fun x hx => by cases hx), List.Pairwise.nil, (fun x hx => by cases hx)⟩, bal (Below.refl _ _) _⟩
  · go_simp
  · go_simp
/-- What Add answers, and what it leaves. -/
def addNR (L : List En) (id : Int) : Int := if id < 1 then 2 else if hasN L id then 11 else 0
def addNL (L : List En) (id : Int) : List En := if id < 1 then L else if hasN L id then L else insN L (newN id)
set_option maxRecDepth 100000 in
set_option maxHeartbeats 1000000 in
theorem eadd_any (w : World) (b base : Nat) (tv : Value) (L : List En) (id : Int) (h : EndsAt w b base tv L) (hl : L.length < 1000000) :
    Calls Try.prog 10 #[.pointer (some ⟨b, 0, none⟩), .int .i64 id] w fun e w' => e = .returned (.int .i64 (addNR L id)) ∧ ∃ tv', EndsAt w' b base tv' (addNL L id) ∧ EOnly w w' b tv tv' L (addNL L id) := by
  have hbl := h.lt
  have H := Lib.hid h
  unfold addNR addNL
  by_cases h1 : id < 1
  · rw [if_pos h1, if_pos h1]
    clear h
    go_enter Try.func10, Try.ntmps10
    go_wp2
    go_ret
    exact ⟨rfl, tv, H.out, .of_below (Below.refl _ _)⟩
  · rw [if_neg h1, if_neg h1]
    cases hh : hasN L id with
    | true =>
      have HH := Lib.hid (show hasR (rowsN L) id = true from hh)
      clear h hh
      simp only [if_true]
      go_enter Try.func10, Try.ntmps10
      go_wp2_with (go_at_call 25; refine (add_no _ b 0 base tv (rowsN L) id _ _ H.out.tab HH.out).mono ?_; rintro e w1 ⟨rfl, hb1⟩)
      go_ret
      exact ⟨rfl, tv, H.out.call hb1, .of_below hb1⟩
    | false =>
      have HH := Lib.hid (show hasR (rowsN L) id = false from hh)
      have HL := Lib.hid (show (rowsN L).length < 1000000 by rw [rowsN_len]; exact hl)
      clear h hh
      simp only [Bool.false_eq_true, if_false]
      go_enter Try.func10, Try.ntmps10
      go_wp2_with (go_at_call 25; refine (add_yes _ b 0 base tv (rowsN L) id _ _ H.out.tab HH.out HL.out (wideN (newN id) rfl)).mono ?_; rintro e w1 ⟨rfl, v', t1, o1⟩; have T1 := Lib.hid t1; have O1 := Lib.hid o1; clear t1 o1)
      go_ret
      have t1 : TabAt w1 b 0 base v' (rowsN (insN L (newN id))) := by rw [rowsN_ins]; exact T1.out
      obtain ⟨q1, q2⟩ := H.out.table t1 O1.out (fun x hx => (mem_insN hx).elim (fun e => .inr (by rw [e]; exact ⟨rfl, rfl⟩)) .inl) (pair_insN H.out.ap _ rfl)
      exact ⟨rfl, v', q1, q2⟩
end Go.Proofs.Ytmbjaemflmbljaa
