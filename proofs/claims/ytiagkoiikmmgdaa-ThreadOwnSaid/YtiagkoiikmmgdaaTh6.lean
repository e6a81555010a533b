/- package thread, over tables of any number of rows: All. -/
import Derived.Test.YtiagkoiikmmgdaaTh5
import Derived.Test.YtiagkoiikmmgdaaPa
import Derived.Laws.MakeOwn
import Derived.OwnWalkIn
import Derived.Maps.OwnIn
namespace Go.Proofs.Ytiagkoiikmmgdaa
set_option linter.unusedVariables false
set_option linter.unusedSimpArgs false
open Go.ChangeShapes Go.WideShapes Go.ChangeAt Go.RowKit Go.Shelf
open TabT
attribute [local go_sem] Oper.semAt_some

theorem alloc_setRow (w : World) (zs cs : Array Value) (t : TypeId) : (w.alloc (.cells zs t)).setRow w.heap.size cs = w.alloc (.cells cs t) := by
  have h : ∀ (a : Array Obj), (a.push (.cells zs t (0, 0))).modify a.size (fun | .cells _ t fr => .cells cs t fr | o => o) = a.push (.cells cs t (0, 0)) := by
    intro a
    apply Array.ext_getElem?
    intro i
    rw [Array.getElem?_modify, Array.getElem?_push, Array.getElem?_push]
    by_cases e : i = a.size
    · subst e; simp
    · rw [if_neg (fun q => e q.symm), if_neg e, if_neg e]
  unfold World.setRow World.alloc
  congr 1
  exact h w.heap
theorem wpListIn_store_row {F : Fence} {n : Nat} {P : Program} {ops : Array Oper} {rest : List Oper} {o : Oper} {a : Act} {w : World} {Q : Exit → Act → World → Prop} (hgd : o.guard = none) (ty : TypeId) (x y : Operand) (ho : o.op = .store ty x y)
    (g : Nat) (cells : Array Value) (hx : a.eval x = .pointer (some ⟨g, 0, none⟩)) (hy : a.eval y = .agg cells)
    (t : TypeId) (old : Array Value) (hg : w.heap[g]? = some (.cells old t (0, 0))) (hi : (P.info? ty).map (·.size) = some cells.size)
    (hold : old.size = cells.size) (h1 : cells.all (·.oneCell') = true)
    (h : wpListIn F n P ops Q rest (a.put o.dst undef) (w.setRow g cells)) : wpListIn F n P ops Q (o :: rest) a w := by
  refine wpListIn_plain hgd fun K hK => ?_
  have hr := run_storeVar_row (P := P) w g t ty old cells hg hi hold h1
  unfold Oper.wpIn
  refine ⟨by simp [Oper.about, ho], ?_⟩
  rw [Oper.semAt_plain F _ _ (by rw [ho]; intro c hc'; cases hc')]
  simp [execOp, ho, hx, hy, Instr.storeAt, Instr.sureAddr, hr, Result.andThen]
  exact hK _ _ h
def thsC (L : List Th) : List Value := L.flatMap Th.cells
theorem add_cellsT {w : World} {g : Nat} {cs : List Value} (h : ∀ j v, cs[j]? = some v → w.cell? ⟨g, j, none⟩ = some v) : ∀ j v, cs[j]? = some v → w.cell? ((⟨g, 0, none⟩ : Addr).add j) = some v := by
  intro j v hj
  rw [Addr.add_mid, Nat.zero_add]
  exact h j v hj
theorem infoTh : (Try.prog.info? 35).map (fun i => (i.zero, i.size, i.bytes)) = some (some (.agg #[.int .i64 0, .int .i64 0, .int .i64 0, .int .u64 0, .int .u64 0, .int .u64 0, .int .u64 0, .int .u64 0, .bool false, .int .i64 0, .int .i64 0, .int .u64 0, .int .u64 0, .int .u64 0, .int .u64 0, .int .u64 0, .int .i64 0, .int .i64 0, .bool false, .bool false, .bool false, .bool false, .int .u64 0, .int .u64 0]), 24, 176) := by kernel_rfl
/-- What All has gathered. -/
structure AllI (w : World) (b : Nat) (L : List Th) (k : Nat) (U : World) : Prop where
  list : ∃ v, U.heap[w.heap.size]? = some (.cells #[v] 27 (0, 0)) ∧ U.ownsRow (w.heap.size + 2) 35 24 v k (thsC (L.take k))
  box : U.heap[w.heap.size + 1]? = some (.cells #[.pointer (some ⟨b, 0, none⟩)] 24 (0, 0))
  lt : w.heap.size + 2 ≤ U.heap.size
  below : Below w.heap.size w U
theorem own_kept {A C : World} {base : Nat} {e : TypeId} {s : Nat} {v : Value} {n : Nat} {xs : List Value} {row : Option Nat} (h : A.ownsRow base e s v n xs) (hg : A.grownBy C row) (hr : ∀ r, row = some r → ∃ o : Obj, A.heap[r]? = some o ∧ o.isCells = false) : C.ownsRow base e s v n xs := by
  have hlt := h.lt
  refine ⟨h.1, ?_⟩
  rcases h.2 with h2 | ⟨g, cap, cur, rfl, q1, q2, q3⟩
  · exact .inl h2
  · refine .inr ⟨g, cap, cur, rfl, q1, (hg.block g (hlt g rfl).2 (fun e => ?_)).trans q2, q3⟩
    obtain ⟨o, ho, hc⟩ := hr g e.symm
    rw [q2] at ho
    cases ho
    cases hc
theorem AllI.own {w : World} {b : Nat} {L : List Th} : OwnFrom (w.heap.size + 2) (AllI w b L) := by
  intro s A C row h hg hr
  have e : ∀ j, j < w.heap.size + 2 → C.heap[j]? = A.heap[j]? := fun j hj => hg.block j (Nat.lt_of_lt_of_le hj h.lt) (fun e => by have := (hr j e.symm).1; omega)
  obtain ⟨v, hv, hrow⟩ := h.list
  exact ⟨⟨v, (e _ (by omega)).trans hv, own_kept hrow hg (fun r e => (hr r e).2)⟩, (e _ (by omega)).trans h.box, Nat.le_trans h.lt hg.size,
    ⟨hg.os.trans h.below.os, hg.tape.trans h.below.tape, hg.output.trans h.below.output, Nat.le_trans h.below.size hg.size, fun j hj => (e j (by omega)).trans (h.below.block j hj)⟩⟩
/-- The thread that All boxed, and what it appends. -/
theorem AllI.step {w U w2 : World} {b k : Nat} {L : List Th} {y : Th} {v v' : Value} (h : AllI w b L k U) (hy : L[k]? = some y)
    (hv : U.heap[w.heap.size]? = some (.cells #[v] 27 (0, 0))) (hrow : U.ownsRow (w.heap.size + 2) 35 24 v k (thsC (L.take k)))
    (hown : w2.ownsRow (w.heap.size + 2) 35 24 v' (k + 1) (thsC (L.take k) ++ y.cells)) (o : Array Value) (hg : (U.alloc (.cells o 35)).grownBy w2 v.ownBlock) :
    AllI w b L (k + 1) (w2.setCell ⟨w.heap.size, 0, none⟩ v') ∧ HiKept 35 (w.heap.size + 2) U (w2.setCell ⟨w.heap.size, 0, none⟩ v') := by
  have hlt := h.lt
  have sz := hg.size
  simp at sz
  have hvb : ∀ j, v.ownBlock = some j → w.heap.size + 2 ≤ j ∧ j < U.heap.size := fun j e => hrow.lt j e
  have hvb' : ∀ j, v'.ownBlock = some j → w.heap.size + 2 ≤ j := fun j e => (hown.lt j e).1
  have e : ∀ j, j < U.heap.size → v.ownBlock ≠ some j → w2.heap[j]? = U.heap[j]? := fun j hj hn => by
    rw [hg.block j (by simp; omega) (fun q => hn q.symm)]
    exact Below.heap_alloc _ _ _ hj
  have e2 : ∀ j, j < w.heap.size + 2 → w2.heap[j]? = U.heap[j]? := fun j hj => e j (by omega) (fun q => by have := (hvb j q).1; omega)
  have htake : L.take (k + 1) = L.take k ++ [y] := by rw [List.take_add_one, hy]; rfl
  refine ⟨⟨⟨v', ?_, ?_⟩, ?_, by simp; omega, ?_⟩, by simp; omega, fun j ob hB hj ho => ?_⟩
  · exact Go.heap_setCell_same _ _ _ _ _ _ ((e2 _ (by omega)).trans hv)
  · rw [htake, show thsC (L.take k ++ [y]) = thsC (L.take k) ++ y.cells by simp [thsC]]
    exact row_of_block hown (fun g hg' => Go.heap_setCell_other _ _ _ _ (by have := hvb' g hg'; simp; omega))
  · exact (Go.heap_setCell_other _ _ _ _ (by simp)).trans ((e2 _ (by omega)).trans h.box)
  · refine ⟨?_, ?_, ?_, ?_, fun j hj => ?_⟩
    · exact hg.os.trans h.below.os
    · exact hg.tape.trans h.below.tape
    · exact hg.output.trans h.below.output
    · simp; have := h.below.size; omega
    · exact (Go.heap_setCell_other _ _ _ _ (by simp; omega)).trans ((e2 j (by omega)).trans (h.below.block j hj))
  · have hjl := (Array.getElem?_eq_some_iff.1 hj).1
    refine (Go.heap_setCell_other _ _ _ _ (by simp; omega)).trans ((e j hjl (fun q => ?_)).trans hj)
    rcases hrow.2 with ⟨rfl, _⟩ | ⟨g, cap, cur, rfl, _, q2, _⟩
    · cases q
    · cases q
      rw [q2] at hj
      cases hj
      simp [Obj.rowOf] at ho
attribute [-go_sem] loadVar
attribute [-go_sem] Builtin.append_
set_option maxRecDepth 100000 in
set_option maxHeartbeats 2000000 in
theorem all_in (w : World) (b base : Nat) (v : Value) (L : List Th) (h : ThrAt w b base v L) (hlen : L.length < 1000000) :
    CallsIn Fence.wide 3 Try.prog 19 #[.pointer (some ⟨b, 0, none⟩)] w fun e w' => ∃ r, e = .returned r ∧ w'.ownsRow w.heap.size 35 24 r L.length (thsC L) ∧ Below w.heap.size w w' := by
  have HA := Lib.hid h
  have hbl := h.lt
  clear h
  obtain ⟨i0, hi0, hz0, hz1, hz2⟩ := info_parts infoTh
  have HI0 := Lib.hid hi0
  clear hi0
  refine callsIn_of_wp_marks Try.func19 rfl trivial ?_ rfl
  simp only [Try.ntmps19, List.size_toArray, List.length_cons, List.length_nil, Nat.reduceAdd, Nat.reduceSub, Array.replicate_succ, Array.replicate_zero, List.push_toArray, List.append_toArray, List.nil_append, List.cons_append]
  gi_wp2_with (refine ⟨trivial, ?_⟩; gi_at_call 30; refine (own_in _ _ _).mono ?_; rintro e w' ⟨rfl, rfl⟩)
  obtain ⟨Wc, hWc⟩ : ∃ x, x = (w.alloc (.cells #[.slice none 0 0] 27)).alloc (.cells #[.pointer (some ⟨b, 0, none⟩)] 24) := ⟨_, rfl⟩
  rw [← hWc]
  have hcz : Wc.heap.size = w.heap.size + 2 := by rw [hWc]; simp
  have hBW : Below w.heap.size w Wc := by rw [hWc]; exact bal (bal (Below.refl _ _) _) _
  have inv : AllI w b L 0 Wc := by
    refine ⟨⟨.slice none 0 0, ?_, World.ownsRow_nil _ _ _ _⟩, ?_, by omega, hBW⟩
    · rw [hWc]
      exact (Below.heap_alloc _ _ _ (by simp)).trans (heap_alloc_new w _)
    · rw [hWc]
      have e1 := heap_alloc_new (w.alloc (.cells #[.slice none 0 0] 27)) (.cells #[.pointer (some ⟨b, 0, none⟩)] 24)
      rwa [show (w.alloc (.cells #[.slice none 0 0] 27)).heap.size = w.heap.size + 1 by simp] at e1
  clear hWc
  have HCZ := Lib.hid hcz
  have hll : (rowsH L).length = L.length := rowsH_len L
  have hv : (v = .slice none 0 0 ∧ L.length = 0) ∨ ∃ g c, v = .slice (some ⟨g, 0, none⟩) L.length c := by
    rcases HA.out.form with ⟨h1, h2⟩ | ⟨g, c, h1, _⟩
    · exact .inl ⟨h1, by rw [← hll, h2]; rfl⟩
    · exact .inr ⟨g, c, by rw [← hll]; exact h1⟩
  have hkey : ∀ U : World, Below w.heap.size w U → ∀ g, v.ownBlock = some g → ∀ (k j : Nat) (y : Th) (u : Value), L[k]? = some y → (rcells (rowH y))[j]? = some u → U.cell? ⟨g, k * 25 + j, none⟩ = some u := by
    intro U hU g hg k j y u hk hj
    rcases (HA.out.call hU).form with ⟨h1, _⟩ | ⟨g', c, h1, _, _, _, _, hR⟩
    · rw [h1] at hg; cases hg
    · rw [h1] at hg
      cases hg
      exact hR k j (rowH y) u (by rw [rowsH_get, hk]; rfl) hj
  have HK := Lib.hid hkey
  have HV := Lib.hid hv
  have INV := Lib.hid inv
  have HLN := Lib.hid hlen
  clear hll hv hkey inv hBW hlen
  refine wpIn_range_pa rfl (by decide) (gf := 34) (lb := #[.pointer (some ⟨w.heap.size + 1, 0, none⟩)]) rfl trivial (enters_of Try.func34 (by kernel_rfl) rfl)
    (encs := fun k => #[.agg ((L[k]?.getD zeroT).cells.toArray)]) (N := L.length) 35 (AllI w b L) (fun _ _ _ => False)
    (own_px 35 (by kernel_rfl) (by kernel_rfl) 0 (w.heap.size + 1) b L.length _ v (fun k => (L[k]?.map Th.id).getD 0) (fun k => L[k]?.getD zeroT) _ HV.out (by have := HLN.out; omega) (fun g hg => by have := (TabAt.own HA.out hg).1; have := HA.out.ne; omega) ?hI0) (fun _ => rfl) (by have := HCZ.out; rw [this]; exact AllI.own) (fun _ => fun _ _ _ _ h _ _ => h) INV.out
    (fun k => .cells (L[k]?.getD zeroT).cells.toArray 35) (fun _ => rfl)
    (fun x s => { tmps := #[.pointer (some ⟨b, 0, none⟩), undef, .slice none 0 0, .pointer (some ⟨w.heap.size, 0, none⟩), .pointer (some ⟨s, 0, none⟩), .pointer (some ⟨b, 0, none⟩), .func (.func 34) #[] #[.pointer (some ⟨w.heap.size + 1, 0, none⟩)], .agg (L[x]?.getD zeroT).cells.toArray, undef, undef, undef, undef, undef], defers := [] }) ?hassign ?hbody ?hdone (fun _ _ _ _ _ _ h => h.elim)
  case hI0 =>
    rintro k U hU
    refine ⟨(cell_box hU.box).1, (HA.out.call hU.below).cell, fun g hg j hj => ?_⟩
    have hy : L[j]? = some (L[j]'hj) := List.getElem?_eq_getElem hj
    have := fun i u => HK.out U hU.below g hg j i _ u hy
    rw [hy]
    exact ⟨this 0 _ rfl, fun i u hi => by rw [show j * 25 + 1 + i = j * 25 + (i + 1) by omega]; exact this (i + 1) u (by simpa [rcells, rowH] using hi)⟩
  case hassign =>
    intro l x W K hK
    have hz := heap_alloc_new W (.cells #[.int .i64 0, .int .i64 0, .int .i64 0, .int .u64 0, .int .u64 0, .int .u64 0, .int .u64 0, .int .u64 0, .bool false, .int .i64 0, .int .i64 0, .int .u64 0, .int .u64 0, .int .u64 0, .int .u64 0, .int .u64 0, .int .i64 0, .int .i64 0, .bool false, .bool false, .bool false, .bool false, .int .u64 0, .int .u64 0] 35)
    rw [← alloc_setRow W #[.int .i64 0, .int .i64 0, .int .i64 0, .int .u64 0, .int .u64 0, .int .u64 0, .int .u64 0, .int .u64 0, .bool false, .int .i64 0, .int .i64 0, .int .u64 0, .int .u64 0, .int .u64 0, .int .u64 0, .int .u64 0, .int .i64 0, .int .i64 0, .bool false, .bool false, .bool false, .bool false, .int .u64 0, .int .u64 0]] at hK
    have HKK := Lib.hid hK
    clear hK
    gi_wp2_with (refine wpListIn_store_row rfl 35 _ _ rfl W.heap.size _ rfl rfl _ _ hz (by kernel_rfl) rfl (th_one' _) ?_)
    exact HKK.out
  case hbody =>
    rintro l k s U hkN hI hs hbox
    obtain ⟨y, hy⟩ : ∃ y, L[k]? = some y := ⟨L[k]'hkN, List.getElem?_eq_getElem hkN⟩
    rw [hy] at hbox ⊢
    simp only [Option.getD_some] at hbox ⊢
    obtain ⟨vv, hvv, hrow⟩ := hI.list
    obtain ⟨v0, vz⟩ := cell_box hvv
    have hll := hI.lt
    have hln := HLN.out
    have hlw : w.heap.size < U.heap.size := by omega
    have q1 : (loadVar 27 ⟨w.heap.size, 0, none⟩).run Try.prog U = .ok vv U := by simp [go_sem, loadVar, v0]
    have q2 : (loadVar 35 ⟨s, 0, none⟩).run Try.prog U = .ok (.agg #[.int .i64 y.id, .int .i64 y.st, .int .i64 y.pr, .int .u64 y.m0, .int .u64 y.m1, .int .u64 y.m2, .int .u64 y.m3, .int .u64 y.bd, .bool y.got, .int .i64 y.ca, .int .i64 y.wa, .int .u64 y.o0, .int .u64 y.o1, .int .u64 y.o2, .int .u64 y.o3, .int .u64 y.ob, .int .i64 y.gi, .int .i64 y.nn, .bool y.cs, .bool y.fl, .bool y.rh, .bool y.rw, .int .u64 y.va, .int .u64 y.vl]) U := run_loadVar_row _ _ _ _ _ _ _ hbox Try.underlying35 rfl (by kernel_rfl)
    have hnw : ∀ j u, y.cells[j]? = some u → (U.alloc (.cells #[.int .i64 y.id, .int .i64 y.st, .int .i64 y.pr, .int .u64 y.m0, .int .u64 y.m1, .int .u64 y.m2, .int .u64 y.m3, .int .u64 y.bd, .bool y.got, .int .i64 y.ca, .int .i64 y.wa, .int .u64 y.o0, .int .u64 y.o1, .int .u64 y.o2, .int .u64 y.o3, .int .u64 y.ob, .int .i64 y.gi, .int .i64 y.nn, .bool y.cs, .bool y.fl, .bool y.rh, .bool y.rw, .int .u64 y.va, .int .u64 y.vl] 35)).cell? ((⟨U.heap.size, 0, none⟩ : Addr).add j) = some u := add_cellsT (fun j u hj => (cell_cur (cur := y.cells) (show (U.alloc (.cells #[.int .i64 y.id, .int .i64 y.st, .int .i64 y.pr, .int .u64 y.m0, .int .u64 y.m1, .int .u64 y.m2, .int .u64 y.m3, .int .u64 y.bd, .bool y.got, .int .i64 y.ca, .int .i64 y.wa, .int .u64 y.o0, .int .u64 y.o1, .int .u64 y.o2, .int .u64 y.o3, .int .u64 y.ob, .int .i64 y.gi, .int .i64 y.nn, .bool y.cs, .bool y.fl, .bool y.rh, .bool y.rw, .int .u64 y.va, .int .u64 y.vl] 35)).heap[U.heap.size]? = some (.cells y.cells.toArray 35 (0, 0)) from heap_alloc_new U _) j).trans hj)
    obtain ⟨v', w3, hrun, hown, hgrow, _, hat⟩ := run_append_own_at (P := Try.prog) (w := U.alloc (.cells #[.int .i64 y.id, .int .i64 y.st, .int .i64 y.pr, .int .u64 y.m0, .int .u64 y.m1, .int .u64 y.m2, .int .u64 y.m3, .int .u64 y.bd, .bool y.got, .int .i64 y.ca, .int .i64 y.wa, .int .u64 y.o0, .int .u64 y.o1, .int .u64 y.o2, .int .u64 y.o3, .int .u64 y.ob, .int .i64 y.gi, .int .i64 y.nn, .bool y.cs, .bool y.fl, .bool y.rh, .bool y.rw, .int .u64 y.va, .int .u64 y.vl] 35)) (w.heap.size + 2) 27 27 35 i0 (.agg #[.int .i64 0, .int .i64 0, .int .i64 0, .int .u64 0, .int .u64 0, .int .u64 0, .int .u64 0, .int .u64 0, .bool false, .int .i64 0, .int .i64 0, .int .u64 0, .int .u64 0, .int .u64 0, .int .u64 0, .int .u64 0, .int .i64 0, .int .i64 0, .bool false, .bool false, .bool false, .bool false, .int .u64 0, .int .u64 0]) 24 176 Try.underlying27 HI0.out hz0 hz1 hz2 rfl (by decide) vv k _ (hrow.alloc _) ⟨U.heap.size, 0, none⟩ 1 1 y.cells rfl hnw (th_one y) (by unfold maxLen; omega) (by omega) (by simp; omega)
    obtain ⟨gg, cc, rfl⟩ : ∃ gg cc, v' = .slice (some ⟨gg, 0, none⟩) (k + 1) cc := by
      rcases hown.2 with ⟨_, h0⟩ | ⟨gg, cc, cur, e, _⟩
      · omega
      · exact ⟨gg, cc, e⟩
    have HST := Lib.hid (hI.step hy hvv hrow hown _ hgrow)
    have hvb : vv.ownBlock ≠ some w.heap.size := fun e => by have := (hrow.lt _ e).1; omega
    have e3 : w3.heap[w.heap.size]? = U.heap[w.heap.size]? := (hgrow.block _ (by simp; omega) (fun e => hvb e.symm)).trans (Below.heap_alloc _ _ _ (by omega))
    obtain ⟨g0, gz⟩ := cell_box (e3.trans hvv)
    have HCZo := HCZ.out
    clear hI hy hvv hrow hown hgrow hat e3 hvb hnw hbox
    generalize y.cells.toArray = yA at *
    gi_wp2
    exact ⟨HST.out.2.mono (by omega), HST.out.1⟩
  case hdone =>
    rintro D U hD hI hK
    obtain ⟨r, hr, hrow⟩ := hI.list
    obtain ⟨d0, dz⟩ := cell_box hr
    have hll := hI.lt
    have hcz := HCZ.out
    have hB := hI.below.trans (belowK_b (w := w) (Nat.le_refl _) U D (.deferred (some [])) (.deferred none) (by omega) hK rfl rfl)
    have hrw : (U.putObj D (.deferred none)).ownsRow w.heap.size 35 24 r L.length (thsC L) := by
      rw [List.take_length] at hrow
      obtain ⟨hl, h | ⟨g', cap, cur, e, q1, q2, q3⟩⟩ := hrow
      · exact ⟨hl, .inl h⟩
      · refine ⟨hl, .inr ⟨g', cap, cur, e, by omega, ?_, q3⟩⟩
        refine (World.putObj_heap_other ?_).trans q2
        rintro rfl
        rw [hK] at q2
        cases q2
    have HRW := Lib.hid hrw
    have HB := Lib.hid hB
    have q1 : (loadVar 27 ⟨w.heap.size, 0, none⟩).run Try.prog U = .ok r U := by simp [go_sem, loadVar, d0]
    clear hrow hr hB hrw hI hcz
    gi_wp2
    refine ⟨by simp, .inl ⟨_, _, rfl, run_takeDeferred hK, ?_⟩⟩
    exact ⟨r, by simp [results, Try.results19, go_sem], r, rfl, HRW.out, HB.out⟩
theorem tall_any (w : World) (b base : Nat) (v : Value) (L : List Th) (h : ThrAt w b base v L) (hlen : L.length < 1000000) :
    Calls Try.prog 19 #[.pointer (some ⟨b, 0, none⟩)] w fun e w' => ∃ r, e = .returned r ∧ w'.ownsRow w.heap.size 35 24 r L.length (thsC L) ∧ Below w.heap.size w w' := callsIn_wide.1 (all_in w b base v L h hlen)
end Go.Proofs.Ytiagkoiikmmgdaa
