/- The endpoints: Wait that goes in. -/
import Derived.Test.YtmbjaemflmbljaaEnd8
import Derived.OwnWalk
import Derived.Laws.OwnMore
import Derived.Outline
namespace Go.Proofs.Ytmbjaemflmbljaa
set_option linter.unusedVariables false
set_option linter.unusedSimpArgs false
open Go.ChangeShapes Go.WideShapes Go.ChangeAt Go.RowKit Go.Shelf

theorem infoI : (Try.prog.info? 3).map (fun i => (i.zero, i.size, i.bytes)) = some (some (.int .i64 0), 1, 8) := by kernel_rfl
theorem own_form {B : Nat} {w : World} {e : TypeId} {size : Nat} {v : Value} {n : Nat} {xs : List Value} (h : w.ownsRow B e size v n xs) (h0 : 0 < n) : ∃ g c, v = .slice (some ⟨g, 0, none⟩) n c ∧ n ≤ c ∧ c ≤ maxLen ∧ B ≤ g ∧ g < w.heap.size ∧ (∀ j, w.frozen? ⟨g, j, none⟩ = false) ∧ ∀ j u, xs[j]? = some u → w.cell? ⟨g, j, none⟩ = some u := by
  have hlt := h.lt
  have hcs := fun g hg => h.cells (g := g) hg
  obtain ⟨hl, h | ⟨g, cap, cur, rfl, hg, hblk, h1, h2, h3, h4⟩⟩ := h
  · omega
  · refine ⟨g, cap, rfl, h1, h2, hg, (hlt g rfl).2, fun j => by simp [World.frozen?, hblk], fun j u hj => ?_⟩
    have := hcs g rfl j u hj
    have e : ((⟨g, 0, none⟩ : Addr).add j) = ⟨g, j, none⟩ := by unfold Addr.add; split <;> simp_all
    rwa [e] at this
theorem one_new (w : World) (v : Value) (t : TypeId) : ∀ j u, ([v] : List Value)[j]? = some u → (w.alloc (.cells #[v] t)).cell? ((⟨w.heap.size, 0, none⟩ : Addr).add j) = some u := by
  intro j u hj
  have h := World.alloc_heap_new w (.cells #[v] t)
  have e : ((⟨w.heap.size, 0, none⟩ : Addr).add j) = ⟨w.heap.size, j, none⟩ := by unfold Addr.add; split <;> simp_all
  rw [e]
  unfold World.cell?
  rw [h]
  simpa using hj
theorem grown_cell (w : World) (g i : Nat) (u : Value) : w.grownBy (w.setCell ⟨g, i, none⟩ u) (some g) :=
  ⟨rfl, rfl, rfl, by simp, fun k _ hk => Go.heap_setCell_other _ _ _ _ (fun e => hk (by rw [e]))⟩
theorem row_set {w : World} {B g i : Nat} {u : Value} {e : TypeId} {size t n c : Nat} {xs : List Value} (h : w.ownsRow B e size (.slice (some ⟨t, 0, none⟩) n c) n xs) (hg : t ≠ g) : (w.setCell ⟨g, i, none⟩ u).ownsRow B e size (.slice (some ⟨t, 0, none⟩) n c) n xs :=
  h.kept (grown_cell w g i u) (.inr (by simp [Value.ownBlock]; exact hg))
theorem row_below {B : Nat} {w w' : World} {e : TypeId} {size : Nat} {v : Value} {n : Nat} {xs : List Value} (h : w.ownsRow B e size v n xs) (ho : Below w.heap.size w w') : w'.ownsRow B e size v n xs := by
  refine h.kept (row := none) ⟨ho.os, ho.tape, ho.output, ho.size, fun k hk _ => ho.block k hk⟩ ?_
  cases hv : v.ownBlock with
  | none => exact .inl rfl
  | some k => exact .inr (by simp)
theorem EndAt.keep {w w' : World} {b g c B : Nat} {p : Option Addr} {n cc : Nat} {sd : Bool} (h : EndAt w b g c p n cc sd) (k : Below B w w') (hg : g < B) (hb : b < B) : EndAt w' b g c p n cc sd :=
  ⟨(k.cell (p := ⟨b, 0, none⟩) hb).trans h.tab, ⟨(k.cell (p := ⟨g, 0, none⟩) hg).trans h.row.1, (k.cell (p := ⟨g, 1, none⟩) hg).trans h.row.2.1, (k.cell (p := ⟨g, 2, none⟩) hg).trans h.row.2.2.1, Nat.lt_of_lt_of_le h.row.2.2.2 k.size⟩, fun j => (k.frozen (p := ⟨g, j, none⟩) hg).trans (h.free j), h.ne, Nat.lt_of_lt_of_le h.lt k.size⟩
/-- What is in the end stored in an endpoint. -/
theorem end_set {w : World} {b g c t n cc : Nat} {p : Option Addr} {m q : Nat} {sd : Bool} (h : EndAt w b g c p m q sd) (htg : t ≠ g) : EndAt ((w.setCell ⟨g, 1, none⟩ (.slice (some ⟨t, 0, none⟩) n cc)).setCell ⟨g, 2, none⟩ (.bool true)) b g c (some ⟨t, 0, none⟩) n cc true := by
  obtain ⟨r0, r1, r2, r3⟩ := h.row
  have hne := h.ne
  refine ⟨?_, ⟨?_, ?_, ?_, ?_⟩, fun j => ?_, h.ne, by simpa using h.lt⟩
  · rw [World.cell?_setCell_other, World.cell?_setCell_other, h.tab]
    all_goals (intro e; simp only [Addr.mk.injEq] at e; omega)
  · simp [go_sem, r0]
  · simp [go_sem, r1]
  · simp [go_sem, r2]
  · simpa using r3
  · simp [go_sem, h.free]
set_option maxRecDepth 100000 in
set_option maxHeartbeats 1000000 in
theorem wait_in1 (w : World) (b g c : Nat) (h : EndAt w b g c none 0 0 false) :
    Calls Try.prog 16 #[.pointer (some ⟨b, 0, none⟩), .int .i64 6, .int .i64 1, .bool true] w fun e w' => e = .returned (.int .i64 0) ∧ (∃ t cc, EndAt w' b g c (some ⟨t, 0, none⟩) 1 cc true ∧ w'.ownsRow w.heap.size 3 1 (.slice (some ⟨t, 0, none⟩) 1 cc) 1 [.int .i64 1]) ∧ (∀ B, B ≤ g → Below B w w') := by
  obtain ⟨i0, hi, hz0, hz1, hz2⟩ := info_parts infoI
  have HI := Lib.hid hi
  have H := Lib.hid h
  have hlt := h.lt
  have hgl := h.row.2.2.2
  have HT := Lib.hid h.tab
  have HR := Lib.hid h.row
  clear h hi
  go_enter Try.func16, Try.ntmps16
  go_wp2_with (first
    | (go_at_call 28; refine (get_one _ b g c _ _ _ _ hlt HT.out HR.out).mono ?_; rintro e w1 ⟨rfl, hb1⟩; have H1 := Lib.hid (H.out.call hb1); have HB1 := Lib.hid hb1; clear hb1)
    | (go_at_call 29; refine (find_miss_any _ b g c _ _ _ _ 1 H1.out (fun W hW => idx_none W 1)).mono ?_; rintro e w2 ⟨rfl, hb2⟩; have H2 := Lib.hid (H1.out.call hb2); have HB2 := Lib.hid (bgo HB1.out hb2); have x1 := H2.out.row.2.1; have x2 := H2.out.row.2.2.1; clear hb2)
    | (at_builtin; refine wpList_append_own _ rfl _ _ 36 rfl w.heap.size 3 i0 (.int .i64 0) 1 8 Try.underlying36 HI.out hz0 hz1 hz2 rfl (by decide) (.slice none 0 0) 0 [] rfl (World.ownsRow_nil _ _ _ _) ⟨w2.heap.size, 0, none⟩ 1 1 [.int .i64 1] rfl rfl (one_new _ _ _) (by simp [Value.oneCell']) (by unfold maxLen; omega) (by omega) (by have := HB2.out.size; simp; omega) ?_; intro v' w3 hown' hgrow _; obtain ⟨t, ct, rfl, ht1, ht2, ht3, ht4, hfz, hcs⟩ := own_form hown' (by decide); have hB3 : Below w2.heap.size w2 w3 := ((bal (Below.refl _ _) _).grown hgrow (by simp) (fun j ej => by cases (show (none : Option Nat) = some j from ej))); have H3 := Lib.hid (H2.out.call hB3); have y1 := H3.out.row.2.1; have y2 := H3.out.row.2.2.1; have fz1 := H3.out.free 1; have fz2 := H3.out.free 2; have HO := Lib.hid hown'; have HB3 := Lib.hid (bgo HB2.out hB3); clear hown' hgrow hB3 hfz hcs))
  go_ret
  have htg : t ≠ g := by omega
  first
    | refine ⟨rfl, ⟨t, ct, end_set H3.out htg, row_set (row_set HO.out htg) htg⟩, fun B hB => ?_⟩
    | refine ⟨rfl, ⟨ct, t, end_set H3.out htg, row_set (row_set HO.out htg) htg⟩, fun B hB => ?_⟩
  exact ((HB3.out.mono (B' := B) (by omega)).setCell (by simpa using hB) _).setCell (by simpa using hB) _
set_option maxRecDepth 100000 in
set_option maxHeartbeats 1000000 in
theorem wait_in2 (w : World) (B b g c t cc : Nat) (h : EndAt w b g c (some ⟨t, 0, none⟩) 1 cc true) (ho : w.ownsRow B 3 1 (.slice (some ⟨t, 0, none⟩) 1 cc) 1 [.int .i64 1]) (hB : B ≤ w.heap.size) (hgB : g < B) (hbB : b < B) :
    Calls Try.prog 16 #[.pointer (some ⟨b, 0, none⟩), .int .i64 6, .int .i64 3, .bool true] w fun e w' => e = .returned (.int .i64 0) ∧ (∃ t cc, EndAt w' b g c (some ⟨t, 0, none⟩) 2 cc true ∧ w'.ownsRow B 3 1 (.slice (some ⟨t, 0, none⟩) 2 cc) 2 [.int .i64 1, .int .i64 3]) ∧ (∀ D, D ≤ g → Below D w w') := by
  obtain ⟨i0, hi, hz0, hz1, hz2⟩ := info_parts infoI
  obtain ⟨g', c', hv, hc1, hc2, hc3, hc4, -, hcs⟩ := own_form ho (by decide)
  simp only [Value.slice.injEq, Option.some.injEq, Addr.mk.injEq, and_true, true_and] at hv
  obtain ⟨rfl, rfl⟩ := hv
  have hv := hcs 0 _ rfl
  have HI := Lib.hid hi
  have H := Lib.hid h
  have hlt := h.lt
  have hgl := h.row.2.2.2
  have HT := Lib.hid h.tab
  have HR := Lib.hid h.row
  have HV := Lib.hid hv
  have HOW := Lib.hid ho
  have hcm := hc2
  unfold maxLen at hcm
  clear h hi hv ho hcs
  go_enter Try.func16, Try.ntmps16
  go_wp2_with (first
    | (go_at_call 28; refine (get_one _ b g c _ _ _ _ hlt HT.out HR.out).mono ?_; rintro e w1 ⟨rfl, hb1⟩; have H1 := Lib.hid (H.out.call hb1); have HB1 := Lib.hid hb1; clear hb1)
    | (go_at_call 29; refine (find_miss_any _ b g c _ _ _ _ 3 H1.out (fun W hW => idx_one W t cc 1 3 (((bgo HB1.out hW).cell (p := ⟨t, 0, none⟩) hc4).trans HV.out) (by omega))).mono ?_; rintro e w2 ⟨rfl, hb2⟩; have H2 := Lib.hid (H1.out.call hb2); have HB2 := Lib.hid (bgo HB1.out hb2); have x1 := H2.out.row.2.1; have x2 := H2.out.row.2.2.1; have HO2 := Lib.hid (row_below HOW.out HB2.out); clear hb2)
    | (at_builtin; refine wpList_append_own _ rfl _ _ 36 rfl B 3 i0 (.int .i64 0) 1 8 Try.underlying36 HI.out hz0 hz1 hz2 rfl (by decide) (.slice (some ⟨t, 0, none⟩) 1 cc) 1 [.int .i64 1] rfl (row_below HO2.out (bal (Below.refl _ _) _)) ⟨w2.heap.size, 0, none⟩ 1 1 [.int .i64 3] rfl rfl (one_new _ _ _) (by simp [Value.oneCell']) (by unfold maxLen; omega) (by omega) (by have := HB2.out.size; simp; omega) ?_; intro v' w3 hown' hgrow _; obtain ⟨t', ct, rfl, ht1, ht2, ht3, ht4, hfz, hcs⟩ := own_form hown' (by decide); have hB3 : Below B w2 w3 := (((bal (Below.refl _ _) _).mono (B' := B) (by have := HB2.out.size; omega)).grown hgrow (by have := HB2.out.size; simp; omega) (fun j ej => by cases (show (some t : Option Nat) = some j from ej); exact hc3)); have H3 := Lib.hid (H2.out.keep hB3 hgB hbB); have y1 := H3.out.row.2.1; have y2 := H3.out.row.2.2.1; have fz1 := H3.out.free 1; have fz2 := H3.out.free 2; have HO := Lib.hid hown'; have HB3 := Lib.hid (((HB2.out.mono hB).trans hB3)); clear hown' hgrow hB3 hfz hcs))
  go_ret
  have htg : t' ≠ g := by omega
  refine ⟨rfl, ⟨t', ct, end_set H3.out htg, row_set (row_set HO.out htg) htg⟩, fun D hD => ?_⟩
  exact ((HB3.out.mono (B' := D) (by omega)).setCell (by simpa using hD) _).setCell (by simpa using hD) _
end Go.Proofs.Ytmbjaemflmbljaa
