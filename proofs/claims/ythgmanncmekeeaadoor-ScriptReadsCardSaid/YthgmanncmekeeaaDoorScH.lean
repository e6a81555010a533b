/- chapter 35: strconv's AppendUint and AppendInt at such a row. -/
import Derived.Test.YthgmanncmekeeaaDoorScG
import Derived.Shelf.Strconv.AppendIntPublic10
import Derived.BigCall
import Derived.BigGuard
namespace Go.Proofs.YthgmanncmekeeaaDoor
set_option linter.unusedVariables false
set_option linter.unusedSimpArgs false
open Go.ChangeShapes Go.WideShapes Go.ChangeAt Go.RowKit Go.Sort
attribute [-go_sem] Builtin.append_
namespace Sc
theorem strCells_bs (l : Bs) : Lib.strCells (bs l) = Lib.byteCells l := by
  unfold Lib.strCells Lib.byteCells
  simp [bs]
/-- What append has made, told of all that stands. -/
structure AppTo (w w' : World) (B n : Nat) (xs : List Value) (v' : Value) : Prop where
  row : RowM w' B v' n xs
  below : Below B w w'
  kept : Lib.OthersKept 5 none w w'
theorem appTo_of {w W w' : World} {B n m : Nat} {v v' : Value} {xs ys : List Value} (h : RowM W B v n xs) (hb : Below B w W) (hk : Lib.OthersKept 5 none w W) (hB : B ≤ W.heap.size) (q : RowM w' B v' m ys) (hg : W.grownBy w' v.ownBlock) : AppTo w w' B m ys v' :=
  ⟨q, hb.grown hg hB (fun k e => (h.lt e).1), hk.grown hg (fun g e => h.ty e)⟩
set_option maxRecDepth 100000 in
set_option maxHeartbeats 1600000 in
theorem auint_small {w : World} {B n : Nat} {v : Value} {xs : List Value} (h : RowM w B v n xs) (u : Nat) (hu : u < 100) (hn : n ≤ 100000) (hB : B ≤ w.heap.size) :
    Calls Tryd.prog 34 #[v, .int .u64 u, .int .i64 10] w fun e w' => ∃ v', e = .returned v' ∧ AppTo w w' B (n + (Lib.decDigits u).length) (xs ++ Lib.byteCells (Lib.decDigits u)) v' := by
  have hd := nd20 (show u < 18446744073709551616 by omega)
  obtain ⟨v', w', hrun, q1, q2⟩ := appS h (bs (Lib.decDigits u)) (by rw [bs_size]; omega) hB
  rw [bs_size, strCells_bs] at q1
  have HA := Lib.hid (appTo_of h (Below.refl _ _) (Lib.OthersKept.refl _ _ _) hB q1 q2)
  have HS := Lib.hid (Any.internal_strconv_small (P := Tryd.prog) (ρ := Tryd.laysM288_ren) { Tryd.laysM288 with } u hu w)
  have iu : (u : Int) < 100 := by omega
  unfold bs at hrun
  clear q1 q2 h
  go_enter Tryd.func34, Tryd.ntmps34
  go_wp2_with (go_at_call 44; refine HS.out.mono ?_; rintro e w1 ⟨rfl, rfl⟩)
  go_ret
  exact ⟨v', rfl, HA.out⟩
set_option maxRecDepth 100000 in
set_option maxHeartbeats 3200000 in
theorem auint_big {w : World} {B n : Nat} {v : Value} {xs : List Value} (h : RowM w B v n xs) (u : Nat) (hu : 100 ≤ u) (hu64 : u < 18446744073709551616) (hn : n ≤ 100000) (hB : B ≤ w.heap.size) (htab : Lib.TabIs Tryd.prog w "internal/strconv.uint64pow10" .u64 Lib.pow10Tab) :
    Calls Tryd.prog 34 #[v, .int .u64 u, .int .i64 10] w fun e w' => ∃ v', e = .returned v' ∧ AppTo w w' B (n + (Lib.decDigits u).length) (xs ++ Lib.byteCells (Lib.decDigits u)) v' := by
  have hu1 : 1 ≤ u := by omega
  have hnd20 : Lib.nDigits u ≤ 20 := by have := Lib.numDigits_eq u hu1 hu64; split at this <;> omega
  have hsl : ∀ W, (Instr.sliceAt 95 (.pointer (some ⟨w.heap.size, 0, none⟩)) none (some (.int .i64 (Lib.nDigits u : Int))) none).run Tryd.prog W = .ok (.slice (some ⟨w.heap.size, 0, none⟩) (Lib.nDigits u) 24) W := fun W => by
    rw [run_sliceAt_array_h W 95 ⟨w.heap.size, 0, none⟩ (by simp [Program.arrayLen, Program.elem, Tryd.underlying95]) .i64 (Lib.nDigits u : Int) (by omega) (by rw [show Tryd.prog.arrayLen 95 = 24 from by simp [Program.arrayLen, Tryd.underlying95]]; omega)]
    have e1 : Tryd.prog.arrayLen 95 = 24 := by simp [Program.arrayLen, Tryd.underlying95]
    have e2 : Tryd.prog.elem 95 = 5 := by simp [Program.elem, Tryd.underlying95]
    rw [e1, e2]
    have := Tryd.sizeOf5 W
    simp [this, slicedAt, addr_add]
  have hH0 := Lib.holds_zero0 w 95 (Lib.nDigits u) (by omega)
  have HF := Lib.hid (Any.internal_strconv_formatBase10 (P := Tryd.prog) (ρ := Tryd.laysM288_ren) { Tryd.laysM288 with } w.heap.size 0 24 u (Array.replicate (Lib.nDigits u) 0) (w.alloc (.cells Lib.zeros24 95)) hH0 (by rw [Array.size_replicate]; exact Lib.lt_pow_nDigits u) hu64 (by rw [Array.size_replicate]; omega))
  have HD := Lib.hid (Any.internal_strconv_numDigits (P := Tryd.prog) (ρ := Tryd.laysM288_ren) { Tryd.laysM288 with } u hu1 hu64 _ (Lib.tabIs_alloc htab (.cells Lib.zeros24 95)))
  have HH0 := Lib.hid hH0
  have HR := Lib.hid h
  have iu : ((u : Int) < 100) = False := by rw [eq_iff_iff, iff_false]; omega
  have hz24 : Lib.zeros24 = _ := rfl
  clear hH0 h htab
  go_enter Tryd.func34, Tryd.ntmps34
  go_wp2_with (first
    | (go_at_call 45; refine HD.out.mono ?_; rintro e w1 ⟨rfl, rfl⟩))
  go_at_call 46
  have hf := HF.out
  rw [Array.size_replicate] at hf
  refine hf.mono ?_
  rintro e w1 ⟨rfl, k, v1, dk, rfl, hF⟩
  have hcells : ∀ j u', (Lib.byteCells (Lib.decDigits u))[j]? = some u' → ((putRow (fun (b : UInt8) => Value.int .u8 (b.toNat : Int)) (w.alloc (.cells Lib.zeros24 95)) w.heap.size 0 dk).drewN k).cell? ((⟨w.heap.size, 0, none⟩ : Addr).add j) = some u' := by
    intro j u' hj
    have hjl : j < (Lib.decDigits u).length := by
      have h5 := (List.getElem?_eq_some_iff.1 hj).1
      rwa [Lib.byteCells_length] at h5
    have e5 : (Lib.byteCells (Lib.decDigits u))[j]? = some (Value.int .u8 ((Lib.decDigits u)[j].toNat : Int)) := by simp [Lib.byteCells, hjl]
    rw [e5] at hj
    cases hj
    rw [Lib.row_is_numeral hF j hjl, Lib.add_plain, World.cell?_drewN]
    exact cell?_putRow (fun (b : UInt8) => Value.int .u8 (b.toNat : Int)) _ w.heap.size 0 _ dk HH0.out (by rw [hF.size, Array.size_replicate]) j (by rw [hF.size]; rw [Lib.decDigits_length] at hjl; exact hjl)
  obtain ⟨os, eo⟩ := Lib.fin_at w (.cells Lib.zeros24 95) dk k 0
  have hb2 : Below w.heap.size w ((putRow (fun (b : UInt8) => Value.int .u8 (b.toNat : Int)) (w.alloc (.cells Lib.zeros24 95)) w.heap.size 0 dk).drewN k) := by rw [eo]; exact Lib.below_grow w.heap.size w (Nat.le_refl _) k os
  generalize (putRow (fun (b : UInt8) => Value.int .u8 (b.toNat : Int)) (w.alloc (.cells Lib.zeros24 95)) w.heap.size 0 dk).drewN k = W2 at hcells hb2 ⊢
  have hrow2 : RowM W2 B v n xs := HR.out.kept fun g hg => hb2.block g (HR.out.lt hg).2
  obtain ⟨v2, w2, hrun, q1, q2⟩ := appM hrow2 ⟨w.heap.size, 0, none⟩ (Lib.nDigits u) 24 (Lib.byteCells (Lib.decDigits u)) (by rw [Lib.byteCells_length, Lib.decDigits_length]) hcells (by intro u' hu'; simp only [Lib.byteCells, List.mem_map] at hu'; obtain ⟨b, _, rfl⟩ := hu'; rfl) (by omega) (Nat.le_trans hB hb2.size)
  have HA := Lib.hid (appTo_of hrow2 (hb2.mono hB) ((Lib.OthersKept.refl _ _ w).below hb2) (Nat.le_trans hB hb2.size) q1 q2)
  clear q1 q2 hrow2 hb2 hcells eo HR HH0 HF HD hf
  go_wp2
  go_ret
  exact ⟨v2, rfl, by rw [Lib.decDigits_length]; exact HA.out⟩
/-- AppendUint, any word. -/
theorem auint_any {w : World} {B n : Nat} {v : Value} {xs : List Value} (h : RowM w B v n xs) (u : Nat) (hu64 : u < 18446744073709551616) (hn : n ≤ 100000) (hB : B ≤ w.heap.size) (hE : EnvAt w) :
    Calls Tryd.prog 34 #[v, .int .u64 u, .int .i64 10] w fun e w' => ∃ v', e = .returned v' ∧ AppTo w w' B (n + (Lib.decDigits u).length) (xs ++ Lib.byteCells (Lib.decDigits u)) v' := by
  by_cases hu : u < 100
  · exact auint_small h u hu hn hB
  · exact auint_big h u (by omega) hu64 hn hB hE.1
theorem puint_app {w : World} {B n : Nat} {v : Value} {xs : List Value} (h : RowM w B v n xs) (u : Nat) (hu64 : u < 18446744073709551616) (hn : n ≤ 100000) (hB : B ≤ w.heap.size) (hE : EnvAt w) :
    Calls Tryd.prog 24 #[v, .int .u64 u, .int .i64 10] w fun e w' => ∃ v', e = .returned v' ∧ AppTo w w' B (n + (Lib.decDigits u).length) (xs ++ Lib.byteCells (Lib.decDigits u)) v' := by
  have HA := Lib.hid (auint_any h u hu64 hn hB hE)
  clear h hE
  go_enter Tryd.func24, Tryd.ntmps24
  go_wp2_with (go_at_call 34; (with_reducible refine HA.out.mono ?_); rintro e w1 ⟨v1, rfl, ha⟩)
  go_ret
  exact ⟨v1, rfl, ha⟩
theorem pint_in {w : World} {B n : Nat} {v : Value} {xs : List Value} (h : RowM w B v n xs) (i : Int) (h0 : 0 ≤ i) (h1 : i ≤ 999999) (hn : n ≤ 100000) (hB : B ≤ w.heap.size) (hE : EnvAt w) :
    Calls Tryd.prog 35 #[v, .int .i64 i, .int .i64 10] w fun e w' => ∃ v', e = .returned v' ∧ AppTo w w' B (n + (Lib.decDigits i.toNat).length) (xs ++ Lib.byteCells (Lib.decDigits i.toNat)) v' := by
  obtain ⟨u, rfl⟩ : ∃ u : Nat, i = u := ⟨i.toNat, by omega⟩
  rw [Int.toNat_natCast]
  have HA := Lib.hid (auint_any h u (by omega) hn hB hE)
  have q0 : ((u : Int) < 0) = False := by rw [eq_iff_iff, iff_false]; omega
  have hwr : IntKind.u64.wrap (u : Int) = u := by simp only [IntKind.wrap, IntKind.signed, IntKind.bits]; simp; omega
  clear h hE
  go_enter Tryd.func35, Tryd.ntmps35
  go_wp2_with (go_at_call 34; (first | (with_reducible refine HA.out.mono ?_) | (rw [hwr]; with_reducible refine HA.out.mono ?_)); rintro e w1 ⟨v1, rfl, ha⟩)
  go_ret
  exact ⟨v1, rfl, ha⟩
theorem pint_app {w : World} {B n : Nat} {v : Value} {xs : List Value} (h : RowM w B v n xs) (i : Int) (h0 : 0 ≤ i) (h1 : i ≤ 999999) (hn : n ≤ 100000) (hB : B ≤ w.heap.size) (hE : EnvAt w) :
    Calls Tryd.prog 25 #[v, .int .i64 i, .int .i64 10] w fun e w' => ∃ v', e = .returned v' ∧ AppTo w w' B (n + (Lib.decDigits i.toNat).length) (xs ++ Lib.byteCells (Lib.decDigits i.toNat)) v' := by
  have HA := Lib.hid (pint_in h i h0 h1 hn hB hE)
  clear h hE
  go_enter Tryd.func25, Tryd.ntmps25
  go_wp2_with (go_at_call 35; (with_reducible refine HA.out.mono ?_); rintro e w1 ⟨v1, rfl, ha⟩)
  go_ret
  exact ⟨v1, rfl, ha⟩
end Sc
end Go.Proofs.YthgmanncmekeeaaDoor
