/- cap.Decode. -/
import Derived.Test.YtoepbcaldlgnjaaDoorCapH
import Derived.Test.YtoepbcaldlgnjaaDoorWordW
import Derived.Deep.RegionWith
namespace Go.Proofs.YtoepbcaldlgnjaaDoor
set_option linter.unusedVariables false
set_option linter.unusedSimpArgs false
open Go.ChangeShapes Go.WideShapes Go.ChangeAt Go.RowKit Go.Shelf

section
variable {P : Program} {ops : Array Oper} {rest : List Oper} {o : Oper} {a : Act} {w : World} {Q : Exit → Act → World → Prop}
/-- A load of a struct whose cells are known, as one operation. -/
theorem wp_load_list {K : Act → World → Prop} (ty : TypeId) (x : Operand) (ho : o.op = .load ty x) (p : Addr) (hx : a.eval x = .pointer (some p)) (cs : List Value) (hc : ∀ j v, cs[j]? = some v → w.cell? (p.add j) = some v)
    (d : TypeDesc) (hu : P.underlying ty = some d) (hd : (match d with | .struct _ | .array _ _ => true | _ => false) = true) (hi : (P.info? ty).map (·.size) = some cs.length)
    (h : K (a.put o.dst (.agg cs.toArray)) w) : o.wp P a w K Q := by
  have hl : (loadCells p cs.length).run P w = .ok cs.toArray w := run_loadCells_list (P := P) w p cs hc
  have hrun : (loadVar ty p).run P w = .ok (.agg cs.toArray) w := by
    cases hq : P.info? ty with
    | none => simp [hq] at hi
    | some i =>
      have hs : i.size = cs.length := by simpa [hq] using hi
      have hagg : (isAgg ty).run P w = .ok true w := by
        unfold isAgg
        rw [Sem.run_bind, run_underlying hu w]
        cases d <;> simp_all
      simp [loadVar, Sem.run_bind, hagg, sizeOf, typeInfo, hq, hs, hl]
  unfold Oper.wp execOp
  simp only [ho, hx, Instr.loadAt, Instr.sureAddr, Sem.run_bind, Sem.run_pure, Result.andThen_ok, hrun]
  exact h
theorem wpList_load_list (hw : Region.wanted o (yielded ops a.tmps) = true) (ty : TypeId) (x : Operand) (ho : o.op = .load ty x) (p : Addr) (hx : a.eval x = .pointer (some p)) (cs : List Value) (hc : ∀ j v, cs[j]? = some v → w.cell? (p.add j) = some v)
    (d : TypeDesc) (hu : P.underlying ty = some d) (hd : (match d with | .struct _ | .array _ _ => true | _ => false) = true) (hi : (P.info? ty).map (·.size) = some cs.length)
    (h : wpList P ops Q rest (a.put o.dst (.agg cs.toArray)) w) : wpList P ops Q (o :: rest) a w :=
  wpList_step fun K hK => by
    rw [hw, if_pos rfl]
    exact wp_load_list ty x ho p hx cs hc d hu hd hi (hK _ _ h)
end
theorem cells_of_row {w : World} {b : Nat} {cs : List Value} {t : TypeId} (h : w.heap[b]? = some (.cells cs.toArray t (0, 0))) : ∀ j v, cs[j]? = some v → w.cell? ⟨b, j, none⟩ = some v := by
  intro j v hj
  rw [cell_of_row _ _ j _ _ _ h]
  simpa using hj
theorem two_cells {w : World} {b : Nat} {x y : Int} {t : TypeId} (h : w.heap[b]? = some (.cells #[.int .u64 x, .int .u64 y] t (0, 0))) : ∀ j, j < 2 → w.cell? ⟨b, j, none⟩ = some (.int .u64 (if j = 0 then x else y)) := by
  intro j hj
  rw [cell_of_row _ _ j _ _ _ h]
  obtain rfl | rfl : j = 0 ∨ j = 1 := by omega
  all_goals rfl
theorem two_cells' {w : World} {b o : Nat} {x y : Int} (h0 : w.cell? ⟨b, o, none⟩ = some (.int .u64 x)) (h1 : w.cell? ⟨b, o + 1, none⟩ = some (.int .u64 y)) : ∀ j, j < 2 → w.cell? ⟨b, o + j, none⟩ = some (.int .u64 (if j = 0 then x else y)) := by
  intro j hj
  obtain rfl | rfl : j = 0 ∨ j = 1 := by omega
  · exact h0
  · exact h1
theorem bs {w W : World} (h : Below w.heap.size w W) (j : Nat) (v : Value) : Below w.heap.size w (W.setCell ⟨w.heap.size, j, none⟩ v) := h.setCell (p := ⟨w.heap.size, j, none⟩) (by simp) v
theorem alloc2_first (w : World) (o o' : Obj) : ((w.alloc o).alloc o').heap[w.heap.size]? = some o := by
  rw [Below.heap_alloc _ _ _ (by simp)]; exact World.alloc_heap_new w o
theorem alloc2_second (w : World) (o o' : Obj) : ((w.alloc o).alloc o').heap[w.heap.size + 1]? = some o' := by
  have := World.alloc_heap_new (w.alloc o) o'
  rwa [World.size_alloc] at this
def dV (u v : Int) (k : Nat) : Int := Wd.fieldN (if (layP k).1 = 0 then u else v) (layP k).2.1 (layP k).2.2
def rowD (u v : Int) (k : Nat) : List Value := (List.range 8).map fun j => u64V (if j < k then dV u v j else 0)
theorem rowD_len (u v : Int) (k : Nat) : (rowD u v k).length = 8 := by simp [rowD]
theorem rowD_step (u v : Int) (k : Nat) (hk : k < 8) : (rowD u v k).toArray.setIfInBounds k (u64V (dV u v k)) = (rowD u v (k + 1)).toArray := by
  obtain rfl | rfl | rfl | rfl | rfl | rfl | rfl | rfl : k = 0 ∨ k = 1 ∨ k = 2 ∨ k = 3 ∨ k = 4 ∨ k = 5 ∨ k = 6 ∨ k = 7 := by omega
  all_goals rfl
theorem rowD_0 (u v : Int) : rowD u v 0 = [u64V 0, u64V 0, u64V 0, u64V 0, u64V 0, u64V 0, u64V 0, u64V 0] := rfl
theorem rowD_8 (u v : Int) : rowD u v 8 = [u64V (dV u v 0), u64V (dV u v 1), u64V (dV u v 2), u64V (dV u v 3), u64V (dV u v 4), u64V (dV u v 5), u64V (dV u v 6), u64V (dV u v 7)] := rfl
def dA (u : Int) : Int := u % 16
def dC (u : Int) : Int := u / 16 % 8
def dB (u : Int) : Int := u / 256 % 65536
def dH (u : Int) : Int := u / 16777216 % 512
def dG (u : Int) : Int := u / 1099511627776 % 16777216
def dD (v : Int) : Int := v % 16777216
def dE (v : Int) : Int := v / 16777216 % 4096
def dF (v : Int) : Int := v / 68719476736 % 16
theorem dA_b (u : Int) : 0 ≤ dA u ∧ dA u < 16777216 := by unfold dA; omega
theorem dC_b (u : Int) : 0 ≤ dC u ∧ dC u < 16777216 := by unfold dC; omega
theorem dB_b (u : Int) : 0 ≤ dB u ∧ dB u < 16777216 := by unfold dB; omega
theorem dH_b (u : Int) : 0 ≤ dH u ∧ dH u < 16777216 := by unfold dH; omega
theorem dG_b (u : Int) : 0 ≤ dG u ∧ dG u < 16777216 := by unfold dG; omega
theorem dD_b (u : Int) : 0 ≤ dD u ∧ dD u < 16777216 := by unfold dD; omega
theorem dE_b (u : Int) : 0 ≤ dE u ∧ dE u < 16777216 := by unfold dE; omega
theorem dF_b (u : Int) : 0 ≤ dF u ∧ dF u < 16777216 := by unfold dF; omega
theorem dV_0 (u v : Int) : dV u v 0 = dA u := by
  show u / 2 ^ (0 : Int).toNat % 2 ^ (4 : Int).toNat = _
  simp [dA]
theorem dV_1 (u v : Int) : dV u v 1 = dC u := by
  show u / 2 ^ (4 : Int).toNat % 2 ^ (3 : Int).toNat = _
  simp [dC]
theorem dV_2 (u v : Int) : dV u v 2 = dB u := by
  show u / 2 ^ (8 : Int).toNat % 2 ^ (16 : Int).toNat = _
  simp [dB]
theorem dV_3 (u v : Int) : dV u v 3 = dH u := by
  show u / 2 ^ (24 : Int).toNat % 2 ^ (9 : Int).toNat = _
  simp [dH]
theorem dV_4 (u v : Int) : dV u v 4 = dG u := by
  show u / 2 ^ (40 : Int).toNat % 2 ^ (24 : Int).toNat = _
  simp [dG]
theorem dV_5 (u v : Int) : dV u v 5 = dD v := by
  show v / 2 ^ (0 : Int).toNat % 2 ^ (24 : Int).toNat = _
  simp [dD]
theorem dV_6 (u v : Int) : dV u v 6 = dE v := by
  show v / 2 ^ (24 : Int).toNat % 2 ^ (12 : Int).toNat = _
  simp [dE]
theorem dV_7 (u v : Int) : dV u v 7 = dF v := by
  show v / 2 ^ (36 : Int).toNat % 2 ^ (4 : Int).toNat = _
  simp [dF]
theorem lay_in : ∀ x : Fin 8, Wd.insideB (layP x.1).2.1 (layP x.1).2.2 = true := by decide +kernel
theorem lay_small : ∀ x : Fin 8, (layP x.1).2.1 < 64 ∧ (layP x.1).2.2 < 64 := by decide +kernel
theorem dec_step {w wr w1 : World} {u v : Int} {k : Nat} {z : Array Value} (hs : w.heap.size + 1 < wr.heap.size) (hz : wr.heap[w.heap.size]? = some (.cells z 24 (0, 0))) (hr : wr.heap[w.heap.size + 1]? = some (.cells (rowD u v k).toArray 53 (0, 0))) (hB : Below w.heap.size w wr) (hbw : Below wr.heap.size wr w1) (hst : (rowD u v k).toArray.setIfInBounds k (u64V (dV u v k)) = (rowD u v (k + 1)).toArray) (n : Nat) :
    ((w1.drewN n).setCell ⟨w.heap.size + 1, k, none⟩ (.int .u64 (dV u v k))).heap[w.heap.size]? = some (.cells z 24 (0, 0)) ∧ ((w1.drewN n).setCell ⟨w.heap.size + 1, k, none⟩ (.int .u64 (dV u v k))).heap[w.heap.size + 1]? = some (.cells (rowD u v (k + 1)).toArray 53 (0, 0)) ∧ Below w.heap.size w ((w1.drewN n).setCell ⟨w.heap.size + 1, k, none⟩ (.int .u64 (dV u v k))) := by
  refine ⟨?_, ?_, ((hB.trans (hbw.mono (by omega))).trans (below_drewN (Below.refl _ _) n)).setCell (p := ⟨w.heap.size + 1, k, none⟩) (by simp) _⟩
  · rw [Go.heap_setCell_other _ _ _ _ (by simp)]
    exact (hbw.block _ (by omega)).trans hz
  · rw [← hst]
    exact Go.heap_setCell_same (w1.drewN n) (w.heap.size + 1) k _ _ _ ((hbw.block _ (by omega)).trans hr)
/-- Two words are a capability's. -/
def decB (u v : Int) : Bool := capB (dA u) (dB u) (dC u) (dD v) (dE v) (dF v) (dG u) (dH u) && eqN 2 (fun j => if j = 0 then encA (dA u) (dB u) (dC u) (dG u) (dH u) else encB (dD v) (dE v) (dF v)) (fun j => if j = 0 then u else v)
def decR (u v : Int) : Value := if decB u v = true then capV (dA u) (dB u) (dC u) (dD v) (dE v) (dF v) (dG u) (dH u) else capV 0 0 0 0 0 0 0 0
def decE (u v : Int) : Int := if decB u v = true then 0 else 5
theorem decR_yes {u v : Int} (h : decB u v = true) : decR u v = capV (dA u) (dB u) (dC u) (dD v) (dE v) (dF v) (dG u) (dH u) := if_pos h
theorem decR_no {u v : Int} (h : decB u v = false) : decR u v = capV 0 0 0 0 0 0 0 0 := if_neg (by rw [h]; decide)
theorem decE_yes {u v : Int} (h : decB u v = true) : decE u v = 0 := if_pos h
theorem decE_no {u v : Int} (h : decB u v = false) : decE u v = 5 := if_neg (by rw [h]; decide)
set_option maxRecDepth 100000 in
set_option maxHeartbeats 4000000 in
theorem decode_any (w : World) (hT : TabG w) (hL : LaidV_laid_seisin_cap_layout w) (G c : Nat) (u v : Int) (hu : 0 ≤ u ∧ u ≤ 18446744073709551615) (hv : 0 ≤ v ∧ v ≤ 18446744073709551615) (hc : 2 ≤ c) (h0 : w.cell? ⟨G, 0, none⟩ = some (.int .u64 u)) (h1 : w.cell? ⟨G, 1, none⟩ = some (.int .u64 v)) (hG : G < w.heap.size) :
    Calls Tryd.prog 16 #[.slice (some ⟨G, 0, none⟩) 2 c] w fun r w' => r = .returned (.tuple #[decR u v, .int .i64 (decE u v)]) ∧ Below w.heap.size w w' := by
  have HT := Lib.hid hT
  have HL := Lib.hid hL
  have HU := Lib.hid hu
  have HV := Lib.hid hv
  have H0 := Lib.hid h0
  have H1 := Lib.hid h1
  clear hT hL hu hv h0 h1
  go_enter Tryd.func16, Tryd.ntmps16
  go_wp2_with (first | (refine wpList_load_list (by first | rfl | simp [Region.wanted, yielded]) 54 (.global 0) rfl ⟨0, 0, none⟩ rfl layL (add_cells0 (lay_cells (HL.out.call (bal (bal (Below.refl _ _) _) _)))) _ Tryd.underlying54 rfl (by kernel_rfl) ?_))
  go_loopw [15] (fun i wr => ∃ k : Nat, k ≤ 8 ∧ i = .int .i64 k ∧ wr.heap[w.heap.size]? = some (.cells #[.int .i64 0, .int .i64 0, .int .i64 0, .int .u64 0, .int .i64 0, .int .i64 0, .int .i64 0, .int .i64 0] 24 (0, 0)) ∧ wr.heap[w.heap.size + 1]? = some (.cells (rowD u v k).toArray 53 (0, 0)) ∧ Below w.heap.size w wr) (fun i _ => 8 - (intOf i).toNat)
  case atStart => exact ⟨0, by omega, rfl, alloc2_first _ _ _, alloc2_second _ _ _, bal (bal (Below.refl _ _) _) _⟩
  case round =>
    obtain ⟨k, hk, rfl, hz, hr, hB⟩ := hrel
    have hzs := (Array.getElem?_eq_some_iff.1 hr).1
    by_cases hlt8 : k < 8
    · have hlt' : (k : Int) < 8 := by omega
      have hix := lay_at k hlt8
      obtain ⟨q1, q2⟩ := lay_ok ⟨k, hlt8⟩
      have q3 := lay_in ⟨k, hlt8⟩
      have q4 := lay_small ⟨k, hlt8⟩
      have hst := rowD_step u v k hlt8
      have hdv : dV u v k = Wd.fieldN (if (layP k).1 = 0 then u else v) (layP k).2.1 (layP k).2.2 := rfl
      simp only at q1 q2 q3 q4
      obtain ⟨⟨p1, p2, p3⟩, hp⟩ : ∃ p, layP k = p := ⟨_, rfl⟩
      rw [hp] at hix q1 q2 q3 q4 hdv
      simp only at hix q1 q2 q3 q4 hdv
      have cr : wr.cell? ⟨w.heap.size + 1, k, none⟩ = some ((rowD u v k)[k]'(by rw [rowD_len]; omega)) := by
        rw [cell_of_row _ _ k _ _ _ hr]; simp [rowD_len, hlt8]
      have fr : wr.frozen? ⟨w.heap.size + 1, k, none⟩ = false := by simp [World.frozen?, hr]
      generalize (rowD u v k)[k]'(by rw [rowD_len]; omega) = old at cr
      have e0 := (hB.cell (p := ⟨G, 0, none⟩) hG).trans H0.out
      have e1 := (hB.cell (p := ⟨G, 1, none⟩) hG).trans H1.out
      have HZ := Lib.hid hz
      have HR := Lib.hid hr
      have HS := Lib.hid hst
      have HB := Lib.hid hB
      have HIN := Lib.hid q3
      have HDV := Lib.hid hdv
      have HP := Lib.hid hp
      clear hz hr hst hB q3 hdv hp
      rcases q1 with rfl | rfl
      · simp only [Int.natCast_zero, Int.natCast_one, if_true, Nat.one_ne_zero, if_false] at hix HDV
        go_wp2
        obtain ⟨w1, hw1⟩ : ∃ x, x = wr.alloc (.cells #[.int .i64 0, .int .i64 p2, .int .i64 p3] 48) := ⟨_, rfl⟩
        rw [← hw1]
        have f0 : w1.cell? ⟨wr.heap.size, 0, none⟩ = some (.int .i64 0) := by rw [hw1]; simp
        have f1 : w1.cell? ⟨wr.heap.size, 1, none⟩ = some (.int .i64 p2) := by rw [hw1]; simp
        have f2 : w1.cell? ⟨wr.heap.size, 2, none⟩ = some (.int .i64 p3) := by rw [hw1]; simp
        have hbw : Below wr.heap.size wr w1 := hw1 ▸ bal (Below.refl _ _) _
        have g0 := (hbw.cell (p := ⟨G, 0, none⟩) (by simp; omega)).trans e0
        have g1 := (hbw.cell (p := ⟨G, 1, none⟩) (by simp; omega)).trans e1
        have gr := (hbw.cell (p := ⟨w.heap.size + 1, k, none⟩) (by simp; omega)).trans cr
        have gf : w1.frozen? ⟨w.heap.size + 1, k, none⟩ = false := by rw [hw1]; unfold World.frozen?; rw [Below.heap_alloc _ _ _ (by simp; omega)]; exact fr
        have HBW := Lib.hid hbw
        clear hw1 hbw e0 e1 cr fr hix
        go_region_with (go_at_call 29; refine (Wd.field_yes _ _ _ _ (by omega) (by omega) HIN.out (by first | exact HU.out.1 | exact HV.out.1) (by first | exact HU.out.2 | exact HV.out.2)).mono ?_; rw [← HDV.out]; rintro e W' ⟨rfl, q, rfl⟩)
        all_goals
          go_wp2
          go_roundw
          case rel => exact ⟨k + 1, by omega, by go_num, dec_step hzs HZ.out HR.out HB.out HBW.out HS.out _⟩
          case measure => simp [intOf]; omega
      · simp only [Int.natCast_zero, Int.natCast_one, if_true, Nat.one_ne_zero, if_false] at hix HDV
        go_wp2
        obtain ⟨w1, hw1⟩ : ∃ x, x = wr.alloc (.cells #[.int .i64 1, .int .i64 p2, .int .i64 p3] 48) := ⟨_, rfl⟩
        rw [← hw1]
        have f0 : w1.cell? ⟨wr.heap.size, 0, none⟩ = some (.int .i64 1) := by rw [hw1]; simp
        have f1 : w1.cell? ⟨wr.heap.size, 1, none⟩ = some (.int .i64 p2) := by rw [hw1]; simp
        have f2 : w1.cell? ⟨wr.heap.size, 2, none⟩ = some (.int .i64 p3) := by rw [hw1]; simp
        have hbw : Below wr.heap.size wr w1 := hw1 ▸ bal (Below.refl _ _) _
        have g0 := (hbw.cell (p := ⟨G, 0, none⟩) (by simp; omega)).trans e0
        have g1 := (hbw.cell (p := ⟨G, 1, none⟩) (by simp; omega)).trans e1
        have gr := (hbw.cell (p := ⟨w.heap.size + 1, k, none⟩) (by simp; omega)).trans cr
        have gf : w1.frozen? ⟨w.heap.size + 1, k, none⟩ = false := by rw [hw1]; unfold World.frozen?; rw [Below.heap_alloc _ _ _ (by simp; omega)]; exact fr
        have HBW := Lib.hid hbw
        clear hw1 hbw e0 e1 cr fr hix
        go_region_with (go_at_call 29; refine (Wd.field_yes _ _ _ _ (by omega) (by omega) HIN.out (by first | exact HU.out.1 | exact HV.out.1) (by first | exact HU.out.2 | exact HV.out.2)).mono ?_; rw [← HDV.out]; rintro e W' ⟨rfl, q, rfl⟩)
        all_goals
          go_wp2
          go_roundw
          case rel => exact ⟨k + 1, by omega, by go_num, dec_step hzs HZ.out HR.out HB.out HBW.out HS.out _⟩
          case measure => simp [intOf]; omega
    · obtain rfl : k = 8 := by omega
      rw [rowD_8, dV_0, dV_1, dV_2, dV_3, dV_4, dV_5, dV_6, dV_7] at hr
      have hcl := cells_of_row hr
      have zl := cells_of_row (cs := [.int .i64 0, .int .i64 0, .int .i64 0, .int .u64 0, .int .i64 0, .int .i64 0, .int .i64 0, .int .i64 0]) hz
      have HCL := Lib.hid hcl
      have HB := Lib.hid hB
      have k1 : w.heap.size < wr.heap.size := by omega
      have z0 := zl 0 _ rfl
      have z1 := zl 1 _ rfl
      have z2 := zl 2 _ rfl
      have z3 := zl 3 _ rfl
      have z4 := zl 4 _ rfl
      have z5 := zl 5 _ rfl
      have z6 := zl 6 _ rfl
      have z7 := zl 7 _ rfl
      have y0 : wr.frozen? ⟨w.heap.size, 0, none⟩ = false := by simp [World.frozen?, hz]
      have y1 : wr.frozen? ⟨w.heap.size, 1, none⟩ = false := by simp [World.frozen?, hz]
      have y2 : wr.frozen? ⟨w.heap.size, 2, none⟩ = false := by simp [World.frozen?, hz]
      have y3 : wr.frozen? ⟨w.heap.size, 3, none⟩ = false := by simp [World.frozen?, hz]
      have y4 : wr.frozen? ⟨w.heap.size, 4, none⟩ = false := by simp [World.frozen?, hz]
      have y5 : wr.frozen? ⟨w.heap.size, 5, none⟩ = false := by simp [World.frozen?, hz]
      have y6 : wr.frozen? ⟨w.heap.size, 6, none⟩ = false := by simp [World.frozen?, hz]
      have y7 : wr.frozen? ⟨w.heap.size, 7, none⟩ = false := by simp [World.frozen?, hz]
      have e0 := (hB.cell (p := ⟨G, 0, none⟩) hG).trans H0.out
      have e1 := (hB.cell (p := ⟨G, 1, none⟩) hG).trans H1.out
      clear hcl hr hB zl hz
      cases hx : capB (dA u) (dB u) (dC u) (dD v) (dE v) (dF v) (dG u) (dH u)
      · have hdec : decB u v = false := by unfold decB; rw [hx]; rfl
        have HDE := Lib.hid hdec
        have HX := Lib.hid hx
        clear hx hdec
        go_wp2_with (first
          | (refine wpList_load_list (by first | rfl | simp [Region.wanted, yielded]) 53 _ rfl ⟨w.heap.size + 1, 0, none⟩ rfl _ (add_cells0 HCL.out) _ Tryd.underlying53 rfl (by kernel_rfl) ?_)
          | (go_at_call 30; refine (decoded_any _ (dA u) (dB u) (dC u) (dD v) (dE v) (dF v) (dG u) (dH u) (dA_b u) (dC_b u) (dB_b u) (dH_b u) (dG_b u) (dD_b v) (dE_b v) (dF_b v)).mono ?_; rintro r w1 ⟨rfl, hb1⟩; obtain ⟨hc1, hf1⟩ := bcell hb1; have hz1 := hb1.size; have k2 : w.heap.size < w1.heap.size := (by omega); have k3 : w.heap.size < w1.heap.size + 1 := (by omega))
          | (go_at_call 7; refine (encode_no _ _ _ _ _ _ _ _ _ (HT.out.call (bal (bgo HB.out hb1) _)) (by have := dE_b v; omega) HX.out).mono ?_; rintro r w2 ⟨rfl, hb2⟩; obtain ⟨hc2, hf2⟩ := bcell hb2; have hz2 : w1.heap.size < w2.heap.size := (by have := hb2.size; simp at this; omega); have k4 : w.heap.size < w2.heap.size := (by omega)))
        exact bodyPost_ret (v := .tuple #[capV 0 0 0 0 0 0 0 0, .int .i64 5]) (by simp [results, Tryd.results16, go_sem, hc2, hc1, hf2, hf1, z0, z1, z2, z3, z4, z5, z6, z7, y0, y1, y2, y3, y4, y5, y6, y7, k1, k2, k3, k4]) rfl ⟨(by first | rw [decR_yes HDE.out, decE_yes HDE.out] | rw [decR_no HDE.out, decE_no HDE.out]), bs (bs (bs (bs (bs (bs (bs (bs (bgo (bal (bgo HB.out hb1) _) hb2) _ _) _ _) _ _) _ _) _ _) _ _) _ _) _ _⟩
      · obtain ⟨t, ht⟩ : ∃ t, eqN 2 (fun j => if j = 0 then encA (dA u) (dB u) (dC u) (dG u) (dH u) else encB (dD v) (dE v) (dF v)) (fun j => if j = 0 then u else v) = t := ⟨_, rfl⟩
        have hdec : decB u v = t := by unfold decB; rw [hx, ht]; rfl
        have HDE := Lib.hid hdec
        have HX := Lib.hid hx
        have HQ := Lib.hid ht
        clear hx hdec ht
        cases t
        · go_wp2_with (first
            | (refine wpList_load_list (by first | rfl | simp [Region.wanted, yielded]) 53 _ rfl ⟨w.heap.size + 1, 0, none⟩ rfl _ (add_cells0 HCL.out) _ Tryd.underlying53 rfl (by kernel_rfl) ?_)
            | (go_at_call 30; refine (decoded_any _ (dA u) (dB u) (dC u) (dD v) (dE v) (dF v) (dG u) (dH u) (dA_b u) (dC_b u) (dB_b u) (dH_b u) (dG_b u) (dD_b v) (dE_b v) (dF_b v)).mono ?_; rintro r w1 ⟨rfl, hb1⟩; obtain ⟨hc1, hf1⟩ := bcell hb1; have hz1 := hb1.size; have k2 : w.heap.size < w1.heap.size := (by omega); have k3 : w.heap.size < w1.heap.size + 1 := (by omega))
            | (go_at_call 7; refine (encode_yes _ _ _ _ _ _ _ _ _ (HT.out.call (bal (bgo HB.out hb1) _)) (HL.out.call (bal (bgo HB.out hb1) _)) (dD_b v).1 HX.out).mono ?_; rintro r w2 ⟨G2, rfl, hG2, hr2, hb2⟩; obtain ⟨hc2, hf2⟩ := bcell hb2; have hz2 : w1.heap.size < w2.heap.size := (by have := hb2.size; simp at this; omega); have k4 : w.heap.size < w2.heap.size := (by omega))
            | (go_at_call 31; refine (equal2_any _ G2 G 0 2 2 c (fun j => if j = 0 then encA (dA u) (dB u) (dC u) (dG u) (dH u) else encB (dD v) (dE v) (dF v)) (fun j => if j = 0 then u else v) (by omega) (two_cells hr2) (two_cells' (((bgo (bal hb1 _) hb2).cell (p := ⟨G, 0, none⟩) (by simp; omega)).trans e0) (((bgo (bal hb1 _) hb2).cell (p := ⟨G, 1, none⟩) (by simp; omega)).trans e1))).mono ?_; rw [HQ.out]; rintro r w3 ⟨rfl, q, rfl⟩))
          exact bodyPost_ret (v := .tuple #[capV 0 0 0 0 0 0 0 0, .int .i64 5]) (by simp [results, Tryd.results16, go_sem, hc2, hc1, hf2, hf1, z0, z1, z2, z3, z4, z5, z6, z7, y0, y1, y2, y3, y4, y5, y6, y7, k1, k2, k3, k4]) rfl ⟨(by first | rw [decR_yes HDE.out, decE_yes HDE.out] | rw [decR_no HDE.out, decE_no HDE.out]), bs (bs (bs (bs (bs (bs (bs (bs (below_drewN (bgo (bal (bgo HB.out hb1) _) hb2) _) _ _) _ _) _ _) _ _) _ _) _ _) _ _) _ _⟩
        · go_wp2_with (first
            | (refine wpList_load_list (by first | rfl | simp [Region.wanted, yielded]) 53 _ rfl ⟨w.heap.size + 1, 0, none⟩ rfl _ (add_cells0 HCL.out) _ Tryd.underlying53 rfl (by kernel_rfl) ?_)
            | (go_at_call 30; refine (decoded_any _ (dA u) (dB u) (dC u) (dD v) (dE v) (dF v) (dG u) (dH u) (dA_b u) (dC_b u) (dB_b u) (dH_b u) (dG_b u) (dD_b v) (dE_b v) (dF_b v)).mono ?_; rintro r w1 ⟨rfl, hb1⟩; obtain ⟨hc1, hf1⟩ := bcell hb1; have hz1 := hb1.size; have k2 : w.heap.size < w1.heap.size := (by omega); have k3 : w.heap.size < w1.heap.size + 1 := (by omega))
            | (go_at_call 7; refine (encode_yes _ _ _ _ _ _ _ _ _ (HT.out.call (bal (bgo HB.out hb1) _)) (HL.out.call (bal (bgo HB.out hb1) _)) (dD_b v).1 HX.out).mono ?_; rintro r w2 ⟨G2, rfl, hG2, hr2, hb2⟩; obtain ⟨hc2, hf2⟩ := bcell hb2; have hz2 : w1.heap.size < w2.heap.size := (by have := hb2.size; simp at this; omega); have k4 : w.heap.size < w2.heap.size := (by omega))
            | (go_at_call 31; refine (equal2_any _ G2 G 0 2 2 c (fun j => if j = 0 then encA (dA u) (dB u) (dC u) (dG u) (dH u) else encB (dD v) (dE v) (dF v)) (fun j => if j = 0 then u else v) (by omega) (two_cells hr2) (two_cells' (((bgo (bal hb1 _) hb2).cell (p := ⟨G, 0, none⟩) (by simp; omega)).trans e0) (((bgo (bal hb1 _) hb2).cell (p := ⟨G, 1, none⟩) (by simp; omega)).trans e1))).mono ?_; rw [HQ.out]; rintro r w3 ⟨rfl, q, rfl⟩))
          exact bodyPost_ret (v := .tuple #[capV (dA u) (dB u) (dC u) (dD v) (dE v) (dF v) (dG u) (dH u), .int .i64 0]) (by simp [results, Tryd.results16, go_sem, hc2, hc1, hf2, hf1, z0, z1, z2, z3, z4, z5, z6, z7, y0, y1, y2, y3, y4, y5, y6, y7, k1, k2, k3, k4]) rfl ⟨(by first | rw [decR_yes HDE.out, decE_yes HDE.out] | rw [decR_no HDE.out, decE_no HDE.out]), bs (bs (bs (bs (bs (bs (bs (bs (below_drewN (bgo (bal (bgo HB.out hb1) _) hb2) _) _ _) _ _) _ _) _ _) _ _) _ _) _ _) _ _⟩
end Go.Proofs.YtoepbcaldlgnjaaDoor
