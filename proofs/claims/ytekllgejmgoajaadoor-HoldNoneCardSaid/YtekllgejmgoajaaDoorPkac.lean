import Derived.LoopN
import Derived.Laws.Rows
import Derived.Test.YtekllgejmgoajaaDoorPkab
import Derived.OwnWalk
import Derived.StillTailTactics
import Derived.Deep.RegionWith
import Derived.Outline
import Derived.Laws.Externs
namespace Go.Proofs.YtekllgejmgoajaaDoor
set_option linter.unusedVariables false
set_option linter.unusedSimpArgs false
set_option maxRecDepth 100000
set_option maxHeartbeats 8000000
open Lib (hid)
section
open Go.ChangeShapes Go.WideShapes Go.ChangeAt Go.RowKit
section
variable {P : Program} {ops : Array Oper} {rest : List Oper} {o : Oper} {a : Act} {w : World} {Q : Exit → Act → World → Prop}
theorem wp_load_list {K : Act → World → Prop} (ty : TypeId) (x : Operand) (ho : o.op = .load ty x) (p : Addr) (hx : a.eval x = .pointer (some p)) (cs : List Value) (hc : ∀ j v, cs[j]? = some v → w.cell? (p.add j) = some v)
  (d : TypeDesc) (hu : P.underlying ty = some d) (hd : (match d with | .struct _ | .array _ _ => true | _ => false) = true) (hi : (P.info? ty).map (·.size) = some cs.length)
  (h : K (a.put o.dst (.agg cs.toArray)) w) : o.wp P a w K Q := by
 have hl : (loadCells p cs.length).run P w = .ok cs.toArray w := run_loadCells_list (P := P) w p cs hc
 have hrun : (loadVar ty p).run P w = .ok (.agg cs.toArray) w := by
  cases hq : P.info? ty with
  | none => simp [hq] at hi
  | some i =>
   have hs : i.size = cs.length := by simpa [hq] using hi
   have hagg : (isAgg ty).run P w = .ok true w := by
    unfold isAgg
    rw [Sem.run_bind, run_underlying hu w]
    cases d <;> simp_all
   simp [loadVar, Sem.run_bind, hagg, sizeOf, typeInfo, hq, hs, hl]
 unfold Oper.wp execOp
 simp only [ho, hx, Instr.loadAt, Instr.sureAddr, Sem.run_bind, Sem.run_pure, Result.andThen_ok, hrun]
 exact h
theorem wpList_load_list (hw : Region.wanted o (yielded ops a.tmps) = true) (ty : TypeId) (x : Operand) (ho : o.op = .load ty x) (p : Addr) (hx : a.eval x = .pointer (some p)) (cs : List Value) (hc : ∀ j v, cs[j]? = some v → w.cell? (p.add j) = some v)
  (d : TypeDesc) (hu : P.underlying ty = some d) (hd : (match d with | .struct _ | .array _ _ => true | _ => false) = true) (hi : (P.info? ty).map (·.size) = some cs.length)
  (h : wpList P ops Q rest (a.put o.dst (.agg cs.toArray)) w) : wpList P ops Q (o :: rest) a w :=
 wpList_step fun K hK => by
  rw [hw, if_pos rfl]
  exact wp_load_list ty x ho p hx cs hc d hu hd hi (hK _ _ h)
end
end
section
open Go.ChangeShapes Go.WideShapes Go.ChangeAt Go.RowKit
namespace TabS
def C : Nat := 2
theorem infoR : (Tryd.prog.info? 115).map (fun i => (i.zero, i.size, i.bytes)) = some (some (.agg #[.int .i64 0, .slice none 0 0]), 2, 32) := by kernel_rfl
def cmpI (a b : Int) : Int := if a < b then -1 else if b < a then 1 else 0
theorem cmp_any (w : World) (a b : Int) (r : List Value) : Calls Tryd.prog 78 #[.agg (.int .i64 a :: r).toArray, .int .i64 b] w fun e w' => e = .returned (.int .i64 (cmpI a b)) ∧ Below w.heap.size w w' := by
 unfold cmpI
 rcases Int.lt_trichotomy a b with h | h | h
 ·have h2 : ¬ b < a := by omega
  rw [if_pos h]
  go_enter Tryd.func78, Tryd.ntmps78
  go_wp2_with go_in
  go_ret
  exact ⟨rfl, bal (Below.refl _ _) _⟩
 ·subst h
  rw [if_neg (by omega), if_neg (by omega)]
  go_enter Tryd.func78, Tryd.ntmps78
  go_wp2_with go_in
  go_ret
  exact ⟨by simp, bal (Below.refl _ _) _⟩
 ·have h2 : ¬ a < b := by omega
  rw [if_neg h2, if_pos h]
  go_enter Tryd.func78, Tryd.ntmps78
  go_wp2_with go_in
  go_ret
  exact ⟨rfl, bal (Below.refl _ _) _⟩
def RowsIn (w : World) (g : Nat) (R : List Rw) : Prop := ∀ (i j : Nat) (r : Rw) (v : Value), R[i]? = some r → (rcells r)[j]? = some v → w.cell? ⟨g, i * 2 + j, none⟩ = some v
theorem RowsIn.call {w w' : World} {g : Nat} {R : List Rw} (h : RowsIn w g R) (hg : g < w.heap.size) (hb : Below w.heap.size w w') : RowsIn w' g R := fun i j r v hi hj => (hb.cell (p := ⟨g, _, none⟩) hg).trans (h i j r v hi hj)
theorem RowsIn.load {w : World} {g i : Nat} {R : List Rw} {r : Rw} (h : RowsIn w g R) (hi : R[i]? = some r) (A : Addr) (hA : A = ⟨g, i * 2, none⟩) : ∀ j v, (rcells r)[j]? = some v → w.cell? (A.add j) = some v := by
 intro j v hj
 subst hA
 have : ((⟨g, i * 2, none⟩ : Addr).add j) = ⟨g, i * 2 + j, none⟩ := by unfold Addr.add; split <;> simp_all
 rw [this]
 exact h i j r v hi hj
theorem bsf_any (w : World) (g c : Nat) (R : List Rw) (k : Int) (hg : g < w.heap.size) (hw : Wide 2 R) (hA : Asc R) (hl : R.length ≤ 1000000) (hR : RowsIn w g R) :
  Calls Tryd.prog 77 #[.slice (some ⟨g, 0, none⟩) R.length c, .int .i64 k, .func (.func 78) #[] #[]] w fun e w' => e = .returned (.tuple #[.int .i64 (posR R k : Nat), .bool (hasR R k)]) ∧ Below w.heap.size w w' := by
 have HW := hid hw
 have HA := hid hA
 have HR := hid hR
 generalize hn : R.length = n at *
 have HN := hid hn
 clear hw hA hR hn
 go_enter Tryd.func77, Tryd.ntmps77
 go_wp2
 go_loopw [9, 10, 11] (fun x y z wr => ∃ i j : Nat, i ≤ j ∧ j ≤ n ∧ x = .int .i64 i ∧ y = .int .i64 j ∧ Below w.heap.size w wr ∧ Hid ((∀ t r, t < i → R[t]? = some r → r.1 < k) ∧ (∀ t r, j ≤ t → R[t]? = some r → k ≤ r.1))) (fun x y _ _ => (intOf y).toNat - (intOf x).toNat)
 case atStart => exact ⟨0, n, by omega, by omega, rfl, rfl, Below.refl _ _, hid ⟨fun t r h => by omega, fun t r h hr => by have := (lgs hr).1; have := HN.out; omega⟩⟩
 case round =>
  obtain ⟨i, j, hij, hjn, rfl, rfl, hb, HF⟩ := hrel
  by_cases hlt : i < j
  ·have HNN := HN.out
   obtain ⟨r, hr⟩ : ∃ r, R[(i + j) / 2]? = some r := ⟨R[(i + j) / 2]'(by omega), List.getElem?_eq_getElem _⟩
   have hrc : (rcells r).length = 2 := (HW.out r (List.mem_of_getElem? hr)).1
   have HL := hid ((HR.out.call hg hb).load hr ⟨g, (i + j) / 2 * 2, none⟩ rfl)
   have HRC := hid hrc
   have HRR := hid hr
   have hlt' : (i : Int) < j := by omega
   clear HNN hr hrc
   by_cases hk : r.1 < k
   ·have hcv : cmpI r.1 k = -1 := if_pos hk
    have HCV := hid hcv
    have HK := hid hk
    clear hcv hk
    go_wp2_with (first | (refine wpList_load_list (by first | rfl | simp [Region.wanted, yielded]) 115 _ rfl ⟨g, (i + j) / 2 * 2, none⟩ rfl (rcells r) HL.out _ Tryd.underlying115 rfl (by rw [HRC.out]; kernel_rfl) ?_) | (go_at_call 78; refine (cmp_any _ _ _ _).mono ?_; rw [HCV.out]; rintro e w1 ⟨rfl, hb1⟩))
    go_roundw
    case rel => exact ⟨(i + j) / 2 + 1, j, by omega, by omega, by go_num, by go_num, hb.trans (hb1.mono hb.size), hid ⟨fun t x h hx => by
     rcases Nat.lt_or_ge t ((i + j) / 2) with q | q
     ·exact Int.lt_trans ((HA.out.at q hx HRR.out)) HK.out
     ·obtain rfl : t = (i + j) / 2 := by omega
      rw [HRR.out] at hx
      cases hx
      exact HK.out, HF.out.2⟩⟩
    case measure => first | (simp [intOf]; done) | (simp [intOf]; omega)
   ·obtain ⟨cv, hcv, hc0⟩ : ∃ cv, cmpI r.1 k = cv ∧ ¬ cv < 0 := ⟨_, rfl, by unfold cmpI; rw [if_neg hk]; split <;> omega⟩
    have HCV := hid hcv
    have HK := hid hk
    clear hcv hk
    go_wp2_with (first | (refine wpList_load_list (by first | rfl | simp [Region.wanted, yielded]) 115 _ rfl ⟨g, (i + j) / 2 * 2, none⟩ rfl (rcells r) HL.out _ Tryd.underlying115 rfl (by rw [HRC.out]; kernel_rfl) ?_) | (go_at_call 78; refine (cmp_any _ _ _ _).mono ?_; rw [HCV.out]; rintro e w1 ⟨rfl, hb1⟩))
    go_roundw
    case rel => exact ⟨i, (i + j) / 2, by omega, by omega, by go_num, by go_num, hb.trans (hb1.mono hb.size), hid ⟨HF.out.1, fun t x h hx => by
     have hKK := HK.out
     rcases Nat.lt_or_ge ((i + j) / 2) t with q | q
     ·have := HA.out.at q HRR.out hx
      omega
     ·obtain rfl : t = (i + j) / 2 := by omega
      rw [HRR.out] at hx
      cases hx
      omega⟩⟩
    case measure => first | (simp [intOf]; done) | (simp [intOf]; omega)
  ·obtain rfl : i = j := by omega
   have HNN := HN.out
   obtain ⟨e1, e2, e3⟩ := found_at HA.out (by omega : i ≤ R.length) HF.out.1 HF.out.2
   have E1 := hid e1
   by_cases hin : i < n
   ·obtain ⟨r, hr⟩ : ∃ r, R[i]? = some r := ⟨R[i]'(by omega), List.getElem?_eq_getElem _⟩
    have hrc : (rcells r).length = 2 := (HW.out r (List.mem_of_getElem? hr)).1
    have HL := hid ((HR.out.call hg hb).load hr ⟨g, i * 2, none⟩ rfl)
    have HRC := hid hrc
    obtain ⟨cv, hcv, hc0⟩ : ∃ cv, cmpI r.1 k = cv ∧ (cv = 0 ↔ r.1 = k) := ⟨_, rfl, by unfold cmpI; constructor <;> intro q <;> (try split at q) <;> (try split at q) <;> (try split) <;> (try split) <;> omega⟩
    have HCV := hid hcv
    have hdd : decide (r.1 = k) = decide (cv = 0) := by rw [decide_eq_decide]; exact hc0.symm
    have E2 := hid ((e2 r hr).trans hdd)
    have hin' : (i : Int) < n := by omega
    clear HNN hr hrc e1 e2 e3 hcv hc0 hdd
    go_wp2_with (first | (refine wpList_load_list (by first | rfl | simp [Region.wanted, yielded]) 115 _ rfl ⟨g, i * 2, none⟩ rfl (rcells r) HL.out _ Tryd.underlying115 rfl (by rw [HRC.out]; kernel_rfl) ?_) | (go_at_call 78; refine (cmp_any _ _ _ _).mono ?_; rw [HCV.out]; rintro e w1 ⟨rfl, hb1⟩))
    go_ret2
    rw [E1.out, E2.out]
    exact ⟨by first | rfl | simp, hb.trans (hb1.mono hb.size)⟩
   ·have E2 := hid (e3 (by omega))
    have hin' : ¬ (i : Int) < n := by omega
    clear HNN e1 e2 e3
    go_wp2
    go_ret2
    rw [E1.out, E2.out]
    exact ⟨by first | rfl | simp, hb⟩
def InsPost (w w' : World) (base : Nat) (v v' : Value) (R' : List Rw) : Prop :=
 w'.ownsRow base 115 2 v' R'.length (flat R') ∧ w.grownBy w' v.ownBlock ∧ (v'.ownBlock = v.ownBlock ∨ ∃ g, v'.ownBlock = some g ∧ w.heap.size ≤ g)
theorem mul_bytes {n : Nat} (h : n ≤ 1000001) : n * 32 ≤ 140737488355328 := by omega
theorem ins_end (w : World) (base : Nat) (v : Value) (R : List Rw) (r : Rw) (nb : Nat) (hw : Wide 2 R) (hr : Wide 2 [r]) (hl : R.length ≤ 1000000) (hown : w.ownsRow base 115 2 v R.length (flat R)) (hb : base ≤ w.heap.size)
  (hn : w.heap[nb]? = some (.cells (rcells r).toArray 115 (0, 0))) :
  Calls Tryd.prog 71 #[v, .int .i64 (R.length : Nat), .slice (some ⟨nb, 0, none⟩) 1 1] w fun e w' => ∃ v', e = .returned v' ∧ InsPost w w' base v v' (R ++ [r]) := by
 obtain ⟨i0, hi, hz0, hz1, hz2⟩ := info_parts infoR
 have hlr : (rcells r).length = 1 * 2 := by rw [(hr r (by simp)).1]
 have h1 : ∀ u ∈ rcells r, u.oneCell' = true := (hr r (by simp)).2
 have hcs := add_cells (w := w) (g := nb) (cs := rcells r) (fun j u hj => by rw [cell_cur hn]; exact hj)
 have e1 : flat (R ++ [r]) = flat R ++ rcells r := by rw [flat_append, flat_cons, flat_nil, List.append_nil]
 have e2 : (R ++ [r]).length = R.length + 1 := by simp
 unfold InsPost
 rw [e1, e2]
 have HI := hid hi
 have HO := hid hown
 have HL := hid hlr
 have H1 := hid h1
 have HC := hid hcs
 have hform := hown.2
 generalize flat R = xs at HO hform ⊢
 clear hi hlr h1 hcs hown e1 e2 hw hr hn
 generalize R.length = n at *
 rcases hform with ⟨rfl, rfl⟩ | ⟨g, cap, cur, rfl, q1, q2, q3, q4, q5, q6⟩
 ·go_enter Tryd.func71, Tryd.ntmps71
  go_wp2_with (at_builtin; refine wpList_append_at rfl _ _ 86 rfl base 115 i0 (.agg #[.int .i64 0, .slice none 0 0]) 2 32 Tryd.underlying86 HI.out hz0 hz1 hz2 rfl (by decide) (.slice none 0 0) 0 xs rfl HO.out ⟨nb, 0, none⟩ 1 1 (rcells r) rfl HL.out HC.out H1.out (by unfold maxLen; omega) (mul_bytes (by omega)) hb ?_; intro v' w1 hown' hgrow hat)
  go_ret
  exact ⟨v', rfl, hown', hgrow, hat.imp id (fun h => ⟨_, h, Nat.le_refl _⟩)⟩
 ·clear q2 q5 q6
  go_enter Tryd.func71, Tryd.ntmps71
  go_wp2_with (at_builtin; refine wpList_append_at rfl _ _ 86 rfl base 115 i0 (.agg #[.int .i64 0, .slice none 0 0]) 2 32 Tryd.underlying86 HI.out hz0 hz1 hz2 rfl (by decide) (.slice (some ⟨g, 0, none⟩) n cap) n xs rfl HO.out ⟨nb, 0, none⟩ 1 1 (rcells r) rfl HL.out HC.out H1.out (by unfold maxLen; omega) (mul_bytes (by omega)) hb ?_; intro v' w1 hown' hgrow hat)
  all_goals
   go_ret
   exact ⟨v', rfl, hown', hgrow, hat.imp id (fun h => ⟨_, h, Nat.le_refl _⟩)⟩
end TabS
end
end Go.Proofs.YtekllgejmgoajaaDoor
